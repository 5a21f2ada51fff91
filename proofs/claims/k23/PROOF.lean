import PyProof.Rows.All
import Wide.All
import OpenK.AllK
import Wide.FinOn
import PySem.Challenge.RW_beatless_k23_runs_by_pieces
import Lean
import PyProof.EqAt
import PyProof.EqKinds
import PyProof.TupleCall
import PyProof.ZipIter
import PyProof.WalksMore
import KE.KRevSl
import KE.KIntText
import KE.KRevIter
import PyProof.Draws
import PyProof.EnumFor
import PyProof.EnumStmt
import PyProof.AttrMissHeap
import PyProof.DictUpdate
set_option Elab.async false
set_option linter.all false
set_option maxRecDepth 100000
noncomputable section
namespace L2
open PySem PySem.Spec PyProof.Rows
abbrev Key:=Sum Int Str
noncomputable def v5:Key→Value→Bool
 |.inl k,v=>Value.isInt k v
 |.inr x,v=>Value.isStrOf x v
noncomputable def zw4 (w:World):Key→Int
 |.inl k=>hashInt k
 |.inr x=>hashStr w x
theorem zM:∀ {k:Key}{v:Value},v5 k v=true→(∃ i t,k=Sum.inl i∧v=Value.int i t)∨(∃ x t,k=Sum.inr x∧v=Value.str x t)
 |.inl i,v,h=>by
  obtain⟨t,e⟩:=Value.isInt_shape (k:=i) (v:=v) h
  exact .inl ⟨i,t,rfl,e⟩
 |.inr x,v,h=>by
  obtain⟨t,e⟩:=Value.isStrOf_shape (x:=x) (v:=v) h
  exact .inr ⟨x,t,rfl,e⟩
theorem YW (i:Int) (t:Tok):v5 (.inl i) (.int i t)=true:=by simp[v5,Value.isInt]
theorem YV (x:Str) (t:Tok):v5 (.inr x) (.str x t)=true:=by simp[v5,Value.isStrOf]
theorem zhX (a b:Int):decide ((Sum.inl a:Key)=Sum.inl b)=(a == b):=by
 by_cases e:a=b
 ·subst e;simp
 ·have h:¬ (Sum.inl a:Key)=Sum.inl b:=fun q=>e (Sum.inl.inj q)
  rw[decide_eq_false h]
  exact(beq_eq_false_iff_ne.mpr e).symm
theorem zhU (a b:Str):decide ((Sum.inr a:Key)=Sum.inr b)=decide (a=b):=by
 by_cases e:a=b
 ·subst e;simp
 ·have h:¬ (Sum.inr a:Key)=Sum.inr b:=fun q=>e (Sum.inr.inj q)
  rw[decide_eq_false h,decide_eq_false e]
theorem zhW (a:Int) (b:Str):decide ((Sum.inl a:Key)=Sum.inr b)=false:=decide_eq_false (fun q=>nomatch q)
theorem zhV (a:Str) (b:Int):decide ((Sum.inr a:Key)=Sum.inl b)=false:=decide_eq_false (fun q=>nomatch q)
noncomputable def zx (prog:Program) (w:World):PySem.KeyKind prog w Key where
 is:=v5
 hash:=zw4 w
 inj:=fun v a b ha hb=>by
  rcases zM ha with⟨i,t,rfl,rfl⟩ | ⟨x,t,rfl,rfl⟩
  ·rcases zM hb with⟨j,u,rfl,e⟩ | ⟨y,u,rfl,e⟩
   ·injection e with e1 _;rw[e1]
   ·exact nomatch e
  ·rcases zM hb with⟨j,u,rfl,e⟩ | ⟨y,u,rfl,e⟩
   ·exact nomatch e
   ·injection e with e1 _;rw[e1]
 byValue:=fun k v h=>by
  rcases zM h with⟨i,t,rfl,rfl⟩ | ⟨x,t,rfl,rfl⟩<;>rfl
 pyHash:=fun hv h=>by
  rcases zM hv with⟨i,t,rfl,rfl⟩ | ⟨x,t,rfl,rfl⟩
  ·exact wpAny_pyHash_int h
  ·exact wpAny_pyHash_str h
 eqBool:=fun hu hv h=>by
  rcases zM hu with⟨i,t,rfl,rfl⟩ | ⟨x,t,rfl,rfl⟩
  ·rcases zM hv with⟨j,u,rfl,rfl⟩ | ⟨y,u,rfl,rfl⟩
   ·rw[zhX] at h;exact wpAny_eqBool_int h
   ·rw[zhW] at h;exact SeqAt.EqAt.int_str i t y u _ _ _ _ h
  ·rcases zM hv with⟨j,u,rfl,rfl⟩ | ⟨y,u,rfl,rfl⟩
   ·rw[zhV] at h;exact SeqAt.EqAt.str_int x t j u _ _ _ _ h
   ·rw[zhU] at h;exact wpAny_eqBool_str h
 «strs»:=fun k x t v h=>by
  rcases zM h with⟨i,u,rfl,e⟩ | ⟨y,u,rfl,e⟩
  ·exact nomatch e
  ·injection e with e1 _
   subst e1
   cases v<;>rfl
theorem vY (prog:Program) (w:World) (i:Int) (t:Tok):(zx prog w).is (.inl i) (.int i t)=true:=YW i t
theorem vX (prog:Program) (w:World) (x:Str) (t:Tok):(zx prog w).is (.inr x) (.str x t)=true:=YV x t
end L2
namespace L2
open PySem PySem.Spec PyProof.Rows
inductive V where
 |non | bl (b:Bool) | int (i:Int) | str (x:Str) | byt (b:Array UInt8) | flt (b:UInt64) | ref (a:Addr) | ty (n:String)
 deriving DecidableEq
noncomputable def RelV:V→Value→Prop
 |.non,u=>u=Value.none
 |.bl b,u=>u=Value.bool b
 |.int i,u=>∃ t,u=Value.int i t
 |.str x,u=>∃ t,u=Value.str x t
 |.byt b,u=>∃ t,u=Value.bytes b t
 |.flt b,u=>∃ t,u=Value.float b t
 |.ref a,u=>u=Value.ref a
 |.ty n,u=>u=Value.type n
abbrev Vals:List V→List Value→Prop:=Paired RelV
theorem Vals.length {xs:List V}{us:List Value}(r:Vals xs us):xs.length=us.length:=Paired.length r
theorem Vals.get:∀ {xs:List V}{us:List Value}{i:Nat}{x:V},Vals xs us→xs[i]?=some x→∃ u,us[i]?=some u∧RelV x u
 |_,_,_,_,.nil,e=>by simp at e
 |_,_,0,_,.cons r _,e=>by simp at e;subst e;exact⟨_,rfl,r⟩
 |_,_,i+1,x,.cons _ t,e=>by
  obtain⟨u,h1,h2⟩:=Vals.get (i:=i) (x:=x) t (by simpa using e)
  exact⟨u,by simpa using h1,h2⟩
theorem Vals.set {x:V}{u:Value}(r:RelV x u):∀ {xs:List V}{us:List Value}(i:Nat),Vals xs us→Vals (xs.set i x) (us.set i u)
 |_,_,_,.nil=>.nil
 |_,_,0,.cons _ t=>.cons r t
 |_,_,i+1,.cons q t=>.cons q (Vals.set r i t)
theorem Vals.append:∀ {xs ys:List V}{us ws:List Value},Vals xs us→Vals ys ws→Vals (xs++ys) (us++ws)
 |_,_,_,_,.nil,s=>s
 |_,_,_,_,.cons r t,s=>.cons r (Vals.append t s)
theorem Vals.take:∀ {xs:List V}{us:List Value}(n:Nat),Vals xs us→Vals (xs.take n) (us.take n)
 |_,_,0,_=>.nil
 |_,_,_+1,.nil=>.nil
 |_,_,n+1,.cons r t=>.cons r (Vals.take n t)
theorem Vals.drop:∀ {xs:List V}{us:List Value}(n:Nat),Vals xs us→Vals (xs.drop n) (us.drop n)
 |_,_,0,r=>r
 |_,_,_+1,.nil=>.nil
 |_,_,n+1,.cons _ t=>Vals.drop n t
noncomputable def RelO:Option V→Option Value→Prop
 |some v,some u=>RelV v u
 |none,none=>True
 |_,_=>False
def KV {κ:Type}:List (κ×V)→List (κ×Value)→Prop:=Paired fun(p:κ×V) (q:κ×Value)=>p.1=q.1∧RelV p.2 q.2
noncomputable def kV:Key→V
 |.inl i=>.int i
 |.inr x=>.str x
inductive HO where
 /-- a list -/
 |lst (xs:List V)
 /-- a tuple (never changes) -/
 |tup (xs:List V)
 /-- a dict whose keys are ints and texts;one whose keys are tuples of ints and texts (the empty one is both) -/
 |dK (kvs:List (Key×V)) | dT (kvs:List (List Key×V))
 /-- a set of ints: its members,its size -/
 |set (S:Int→Bool) (n:Nat)
 /-- an instance of the class at C,its dict at dx,its attributes -/
 |ins (C dx:Addr) (fs:List (Str×V))
 /-- the dict of the instance at x -/
 |own (x:Addr)
 /-- the dict of an exception -/
 |xd (fs:List (Str×V))
 /-- a bound method,f of x -/
 |met (f x:Addr)
 /-- a range object lo,lo+1,.. below hi -/
 |rng (lo hi:Int)
 /-- a thing that is known to the object (the script;a dict while a loop walks it): read,never written while it is so -/
 |frz (o:Obj) (u:HO)
 /-- a code object's table -/
 |tbl (ps:Array Value)
 /-- any other thing,by what is true of its one object (a def of one's own: SetO a S n:=HO.ext fun h=>..) -/
 |ext (φ:Heap→Prop)
abbrev Hp:=Addr→Option HO
noncomputable def upd (H:Hp) (a:Addr) (o:HO):Hp:=fun b=>if b=a then some o else H b
theorem zd {H:Hp}{a:Addr}{o:HO}:upd H a o a=some o:=by unfold upd;rw[if_pos rfl]
theorem upd_ne {H:Hp}{a b:Addr}{o:HO}(h:b≠a):upd H a o b=H b:=by unfold upd;rw[if_neg h]
theorem yo {H:Hp}{a:Addr}{o u:HO}:upd (upd H a o) a u=upd H a u:=by
 funext b;unfold upd;split<;>rfl
theorem ne_of {H:Hp}{a b:Addr}{o u:HO}(h:H a=some o) (h':H b=some u) (d:o≠u):a≠b:=by
 intro e;subst e;rw[h] at h';exact d (Option.some.inj h')
theorem ne_of_none {H:Hp}{a b:Addr}{o:HO}(h:H a=some o) (h':H b=none):a≠b:=by
 intro e;subst e;rw[h] at h';cases h'
section
variable (P:Program) (w:World)
noncomputable def ObjOk (H:Hp) (h:Heap) (a:Addr):HO→Prop
 |.lst xs=>xs.length≤sizeLine∧∃ (its:List Value) (n:Nat),Vals xs its∧h.get? a=some { cls:=.type "list",data:=.seq its.toArray n }
 |.tup xs=>xs.length≤sizeLine∧∃ its:List Value,Vals xs its∧IsTup h a its.toArray
 |.dK kvs=>kvs.length≤sizeLine∧(a == sysModules)=false∧∃ vs,KV kvs vs∧h.DictOf (zx P w) a vs
 |.dT kvs=>kvs.length≤sizeLine∧(a == sysModules)=false∧∃ xs:List (List Key×Addr×Value),
   Paired (fun(p:List Key×V) (q:List Key×Addr×Value)=>p.1=q.1∧H q.2.1=some (.tup (p.1.map kV))∧RelV p.2 q.2.2) kvs xs ∧
   ∃ o es ep,h.get? a=some o∧o.ExactDict∧o.data=.dict es ep∧es.toList=xs.map (entryOfKey (tupleKind (zx P w)))∧(xs.map (·.1)).Nodup
 |.set S n=>h.SetOf (intKind P w) a S n
 |.ins C dx fs=>H dx=some (.own a)∧fs.length≤1000∧dx≠a∧h.get? a=some (PySem.W.instObj C dx) ∧
   ∃ mA,h.Ns1 dx mA∧(∀ f,RelO (fs.lookup f) (mA f))∧PySem.Within mA (fs.map (·.1))
 |.own _=>∃ o,h.get? a=some o
 |.xd fs=>∃ mA,h.Ns1 a mA∧∀ f,RelO (fs.lookup f) (mA f)
 |.rng lo hi=>∃ t u v,h.get? a=some { cls:=.type "range",data:=.fields #[.int lo t,.int hi u,.int 1 v] }
 |.frz o u=>h.get? a=some o∧ObjOk H h a u
 |.tbl ps=>h.get? a=some { cls:=.none,data:=.fields ps }
 |.met f x=>h.get? a=some (PySem.W.methodObj (.ref f) (.ref x))
 |.ext φ=>φ h∧(∃ o,h.get? a=some o)∧∀ h1 h2:Heap,φ h1→(∀ o,h1.get? a=some o→h2.get? a=some o)→φ h2
def HOk (H:Hp) (h:Heap):Prop:=∀ a o,H a=some o→ObjOk P w H h a o
end
section
variable {P:Program}{w:World}{H H':Hp}{h h':Heap}{a:Addr}{o:HO}
theorem ObjOk.lt (x:ObjOk P w H h a o):a<h.objs.size:=by
 cases o with
 |lst xs=>obtain⟨_,_,_,_,e⟩:=x;exact Heap.lt_size e
 |tup xs=>obtain⟨_,_,_,p⟩:=x;exact p.lt
 |dK kvs=>obtain⟨_,_,_,_,o,_,_,e,_⟩:=x;exact Heap.lt_size e
 |dT kvs=>obtain⟨_,_,_,_,o,_,_,e,_⟩:=x;exact Heap.lt_size e
 |set S n=>obtain⟨o,_,_,_,e,_⟩:=x;exact Heap.lt_size e
 |ins C dx fs=>obtain⟨_,_,_,e,_⟩:=x;exact Heap.lt_size e
 |own y=>obtain⟨_,e⟩:=x;exact Heap.lt_size e
 |xd fs=>obtain⟨_,⟨_,_,_,e,_⟩,_⟩:=x;exact Heap.lt_size e
 |rng lo hi=>obtain⟨_,_,_,e⟩:=x;exact Heap.lt_size e
 |frz ob u=>obtain⟨e,_⟩:=x;exact Heap.lt_size e
 |tbl ps=>exact Heap.lt_size (show h.get? a=some _ from x)
 |met f y=>exact Heap.lt_size (show h.get? a=some _ from x)
 |ext φ=>obtain⟨_,⟨_,e⟩,_⟩:=x;exact Heap.lt_size e
theorem Paired.mapP {α β:Type}{F G:α→β→Prop}:∀ {l₁:List α}{l₂:List β},Paired F l₁ l₂→(∀ a b,F a b→G a b)→Paired G l₁ l₂
 |_,_,.nil,_=>.nil
 |_,_,.cons r t,f=>.cons (f _ _ r) (Paired.mapP t f)
theorem ObjOk.stay (x:ObjOk P w H h a o) (k:∀ b u,(b=a∨H b=some (.own a))→h.get? b=some u→h'.get? b=some u)
  (ho:∀ b,H b=some (.own a)→H' b=some (.own a)) (ht:∀ b xs,H b=some (.tup xs)→H' b=some (.tup xs)):ObjOk P w H' h' a o:=by
 induction o with
 |lst xs=>obtain⟨z,its,n,r,e⟩:=x;exact⟨z,its,n,r,k _ _ (.inl rfl) e⟩
 |tup xs=>obtain⟨z,its,r,ob,e,c⟩:=x;exact⟨z,its,r,ob,k _ _ (.inl rfl) e,c⟩
 |dK kvs=>obtain⟨z,y,vs,r,ob,es,ep,e,c⟩:=x;exact⟨z,y,vs,r,ob,es,ep,k _ _ (.inl rfl) e,c⟩
 |dT kvs =>
  obtain⟨z,y,xs,r,ob,es,ep,e,c⟩:=x
  exact⟨z,y,xs,Paired.mapP r fun p q z=>⟨z.1,ht _ _ z.2.1,z.2.2⟩,ob,es,ep,k _ _ (.inl rfl) e,c⟩
 |set S n=>obtain⟨ob,es,ep,t,e,c⟩:=x;exact⟨ob,es,ep,t,k _ _ (.inl rfl) e,c⟩
 |ins C dx fs =>
  obtain⟨d,z,ne,e,mA,⟨od,es,ep,e2,c⟩,r⟩:=x
  exact⟨ho _ d,z,ne,k _ _ (.inl rfl) e,mA,⟨od,es,ep,k _ _ (.inr d) e2,c⟩,r⟩
 |own y=>obtain⟨ob,e⟩:=x;exact⟨ob,k _ _ (.inl rfl) e⟩
 |xd fs=>obtain⟨mA,⟨od,es,ep,e,c⟩,r⟩:=x;exact⟨mA,⟨od,es,ep,k _ _ (.inl rfl) e,c⟩,r⟩
 |rng lo hi=>obtain⟨t,u,v,e⟩:=x;exact⟨t,u,v,k _ _ (.inl rfl) e⟩
 |frz ob u ih=>obtain⟨e,q⟩:=x;exact⟨k _ _ (.inl rfl) e,ih q⟩
 |tbl ps =>
  have e:h.get? a=some { cls:=.none,data:=.fields ps }:=x
  show h'.get? a=some { cls:=.none,data:=.fields ps }
  exact k a _ (.inl rfl) e
 |met f y =>
  have e:h.get? a=some (PySem.W.methodObj (.ref f) (.ref y)):=x
  show h'.get? a=some (PySem.W.methodObj (.ref f) (.ref y))
  exact k a _ (.inl rfl) e
 |ext φ=>obtain⟨p,⟨o,e⟩,st⟩:=x;exact⟨st _ _ p fun o q=>k _ _ (.inl rfl) q,⟨o,k _ _ (.inl rfl) e⟩,st⟩
theorem HOk.lt (x:HOk P w H h) (e:H a=some o):a<h.objs.size:=(x a o e).lt
theorem HOk.fresh (x:HOk P w H h) (e:h.objs.size≤a):H a=none:=by
 cases q:H a with
 |none=>rfl
 |some u=>exact absurd (Nat.lt_of_lt_of_le (x.lt q) e) (Nat.lt_irrefl _)
theorem HOk.kept (x:HOk P w H h) (k:∀ b u,h.get? b=some u→h'.get? b=some u):HOk P w H h':=fun a o e =>
 (x a o e).stay (fun b u _ q=>k b u q) (fun _ q=>q) fun _ _ q=>q
theorem HOk.laid (x:HOk P w H h) (k:∀ b u,h.get? b=some u→h'.get? b=some u) (hp:h.objs.size≤a) (new:ObjOk P w (upd H a o) h' a o):HOk P w (upd H a o) h':=fun b u e=>by
 have hn:=x.fresh hp
 by_cases hb:b=a
 ·subst hb;rw[zd] at e;cases e;exact new
 ·rw[upd_ne hb] at e
  exact(x b u e).stay (fun c v _ q=>k c v q) (fun c q=>by rw[upd_ne (ne_of_none q hn)];exact q) fun c xs q=>by rw[upd_ne (ne_of_none q hn)];exact q
end
def Rd (H:Hp) (a:Addr) (u:HO):Prop:=H a=some u∨∃ o,H a=some (.frz o u)
theorem Rd.ok {P:Program}{w:World}{H:Hp}{h:Heap}{a:Addr}{u:HO}(r:Rd H a u) (x:HOk P w H h):ObjOk P w H h a u:=by
 rcases r with r | ⟨o,r⟩
 ·exact x a u r
 ·obtain⟨_,q⟩:=x a _ r
  exact q
noncomputable def Mut:Option HO→Prop
 |some (.lst _)=>True
 |some (.dK _)=>True
 |some (.dT _)=>True
 |some (.set _ _)=>True
 |some (.ins _ _ _)=>True
 |some (.ext _)=>True
 |_=>False
section
variable {P:Program}{w:World}{H:Hp}{h h':Heap}{x e:Addr}{o':HO}
theorem HOk.write (ok:HOk P w H h) (mu:Mut (H x)) (he:e=x∨H e=some (.own x)) (k:∀ b u,b≠e→h.get? b=some u→h'.get? b=some u) (heo:∃ u,h'.get? e=some u)
  (new:ObjOk P w (upd H x o') h' x o'):HOk P w (upd H x o') h':=fun b u q=>by
 have nown:∀ c y,H c=some (.own y)→c≠x:=fun c y r z=>by subst z;rw[r] at mu;exact mu
 have ntup:∀ c xs,H c=some (.tup xs)→c≠x:=fun c xs r z=>by subst z;rw[r] at mu;exact mu
 by_cases hb:b=x
 ·subst hb;rw[zd] at q;cases q;exact new
 ·rw[upd_ne hb] at q
  by_cases hbe:b=e
  ·have q':H b=some (.own x):=by
    rcases he with z | z
    ·exact absurd (hbe.trans z) hb
    ·rw[hbe];exact z
   rw[q] at q';cases q'
   obtain⟨v,hv⟩:=heo
   exact⟨v,by rw[hbe];exact hv⟩
  ·refine(ok b u q).stay (fun c v hc r=>k c v ?_ r) (fun c r=>by rw[upd_ne (nown c b r)];exact r) fun c xs r=>by rw[upd_ne (ntup c xs r)];exact r
   rcases hc with rfl | hc
   ·exact hbe
   ·rintro rfl
    rcases he with z | z
    ·exact nown c b hc z
    ·rw[hc] at z;cases z;exact hb rfl
end
structure Un (fs ex:List Addr) (H H':Hp) (h h':Heap):Prop where
 keep:∀ b o,h.get? b=some o→H b=none→b∉fs→b∉ex→h'.get? b=some o
 slot:∀ b o,h.get? b=some o→H b=none→b∈fs→b∉ex→∃ sl,h'.get? b=some { o with slots:=sl }
 free:∀ b o,h.get? b=some o→H b=none→b∉ex→H' b=none
 there:∀ b o,h.get? b=some o→b∉ex→∃ o',h'.get? b=some o'
 tups:∀ b xs,H b=some (.tup xs)→H' b=some (.tup xs)
 frzs:∀ b o u,H b=some (.frz o u)→H' b=some (.frz o u)
 tbls:∀ b ps,H b=some (.tbl ps)→∃ more,H' b=some (.tbl (ps++more))
section
variable {fs fs' ex ex':List Addr}{H H1 H2:Hp}{h h1 h2 h':Heap}{a x e:Addr}{o:HO}
theorem Un.any (u:Un fs ex H H1 h h1){b:Addr}{ob:Obj}(q:h.get? b=some ob) (n:H b=none) (hx:b∉ex):∃ sl,h1.get? b=some { ob with slots:=sl }:=by
 by_cases hb:b∈fs
 ·exact u.slot b ob q n hb hx
 ·exact⟨ob.slots,u.keep b ob q n hb hx⟩
theorem Un.kept (k:∀ b u,h.get? b=some u→h'.get? b=some u):Un fs ex H H h h' :=
 ⟨fun b ob q _ _ _=>k b ob q,fun b ob q _ _ _=>⟨ob.slots,k b ob q⟩,fun _ _ _ n _=>n,fun b ob q _=>⟨ob,k b ob q⟩,fun _ _ q=>q,fun _ _ _ q=>q,fun _ ps q=>⟨#[],by rw[q];simp⟩⟩
theorem Un.refl:Un fs ex H H h h:=Un.kept fun _ _ q=>q
theorem Un.laid (k:∀ b u,h.get? b=some u→h'.get? b=some u) (hp:h.objs.size≤a) (hn:H a=none):Un fs ex H (upd H a o) h h' where
 keep:=fun b u q _ _ _=>k b u q
 slot:=fun b u q _ _ _=>⟨u.slots,k b u q⟩
 free:=fun b u q n _=>by rw[upd_ne (Nat.ne_of_lt (Nat.lt_of_lt_of_le (Heap.lt_size q) hp))];exact n
 there:=fun b u q _=>⟨u,k b u q⟩
 tups:=fun b xs q=>by rw[upd_ne (ne_of_none q hn)];exact q
 frzs:=fun b u xs q=>by rw[upd_ne (ne_of_none q hn)];exact q
 tbls:=fun b ps q=>⟨#[],by rw[upd_ne (ne_of_none q hn),q];simp⟩
theorem Un.write (mu:Mut (H x)) (he:e=x∨H e=some (.own x)) (k:∀ b u,b≠e→h.get? b=some u→h'.get? b=some u) (heo:∃ u,h'.get? e=some u):Un fs ex H (upd H x o) h h':=by
 have hx:∀ b,H b=none→b≠x:=fun b n z=>by subst z;rw[n] at mu;exact mu
 have hb:∀ b,H b=none→b≠e:=fun b n z=>by
  subst z
  rcases he with r | r
  ·exact hx b n r
  ·rw[n] at r;cases r
 have hm:∀ b u,H b=some u→¬ Mut (some u)→b≠x:=fun b u q nm z=>by subst z;rw[q] at mu;exact nm mu
 refine⟨fun b u q n _ _=>k b u (hb b n) q,fun b u q n _ _=>⟨u.slots,k b u (hb b n) q⟩,fun b u q n _=>by rw[upd_ne (hx b n)];exact n,fun b u q _=>?_,
  fun b xs q=>by rw[upd_ne (hm b _ q fun z=>z)];exact q,fun b u xs q=>by rw[upd_ne (hm b _ q fun z=>z)];exact q,fun b ps q=>⟨#[],by rw[upd_ne (hm b _ q fun z=>z),q];simp⟩⟩
 by_cases hbe:b=e
 ·subst hbe;exact heo
 ·exact⟨u,k b u hbe q⟩
end
noncomputable def trk (h:Heap) (H:Hp):List Addr:=(List.range h.objs.size).filter fun a=>(H a).isSome
noncomputable def Wt (h:Heap) (H:Hp):Heap:=PySem.W.hideAll h (trk h H)
theorem Y2 (h:Heap) (H:Hp):(Wt h H).objs.size=h.objs.size:=PySem.W.hideAll_size _ _
theorem Ws {h:Heap}{H:Hp}{b:Addr}{o:Obj}(e:h.get? b=some o) (n:H b=none):(Wt h H).get? b=some o :=
 PySem.W.hideAll_get _ e fun hm=>by
  have q:(H b).isSome=true:=(List.mem_filter.mp hm).2
  rw[n] at q;simp at q
theorem VQ {h:Heap}{H:Hp}{b:Addr}{o:Obj}(e:(Wt h H).get? b=some o):h.get? b=some o∧H b=none:=by
 have e':h.get? b=some o:=PySem.W.of_hideAll (trk h H) e
 refine⟨e',?_⟩
 cases q:H b with
 |none=>rfl
 |some x =>
  have hm:b∈trk h H:=List.mem_filter.mpr ⟨List.mem_range.mpr (Heap.lt_size e'),by simp[q]⟩
  have z:(Wt h H).get? b=none:=PySem.W.hideAll_none (trk h H) hm
  rw[z] at e;cases e
end L2
namespace L2
open PySem PySem.Spec PyProof.Rows
structure Mod (K:PySem.W.Frag) (mg:Str→Option Value) (base:Heap):Prop where
 kin:K.In base
 glob:base.Ns mainGlobals mg
 blt:∃ mb,base.Ns builtinsNs mb∧∀ x:Str,x ≠ "__name__" → mb x=bootBuiltins x
 nolimit:base.NoLimit
structure Cx where
 prog:Program
 w:World
 K:PySem.W.Frag
 mg:Str→Option Value
 base:Heap
 A:Around
 N:List Str
 s₀:Shared
 H₀:Hp
 env:Env
 outer:List Env
 stack:List Env
 ex:List Addr
 fn:Str→Bool
 calm:Bool
 pn:List (Addr×Obj)
 xe:Value→Shared→Prop
noncomputable def frs (l:List Env):List Addr:=l.filterMap (·.frame)
abbrev Cx.fs (X:Cx):List Addr:=frs X.outer
def Vis (sc:Scope) (x:Str):Prop:=sc.names.lookup x=some .local∨sc.names.lookup x=some .cell∨sc.names.lookup x=some .free
def Loc (sc:Scope) (x:Str):Prop:=sc.names.lookup x=some .local∨sc.names.lookup x=some .cell
noncomputable def zw8 (env:Env) (h:Heap) (m:Str→Option Value) (x:Str) (u:Value):Prop :=
 (env.kindOf x=some .local∧m x=some u)∨((env.kindOf x=some .cell∨env.kindOf x=some .free)∧∃ c,env.cells.lookup x=some c∧h.IsCell c (some u))
structure Cx.Ok (X:Cx):Prop where
 mod:Mod X.K X.mg X.base
 kind:X.env.scope.kind=.function
 glob:X.env.globals=mainGlobals
 blt:X.env.builtins=builtinsNs
 above:X.s₀.heap.objs.size≤X.env.locals
 inj:∀ x y c,X.env.cells.lookup x=some c→X.env.cells.lookup y=some c→x=y
 has:∀ x,(X.env.kindOf x=some .cell∨X.env.kindOf x=some .free)→∃ c,X.env.cells.lookup x=some c
 cab:∀ x c,X.fn x=true→X.env.cells.lookup x=some c→X.s₀.heap.objs.size≤c
 hd:X.calm=true→X.A.handled=none
 frames:X.A.frames=some X.stack
 stk:X.stack=X.outer∨(X.stack=X.env::X.outer∧X.env.frame=some X.env.locals)
 exf:∀ b∈X.ex,b≠X.env.locals∧∀ x c,X.env.cells.lookup x=some c→c≠b
 bs:∀ b o,X.base.get? b=some o→X.s₀.heap.get? b=some o∧X.H₀ b=none
 bsz:X.base.objs.size≤X.s₀.heap.objs.size
 noex:∀ b o,X.base.get? b=some o→b∉X.ex
 exfs:∀ b∈X.ex,b∉X.fs
 funs:X.s₀.heap.FunFrames X.base X.outer
 frf:∀ b∈X.fs,X.H₀ b=none
structure Inv (X:Cx) (pins:List (Addr×Obj)) (σ:List (Option V)) (H:Hp) (s:Shared):Prop where
 ok:X.Ok
 os:s.os=X.s₀.os
 bare:AllBare s.gens
 base:Un X.fs X.ex X.H₀ H X.s₀.heap s.heap
 loc:∃ m,s.heap.Ns X.env.locals m∧∀ (i:Nat) (x:Str) (v:V),X.N[i]?=some x→σ[i]?=some (some v)→Vis X.env.scope x→∃ u,RelV v u∧zw8 X.env s.heap m x u
 cell:∀ x c,X.env.cells.lookup x=some c→∃ v,s.heap.IsCell c v
 free:H X.env.locals=none
 freeC:∀ x c,X.env.cells.lookup x=some c→H c=none
 pin:∀ p∈X.pn++pins,s.heap.get? p.1=some p.2∧H p.1=none∧p.1≠X.env.locals∧p.1∉X.fs∧∀ v,p.2.data≠.cell v
 hok:HOk X.prog X.w H s.heap
 len:σ.length=X.N.length
section
variable {X:Cx}{pins:List (Addr×Obj)}{σ:List (Option V)}{H H':Hp}{s:Shared}{h':Heap}
theorem Cx.Ok.nofr (ok:X.Ok){b:Addr}{o:Obj}(e:X.base.get? b=some o):b∉X.fs:=fun hb=>by
 have:=(ok.funs.mem hb).1
 rw[e] at this;cases this
theorem Inv.bs (I:Inv X pins σ H s):∀ b o,X.base.get? b=some o→s.heap.get? b=some o∧H b=none:=fun b o e =>
 ⟨I.base.keep b o (I.ok.bs b o e).1 (I.ok.bs b o e).2 (I.ok.nofr e) (I.ok.noex b o e),I.base.free b o (I.ok.bs b o e).1 (I.ok.bs b o e).2 (I.ok.noex b o e)⟩
theorem Inv.bk (I:Inv X pins σ H s):∀ b o,X.base.get? b=some o→s.heap.get? b=some o:=fun b o e=>(I.bs b o e).1
theorem Inv.mod (I:Inv X pins σ H s):Mod X.K X.mg X.base:=I.ok.mod
theorem Inv.kIn (I:Inv X pins σ H s):X.K.In s.heap:=I.ok.mod.kin.keeps I.bk
theorem Inv.lt (I:Inv X pins σ H s):X.env.locals<s.heap.objs.size:=let ⟨_,hn,_⟩:=I.loc;hn.lt
theorem Inv.sz (I:Inv X pins σ H s):X.s₀.heap.objs.size≤s.heap.objs.size:=Nat.le_trans I.ok.above (Nat.le_of_lt I.lt)
theorem Inv.nofs (I:Inv X pins σ H s){a:Addr}(h:s.heap.objs.size≤a):a∉X.fs:=fun hb=>by
 obtain⟨_,o,ho,_⟩:=I.ok.funs.mem hb
 exact absurd (Nat.lt_of_lt_of_le (Heap.lt_size ho) (Nat.le_trans I.sz h)) (Nat.lt_irrefl _)
theorem Inv.cne (I:Inv X pins σ H s):∀ x c,X.env.cells.lookup x=some c→c≠X.env.locals:=fun x c e z=>by
 obtain⟨v,o,ho,hd⟩:=I.cell x c e
 obtain⟨m,⟨o',es,ep,ho',hd',_⟩,_⟩:=I.loc
 rw[z,ho'] at ho;cases ho;rw[hd'] at hd;cases hd
theorem Inv.funs (I:Inv X pins σ H s):s.heap.FunFrames X.base X.outer:=by
 have all:∀ (l:List Env),(∀ b∈frs l,b∈X.fs)→X.s₀.heap.FunFrames X.base l→s.heap.FunFrames X.base l:=by
  intro l
  induction l with
  |nil=>intro _ _;trivial
  |cons env r ih =>
   intro hs hl
   obtain⟨hk,⟨L,o,hf,hn,ho,hd⟩,hr⟩:=hl
   have hL:L∈X.fs:=hs L (by unfold frs;rw[List.filterMap_cons,hf];exact List.mem_cons_self)
   obtain⟨sl,e⟩:=I.base.slot L o ho (I.ok.frf L hL) hL fun z=>I.ok.exfs L z hL
   exact⟨hk,⟨L,_,hf,hn,e,hd⟩,ih (fun b hb=>hs b (by unfold frs;rw[List.filterMap_cons,hf];exact List.mem_cons_of_mem _ hb)) hr⟩
 exact all X.outer (fun _ hb=>hb) I.ok.funs
theorem Inv.stack (I:Inv X pins σ H s):s.heap.FunFrames X.base X.stack:=by
 rcases I.ok.stk with e | ⟨e,hf⟩
 ·rw[e];exact I.funs
 ·rw[e]
  obtain⟨m,hn,_⟩:=I.loc
  refine .cons (by rw[I.ok.kind];decide) hf hn ?_ I.funs
  exact Heap.get?_none_of_le (Nat.le_trans I.ok.bsz I.ok.above)
theorem Inv.stkSub (I:Inv X pins σ H s):∀ b∈frs X.stack,b∈X.env.locals::X.fs:=fun b hb=>by
 rcases I.ok.stk with e | ⟨e,hf⟩
 ·rw[e] at hb;exact List.mem_cons_of_mem _ hb
 ·rw[e] at hb
  unfold frs at hb
  rw[List.filterMap_cons,hf] at hb
  exact hb
theorem Inv.stkFree (I:Inv X pins σ H s):∀ b∈frs X.stack,H b=none:=fun b hb=>by
 rcases List.mem_cons.mp (I.stkSub b hb) with e | hb
 ·rw[e];exact I.free
 ·obtain⟨_,o,ho,_⟩:=I.ok.funs.mem hb
  exact I.base.free b o ho (I.ok.frf b hb) fun z=>I.ok.exfs b z hb
theorem Inv.step {g':Array GenState}{t':Nat}{d':Drawn}{ch:List Addr}(I:Inv X pins σ H s)
  (hch:∀ b∈ch,(b∈X.ex∨X.s₀.heap.objs.size≤b)∧b≠X.env.locals∧(∀ x c,X.env.cells.lookup x=some c→c≠b)∧∀ p∈X.pn++pins,p.1≠b)
  (keep:∀ b o,b≠X.env.locals→b∉X.fs→b∉ch→s.heap.get? b=some o→H b=none→h'.get? b=some o)
  (slot:∀ b o,b≠X.env.locals→b∈X.fs→b∉ch→s.heap.get? b=some o→H b=none→∃ sl,h'.get? b=some { o with slots:=sl }) (free:∀ b o,b∉ch→s.heap.get? b=some o→H b=none→H' b=none)
  (there:∀ b o,b∉ch→s.heap.get? b=some o→∃ o',h'.get? b=some o')
  (tups:∀ b xs,H b=some (.tup xs)→H' b=some (.tup xs)) (frzs:∀ b o u,H b=some (.frz o u)→H' b=some (.frz o u)) (tbls:∀ b ps,H b=some (.tbl ps)→∃ more,H' b=some (.tbl (ps++more)))
  (ns:∀ m,s.heap.Ns X.env.locals m→h'.Ns X.env.locals m) (hok:HOk X.prog X.w H' h') (hg:AllBare g') :
  Inv X pins σ H' { s with heap:=h',gens:=g',drawn:=d',toks:=t' }:=by
 have neL:∀ b o,X.s₀.heap.get? b=some o→b≠X.env.locals:=fun b o e=>Nat.ne_of_lt (Nat.lt_of_lt_of_le (Heap.lt_size e) I.ok.above)
 have neC:∀ b o,X.s₀.heap.get? b=some o→b∉X.ex→b∉ch:=fun b o e hx hb=>by
  rcases(hch b hb).1 with z | z
  ·exact hx z
  ·exact absurd (Nat.lt_of_lt_of_le (Heap.lt_size e) z) (Nat.lt_irrefl _)
 have cellK:∀ x c,X.env.cells.lookup x=some c→∀ v,s.heap.IsCell c v→h'.IsCell c v:=fun x c e v ⟨o,ho,hd⟩=>by
  have nch:c∉ch:=fun z=>(hch c z).2.2.1 x c e rfl
  by_cases hc:c∈X.fs
  ·obtain⟨sl,q⟩:=slot c o (I.cne x c e) hc nch ho (I.freeC x c e)
   exact⟨_,q,hd⟩
  ·exact⟨o,keep c o (I.cne x c e) hc nch ho (I.freeC x c e),hd⟩
 refine⟨I.ok,I.os,hg,⟨fun b o e n hb hx=>?_,fun b o e n hb hx=>?_,fun b o e n hx=>?_,fun b o e hx=>?_,fun b xs e=>tups b xs (I.base.tups b xs e),fun b o xs e=>frzs b o xs (I.base.frzs b o xs e),fun b ps e=>?_⟩,?_,fun x c e=>?_,?_,fun x c e=>?_,fun p hp=>?_,hok,I.len⟩
 ·exact keep b o (neL b o e) hb (neC b o e hx) (I.base.keep b o e n hb hx) (I.base.free b o e n hx)
 ·obtain⟨sl,e1⟩:=I.base.slot b o e n hb hx
  obtain⟨sl',e2⟩:=slot b _ (neL b o e) hb (neC b o e hx) e1 (I.base.free b o e n hx)
  exact⟨sl',e2⟩
 ·obtain⟨o',e1⟩:=I.base.there b o e hx
  exact free b o' (neC b o e hx) e1 (I.base.free b o e n hx)
 ·obtain⟨o',e1⟩:=I.base.there b o e hx
  exact there b o' (neC b o e hx) e1
 ·obtain⟨m1,e1⟩:=I.base.tbls b ps e
  obtain⟨m2,e2⟩:=tbls b _ e1
  exact⟨m1++m2,by rw[e2,Array.append_assoc]⟩
 ·obtain⟨m,hn,hl⟩:=I.loc
  refine⟨m,ns m hn,fun i x v e1 e2 e3=>?_⟩
  obtain⟨u,r,l⟩:=hl i x v e1 e2 e3
  refine⟨u,r,?_⟩
  rcases l with l | ⟨k,c,e,z⟩
  ·exact .inl l
  ·exact .inr ⟨k,c,e,cellK x c e _ z⟩
 ·obtain⟨v,z⟩:=I.cell x c e
  exact⟨v,cellK x c e v z⟩
 ·obtain⟨m,⟨o,_,_,ho,_⟩,_⟩:=I.loc
  exact free _ o (fun z=>(hch _ z).2.1 rfl) ho I.free
 ·obtain⟨v,o,ho,hd⟩:=I.cell x c e
  exact free c o (fun z=>(hch c z).2.2.1 x c e rfl) ho (I.freeC x c e)
 ·obtain⟨e,n,ne,nf,d⟩:=I.pin p hp
  have nch:p.1∉ch:=fun z=>(hch p.1 z).2.2.2 p hp rfl
  exact⟨keep p.1 p.2 ne nf nch e n,free p.1 p.2 nch e n,ne,nf,d⟩
theorem Inv.un {t':Nat}(I:Inv X pins σ H s) (u:Un X.fs [] H H' s.heap h') (hok:HOk X.prog X.w H' h'):Inv X pins σ H' { s with heap:=h',toks:=t' }:=by
 obtain⟨m,⟨o,es,ep,ho,r⟩,_⟩:=id I.loc
 obtain⟨sl,hL⟩:=u.any ho I.free (by simp)
 exact I.step (g':=s.gens) (d':=s.drawn) (ch:=[]) (fun _ z=>nomatch z) (fun b o _ hb _ e n=>u.keep b o e n hb (by simp)) (fun b o _ hb _ e n=>u.slot b o e n hb (by simp)) (fun b o _ e n=>u.free b o e n (by simp)) (fun b o _ e=>u.there b o e (by simp)) u.tups u.frzs u.tbls (fun m' hm=>by
  obtain⟨o',es',ep',ho',r'⟩:=hm
  rw[ho] at ho';cases ho'
  exact⟨_,es',ep',hL,r'⟩) hok I.bare
theorem Inv.call {g':Array GenState}{t':Nat}{d':Drawn}{ch:List Addr}(I:Inv X pins σ H s) (u:Un (frs X.stack) ch H H' s.heap h') (hok:HOk X.prog X.w H' h') (hg:AllBare g')
  (hch:∀ b∈ch,(b∈X.ex∨X.s₀.heap.objs.size≤b)∧b≠X.env.locals∧(∀ x c,X.env.cells.lookup x=some c→c≠b)∧∀ p∈X.pn++pins,p.1≠b) :
  Inv X pins σ H' { s with heap:=h',gens:=g',drawn:=d',toks:=t' }:=by
 obtain⟨m,⟨o,es,ep,ho,r⟩,_⟩:=id I.loc
 obtain⟨sl,hL⟩:=u.any ho I.free fun z=>(hch _ z).2.1 rfl
 exact I.step (ch:=ch) hch (fun b o hL hb hc e n=>u.keep b o e n (fun z=>(List.mem_cons.mp (I.stkSub b z)).elim hL hb) hc) (fun b o _ _ hc e n=>u.any e n hc) (fun b o hc e n=>u.free b o e n hc) (fun b o hc e=>u.there b o e hc) u.tups u.frzs u.tbls (fun m' hm=>by
  obtain⟨o',es',ep',ho',r'⟩:=hm
  rw[ho] at ho';cases ho'
  exact⟨_,es',ep',hL,r'⟩) hok hg
theorem Inv.turned {t':Nat}{it:Addr}(I:Inv X pins σ H s) (k:∀ b o,b≠it→s.heap.get? b=some o→h'.get? b=some o) (hn:H it=none) (hL:it≠X.env.locals)
  (h1:it∈X.ex∨X.s₀.heap.objs.size≤it) (h2:∀ x c,X.env.cells.lookup x=some c→c≠it) (h3:∀ p∈X.pn++pins,p.1≠it):Inv X pins σ H { s with heap:=h',toks:=t' }:=by
 have nit:∀ b u,H b=some u→b≠it:=fun b u e z=>by rw[z,hn] at e;cases e
 refine I.step (g':=s.gens) (d':=s.drawn) (ch:=[it]) (fun b hb=>?_) (fun b o _ _ hc e _=>k b o (fun z=>hc (by simp[z])) e) (fun b o _ _ hc e _=>⟨o.slots,k b o (fun z=>hc (by simp[z])) e⟩) (fun _ _ _ _ n=>n)
  (fun b o hc e=>⟨o,k b o (fun z=>hc (by simp[z])) e⟩) (fun _ _ e=>e) (fun _ _ _ e=>e) (fun b ps e=>⟨#[],by rw[e];simp⟩) (fun m hm=>?_) (fun b u e=>?_) I.bare
 ·have e:b=it:=by simpa using hb
  subst e
  exact⟨h1,hL,h2,h3⟩
 ·obtain⟨o,es,ep,ho,r⟩:=hm
  exact⟨o,es,ep,k _ o (Ne.symm hL) ho,r⟩
 ·refine(I.hok b u e).stay (fun c v hc q=>k c v ?_ q) (fun _ q=>q) fun _ _ q=>q
  rcases hc with z | z
  ·rw[z];exact nit b u e
  ·exact nit c _ z
theorem Inv.tok (I:Inv X pins σ H s) (t:Nat):Inv X pins σ H { s with toks:=t }:=I.un (h':=s.heap) (t':=t) Un.refl I.hok
theorem Inv.kept {t':Nat}(I:Inv X pins σ H s) (k:∀ b u,s.heap.get? b=some u→h'.get? b=some u):Inv X pins σ H { s with heap:=h',toks:=t' }:=I.un (Un.kept k) (I.hok.kept k)
theorem Inv.laid {a:Addr}{o:HO}{t':Nat}(I:Inv X pins σ H s) (k:∀ b u,s.heap.get? b=some u→h'.get? b=some u) (hp:s.heap.objs.size≤a) (new:ObjOk X.prog X.w (upd H a o) h' a o) :
  Inv X pins σ (upd H a o) { s with heap:=h',toks:=t' }:=I.un (Un.laid k hp (I.hok.fresh hp)) (I.hok.laid k hp new)
theorem Inv.write {x e:Addr}{o:HO}{t':Nat}(I:Inv X pins σ H s) (mu:Mut (H x)) (he:e=x∨H e=some (.own x)) (k:∀ b u,b≠e→s.heap.get? b=some u→h'.get? b=some u) (heo:∃ u,h'.get? e=some u)
  (new:ObjOk X.prog X.w (upd H x o) h' x o):Inv X pins σ (upd H x o) { s with heap:=h',toks:=t' }:=I.un (Un.write mu he k heo) (I.hok.write mu he k heo new)
theorem Inv.pins_of {pins':List (Addr×Obj)}(I:Inv X pins σ H s) (h:∀ p∈pins',s.heap.get? p.1=some p.2∧H p.1=none∧p.1≠X.env.locals∧p.1∉X.fs∧∀ v,p.2.data≠.cell v):Inv X pins' σ H s :=
 ⟨I.ok,I.os,I.bare,I.base,I.loc,I.cell,I.free,I.freeC,fun p hp=>(List.mem_append.mp hp).elim (fun z=>I.pin p (List.mem_append_left _ z)) (h p),I.hok,I.len⟩
theorem nodup_ix {N:List Str}(hN:N.Nodup){i j:Nat}{x:Str}(a:N[i]?=some x) (b:N[j]?=some x):i=j:=by
 obtain⟨h1,e1⟩:=List.getElem?_eq_some_iff.mp a
 obtain⟨h2,e2⟩:=List.getElem?_eq_some_iff.mp b
 exact(List.getElem_inj hN).mp (e1.trans e2.symm)
theorem w6 {M:Model}{A:Around}{E:Value→Shared→Prop}{i:Nat}{x:Str}{v:V}{u:Value}{Q:Unit→Shared→Prop}(I:Inv X pins σ H s) (hN:X.N.Nodup) (hi:X.N[i]?=some x) (hx:Loc X.env.scope x) (r:RelV v u)
  (h:∀ s',Inv X pins (σ.set i (some v)) H s'→(∃ a,Heap.SameBut a s.heap s'.heap∧(a=X.env.locals∨X.env.cells.lookup x=some a))→Q () s') (hf:X.fn x=true∨X.env.scope.names.lookup x=some .local:=by first | exact .inl rfl | exact .inr rfl | assumption):wpAny M A (storeName X.env x u) Q E s:=by
 obtain⟨m,hn,hl⟩:=id I.loc
 have hcls:(X.env.scope.kind == .class||(X.env.scope.kind == .module&&X.env.locals != X.env.globals))=false:=by rw[I.ok.kind];rfl
 have hiσ:i<σ.length:=by rw[I.len];exact(List.getElem?_eq_some_iff.mp hi).1
 have cne:=I.cne
 have tracked:∀ {a:Addr}{h':Heap},(∃ o,s.heap.get? a=some o∧H a=none)→Heap.SameBut a s.heap h'→HOk X.prog X.w H h':=fun {a h'} ha hs b ob e=>by
  obtain⟨_,_,hfree⟩:=ha
  refine(I.hok b ob e).stay (fun c w' hc q=>(hs.2 c ?_).trans q) (fun _ q=>q) fun _ _ q=>q
  rintro rfl
  rcases hc with rfl | hc
  ·rw[hfree] at e;cases e
  ·rw[hfree] at hc;cases hc
 rcases hx with hk | hk
 ·refine wpAny_storeName_local hk hn (fun h' hn' hs=>?_) hcls
  obtain⟨oL,_,_,hoL,_⟩:=id hn
  refine h _ ⟨I.ok,I.os,I.bare,⟨fun b o e n hb hx=>?_,fun b o e n hb hx=>?_,I.base.free,fun b o e hx=>?_,I.base.tups,I.base.frzs,I.base.tbls⟩,⟨_,hn',fun j y v' e1 e2 e3=>?_⟩,fun y c e=>?_,I.free,I.freeC,fun p hp=>?_,tracked ⟨oL,hoL,I.free⟩ hs,by simpa using I.len⟩ ⟨_,hs,.inl rfl⟩
  ·exact(hs.2 b (Nat.ne_of_lt (Nat.lt_of_lt_of_le (Heap.lt_size e) I.ok.above))).trans (I.base.keep b o e n hb hx)
  ·obtain⟨sl,e1⟩:=I.base.slot b o e n hb hx
   exact⟨sl,(hs.2 b (Nat.ne_of_lt (Nat.lt_of_lt_of_le (Heap.lt_size e) I.ok.above))).trans e1⟩
  ·obtain⟨o',e1⟩:=I.base.there b o e hx
   exact⟨o',(hs.2 b (Nat.ne_of_lt (Nat.lt_of_lt_of_le (Heap.lt_size e) I.ok.above))).trans e1⟩
  ·by_cases hj:j=i
   ·subst hj
    rw[hi] at e1;cases e1
    rw[List.getElem?_set_self hiσ] at e2
    cases e2
    exact⟨u,r,.inl ⟨hk,by simp⟩⟩
   ·rw[List.getElem?_set_ne (Ne.symm hj)] at e2
    obtain⟨u',r',q⟩:=hl j y v' e1 e2 e3
    refine⟨u',r',?_⟩
    rcases q with⟨k,e⟩ | ⟨k,c,e,z⟩
    ·refine .inl ⟨k,?_⟩
     have:y≠x:=fun e=>hj (nodup_ix hN e1 (e ▸ hi))
     simp[this,e]
    ·exact .inr ⟨k,c,e,z.sameBut hs (cne y c e)⟩
  ·obtain⟨w',z⟩:=I.cell y c e
   exact⟨w',z.sameBut hs (cne y c e)⟩
  ·obtain⟨e,n,ne,nf,d⟩:=I.pin p hp
   exact⟨(hs.2 p.1 ne).trans e,n,ne,nf,d⟩
 ·have hfn:X.fn x=true:=by
   rcases hf with z | z
   ·exact z
   ·rw[z] at hk;cases hk
  obtain⟨c,hc⟩:=I.ok.has x (.inl hk)
  obtain⟨w',z⟩:=I.cell x c hc
  refine wpAny_storeName_cell I.ok.kind hk hc z (fun h' hc' hs=>?_)
  obtain⟨oc,hoc,hocd⟩:=id z
  refine h { s with heap:=h' } ⟨I.ok,I.os,I.bare,⟨fun b o e n hb hx=>?_,fun b o e n hb hx=>?_,I.base.free,fun b o e hx=>?_,I.base.tups,I.base.frzs,I.base.tbls⟩,⟨m,hn.sameBut hs (Ne.symm (cne x c hc)),fun j y v' e1 e2 e3=>?_⟩,fun y c' e=>?_,I.free,I.freeC,fun p hp=>?_,tracked ⟨oc,hoc,I.freeC x c hc⟩ hs,by simpa using I.len⟩ ⟨c,hs,.inr hc⟩
  ·exact(hs.2 b (Nat.ne_of_lt (Nat.lt_of_lt_of_le (Heap.lt_size e) (I.ok.cab x c hfn hc)))).trans (I.base.keep b o e n hb hx)
  ·obtain⟨sl,e1⟩:=I.base.slot b o e n hb hx
   exact⟨sl,(hs.2 b (Nat.ne_of_lt (Nat.lt_of_lt_of_le (Heap.lt_size e) (I.ok.cab x c hfn hc)))).trans e1⟩
  ·obtain⟨o',e1⟩:=I.base.there b o e hx
   exact⟨o',(hs.2 b (Nat.ne_of_lt (Nat.lt_of_lt_of_le (Heap.lt_size e) (I.ok.cab x c hfn hc)))).trans e1⟩
  ·by_cases hj:j=i
   ·subst hj
    rw[hi] at e1;cases e1
    rw[List.getElem?_set_self hiσ] at e2
    cases e2
    exact⟨u,r,.inr ⟨.inl hk,c,hc,hc'⟩⟩
   ·rw[List.getElem?_set_ne (Ne.symm hj)] at e2
    obtain⟨u',r',q⟩:=hl j y v' e1 e2 e3
    refine⟨u',r',?_⟩
    rcases q with q | ⟨k,c',e,z'⟩
    ·exact .inl q
    ·refine .inr ⟨k,c',e,z'.sameBut hs ?_⟩
     rintro rfl
     exact hj (nodup_ix hN e1 (I.ok.inj _ _ _ e hc ▸ hi))
  ·by_cases hcc:c'=c
   ·subst hcc;exact⟨_,hc'⟩
   ·obtain⟨w2,z2⟩:=I.cell y c' e
    exact⟨w2,z2.sameBut hs hcc⟩
  ·obtain⟨e,n,ne,nf,d⟩:=I.pin p hp
   refine⟨(hs.2 p.1 ?_).trans e,n,ne,nf,d⟩
   intro q
   rw[q,hoc] at e
   have q':oc=p.2:=Option.some.inj e
   exact d w' (by rw[← q'];exact hocd)
theorem store_ok {M:Model}{A:Around}{E:Value→Shared→Prop}{i:Nat}{x:Str}{v:V}{u:Value}{Q:Unit→Shared→Prop}(I:Inv X pins σ H s) (hN:X.N.Nodup) (hi:X.N[i]?=some x) (hx:Loc X.env.scope x) (r:RelV v u)
  (h:∀ s',Inv X pins (σ.set i (some v)) H s'→Q () s') (hf:X.fn x=true∨X.env.scope.names.lookup x=some .local:=by first | exact .inl rfl | exact .inr rfl | assumption):wpAny M A (storeName X.env x u) Q E s :=
 w6 I hN hi hx r (fun s' I' _=>h s' I') hf
theorem Inv.call' {s':Shared}{ch:List Addr}(I:Inv X pins σ H s) (ho:s'.os=s.os) (u:Un (frs X.stack) ch H H' s.heap s'.heap) (hok:HOk X.prog X.w H' s'.heap) (hg:AllBare s'.gens)
  (hch:∀ b∈ch,(b∈X.ex∨X.s₀.heap.objs.size≤b)∧b≠X.env.locals∧(∀ x c,X.env.cells.lookup x=some c→c≠b)∧∀ p∈X.pn++pins,p.1≠b):Inv X pins σ H' s':=by
 obtain⟨h',g',d',t',o'⟩:=s'
 have e:o'=s.os:=ho
 subst e
 exact I.call (g':=g') (t':=t') (d':=d') u hok hg hch
end
abbrev XK:=Value→Option Addr→Hp→Prop
abbrev St:=List (Option V)
abbrev VK:=V→Hp→Prop
abbrev TE:=St→Hp→VK→Prop
abbrev TT:=St→Hp→(Bool→Hp→Prop)→Prop
abbrev TA:=St→Hp→(List V→Hp→Prop)→Prop
structure Ends where
 nx:St→Hp→Prop
 rt:VK
 bk:St→Hp→Prop:=fun _ _=>False
 ct:St→Hp→Prop:=fun _ _=>False
abbrev TS:=Ends→St→Hp→Prop
def EP (X:Cx) (pins:List (Addr×Obj)) (σ:St) (Q:VK) (u:Value) (s':Shared):Prop:=∃ v H',Inv X pins σ H' s'∧RelV v u∧Q v H'
def TP (X:Cx) (pins:List (Addr×Obj)) (σ:St) (Q:Bool→Hp→Prop) (b:Bool) (s':Shared):Prop:=∃ H',Inv X pins σ H' s'∧Q b H'
def AP (X:Cx) (pins:List (Addr×Obj)) (σ:St) (Q:List V→Hp→Prop) (us:List Value) (s':Shared):Prop:=∃ vs H',Inv X pins σ H' s'∧Vals vs us∧Q vs H'
noncomputable def SP (X:Cx) (pins:List (Addr×Obj)) (D:Ends) (f:Flow) (s':Shared):Prop :=
 match f with
 |.next=>∃ σ' H',Inv X pins σ' H' s'∧D.nx σ' H'
 |.brk=>∃ σ' H',Inv X pins σ' H' s'∧D.bk σ' H'
 |.cont=>∃ σ' H',Inv X pins σ' H' s'∧D.ct σ' H'
 |.ret u=>∃ v σ' H',Inv X pins σ' H' s'∧RelV v u∧D.rt v H'
def PE (X:Cx) (e:Expr) (t:TE):Prop :=
 ∀ (pins:List (Addr×Obj)) (s:Shared) (σ:St) (H:Hp) (Q:VK),Inv X pins σ H s→t σ H Q→wpAny (model X.prog X.w) X.A (eval e X.env) (EP X pins σ Q) X.xe s
def PT (X:Cx) (e:Expr) (t:TT):Prop :=
 ∀ (pins:List (Addr×Obj)) (s:Shared) (σ:St) (H:Hp) (Q:Bool→Hp→Prop),Inv X pins σ H s→t σ H Q→wpAny (model X.prog X.w) X.A (isTrue e X.env (eval e X.env)) (TP X pins σ Q) X.xe s
def PW (X:Cx) (e:Expr) (t:TT):Prop :=
 ∀ (whole:Sem Value) (pins:List (Addr×Obj)) (s:Shared) (σ:St) (H:Hp) (Q:Bool→Hp→Prop),Inv X pins σ H s→t σ H Q→wpAny (model X.prog X.w) X.A (isTrue e X.env whole) (TP X pins σ Q) X.xe s
theorem PW.pt {X:Cx}{e:Expr}{t:TT}(h:PW X e t):PT X e t:=h _
def PA (X:Cx) (es:List Expr) (t:TA):Prop :=
 ∀ (pos:Pos) (pins:List (Addr×Obj)) (s:Shared) (σ:St) (H:Hp) (Q:List V→Hp→Prop),Inv X pins σ H s→t σ H Q→wpAny (model X.prog X.w) X.A (spliced (backTo pos (starEach es X.env))) (AP X pins σ Q) X.xe s
def PS (X:Cx) (st:Stmt) (t:TS):Prop :=
 ∀ (pins:List (Addr×Obj)) (s:Shared) (σ:St) (H:Hp) (D:Ends),Inv X pins σ H s→t D σ H→wpAny (model X.prog X.w) X.A (exec st X.env) (SP X pins D) X.xe s
def PSs (X:Cx) (st:List Stmt) (t:TS):Prop :=
 ∀ (pins:List (Addr×Obj)) (s:Shared) (σ:St) (H:Hp) (D:Ends),Inv X pins σ H s→t D σ H→wpAny (model X.prog X.w) X.A (execs st X.env) (SP X pins D) X.xe s
theorem thn {α:Type}{t:Sem α}{Q Q':α→Shared→Prop}{M:Model}{A:Around}{E:Value→Shared→Prop}{s:Shared}(h:wpAny M A t Q E s) (hQ:∀ a s,Q a s→Q' a s):wpAny M A t Q' E s:=wpAny_mono h hQ fun _ _ x=>x
end L2
namespace L2
open PySem PySem.Spec PyProof.Rows
section
variable {X:Cx}
theorem bin {a b:Expr}{ta tb:TE}(ha:PE X a ta) (hb:PE X b tb){pins:List (Addr×Obj)}{s:Shared}{σ:St}{H:Hp}{R:V→V→Hp→Prop}(I:Inv X pins σ H s) (h:ta σ H fun x H1=>tb σ H1 fun y H2=>R x y H2)
  {α:Type}{Q:α→Shared→Prop}{f:Value→Value→Sem α}
  (hf:∀ v u s2 x y H2,Inv X pins σ H2 s2→RelV x v→RelV y u→R x y H2→wpAny (model X.prog X.w) X.A (f v u) Q X.xe s2) :
  wpAny (model X.prog X.w) X.A (eval a X.env) (fun v s₁=>wpAny (model X.prog X.w) X.A (eval b X.env) (fun u s₂=>wpAny (model X.prog X.w) X.A (f v u) Q X.xe s₂) X.xe s₁) X.xe s:=by
 refine thn (ha pins s σ H _ I h) fun v s1 hq0=>?_
 obtain⟨x,H1,I1,r1,q1⟩:=hq0
 refine thn (hb pins s1 σ H1 _ I1 q1) fun u s2 hq0=>?_
 obtain⟨y,H2,I2,r2,q2⟩:=hq0
 exact hf v u s2 x y H2 I2 r1 r2 q2
def zla (i:Nat):TE:=fun σ H Q=>∃ v,σ[i]?=some (some v)∧Q v H
def tC (v:V):TE:=fun _ H Q=>Q v H
theorem zfO {i:Nat}{x:Str}{pos:Pos}(hN:X.N[i]?=some x) (hv:Vis X.env.scope x) (hd:(x == ("__debug__" : Str))=false:=by decide) (hcd:(x == ("__classdict__" : Str))=false:=by decide):PE X (.Name x pos) (zla i):=by
 intro pins s σ H Q I h
 obtain⟨v,e,h⟩:=h
 obtain⟨m,hn,hl⟩:=I.loc
 obtain⟨u,r,l⟩:=hl i x v hN e hv
 have fin:EP X pins σ Q u s:=⟨v,H,I,r,h⟩
 rcases l with⟨hk,hm⟩ | ⟨hk,c,hc,hcell⟩
 ·exact wpAny_Name (wpAny_loadName_local I.ok.kind hk hn hm fin) hd
 ·rcases hk with hk | hk
  ·exact wpAny_Name (wpAny_loadName_cell I.ok.kind hk hc hcell fin) hd
  ·exact wpAny_Name (wpAny_loadName_free I.ok.kind hk hc hcell fin hcd) hd
theorem yL {i j pos}:PE X (.Constant (.int i) j pos) (tC (.int i)):=fun _ _ _ H _ I h=>wpAny_Constant_int ⟨.int i,H,I.tok _,⟨_,rfl⟩,h⟩
theorem x8 {b j pos}:PE X (.Constant (.bool b) j pos) (tC (.bl b)):=fun _ _ _ H _ I h=>Constant_bool ⟨.bl b,H,I,rfl,h⟩
theorem zfS {j pos}:PE X (.Constant .none j pos) (tC .non):=fun _ _ _ H _ I h=>Constant_none ⟨.non,H,I,rfl,h⟩
theorem zfR {x j pos}:PE X (.Constant (.str x) j pos) (tC (.str x)):=fun _ _ _ H _ I h=>Calls.Constant_str ⟨.str x,H,I.tok _,⟨_,rfl⟩,h⟩
def Gl (X:Cx) (x:Str):Prop:=X.env.kindOf x=some .globalImplicit
theorem ld_glob {E:Value→Shared→Prop}{pins:List (Addr×Obj)}{s:Shared}{σ:St}{H:Hp}{x:Str}{u:Value}{pos:Pos}{Q:Value→Shared→Prop}(I:Inv X pins σ H s) (hg:Gl X x) (hm:X.mg x=some u) (h:Q u s)
  (hd:(x == ("__debug__" : Str))=false:=by decide):wpAny (model X.prog X.w) X.A (eval (.Name x pos) X.env) Q E s :=
 Calls.Name_function_global I.ok.kind hg (Calls.loadGlobal_global (by rw[I.ok.glob];exact I.mod.glob.keeps I.bk) hm h) hd
theorem ld_blt {E:Value→Shared→Prop}{pins:List (Addr×Obj)}{s:Shared}{σ:St}{H:Hp}{x:Str}{u:Value}{pos:Pos}{Q:Value→Shared→Prop}(I:Inv X pins σ H s) (hg:Gl X x) (hm:X.mg x=none) (hv:bootBuiltins x=some u) (h:Q u s)
  (hn:x ≠ "__name__" := by decide) (hd:(x == ("__debug__" : Str))=false:=by decide):wpAny (model X.prog X.w) X.A (eval (.Name x pos) X.env) Q E s:=by
 obtain⟨mb,h1,h2⟩:=I.mod.blt
 exact Calls.Name_function_global I.ok.kind hg (Calls.loadGlobal_builtin (by rw[I.ok.glob];exact I.mod.glob.keeps I.bk) hm (by rw[I.ok.blt];exact h1.keeps I.bk) ((h2 x hn).trans hv) h) hd
theorem wE {x:Str}{v:V}{u:Value}{pos:Pos}(hg:Gl X x) (hm:X.mg x=some u) (r:RelV v u) (hd:(x == ("__debug__" : Str))=false:=by decide):PE X (.Name x pos) (tC v) :=
 fun _ _ _ H _ I h=>ld_glob I hg hm ⟨v,H,I,r,h⟩ hd
theorem VE {x:Str}{v:V}{u:Value}{pos:Pos}(hg:Gl X x) (hm:X.mg x=none) (hv:bootBuiltins x=some u) (r:RelV v u) (hn:x ≠ "__name__" := by decide) (hd:(x == ("__debug__" : Str))=false:=by decide):PE X (.Name x pos) (tC v) :=
 fun _ _ _ H _ I h=>ld_blt I hg hm hv ⟨v,H,I,r,h⟩ hn hd
variable {a b:Expr}{ta tb:TE}{pos:Pos}
def PC (X:Cx) (op:CmpOp) (a b:Expr) (t:TE):Prop :=
 ∀ (pins:List (Addr×Obj)) (s:Shared) (σ:St) (H:Hp) (Q:VK),Inv X pins σ H s→t σ H Q →
  wpAny (model X.prog X.w) X.A (eval a X.env) (fun v s₁=>wpAny (model X.prog X.w) X.A (eval b X.env) (fun u s₂=>wpAny (model X.prog X.w) X.A (compareOp op v u) (EP X pins σ Q) X.xe s₂) X.xe s₁) X.xe s
def tB (t:TE):TT:=fun σ H Q=>t σ H fun x H1=>∃ c,x=.bl c∧Q c H1
theorem zfU {op:CmpOp}{t:TE}(h:PC X op a b t) (h1:behindInMarks op b=false:=by first | exact nobehind _ (by decide) (by decide) | rfl):PE X (.Compare a [op] [b] pos) t:=fun pins s σ H Q I hw=>wpAny_Compare1 (h pins s σ H Q I hw) h1
theorem zfJ {op:CmpOp}{t:TE}(h:PC X op a b t) (h1:behindInMarks op b=false:=by first | exact nobehind _ (by decide) (by decide) | rfl):PT X (.Compare a [op] [b] pos) (tB t):=by
 intro pins s σ H Q I hw
 refine wpAny_isTrue_Compare1 (thn (h pins s σ H _ I hw) fun v s1 h1=>thn h1 fun u s2 h2=>thn h2 fun c s3 hq0=>?_) h1
 obtain⟨x,H1,I1,r1,q1⟩:=hq0
 obtain⟨d,rfl,q⟩:=q1
 cases r1
 exact wpAny_truthy_bool ⟨H1,I1,q⟩
theorem yI {e:Expr}{t:TE}(h:PE X e t) (he:∀ whole,isTrue e X.env whole=(do let v ← whole;standAt e.pos;holding [v] (truthy v)):=by intro _;rfl):PT X e (tB t):=by
 intro pins s σ H Q I hw
 refine isTrue_plain (thn (h pins s σ H _ I hw) fun v s1 hq0=>?_) (he _)
 obtain⟨x,H1,I1,r1,q1⟩:=hq0
 obtain⟨d,rfl,q⟩:=q1
 cases r1
 exact wpAny_truthy_bool ⟨H1,I1,q⟩
variable {tA tB':TT}{rest:List Expr}
def znW (t u:TT):TT:=fun σ H Q=>t σ H fun c H1=>if c=true then u σ H1 Q else Q false H1
def tOr (t u:TT):TT:=fun σ H Q=>t σ H fun c H1=>if c=true then Q true H1 else u σ H1 Q
def znP (t:TT):TT:=fun σ H Q=>t σ H fun c H1=>Q (!c) H1
theorem Vm (ha:PT X a tA):PW X (.BoolOp .And [a] pos) tA:=by
 intro wh pins s σ H Q I h
 refine isTrue_and (thn (ha pins s σ H Q I h) fun c s1 e=>?_)
 cases c with
 |true=>exact isTrue_and_nil e
 |false=>exact e
theorem wg (ha:PT X a tA):PW X (.BoolOp .Or [a] pos) tA:=by
 intro wh pins s σ H Q I h
 refine isTrue_or (thn (ha pins s σ H Q I h) fun c s1 e=>?_)
 cases c with
 |false=>exact isTrue_or_nil e
 |true=>exact e
theorem zfI (ha:PT X a tA) (hb:PW X (.BoolOp .And (b::rest) pos) tB'):PW X (.BoolOp .And (a::b::rest) pos) (znW tA tB'):=by
 intro wh pins s σ H Q I h
 refine isTrue_and (thn (ha pins s σ H _ I h) fun c s1 hq0=>?_)
 obtain⟨H1,I1,q1⟩:=hq0
 cases c with
 |true=>exact hb wh pins s1 σ H1 Q I1 q1
 |false=>exact⟨H1,I1,q1⟩
theorem vg (ha:PT X a tA) (hb:PW X (.BoolOp .Or (b::rest) pos) tB'):PW X (.BoolOp .Or (a::b::rest) pos) (tOr tA tB'):=by
 intro wh pins s σ H Q I h
 refine isTrue_or (thn (ha pins s σ H _ I h) fun c s1 hq0=>?_)
 obtain⟨H1,I1,q1⟩:=hq0
 cases c with
 |true=>exact⟨H1,I1,q1⟩
 |false=>exact hb wh pins s1 σ H1 Q I1 q1
theorem yJ (ha:PT X a tA):PT X (.UnaryOp .Not a pos) (znP tA):=by
 intro pins s σ H Q I h
 exact isTrue_not (ha pins s σ H (fun c H1=>Q (!c) H1) I h)
def tAndV (ta tb:TE):TE:=fun σ H Q=>ta σ H fun x H1=>∃ c,x=.bl c∧if c=true then tb σ H1 Q else Q (.bl false) H1
def znO (ta tb:TE):TE:=fun σ H Q=>ta σ H fun x H1=>∃ c,x=.bl c∧if c=true then Q (.bl true) H1 else tb σ H1 Q
def zaA (ta:TE):TE:=fun σ H Q=>ta σ H fun x H1=>∃ c,x=.bl c∧Q (.bl (!c)) H1
theorem Yt {op}{t:TE}(h:PE X a t):PE X (.BoolOp op [a] pos) t:=fun pins s σ H Q I hw=>BoolOp_one (h pins s σ H Q I hw)
theorem uv (ha:PE X a ta) (hb:PE X (.BoolOp .And (b::rest) pos) tb):PE X (.BoolOp .And (a::b::rest) pos) (tAndV ta tb):=by
 intro pins s σ H Q I h
 refine BoolOp_and (thn (ha pins s σ H _ I h) fun v s1 hq0=>?_)
 obtain⟨x,H1,I1,r1,q1⟩:=hq0
 obtain⟨c,rfl,q1⟩:=q1
 cases r1
 refine wpAny_truthy_bool ?_
 cases c with
 |true=>exact hb pins s1 σ H1 Q I1 q1
 |false=>exact⟨.bl false,H1,I1,rfl,q1⟩
theorem zmy (ha:PE X a ta) (hb:PE X (.BoolOp .Or (b::rest) pos) tb):PE X (.BoolOp .Or (a::b::rest) pos) (znO ta tb):=by
 intro pins s σ H Q I h
 refine BoolOp_or (thn (ha pins s σ H _ I h) fun v s1 hq0=>?_)
 obtain⟨x,H1,I1,r1,q1⟩:=hq0
 obtain⟨c,rfl,q1⟩:=q1
 cases r1
 refine wpAny_truthy_bool ?_
 cases c with
 |false=>exact hb pins s1 σ H1 Q I1 q1
 |true=>exact⟨.bl true,H1,I1,rfl,q1⟩
theorem WP (ha:PE X a ta):PE X (.UnaryOp .Not a pos) (zaA ta):=by
 intro pins s σ H Q I h
 refine UnaryOp_ (thn (ha pins s σ H _ I h) fun v s1 hq0=>?_)
 obtain⟨x,H1,I1,r1,q1⟩:=hq0
 obtain⟨c,rfl,q1⟩:=q1
 cases r1
 exact not_of (wpAny_truthy_bool ⟨.bl (!c),H1,I1,rfl,q1⟩)
end
end L2
namespace L2
open PySem PySem.Spec PyProof.Rows
noncomputable def SqL (K:PySem.W.Frag) (H:Hp) (a:Addr) (xs:List V):Prop :=
 Rd H a (.lst xs) ∨
  ∃ (o:Obj) (its:Array Value) (n:Nat),K.lookup a=some o∧o.cls=.type "list" ∧ o.dict=none∧o.data=.seq its n∧its.size≤sizeLine∧Vals xs its.toList
noncomputable def SqT (K:PySem.W.Frag) (H:Hp) (a:Addr) (xs:List V):Prop :=
 Rd H a (.tup xs) ∨
  ∃ (o:Obj) (its:Array Value) (n:Nat),K.lookup a=some o∧o.cls=.type "tuple" ∧ o.data=.seq its n∧its.size≤sizeLine∧Vals xs its.toList
noncomputable def zw7:Value→Option V
 |.none=>some .non
 |.bool b=>some (.bl b)
 |.int i _=>some (.int i)
 |.str x _=>some (.str x)
 |.bytes b _=>some (.byt b)
 |.float b _=>some (.flt b)
 |.ref a=>some (.ref a)
 |.type n=>some (.ty n)
 |_=>none
theorem RelV.abs {x:V}{u:Value}(r:RelV x u):zw7 u=some x:=by
 cases x with
 |non=>cases r;rfl
 |bl _=>cases r;rfl
 |int _=>obtain⟨t,rfl⟩:=r;rfl
 |str _=>obtain⟨t,rfl⟩:=r;rfl
 |byt _=>obtain⟨t,rfl⟩:=r;rfl
 |flt _=>obtain⟨t,rfl⟩:=r;rfl
 |ref _=>cases r;rfl
 |ty _=>cases r;rfl
theorem RelV.inj {x y:V}{u:Value}(r:RelV x u) (q:RelV y u):x=y:=Option.some.inj (r.abs.symm.trans q.abs)
theorem Vals.inj:∀ {xs ys:List V}{us:List Value},Vals xs us→Vals ys us→xs=ys
 |_,_,_,.nil,.nil=>rfl
 |_,_,_,.cons r t,.cons r' t'=>by rw[r.inj r',Vals.inj t t']
section
variable {X:Cx}{pins:List (Addr×Obj)}{σ:St}{H:Hp}{s:Shared}{a:Addr}{xs ys:List V}
theorem SqL.of {K:PySem.W.Frag}(h:H a=some (.lst xs)):SqL K H a xs:=.inl (.inl h)
theorem SqT.of {K:PySem.W.Frag}(h:H a=some (.tup xs)):SqT K H a xs:=.inl (.inl h)
theorem Inv.list (I:Inv X pins σ H s) (h:SqL X.K H a xs):∃ its:List Value,Vals xs its∧PlainL s.heap a its.toArray∧xs.length≤sizeLine:=by
 rcases h with h | ⟨o,its,n,hk,hc,hd,hs,hz,r⟩
 ·obtain⟨z,its,n,r,e⟩:=h.ok I.hok
  exact⟨its,r,⟨_,n,e,rfl,rfl,rfl⟩,z⟩
 ·refine⟨its.toList,r,⟨o,n,I.kIn a o hk,hc,hd,by simpa using hs⟩,?_⟩
  have e:=r.length
  simp only[Array.length_toList] at e
  omega
theorem Inv.tuple (I:Inv X pins σ H s) (h:SqT X.K H a xs):∃ its:List Value,Vals xs its∧IsTup s.heap a its.toArray∧xs.length≤sizeLine:=by
 rcases h with h | ⟨o,its,n,hk,hc,hs,hz,r⟩
 ·obtain⟨z,its,r,p⟩:=h.ok I.hok
  exact⟨its,r,p,z⟩
 ·refine⟨its.toList,r,⟨o,I.kIn a o hk,hc,n,by simpa using hs⟩,?_⟩
  have e:=r.length
  simp only[Array.length_toList] at e
  omega
theorem Inv.list_inj (I:Inv X pins σ H s) (h:SqL X.K H a xs) (h':SqL X.K H a ys):xs=ys:=by
 obtain⟨its,r,⟨o,n,e,_,_,d⟩,_⟩:=I.list h
 obtain⟨its',r',⟨o',n',e',_,_,d'⟩,_⟩:=I.list h'
 rw[e] at e';cases e'
 rw[d] at d'
 injection d' with d1 _
 have:its=its':=by simpa using congrArg Array.toList d1
 subst this
 exact r.inj r'
end
abbrev Cx.wish (X:Cx) (E:Value→Shared→Prop):Cx:={ X with xe:=E }
abbrev Cx.nox (X:Cx):Cx:=X.wish fun _ _=>False
theorem Cx.Ok.wish {X:Cx}(ok:X.Ok) (E:Value→Shared→Prop):(X.wish E).Ok :=
 ⟨ok.mod,ok.kind,ok.glob,ok.blt,ok.above,ok.inj,ok.has,ok.cab,ok.hd,ok.frames,ok.stk,ok.exf,ok.bs,ok.bsz,ok.noex,ok.exfs,ok.funs,ok.frf⟩
theorem Cx.Ok.unwish {X:Cx}{E:Value→Shared→Prop}(ok:(X.wish E).Ok):X.Ok :=
 ⟨ok.mod,ok.kind,ok.glob,ok.blt,ok.above,ok.inj,ok.has,ok.cab,ok.hd,ok.frames,ok.stk,ok.exf,ok.bs,ok.bsz,ok.noex,ok.exfs,ok.funs,ok.frf⟩
section
variable {X:Cx}{pins:List (Addr×Obj)}{σ:St}{H:Hp}{s:Shared}{E:Value→Shared→Prop}
theorem Inv.wish (I:Inv X pins σ H s) (E:Value→Shared→Prop):Inv (X.wish E) pins σ H s:=⟨I.ok.wish E,I.os,I.bare,I.base,I.loc,I.cell,I.free,I.freeC,I.pin,I.hok,I.len⟩
theorem Inv.unwish (I:Inv (X.wish E) pins σ H s):Inv X pins σ H s:=⟨I.ok.unwish,I.os,I.bare,I.base,I.loc,I.cell,I.free,I.freeC,I.pin,I.hok,I.len⟩
theorem SP.unwish {D:Ends}{f:Flow}{s':Shared}(h:SP (X.wish E) pins D f s'):SP X pins D f s':=by
 cases f with
 |next=>obtain⟨σ',H',I,q⟩:=h;exact⟨σ',H',I.unwish,q⟩
 |brk=>obtain⟨σ',H',I,q⟩:=h;exact⟨σ',H',I.unwish,q⟩
 |cont=>obtain⟨σ',H',I,q⟩:=h;exact⟨σ',H',I.unwish,q⟩
 |ret u=>obtain⟨v,σ',H',I,r,q⟩:=h;exact⟨v,σ',H',I.unwish,r,q⟩
theorem PSs.nox {st:List Stmt}{t:TS}(h:PSs X.nox st t):PSs X st t:=fun pins s σ H D I hw =>
 wpAny_mono (h pins s σ H D (I.wish _) hw) (fun _ _ q=>q.unwish) fun _ _ z=>False.elim z
end
section
variable {X:Cx}{st:Stmt}{rest:List Stmt}{t u:TS}{e:Expr}{te:TE}{pos:Pos}
def zaB:TS:=fun D σ H=>D.nx σ H
def znL (t u:TS):TS:=fun D σ H=>t { D with nx:=u D } σ H
theorem yq:PSs X [] zaB:=fun _ _ σ H _ I h=>wpAny_execs_nil ⟨σ,H,I,h⟩
theorem zC (h1:PS X st t) (h2:PSs X rest u):PSs X (st::rest) (znL t u):=by
 intro pins s σ H D I h
 refine wpAny_execs_cons (thn (h1 pins s σ H { D with nx:=u D } I h) fun f s1 q=>?_)
 cases f with
 |next =>
  obtain⟨σ',H',I',q⟩:=q
  exact h2 pins s1 σ' H' D I' q
 |ret v=>exact q
 |brk=>exact q
 |cont=>exact q
theorem zL (h1:PS X st t):PSs X [st] t:=by
 intro pins s σ H D I h
 refine wpAny_execs_cons (thn (h1 pins s σ H D I h) fun f s1 q=>?_)
 cases f with
 |next=>exact wpAny_execs_nil q
 |ret v=>exact q
 |brk=>exact q
 |cont=>exact q
theorem Inv.quiet {pins:List (Addr×Obj)}{σ:St}{H:Hp}{s:Shared}(I:Inv X pins σ H s):interactive X.env=false:=by simp[interactive,I.ok.kind]
def zaF (te:TE):TS:=fun D σ H=>te σ H fun _ H1=>D.nx σ H1
theorem vN (he:PE X e te) (hs:swapsWith e none pos.line X.env=pure false:=by rfl):PS X (.Expr e pos) (zaF te):=by
 intro pins s σ H D I h
 exact wpAny_Expr_any (thn (he pins s σ H _ I h) fun v s1 ⟨x,H1,I1,r1,q1⟩=>⟨σ,H1,I1,q1⟩) I.quiet hs
def znM (te:TE):TS:=fun D σ H=>te σ H D.rt
theorem yu (he:PE X e te):PS X (.Return (some e) pos) (znM te):=by
 intro pins s σ H D I h
 exact wpAny_Return_some (thn (he pins s σ H _ I h) fun v s1 ⟨x,H1,I1,r1,q1⟩=>⟨x,σ,H1,I1,r1,q1⟩)
def znR (c:TT) (t u:TS):TS:=fun D σ H=>c σ H fun b H1=>if b=true then t D σ H1 else u D σ H1
theorem wC {c:Expr}{a b:List Stmt}{tc:TT}(hc:PT X c tc) (ha:PSs X a t) (hb:PSs X b u):PS X (.If c a b pos) (znR tc t u):=by
 intro pins s σ H D I h
 refine wpAny_If (thn (hc pins s σ H _ I h) fun d s1 hq0=>?_)
 obtain⟨H1,I1,q1⟩:=hq0
 cases d with
 |true=>exact ha pins s1 σ H1 D I1 q1
 |false=>exact hb pins s1 σ H1 D I1 q1
def WH:TS:=fun _ _ _=>False
theorem wB:PS X st WH:=fun _ _ _ _ _ _ h=>h.elim
end
abbrev TG:=V→St→Hp→(St→Hp→Prop)→Prop
abbrev TGs:=List V→St→Hp→(St→Hp→Prop)→Prop
def PG (X:Cx) (target:Expr) (t:TG):Prop :=
 ∀ (pins:List (Addr×Obj)) (s:Shared) (σ:St) (H:Hp) (v:V) (u:Value) (Q:St→Hp→Prop),Inv X pins σ H s→RelV v u→t v σ H Q →
  wpAny (model X.prog X.w) X.A (assign target X.env u) (fun _ s'=>∃ σ' H',Inv X pins σ' H' s'∧Q σ' H') X.xe s
noncomputable def PGs (X:Cx) (ts:List Expr) (t:TGs):Prop :=
 ∀ (pins:List (Addr×Obj)) (s:Shared) (σ:St) (H:Hp) (vs:List V) (us:List Value) (Q:St→Hp→Prop),Inv X pins σ H s→Vals vs us→t vs σ H Q →
  wpAny (model X.prog X.w) X.A (assignInOrder ((assignEach ts X.env).map (·.2)) us) (fun _ s'=>∃ σ' H',Inv X pins σ' H' s'∧Q σ' H') X.xe s
section
variable {X:Cx}{pos:Pos}
def v8 (i:Nat):TG:=fun v σ H Q=>Q (σ.set i (some v)) H
theorem xk {i:Nat}{x:Str}(hN:X.N.Nodup) (hi:X.N[i]?=some x) (hx:Loc X.env.scope x) (hf:X.fn x=true∨X.env.scope.names.lookup x=some .local:=by first | exact .inl rfl | exact .inr rfl | assumption):PG X (.Name x pos) (v8 i):=by
 intro pins s σ H v u Q I r h
 exact wpAny_assign_Name (store_ok I hN hi hx r (fun s' I'=>⟨_,H,I',h⟩) hf)
noncomputable def gNil:TGs:=fun vs σ H Q=>vs=[]∧Q σ H
def zh4 (t:TG) (u:TGs):TGs:=fun vs σ H Q=>∃ v r,vs=v::r∧t v σ H fun σ' H'=>u r σ' H' Q
theorem Ys:PGs X [] gNil:=by
 intro pins s σ H vs us Q I r h
 obtain⟨e,h⟩:=h
 subst e
 cases r
 exact assignInOrder_nil ⟨σ,H,I,h⟩
theorem wD {e:Expr}{es:List Expr}{t:TG}{u:TGs}(h1:PG X e t) (h2:PGs X es u)
  (hs:(assignEach (e::es) X.env).map (·.2)=assign e X.env::(assignEach es X.env).map (·.2):=by rfl):PGs X (e::es) (zh4 t u):=by
 intro pins s σ H vs us Q I r h
 obtain⟨v,vr,e1,h⟩:=h
 subst e1
 cases r with
 |cons r rr =>
  rw[hs]
  refine assignInOrder_cons (thn (h1 pins s σ H _ _ _ I r h) fun _ s1 hq0=>?_)
  obtain⟨σ1,H1,I1,q1⟩:=hq0
  exact h2 pins s1 σ1 H1 _ _ Q I1 rr q1
def zv3 (K:PySem.W.Frag) (n:Nat) (t:TGs):TG:=fun v σ H Q=>∃ a xs,v=.ref a∧SqT K H a xs∧xs.length=n∧t xs σ H Q
theorem WO {es:List Expr}{k:Nat}{t:TGs}{n:Nat}(hc:X.calm=true) (h:PGs X es t)
  (hn:(assignEach es X.env).length=n:=by rfl) (hst:(assignEach es X.env).findIdx? (·.1)=none:=by rfl):PG X (.Tuple es k pos) (zv3 X.K n t):=by
 intro pins s σ H v u Q I r hw
 obtain⟨a,xs,e1,hq,hl,hw⟩:=hw
 subst e1
 cases r
 obtain⟨its,rv,ht,hz⟩:=I.tuple hq
 refine assign_Tuple_tuple (I.ok.hd hc) ht (by simp[hn,← hl,rv.length]) hst fun h' hx=>?_
 have I1:Inv X pins σ H { s with heap:=h' }:=I.kept (t':=s.toks) fun b o e=>hx b o (Nat.ne_of_lt (Heap.lt_size e)) e
 exact h pins _ σ H xs _ Q I1 (by simpa using rv) hw
def zad (te:TE) (g:TG):TS:=fun D σ H=>te σ H fun x H1=>g x σ H1 D.nx
theorem zfL {tg e:Expr}{te:TE}{g:TG}(he:PE X e te) (hg:PG X tg g) (hs:swapsWithSole [tg] e pos.line X.env=pure false:=by rfl) (hw:swappedStores [tg] e X.env=pure none:=by rfl)
  (h1:(assignEach [tg] X.env).map (·.2)=[assign tg X.env]:=by rfl):PS X (.Assign [tg] e pos) (zad te g):=by
 intro pins s σ H D I h
 refine wpAny_Assign_stores (thn (he pins s σ H _ I h) fun v s1 hq0=>?_) hs hw
 obtain⟨x,H1,I1,r1,q1⟩:=hq0
 rw[h1]
 exact thn (hg pins s1 σ H1 x v _ I1 r1 q1) fun _ s2 q=>q
theorem vh {i:Nat}{x:Str}{e:Expr}{te:TE}{pos':Pos}(hN:X.N.Nodup) (hi:X.N[i]?=some x) (hx:Loc X.env.scope x) (he:PE X e te) (hs:swapsWith e (some (.Name x pos')) pos.line X.env=pure false:=by rfl) (hf:X.fn x=true∨X.env.scope.names.lookup x=some .local:=by first | exact .inl rfl | exact .inr rfl | assumption) :
  PS X (.Assign [.Name x pos'] e pos) (zad te (v8 i)):=by
 intro pins s σ H D I h
 refine wpAny_Assign_Name (thn (he pins s σ H _ I h) fun v s1 hq0=>?_) hs
 obtain⟨y,H1,I1,r1,q1⟩:=hq0
 exact store_ok I1 hN hi hx r1 (fun s2 I2=>⟨_,H1,I2,q1⟩) hf
def znN (i j:Nat) (ta:TA):TS:=fun D σ H=>ta σ H fun vs H1=>∃ v w,vs=[v,w]∧D.nx ((σ.set i (some v)).set j (some w)) H1
theorem zfK {i j:Nat}{x y:Str}{a b:Expr}{ta:TA}{px py pt:Pos} {kt k2 pt2}(hc:X.calm=true) (hN:X.N.Nodup) (hi:X.N[i]?=some x) (hj:X.N[j]?=some y) (hij:i≠j)
  (hx:X.env.scope.names.lookup x=some .local) (hy:X.env.scope.names.lookup y=some .local) (ha:PA X [a,b] ta)
  (hw:swappedStores [.Tuple [.Name x px,.Name y py] kt pt] (.Tuple [a,b] k2 pt2) X.env=pure (some [x,y]))
  (hs:swapsWithSole [.Tuple [.Name x px,.Name y py] kt pt] (.Tuple [a,b] k2 pt2) pos.line X.env=pure false:=by rfl) :
  PS X (.Assign [.Tuple [.Name x px,.Name y py] kt pt] (.Tuple [a,b] k2 pt2) pos) (znN i j ta):=by
 intro pins s σ H D I h
 rw[exec_Assign_arm]
 refine wpAny_bind (wpAny_standAt ?_)
 rw[hs]
 refine wpAny_bind (wpAny_pure ?_)
 rw[if_neg (by decide)]
 refine wpAny_bind (Tuple_ (thn (ha _ pins s σ H _ I h) fun us s1 hq0=>?_))
 obtain⟨vs,H1,I1,r1,q1⟩:=hq0
 obtain⟨v,w,e1,q1⟩:=q1
 subst e1
 obtain⟨u1,u2,rfl,rv,rw'⟩:∃ u1 u2,us=[u1,u2]∧RelV v u1∧RelV w u2:=by
  cases r1 with
  |cons p q =>
   cases q with
   |cons p' q' =>
    cases q'
    exact⟨_,_,rfl,p,p'⟩
 refine wpAny_newObj_type ?_ (by show 2≤sizeLine;decide)
 have I2:Inv X pins σ H1 { s1 with heap:=s1.heap.push { cls:=.type "tuple",data:=.seq [u1,u2].toArray } }:=I1.kept (t':=s1.toks) fun b o e=>Heap.get?_push_of_some _ e
 rw[hw]
 refine wpAny_bind (wpAny_pure ?_)
 show wpAny (model X.prog X.w) X.A (do rule "assign.swapped-stores";let items ← unpackItems (.ref s1.heap.objs.size) 2 none;assignInOrder [fun v=>bindName X.env y v,fun v=>bindName X.env x v] items.reverse;pure Flow.next) _ _ _
 refine wpAny_bind (wpAny_rule (wpAny_bind (unpackItems_tuple (items:=#[u1,u2]) (I.ok.hd hc) (IsTup.new s1.heap _) fun h' hx'=>?_)))
 have I3:=I2.kept (h':=h') (t':=s1.toks) fun b o e=>hx' b o (Nat.ne_of_lt (Heap.lt_size e)) e
 show wpAny _ _ (assignInOrder [fun v=>bindName X.env y v,fun v=>bindName X.env x v] [u2,u1] >>= fun _=>pure Flow.next) _ _ _
 refine wpAny_bind (assignInOrder_cons (wpAny_bindName (store_ok I3 hN hj (.inl hy) rw' (fun s2 I4=>?_) (.inr hy))))
 refine assignInOrder_cons (wpAny_bindName (store_ok I4 hN hi (.inl hx) rv (fun s3 I5=>assignInOrder_nil (wpAny_pure ?_)) (.inr hx)))
 rw[List.set_comm _ _ (Ne.symm hij)] at I5
 exact⟨_,H1,I5,q1⟩
end
section
variable {X:Cx}{pos:Pos}
def WG (c:TT) (tb:TS):TS:=fun D σ H=>∃ W:Nat→St→Hp→Prop,(∃ m,W m σ H)∧∀ m σ H,W m σ H →
 c σ H fun b H1=>if b=true then ∃ N:St→Hp→Prop,(∀ σ' H',N σ' H'→∃ m',m'<m∧W m' σ' H')∧tb { D with nx:=N,ct:=N,bk:=D.nx } σ H1 else D.nx σ H1
theorem XN {c:Expr}{body:List Stmt}{tc:TT}{tb:TS}(hp:PassesOwn (model X.prog X.w) X.A X.env X.xe) (hc:PT X c tc) (hb:PSs X body tb):PS X (.While c body [] pos) (WG tc tb):=by
 intro pins s σ H D I h
 obtain⟨W,⟨m0,w0⟩,turn⟩:=h
 refine wpAny_While (codeAny_whileLoop (fun n s'=>∃ σ' H',Inv X pins σ' H' s'∧W n σ' H') ?_ m0 ⟨σ,H,I,w0⟩)
 rintro n s1 ⟨σ1,H1,I1,w1⟩
 refine wpAny_passesOwn hp (thn (hc pins s1 σ1 H1 _ I1 (turn n σ1 H1 w1)) fun b s2 hq0=>?_)
 obtain⟨H2,I2,q2⟩:=hq0
 cases b with
 |true =>
  obtain⟨N,hN,q2⟩:=q2
  rw[if_pos rfl]
  refine wpAny_passesOwn hp (thn (hb pins s2 σ1 H2 _ I2 q2) fun f s3 q3=>?_)
  cases f with
  |next =>
   obtain⟨σ3,H3,I3,n3⟩:=q3
   obtain⟨m',hm,w3⟩:=hN σ3 H3 n3
   exact⟨m',hm,σ3,H3,I3,w3⟩
  |cont =>
   obtain⟨σ3,H3,I3,n3⟩:=q3
   obtain⟨m',hm,w3⟩:=hN σ3 H3 n3
   exact⟨m',hm,σ3,H3,I3,w3⟩
  |brk=>exact q3
  |ret v=>exact q3
 |false =>
  rw[if_neg Bool.false_ne_true]
  exact wpAny_execs_nil ⟨σ1,H2,I2,q2⟩
end
structure It where
 go:Nat→Hp→Prop
 yld:Nat→Hp→V→Hp→Prop
 stop:Nat→Hp→Prop
noncomputable def FpOk (X:Cx) (pins:List (Addr×Obj)) (H:Hp) (b:Addr):Prop :=
 H b=none∧b≠X.env.locals∧b∉X.fs∧(b∈X.ex∨X.s₀.heap.objs.size≤b)∧(∀ x c,X.env.cells.lookup x=some c→c≠b)∧∀ p∈X.pn++pins,p.1≠b
theorem Inv.fpOk {X:Cx}{pins:List (Addr×Obj)}{σ:St}{H H':Hp}{s:Shared}{b:Addr}(I:Inv X pins σ H s) (hb:s.heap.objs.size≤b) (hn:H' b=none):FpOk X pins H' b:=by
 refine⟨hn,Nat.ne_of_gt (Nat.lt_of_lt_of_le I.lt hb),I.nofs hb,.inr (Nat.le_trans I.sz hb),fun x c e z=>?_,fun p hp z=>?_⟩
 ·obtain⟨v,q⟩:=I.cell x c e
  exact absurd (Nat.lt_of_lt_of_le q.lt (by rw[z];exact hb)) (Nat.lt_irrefl _)
 ·exact absurd (Nat.lt_of_lt_of_le (Heap.lt_size (I.pin p hp).1) (by rw[z];exact hb)) (Nat.lt_irrefl _)
structure Turn (P:Program) (w:World) (K:PySem.W.Frag) (tg:Expr) (J:It) (fp:List Addr) (it:Addr) (tn:Nat→Heap→Prop):Prop where
 mem:it∈fp
 obj:∀ i h,tn i h→∀ b∈fp,∃ o,h.get? b=some o∧∀ v,o.data≠.cell v
 keep:∀ i h h',tn i h→(∀ b∈fp,∀ o,h.get? b=some o→h'.get? b=some o)→tn i h'
 item:∀ (X:Cx),X.prog=P→X.w=w→X.K=K→X.calm=true→∀ (i:Nat) (pins:List (Addr×Obj)) (s:Shared) (σ:St) (H:Hp) (E:Value→Shared→Prop),Inv X pins σ H s→(∀ b∈fp,FpOk X pins H b)→tn i s.heap→J.go i H →
  wpAny (model P w) X.A (pyNext (.ref it)) (fun r s1=>∃ u,r=some u ∧
   wpAny (model P w) X.A (letOwnedTupleGo tg (.ref it) u) (fun _ s2=>∃ x H',Inv X pins σ H' s2∧RelV x u∧J.yld i H x H'∧tn (i+1) s2.heap∧∀ b∈fp,H' b=none) E s1) E s
 done:∀ (X:Cx),X.prog=P→X.w=w→X.K=K→X.calm=true→∀ (i:Nat) (pins:List (Addr×Obj)) (s:Shared) (σ:St) (H:Hp) (E:Value→Shared→Prop),Inv X pins σ H s→(∀ b∈fp,FpOk X pins H b)→tn i s.heap→J.stop i H →
  wpAny (model P w) X.A (pyNext (.ref it)) (fun r s1=>r=none∧Inv X pins σ H s1) E s
 self:∀ (A:Around) (i:Nat) (s:Shared) (Q:Value→Shared→Prop) (E:Value→Shared→Prop),tn i s.heap→Q (.ref it) s→wpAny (model P w) A (pyIter (.ref it)) Q E s
abbrev TI:=St→Hp→(It→Hp→Prop)→Prop
noncomputable def PIE (X:Cx) (pins:List (Addr×Obj)) (σ:St) (tg:Expr) (R:It→Hp→Prop) (itv:Value) (s2:Shared):Prop :=
 ∃ (it:Addr) (fp:List Addr) (tn:Nat→Heap→Prop) (J:It) (H':Hp),itv=.ref it∧Inv X pins σ H' s2∧Turn X.prog X.w X.K tg J fp it tn∧tn 0 s2.heap∧(∀ b∈fp,FpOk X pins H' b)∧R J H'
def PI (X:Cx) (tg iter:Expr) (wi:TI):Prop :=
 ∀ (pins:List (Addr×Obj)) (s:Shared) (σ:St) (H:Hp) (R:It→Hp→Prop),Inv X pins σ H s→wi σ H R →
  wpAny (model X.prog X.w) X.A (eval iter X.env) (fun v s1=>wpAny (model X.prog X.w) X.A (pyIter v) (PIE X pins σ tg R) X.xe s1) X.xe s
theorem zh3 {M:Model}{A:Around}{E:Value→Shared→Prop}{s:Shared}{tg:Expr}{it:Addr}{u:Value}{o:Obj}{n:String}{vs:Array Value}{Q:Unit→Shared→Prop}(ho:s.heap.get? it=some o) (hc:o.cls=.type n) (hd:o.data=.fields vs)
  (hn:["enumerate", "zip", "dict_itemiterator", "dict_reverseitemiterator", "odict_iterator", "itertools.zip_longest", "itertools.pairwise"].contains n=false) (hQ:Q () s):wpAny M A (letOwnedTupleGo tg (.ref it) u) Q E s:=by
 unfold letOwnedTupleGo
 cases tg<;>first
  |exact wpAny_pure hQ
  |(cases u<;>first
    |exact wpAny_pure hQ
    |(refine wpAny_bind (wpAny_load ho ?_)
      rw[hc,hd]
      show wpAny M A (if (["enumerate", "zip", "dict_itemiterator", "dict_reverseitemiterator", "odict_iterator", "itertools.zip_longest", "itertools.pairwise"].contains n&&vs[0]? == some (rawInt _))=true then _ else _) Q E s
      rw[if_neg (by intro h;rw[hn,Bool.false_and] at h;cases h)]
      exact wpAny_pure hQ))
noncomputable def Itl (K:PySem.W.Frag) (a:Addr):It :=
 ⟨fun i H=>∃ xs x,SqL K H a xs∧xs[i]?=some x,fun i H x H'=>H'=H∧∀ xs,SqL K H a xs→xs[i]?=some x,fun i H=>∃ xs,SqL K H a xs∧xs.length≤i⟩
noncomputable def Itr (lo:Int) (n:Nat):It:=⟨fun i _=>i<n,fun i H x H'=>H'=H∧x=.int (lo+i),fun i _=>n≤i⟩
theorem Zi {P:Program}{w:World}{K:PySem.W.Frag}{tg:Expr} (a it:Addr):Turn P w K tg (Itl K a) [it] it (fun i h=>h.IsListIter it a i) where
 mem:=by simp
 obj:=fun i h st b hb=>by
  have e:b=it:=by simpa using hb
  subst e
  obtain⟨o,e,c,d⟩:=st
  exact⟨o,e,fun v z=>by rw[d] at z;cases z⟩
 keep:=fun i h h' st k=>st.at fun o e=>k it (by simp) o e
 item:=by
  intro X hP hw hK hc i pins s σ H E I hf st hg
  subst hP hw hK
  obtain⟨xs,x,hq,hx⟩:=hg
  obtain⟨its,rv,p,hz⟩:=I.list hq
  obtain⟨u,hu,ru⟩:=rv.get hx
  obtain⟨f0,f1,f2,f3,f4,f5⟩:=hf it (by simp)
  refine wpAny_pyNext_list_item st p.isList (x:=u) (by simpa using hu) fun h' st' sb=>?_
  have I1:Inv X pins σ H { s with heap:=h' }:=I.turned (t':=s.toks) (fun b o hb e=>(sb.2 b hb).trans e) f0 f1 f3 f4 f5
  obtain⟨o,e,c,d⟩:=id st'
  exact⟨u,rfl,zh3 (s:={ s with heap:=h' }) e c d (by decide) ⟨x,H,I1,ru,⟨rfl,fun ys hy=>by rw[I.list_inj hy hq];exact hx⟩,st',fun b hb=>(hf b hb).1⟩⟩
 done:=by
  intro X hP hw hK hc i pins s σ H E I hf st hg
  subst hP hw hK
  obtain⟨xs,hq,hx⟩:=hg
  obtain⟨its,rv,p,hz⟩:=I.list hq
  obtain⟨f0,f1,f2,f3,f4,f5⟩:=hf it (by simp)
  have hl:=rv.length
  exact wpAny_pyNext_list_end (I.ok.hd hc) st p.isList (by simp;omega) fun h' eb=>⟨rfl,I.turned (t':=s.toks) (fun b o hb e=>eb b o hb e) f0 f1 f3 f4 f5⟩
 self:=fun _ _ _ _ _ st h=>wpAny_pyIter_listiter st h
theorem uM {P:Program}{w:World}{K:PySem.W.Frag}{tg:Expr}(it:Addr) (lo:Int) (n:Nat):Turn P w K tg (Itr lo n) [it] it (fun i h=>IsRangeIter h it (lo+(i:Nat)*1) ((n:Int)-(i:Nat)) 1) where
 mem:=by simp
 obj:=fun i h st b hb=>by
  have e:b=it:=by simpa using hb
  subst e
  exact⟨_,st,fun v z=>by
   have z':Data.fields _=Data.cell v:=z
   cases z'⟩
 keep:=fun i h h' st k=>k it (by simp) _ st
 item:=by
  intro X hP hw hK hc i pins s σ H E I hf st hg
  subst hP hw hK
  obtain⟨f0,f1,f2,f3,f4,f5⟩:=hf it (by simp)
  have W:=Walks.range (prog:=X.prog) (w:=X.w) (I.ok.hd hc) it lo 1 n
  refine W.item i s _ _ hg st fun v h' tk hv st' kk=>?_
  obtain⟨t,rfl⟩:=hv
  have I1:Inv X pins σ H { s with heap:=h',toks:=tk }:=I.turned (fun b o hb e=>kk b o (by simpa using hb) e) f0 f1 f3 f4 f5
  refine⟨_,rfl,zh3 (s:={ s with heap:=h',toks:=tk }) (n := "range_iterator") st' rfl rfl (by decide) ⟨.int (lo+i),H,I1,⟨t,?_⟩,⟨rfl,rfl⟩,st',fun b hb=>(hf b hb).1⟩⟩
  rw[Int.mul_one]
 done:=by
  intro X hP hw hK hc i pins s σ H E I hf st hg
  subst hP hw hK
  obtain⟨f0,f1,f2,f3,f4,f5⟩:=hf it (by simp)
  exact wpAny_pyNext_range_end (I.ok.hd hc) st (by have:n≤i:=hg;omega) fun h' eb=>⟨rfl,I.turned (t':=s.toks) (fun b o hb e=>eb b o hb e) f0 f1 f3 f4 f5⟩
 self:=fun _ _ _ _ _ st h=>wpAny_pyIter_rangeiter st h
end L2
namespace L2
open PySem PySem.Spec PyProof.Rows
section
variable {X:Cx}{tg:Expr}
def zh1 (K:PySem.W.Frag) (tl:TE):TI:=fun σ H R=>tl σ H fun x H1=>∃ a,x=.ref a∧(∃ xs,SqL K H1 a xs)∧R (Itl K a) H1
theorem xI {l:Expr}{tl:TE}(hl:PE X l tl):PI X tg l (zh1 X.K tl):=by
 intro pins s σ H R I h
 refine thn (hl pins s σ H _ I h) fun v s1 hq0=>?_
 obtain⟨x,H1,I1,r1,q1⟩:=hq0
 obtain⟨a,e,⟨xs,hq⟩,q⟩:=q1
 subst e
 cases r1
 obtain⟨its,rv,p,hz⟩:=I1.list hq
 refine wpAny_pyIter_list p.isList ?_
 refine⟨s1.heap.objs.size,[s1.heap.objs.size],_,_,H1,rfl,I1.kept (t':=s1.toks) fun b o e=>Heap.get?_push_of_some _ e,Zi a _,⟨_,Heap.get?_push_size _ rfl,rfl,rfl⟩,fun b hb=>?_,q⟩
 have e:b=s1.heap.objs.size:=by simpa using hb
 subst e
 exact I1.fpOk (Nat.le_refl _) (I1.hok.fresh (Nat.le_refl _))
theorem uq {pins:List (Addr×Obj)}{σ:St}{H:Hp}{s:Shared}{R:It→Hp→Prop}{E:Value→Shared→Prop}{lo hi:Int}{t u v:Tok}{tk:Nat}(I:Inv X pins σ H s) (h1 : -(2 ^ 62)≤lo) (h2:lo<2 ^ 62) (h3 : -(2 ^ 62)≤hi) (h4:hi<2 ^ 62)
  (q:R (Itr lo (hi-lo).toNat) H):wpAny (model X.prog X.w) X.A (pyIter (.ref s.heap.objs.size)) (PIE X pins σ tg R) E { s with heap:=s.heap.push { cls:=.type "range",data:=.fields #[.int lo t,.int hi u,.int 1 v] },toks:=tk }:=by
 refine wpAny_pyIter_range (IsRange.new ..) (small_one h1 h2 h3 h4) ?_
 have I1:Inv X pins σ H { s with heap:=s.heap.push { cls:=.type "range",data:=.fields #[.int lo t,.int hi u,.int 1 v] },toks:=tk }:=I.kept fun b o e=>Heap.get?_push_of_some _ e
 refine⟨(s.heap.push { cls:=.type "range",data:=.fields #[.int lo t,.int hi u,.int 1 v] }).objs.size,[(s.heap.push { cls:=.type "range",data:=.fields #[.int lo t,.int hi u,.int 1 v] }).objs.size],_,_,H,rfl,
  I1.kept (t':=tk) fun b o e=>Heap.get?_push_of_some _ e,uM _ lo (hi-lo).toNat,?_,fun b hb=>?_,q⟩
 ·have e1:lo+((0:Nat):Int)*1=lo:=by simp
  have e2:(((hi-lo).toNat:Nat):Int)-((0:Nat):Int)=Builtin.Range.rangeSize lo hi 1:=by rw[rangeSize_one];split<;>omega
  show IsRangeIter _ _ (lo+((0:Nat):Int)*1) ((((hi-lo).toNat:Nat):Int)-((0:Nat):Int)) 1
  rw[e1,e2]
  exact Heap.get?_push_size _ rfl
 ·have e:b=(s.heap.push { cls:=.type "range",data:=.fields #[.int lo t,.int hi u,.int 1 v] }).objs.size:=by simpa using hb
  subst e
  exact I1.fpOk (Nat.le_refl _) (I1.hok.fresh (Nat.le_refl _))
def zh0 (ta:TA):TI:=fun σ H R=>ta σ H fun vs H1=>∃ j:Int,vs=[.int j]∧-(2 ^ 62)≤j∧j<2 ^ 62∧R (Itr 0 j.toNat) H1
def zhZ (ta:TA):TI:=fun σ H R=>ta σ H fun vs H1=>∃ i j:Int,vs=[.int i,.int j]∧(-(2 ^ 62)≤i∧i<2 ^ 62∧-(2 ^ 62)≤j∧j<2 ^ 62)∧R (Itr i (j-i).toNat) H1
theorem Yr {a:Expr}{ta:TA}{p pos:Pos}(hg:Gl X "range") (hm:X.mg "range" = none) (ha:PA X [a] ta) (hs:starEach [a] X.env=[(false,eval a X.env)]:=by rfl):PI X tg (.Call (.Name "range" p) [a] [] pos) (zh0 ta):=by
 intro pins s σ H R I h
 refine Call_ (ld_blt I hg hm boot_range (PyProof.Rows.callWith_type1 (thn (ha pos pins s σ H _ I h) fun us s1 hq0=>?_) hs rfl))
 obtain⟨vs,H1,I1,r1,q1⟩:=hq0
 obtain⟨j,e,q1,q2,q⟩:=q1
 subst e
 cases r1 with
 |cons r rr =>
  cases rr
  obtain⟨t,rfl⟩:=r
  exact call_range_1 (uq I1 (by omega) (by omega) q1 q2 (by simpa using q))
theorem Yq {a b:Expr}{ta:TA}{p pos:Pos}(hg:Gl X "range") (hm:X.mg "range" = none) (ha:PA X [a,b] ta) (hs:starEach [a,b] X.env=[(false,eval a X.env),(false,eval b X.env)]:=by rfl) (hs2:starEach [b] X.env=[(false,eval b X.env)]:=by rfl) :
  PI X tg (.Call (.Name "range" p) [a,b] [] pos) (zhZ ta):=by
 intro pins s σ H R I h
 refine Call_ (ld_blt I hg hm boot_range (PyProof.Rows.callWith_type1 (thn (ha pos pins s σ H _ I h) fun us s1 hq0=>?_) (by rw[hs,hs2]) (by rw[hs2];rfl)))
 obtain⟨vs,H1,I1,r1,q1⟩:=hq0
 obtain⟨i,j,e,⟨q1,q2,q3,q4⟩,q⟩:=q1
 subst e
 cases r1 with
 |cons r rr =>
  cases rr with
  |cons r' rr =>
   cases rr
   obtain⟨t,rfl⟩:=r
   obtain⟨t',rfl⟩:=r'
   exact call_range_2 (uq I1 q1 q2 q3 q4 q)
def znS (wi:TI) (g:TG) (tb:TS):TS:=fun D σ H=>wi σ H fun J H1=>∃ W:Nat→Nat→St→Hp→Prop,(∃ m,W 0 m σ H1)∧∀ i m σ H,W i m σ H →
 (J.stop i H∧D.nx σ H)∨(J.go i H∧∃ N:St→Hp→Prop,(∀ σ' H',N σ' H'→∃ m',m'<m∧W (i+1) m' σ' H')∧∀ x H',J.yld i H x H'→g x σ H' fun σ2 H2=>tb { D with nx:=N,ct:=N,bk:=D.nx } σ2 H2)
noncomputable def vj (fp:List Addr) (h:Heap):List (Addr×Obj):=fp.filterMap fun b=>(h.get? b).map fun o=>(b,o)
theorem yF {fp:List Addr}{h:Heap}{b:Addr}{o:Obj}(hb:b∈fp) (e:h.get? b=some o):(b,o)∈vj fp h:=List.mem_filterMap.mpr ⟨b,hb,by rw[e];rfl⟩
theorem YD {fp:List Addr}{h:Heap}{p:Addr×Obj}(hp:p∈vj fp h):p.1∈fp∧h.get? p.1=some p.2:=by
 obtain⟨b,hb,e⟩:=List.mem_filterMap.mp hp
 cases q:h.get? b with
 |none=>rw[q] at e;cases e
 |some o =>
  rw[q] at e
  have e':(b,o)=p:=Option.some.inj e
  subst e'
  exact⟨hb,q⟩
theorem Inv.pinned {pins:List (Addr×Obj)}{σ:St}{H:Hp}{s:Shared}{fp:List Addr}(I:Inv X pins σ H s) (hf:∀ b∈fp,FpOk X pins H b) (ho:∀ b∈fp,∃ o,s.heap.get? b=some o∧∀ v,o.data≠.cell v):Inv X (pins++vj fp s.heap) σ H s :=
 I.pins_of fun p hp=>(List.mem_append.mp hp).elim (fun z=>I.pin p (List.mem_append_right _ z)) fun z=>by
  obtain⟨hb,e⟩:=YD z
  obtain⟨f0,f1,f2,_⟩:=hf p.1 hb
  obtain⟨o,e',d⟩:=ho p.1 hb
  rw[e] at e';cases e'
  exact⟨e,f0,f1,f2,d⟩
theorem Inv.unpinned {pins pl:List (Addr×Obj)}{σ:St}{H:Hp}{s:Shared}(I:Inv X (pins++pl) σ H s):Inv X pins σ H s:=I.pins_of fun p hp=>I.pin p (List.mem_append_right _ (List.mem_append_left _ hp))
theorem vi {iter:Expr}{body:List Stmt}{wi:TI}{g:TG}{tb:TS}{pos:Pos}(hp:PassesOwn (model X.prog X.w) X.A X.env X.xe) (hc:X.calm=true) (hi:PI X tg iter wi) (hg:PG X tg g) (hb:PSs X body tb)
  (hs:∀ x,foldedSetIterable iter X.env x=pure x:=by intro _;rfl):PS X (.For tg iter body [] pos) (znS wi g tb):=by
 intro pins s σ H D I h
 refine wpAny_For (thn (hi pins s σ H _ I h) fun v s1 h1=>thn h1 fun itv s2 h2=>?_) hs
 obtain⟨it,fp,tn,J,H2,e,I2,T,st2,f2,W,⟨m0,w0⟩,turn⟩:=h2
 subst e
 -- what stays true of the iterator's objects through the loop
 have stat:∀ {H':Hp},(∀ b∈fp,H' b=none)→∀ b∈fp,FpOk X pins H' b:=fun hn b hb=>⟨hn b hb,(f2 b hb).2⟩
 refine codeAny_forLoop_any (fun n s'=>∃ i σ' H',Inv X pins σ' H' s'∧tn i s'.heap∧(∀ b∈fp,H' b=none)∧W i n σ' H') ?_ m0 ⟨0,σ,H2,I2,st2,fun b hb=>(f2 b hb).1,w0⟩
 rintro n s3 ⟨i,σ3,H3,I3,st3,fr3,w3⟩
 rcases turn i n σ3 H3 w3 with⟨stop,qn⟩ | ⟨go,N,hN,step⟩
 ·refine wpAny_passesOwn hp (thn (T.done X rfl rfl rfl hc i pins s3 σ3 H3 X.xe I3 (stat fr3) st3 stop) fun r s4 ⟨hr,I4⟩=>?_)
  subst hr
  exact wpAny_execs_nil ⟨σ3,H3,I4,qn⟩
 ·refine wpAny_passesOwn hp (thn (T.item X rfl rfl rfl hc i pins s3 σ3 H3 X.xe I3 (stat fr3) st3 go) fun r s4 ⟨u,hr,h4⟩=>?_)
  subst hr
  refine wpAny_passesOwn hp (thn h4 fun _ s5 hq0=>?_)
  obtain⟨x,H5,I5,r5,y5,st5,fr5⟩:=hq0
  have I5':=I5.pinned (stat fr5) (T.obj _ _ st5)
  refine wpAny_passesOwn hp (thn (hg _ s5 σ3 H5 x u _ I5' r5 (step x H5 y5)) fun _ s6 hq0=>?_)
  obtain⟨σ6,H6,I6,q6⟩:=hq0
  refine wpAny_passesOwn hp (thn (hb _ s6 σ6 H6 _ I6 q6) fun f s7 q7=>?_)
  have again:∀ {σ7:St}{H7:Hp},Inv X (pins++vj fp s5.heap) σ7 H7 s7→N σ7 H7→∃ m,m<n∧∃ i σ' H',Inv X pins σ' H' s7∧tn i s7.heap∧(∀ b∈fp,H' b=none)∧W i m σ' H':=fun {σ7 H7} I7 n7=>by
   obtain⟨m',hm,w7⟩:=hN σ7 H7 n7
   refine⟨m',hm,i+1,σ7,H7,I7.unpinned,T.keep _ _ _ st5 fun b hb o e=>(I7.pin (b,o) (List.mem_append_right _ (List.mem_append_right _ (yF hb e)))).1,fun b hb=>?_,w7⟩
   obtain⟨o,e,d⟩:=T.obj _ _ st5 b hb
   exact(I7.pin (b,o) (List.mem_append_right _ (List.mem_append_right _ (yF hb e)))).2.1
  cases f with
  |next=>obtain⟨σ7,H7,I7,n7⟩:=q7;exact again I7 n7
  |cont=>obtain⟨σ7,H7,I7,n7⟩:=q7;exact again I7 n7
  |brk=>obtain⟨σ7,H7,I7,q7⟩:=q7;exact⟨σ7,H7,I7.unpinned,q7⟩
  |ret v=>obtain⟨x7,σ7,H7,I7,r7,q7⟩:=q7;exact⟨x7,σ7,H7,I7.unpinned,r7,q7⟩
end
theorem zI {K:PySem.W.Frag}{a:Addr}{xs:List V}{g:TG}{tb:TS}{D:Ends}{σ:St}{H:Hp}(Pv:Nat→St→Hp→Prop) (h0:Pv 0 σ H) (hl:∀ i σ H,i≤xs.length→Pv i σ H→SqL K H a xs)
  (hs:∀ i x σ H,xs[i]?=some x→Pv i σ H→g x σ H fun σ2 H2=>tb { D with nx:=Pv (i+1),ct:=Pv (i+1),bk:=D.nx } σ2 H2) (hd:∀ σ H,Pv xs.length σ H→D.nx σ H) :
  ∃ W:Nat→Nat→St→Hp→Prop,(∃ m,W 0 m σ H)∧∀ i m σ H,W i m σ H →
   ((Itl K a).stop i H∧D.nx σ H)∨((Itl K a).go i H∧∃ N:St→Hp→Prop,(∀ σ' H',N σ' H'→∃ m',m'<m∧W (i+1) m' σ' H')∧∀ x H',(Itl K a).yld i H x H'→g x σ H' fun σ2 H2=>tb { D with nx:=N,ct:=N,bk:=D.nx } σ2 H2):=by
 refine⟨fun i m σ H=>m=xs.length-i∧i≤xs.length∧Pv i σ H,⟨xs.length,by simp,Nat.zero_le _,h0⟩,?_⟩
 rintro i m σ H ⟨rfl,hi,p⟩
 have q:=hl i σ H hi p
 by_cases hlt:i<xs.length
 ·refine .inr ⟨⟨xs,xs[i],q,by simp[hlt]⟩,Pv (i+1),fun σ' H' p'=>⟨xs.length-(i+1),by omega,rfl,hlt,p'⟩,fun x H' y=>?_⟩
  obtain⟨e,y⟩:=y
  subst e
  exact hs i x σ _ (y xs q) p
 ·have e:i=xs.length:=by omega
  subst e
  exact .inl ⟨⟨xs,q,Nat.le_refl _⟩,hd σ H p⟩
theorem for_range {lo:Int}{n:Nat}{g:TG}{tb:TS}{D:Ends}{σ:St}{H:Hp}(Pv:Nat→St→Hp→Prop) (h0:Pv 0 σ H)
  (hs:∀ i σ H,i<n→Pv i σ H→g (.int (lo+i)) σ H fun σ2 H2=>tb { D with nx:=Pv (i+1),ct:=Pv (i+1),bk:=D.nx } σ2 H2) (hd:∀ σ H,Pv n σ H→D.nx σ H) :
  ∃ W:Nat→Nat→St→Hp→Prop,(∃ m,W 0 m σ H)∧∀ i m σ H,W i m σ H →
   ((Itr lo n).stop i H∧D.nx σ H)∨((Itr lo n).go i H∧∃ N:St→Hp→Prop,(∀ σ' H',N σ' H'→∃ m',m'<m∧W (i+1) m' σ' H')∧∀ x H',(Itr lo n).yld i H x H'→g x σ H' fun σ2 H2=>tb { D with nx:=N,ct:=N,bk:=D.nx } σ2 H2):=by
 refine⟨fun i m σ H=>m=n-i∧i≤n∧Pv i σ H,⟨n,by simp,Nat.zero_le _,h0⟩,?_⟩
 rintro i m σ H ⟨rfl,hi,p⟩
 by_cases hlt:i<n
 ·refine .inr ⟨hlt,Pv (i+1),fun σ' H' p'=>⟨n-(i+1),by omega,rfl,hlt,p'⟩,fun x H' y=>?_⟩
  obtain⟨e,y⟩:=y
  subst e y
  exact hs i σ _ hlt p
 ·have e:i=n:=by omega
  subst e
  exact .inl ⟨Nat.le_refl _,hd σ H p⟩
end L2
namespace L2
open PySem PySem.Spec PyProof.Rows
abbrev R2:=V→V→Hp→VK→Prop
def OpR (X:Cx) (f:Value→Value→Sem Value) (r:R2):Prop :=
 ∀ (pins:List (Addr×Obj)) (s:Shared) (σ:St) (H:Hp) (x y:V) (v u:Value) (Q:VK),Inv X pins σ H s→RelV x v→RelV y u→r x y H Q →
  wpAny (model X.prog X.w) X.A (f v u) (EP X pins σ Q) X.xe s
noncomputable def UnR (X:Cx) (f:Value→Sem Value) (r:V→Hp→VK→Prop):Prop :=
 ∀ (pins:List (Addr×Obj)) (s:Shared) (σ:St) (H:Hp) (x:V) (v:Value) (Q:VK),Inv X pins σ H s→RelV x v→r x H Q →
  wpAny (model X.prog X.w) X.A (f v) (EP X pins σ Q) X.xe s
noncomputable def yv (X:Cx) (f:Value) (r:List V→Hp→VK→Prop):Prop :=
 ∀ (pins:List (Addr×Obj)) (s:Shared) (σ:St) (H:Hp) (xs:List V) (us:List Value) (Q:VK),Inv X pins σ H s→Vals xs us→r xs H Q →
  wpAny (model X.prog X.w) X.A (call f us) (EP X pins σ Q) X.xe s
def tOp (r:R2) (ta tb:TE):TE:=fun σ H Q=>ta σ H fun x H1=>tb σ H1 fun y H2=>r x y H2 Q
def tUn (r:V→Hp→VK→Prop) (ta:TE):TE:=fun σ H Q=>ta σ H fun x H1=>r x H1 Q
def rI (C:Int→Int→Prop) (g:Int→Int→V):R2:=fun x y H Q=>∃ i j,x=.int i∧y=.int j∧C i j∧Q (g i j) H
def rI0 (g:Int→Int→V):R2:=fun x y H Q=>∃ i j,x=.int i∧y=.int j∧Q (g i j) H
def rU (g:Int→V):V→Hp→VK→Prop:=fun x H Q=>∃ i,x=.int i∧Q (g i) H
section
variable {X:Cx}{a b c:Expr}{ta tb tc:TE}{pos:Pos}
theorem binT (ha:PE X a ta) (hb:PE X b tb){pins:List (Addr×Obj)}{s:Shared}{σ:St}{H:Hp}{R:V→V→Hp→Prop}(I:Inv X pins σ H s)
  (h:ta σ H fun x H1=>tb σ H1 fun y H2=>R x y H2){Q:Value→Shared→Prop}{f:Value→Value→Sem Value}
  (hf:∀ v u s2 x y H2,Inv X pins σ H2 s2→RelV x v→RelV y u→R x y H2→wpAny (model X.prog X.w) X.A (f v u) Q X.xe s2) :
  wpAny (model X.prog X.w) X.A (eval a X.env) (fun v s₁=>wpAny (model X.prog X.w) X.A (eval b X.env) (fun u s₂=>wpAny (model X.prog X.w) X.A (f v u) Q X.xe s₂) X.xe s₁) X.xe s:=by
 refine thn (ha pins s σ H _ I h) fun v s1 hq0=>?_
 obtain⟨x,H1,I1,r1,q1⟩:=hq0
 refine thn (hb pins s1 σ H1 _ I1 q1) fun u s2 hq0=>?_
 obtain⟨y,H2,I2,r2,q2⟩:=hq0
 exact hf v u s2 x y H2 I2 r1 r2 q2
theorem zmz {op:Operator}{r:R2}(ho:OpR X (binaryOp op) r) (ha:PE X a ta) (hb:PE X b tb):PE X (.BinOp a op b pos) (tOp r ta tb):=by
 intro pins s σ H Q I h
 exact wpAny_BinOp (binT ha hb I h fun v u s2 x y H2 I2 rx ry q=>ho pins s2 σ H2 x y v u Q I2 rx ry q)
theorem zfP {op:UnaryOp}{r:V→Hp→VK→Prop}(ho:UnR X (unaryOp op) r) (ha:PE X a ta):PE X (.UnaryOp op a pos) (tUn r ta):=by
 intro pins s σ H Q I h
 exact UnaryOp_ (thn (ha pins s σ H _ I h) fun v s1 ⟨x,H1,I1,r1,q1⟩=>ho pins s1 σ H1 x v Q I1 r1 q1)
theorem opI {f:Value→Value→Sem Value}{C:Int→Int→Prop}{g:Int→Int→Int}
  (rule:∀ (i j:Int) (t u:Tok) (s:Shared) (Q:Value→Shared→Prop) (E:Value→Shared→Prop),C i j→Q (.int (g i j) s.toks) { s with toks:=s.toks+1 }→wpAny (model X.prog X.w) X.A (f (.int i t) (.int j u)) Q E s) :
  OpR X f (rI C fun i j=>.int (g i j)):=by
 intro pins s σ H x y v u Q I rx ry h
 obtain⟨i,j,rfl,rfl,hc,q⟩:=h
 obtain⟨t,rfl⟩:=rx
 obtain⟨t',rfl⟩:=ry
 exact rule i j t t' s _ _ hc ⟨.int (g i j),H,I.tok _,⟨_,rfl⟩,q⟩
theorem zuv {f:Value→Value→Sem Value}{g:Int→Int→Int}
  (rule:∀ (i j:Int) (t u:Tok) (s:Shared) (Q:Value→Shared→Prop) (E:Value→Shared→Prop),Q (.int (g i j) s.toks) { s with toks:=s.toks+1 }→wpAny (model X.prog X.w) X.A (f (.int i t) (.int j u)) Q E s) :
  OpR X f (rI0 fun i j=>.int (g i j)):=by
 intro pins s σ H x y v u Q I rx ry h
 obtain⟨i,j,rfl,rfl,q⟩:=h
 obtain⟨t,rfl⟩:=rx
 obtain⟨t',rfl⟩:=ry
 exact rule i j t t' s _ _ ⟨.int (g i j),H,I.tok _,⟨_,rfl⟩,q⟩
theorem zig {f:Value→Value→Sem Value}{g:Int→Int→Bool}
  (rule:∀ (i j:Int) (t u:Tok) (s:Shared) (Q:Value→Shared→Prop) (E:Value→Shared→Prop),Q (.bool (g i j)) s→wpAny (model X.prog X.w) X.A (f (.int i t) (.int j u)) Q E s) :
  OpR X f (rI0 fun i j=>.bl (g i j)):=by
 intro pins s σ H x y v u Q I rx ry h
 obtain⟨i,j,rfl,rfl,q⟩:=h
 obtain⟨t,rfl⟩:=rx
 obtain⟨t',rfl⟩:=ry
 exact rule i j t t' s _ _ ⟨.bl (g i j),H,I,rfl,q⟩
def zw9 (i j:Int):Prop:=0≤j∧j≤1000000∧i.natAbs<2 ^ 64
def CMul (i j:Int):Prop:=(-(2 ^ 64)<i∧i<2 ^ 64)∨(-(2 ^ 64)<j∧j<2 ^ 64)
theorem CMul.ok {i j:Int}(h:CMul i j):IntMulOk i j:=by
 rcases h with⟨h1,h2⟩ | ⟨h1,h2⟩
 ·exact .of_left (intBits_le_64 h1 h2)
 ·exact .of_right (intBits_le_64 h1 h2)
theorem ye:OpR X (binaryOp .Add) (rI0 fun i j=>.int (i+j)):=zuv fun _ _ _ _ _ _ _ q=>add_int q
theorem yg:OpR X (binaryOp .Sub) (rI0 fun i j=>.int (i-j)):=zuv fun _ _ _ _ _ _ _ q=>sub_int q
theorem wk:OpR X (binaryOp .Mult) (rI CMul fun i j=>.int (i*j)):=opI fun _ _ _ _ _ _ _ hc q=>mul_int q hc.ok
theorem yM:OpR X (binaryOp .Mod) (rI (fun _ j=>0<j) fun i j=>.int (i%j)):=opI fun i j _ _ _ _ _ hc q=>by
 have h1:(0:Int)<j:=hc
 exact mod_int' (by omega) (by rw[Int.fmod_eq_emod_of_nonneg i (by omega)];exact q)
theorem yY:OpR X (binaryOp .Pow) (rI zw9 fun i j=>.int (i ^ j.toNat)):=opI fun _ _ _ _ _ _ _ hc q=>pow_int_small hc.1 hc.2.1 hc.2.2 q
theorem unI {f:Value→Sem Value}{g:Int→Int}
  (rule:∀ (i:Int) (t:Tok) (s:Shared) (Q:Value→Shared→Prop) (E:Value→Shared→Prop),Q (.int (g i) s.toks) { s with toks:=s.toks+1 }→wpAny (model X.prog X.w) X.A (f (.int i t)) Q E s) :
  UnR X f (rU fun i=>.int (g i)):=by
 intro pins s σ H x v Q I rx h
 obtain⟨i,rfl,q⟩:=h
 obtain⟨t,rfl⟩:=rx
 exact rule i t s _ _ ⟨.int (g i),H,I.tok _,⟨_,rfl⟩,q⟩
theorem we:UnR X (unaryOp .USub) (rU fun i=>.int (-i)):=unI fun _ _ _ _ _ q=>neg_int q
end
noncomputable def zup:V→V→Bool
 |.non,.non=>true | .non,.int _=>true | .int _,.non=>true | .non,.bl _=>true | .bl _,.non=>true | .non,.str _=>true | .str _,.non=>true
 |.int _,.int _=>true | .bl _,.bl _=>true | .str _,.str _=>true | .byt _,.byt _=>true
 |.int _,.str _=>true | .str _,.int _=>true | .bl _,.str _=>true | .str _,.bl _=>true
 |_,_=>false
def rEq:R2:=fun x y H Q=>zup x y=true∧Q (.bl (decide (x=y))) H
def rNe:R2:=fun x y H Q=>zup x y=true∧Q (.bl (!decide (x=y))) H
theorem Y7 {i j:Int}:decide (V.int i=V.int j)=(i == j):=by
 rw[Bool.eq_iff_iff]
 simp
theorem W9 {i j:Bool}:decide (V.bl i=V.bl j)=(i == j):=by
 rw[Bool.eq_iff_iff]
 simp
theorem Y6 {i j:Str}:decide (V.str i=V.str j)=(i == j):=by
 rw[Bool.eq_iff_iff]
 simp
theorem Y8 {i j:Array UInt8}:decide (V.byt i=V.byt j)=(i.toList == j.toList):=by
 rw[Bool.eq_iff_iff]
 cases i
 cases j
 simp
section
variable {X:Cx}{a b c:Expr}{ta tb tc:TE}{pos:Pos}
theorem zE {pins:List (Addr×Obj)}{σ:St}{H:Hp}{s:Shared}{Q:VK}{k k':Bool}(I:Inv X pins σ H s) (q:Q (.bl k) H) (e:k=k'):EP X pins σ Q (.bool k') s:=by
 subst e
 exact⟨.bl k,H,I,rfl,q⟩
theorem yd:OpR X (compareOp .Eq) rEq:=by
 intro pins s σ H x y v u Q I rx ry h
 obtain⟨hs,q⟩:=h
 cases x with
 |non =>
  cases rx
  cases y with
  |non=>cases ry;exact PySem.EqNone.eq_none_none (zE I q (by simp))
  |bl j=>cases ry;exact PySem.EqNone.eq_none_bool (zE I q (by simp))
  |int j=>obtain⟨t',rfl⟩:=ry;exact PySem.EqNone.eq_none_int (zE I q (by simp))
  |str j=>obtain⟨t',rfl⟩:=ry;exact PySem.EqNone.eq_none_str (zE I q (by simp))
  |_=>exact absurd (show false=true from hs) Bool.false_ne_true
 |bl i =>
  cases rx
  cases y with
  |non=>cases ry;exact PySem.EqNone.eq_bool_none (zE I q (by simp))
  |bl j=>cases ry;exact eq_bool (zE I q W9)
  |str j=>obtain⟨t',rfl⟩:=ry;exact PySem.EqMixed.eq_bool_str (zE I q (by simp))
  |_=>exact absurd (show false=true from hs) Bool.false_ne_true
 |int i =>
  obtain⟨t,rfl⟩:=rx
  cases y with
  |non=>cases ry;exact PySem.EqNone.eq_int_none (zE I q (by simp))
  |int j=>obtain⟨t',rfl⟩:=ry;exact eq_int (zE I q Y7)
  |str j=>obtain⟨t',rfl⟩:=ry;exact PySem.EqMixed.eq_int_str (zE I q (by simp))
  |_=>exact absurd (show false=true from hs) Bool.false_ne_true
 |str i =>
  obtain⟨t,rfl⟩:=rx
  cases y with
  |non=>cases ry;exact PySem.EqNone.eq_str_none (zE I q (by simp))
  |bl j=>cases ry;exact PySem.EqMixed.eq_str_bool (zE I q (by simp))
  |int j=>obtain⟨t',rfl⟩:=ry;exact PySem.EqMixed.eq_str_int (zE I q (by simp))
  |str j=>obtain⟨t',rfl⟩:=ry;exact eq_str (zE I q Y6)
  |_=>exact absurd (show false=true from hs) Bool.false_ne_true
 |byt i =>
  obtain⟨t,rfl⟩:=rx
  cases y with
  |byt j=>obtain⟨t',rfl⟩:=ry;exact PySem.W.eq_bytes (zE I q Y8)
  |_=>exact absurd (show false=true from hs) Bool.false_ne_true
 |_=>cases y<;>exact absurd (show false=true from hs) Bool.false_ne_true
theorem zfY:OpR X (compareOp .NotEq) rNe:=by
 intro pins s σ H x y v u Q I rx ry h
 obtain⟨hs,q⟩:=h
 cases x with
 |non =>
  cases rx
  cases y with
  |non=>cases ry;exact PySem.EqNone.ne_none_none (zE I q (by simp))
  |bl j=>cases ry;exact PySem.EqNone.ne_none_bool (zE I q (by simp))
  |int j=>obtain⟨t',rfl⟩:=ry;exact PySem.EqNone.ne_none_int (zE I q (by simp))
  |str j=>obtain⟨t',rfl⟩:=ry;exact PySem.EqNone.ne_none_str (zE I q (by simp))
  |_=>exact absurd (show false=true from hs) Bool.false_ne_true
 |bl i =>
  cases rx
  cases y with
  |non=>cases ry;exact PySem.EqNone.ne_bool_none (zE I q (by simp))
  |bl j=>cases ry;exact ne_bool (zE I q (congrArg not W9))
  |str j=>obtain⟨t',rfl⟩:=ry;exact PySem.EqMixed.ne_bool_str (zE I q (by simp))
  |_=>exact absurd (show false=true from hs) Bool.false_ne_true
 |int i =>
  obtain⟨t,rfl⟩:=rx
  cases y with
  |non=>cases ry;exact PySem.EqNone.ne_int_none (zE I q (by simp))
  |int j=>obtain⟨t',rfl⟩:=ry;exact ne_int (zE I q (congrArg not Y7))
  |str j=>obtain⟨t',rfl⟩:=ry;exact PySem.EqMixed.ne_int_str (zE I q (by simp))
  |_=>exact absurd (show false=true from hs) Bool.false_ne_true
 |str i =>
  obtain⟨t,rfl⟩:=rx
  cases y with
  |non=>cases ry;exact PySem.EqNone.ne_str_none (zE I q (by simp))
  |bl j=>cases ry;exact PySem.EqMixed.ne_str_bool (zE I q (by simp))
  |int j=>obtain⟨t',rfl⟩:=ry;exact PySem.EqMixed.ne_str_int (zE I q (by simp))
  |str j=>obtain⟨t',rfl⟩:=ry;exact ne_str (zE I q (congrArg not Y6))
  |_=>exact absurd (show false=true from hs) Bool.false_ne_true
 |byt i =>
  obtain⟨t,rfl⟩:=rx
  cases y with
  |byt j=>obtain⟨t',rfl⟩:=ry;exact PySem.W.ne_bytes (zE I q (congrArg not Y8))
  |_=>exact absurd (show false=true from hs) Bool.false_ne_true
 |_=>cases y<;>exact absurd (show false=true from hs) Bool.false_ne_true
theorem xJ:OpR X (compareOp .Lt) (rI0 fun i j=>.bl (decide (i<j))):=zig fun _ _ _ _ _ _ _ q=>lt_int q
theorem zfZ:OpR X (compareOp .LtE) (rI0 fun i j=>.bl (decide (i≤j))):=zig fun _ _ _ _ _ _ _ q=>le_int q
theorem op_gt:OpR X (compareOp .Gt) (rI0 fun i j=>.bl (decide (j<i))):=zig fun _ _ _ _ _ _ _ q=>gt_int q
theorem VG:OpR X (compareOp .GtE) (rI0 fun i j=>.bl (decide (j≤i))):=zig fun _ _ _ _ _ _ _ q=>ge_int q
theorem VF:OpR X (compareOp .IsNot) (fun x y H Q=>y=.non∧Q (.bl (!decide (x=.non))) H):=by
 intro pins s σ H x y v u Q I rx ry h
 obtain⟨rfl,q⟩:=h
 cases ry
 refine isnot_none_gen (zE I q ?_)
 cases x<;>first
  |(cases rx;rfl)
  |(obtain⟨t,rfl⟩:=rx;rfl)
theorem zo (b:Expr){op:CmpOp}(h:op≠.In:=by decide) (h2:op≠.NotIn:=by decide):behindInMarks op b=false:=by
 have e1:(op == CmpOp.In)=false:=by cases op<;>first | rfl | exact absurd rfl h
 have e2:(op == CmpOp.NotIn)=false:=by cases op<;>first | rfl | exact absurd rfl h2
 cases b<;>simp[behindInMarks,e1,e2]
theorem wF {op:CmpOp}{r:R2}(ho:OpR X (compareOp op) r) (ha:PE X a ta) (hb:PE X b tb) (hm:behindInMarks op b=false):PE X (.Compare a [op] [b] pos) (tOp r ta tb):=by
 intro pins s σ H Q I h
 exact wpAny_Compare1 (binT ha hb I h fun v u s2 x y H2 I2 rx ry q=>ho pins s2 σ H2 x y v u Q I2 rx ry q) hm
def zax (t:TE):TT:=fun σ H Q=>t σ H fun x H'=>∃ k,x=.bl k∧Q k H'
theorem xj {op:CmpOp}{r:R2}(ho:OpR X (compareOp op) r) (ha:PE X a ta) (hb:PE X b tb) (hm:behindInMarks op b=false):PT X (.Compare a [op] [b] pos) (zax (tOp r ta tb)):=by
 intro pins s σ H Q I h
 refine wpAny_isTrue_Compare1 (thn (ha pins s σ H _ I h) fun v s1 ⟨x,H1,I1,r1,q1⟩=>thn (hb pins s1 σ H1 _ I1 q1) fun u s2 ⟨y,H2,I2,r2,q2⟩ =>
  thn (ho pins s2 σ H2 x y v u _ I2 r1 r2 q2) fun c s3 ⟨z,H3,I3,r3,k,e,q3⟩=>?_) hm
 subst e
 cases r3
 exact wpAny_truthy_bool ⟨H3,I3,q3⟩
theorem YT:(sizeLine:Nat)<2 ^ 63:=by rw[sizeLine_eq];decide
theorem vK {x:V}{us:List Value}(r:Vals [x] us):∃ u,us=[u]∧RelV x u:=by
 cases r with
 |cons r1 r2=>cases r2;exact⟨_,rfl,r1⟩
theorem zat {x y:V}{us:List Value}(r:Vals [x,y] us):∃ u w',us=[u,w']∧RelV x u∧RelV y w':=by
 cases r with
 |cons r1 r2 =>
  cases r2 with
  |cons r3 r4=>cases r4;exact⟨_,_,rfl,r1,r3⟩
theorem WA:yv X (.builtin "abs") (fun xs H Q=>∃ i,xs=[.int i]∧Q (.int (if i<0 then -i else i)) H):=by
 intro pins s σ H xs us Q I r h
 obtain⟨i,rfl,q⟩:=h
 obtain⟨u,rfl,t,rfl⟩:=vK r
 exact call_abs_int fun u tk=>⟨.int (if i<0 then -i else i),H,I.tok _,⟨_,rfl⟩,q⟩
theorem vD (hc:X.calm=true):yv X (.builtin "max") (fun xs H Q=>∃ i j,xs=[.int i,.int j]∧Q (.int (if j>i then j else i)) H):=by
 intro pins s σ H xs us Q I r h
 obtain⟨i,j,rfl,q⟩:=h
 obtain⟨u,w',rfl,⟨t,rfl⟩,⟨t',rfl⟩⟩:=zat r
 refine max_two_ints (I.ok.hd hc) fun h' tk k=>⟨_,H,I.kept k,?_,q⟩
 by_cases hj:j>i
 ·rw[if_pos hj,if_pos hj];exact⟨_,rfl⟩
 ·rw[if_neg hj,if_neg hj];exact⟨_,rfl⟩
theorem vC (hc:X.calm=true):yv X (.builtin "min") (fun xs H Q=>∃ i j,xs=[.int i,.int j]∧Q (.int (if j<i then j else i)) H):=by
 intro pins s σ H xs us Q I r h
 obtain⟨i,j,rfl,q⟩:=h
 obtain⟨u,w',rfl,⟨t,rfl⟩,⟨t',rfl⟩⟩:=zat r
 refine min_two_ints (I.ok.hd hc) fun h' tk k=>⟨_,H,I.kept k,?_,q⟩
 by_cases hj:j<i
 ·rw[if_pos hj,if_pos hj];exact⟨_,rfl⟩
 ·rw[if_neg hj,if_neg hj];exact⟨_,rfl⟩
theorem vE:yv X (.type "int") (fun xs H Q=>(∃ i,xs=[.int i]∧Q (.int i) H)∨∃ k,xs=[.bl k]∧Q (.int (if k then 1 else 0)) H):=by
 intro pins s σ H xs us Q I r h
 rcases h with⟨i,rfl,q⟩ | ⟨k,rfl,q⟩
 ·obtain⟨u,rfl,t,rfl⟩:=vK r
  exact call_int_int ⟨.int i,H,I,⟨_,rfl⟩,q⟩
 ·obtain⟨u,rfl,r1⟩:=vK r
  cases r1
  exact call_int_bool ⟨.int (if k then 1 else 0),H,I.tok _,⟨_,rfl⟩,q⟩
theorem xo:yv X (.type "str") (fun xs H Q=>∃ i,xs=[.int i]∧i.natAbs.log2<1920∧Q (.str (toString i)) H):=by
 intro pins s σ H xs us Q I r h
 obtain⟨i,rfl,hz,q⟩:=h
 obtain⟨u,rfl,t,rfl⟩:=vK r
 exact PySem.P.str_of_int hz ⟨.str _,H,I.tok _,⟨_,rfl⟩,q⟩
end
end L2
namespace L2
open PySem PySem.Spec PyProof.Rows
structure ObjM (h:Heap) (x dx C:Addr) (mA:Str→Option Value):Prop where
 obj:h.get? x=some (PySem.W.instObj C dx)
 ns:h.Ns1 dx mA
 ne:dx≠x
theorem YR {h:Heap}{dx:Addr}{mA:Str→Option Value}(n:h.Ns1 dx mA):∃ od,h.get? dx=some od∧∀ name,PySem.W.lookIn name od=some (mA name):=by
 obtain⟨o,es,ep,ho,hd,hk,_,hm⟩:=n
 refine⟨o,ho,fun name=>?_⟩
 have e:=hm name
 unfold nsFind findBy at e
 rw[← Array.find?_toList] at e
 unfold PySem.W.lookIn
 rw[hd]
 dsimp only
 split
 ·rename_i y q
  rw[q] at e
  exact congrArg some e
 ·rename_i q
  rw[q] at e
  have a:es.toList.any (·.refKey)=false:=by
   rw[List.any_eq_false]
   intro y hy
   obtain⟨z,t,hkey⟩:=hk y (Array.mem_toList_iff.mp hy)
   simp[DictEntry.refKey,hkey]
  have a':¬ es.toList.any (·.refKey)=true:=by rw[a];exact Bool.false_ne_true
  rw[if_neg a']
  exact congrArg some e
theorem ObjM.look {h:Heap}{x dx C:Addr}{mA:Str→Option Value}(I:ObjM h x dx C mA):∃ od,PySem.W.InstAt h x (PySem.W.instObj C dx) C (some od)∧∀ name,PySem.W.lookIn name od=some (mA name) :=
 let ⟨od,ho,hl⟩:=YR I.ns
 ⟨od,⟨I.obj,rfl,rfl,ho⟩,hl⟩
section
variable {prog:Program}{w:World}{A:Around}{E:Value→Shared→Prop}{s:Shared}{K:PySem.W.Frag}{x dx C f:Addr}{mA:Str→Option Value}{name:Str}{v:Value}
theorem U5 {expr:Bool}{Q:Value→Shared→Prop}(X:K.In s.heap) (I:ObjM s.heap x dx C mA) (hg:PySem.W.plainGet K C name=true) (hh:PySem.W.hasDictIn K C=true)
  (ha:PySem.W.findIn K (.ref C) name=some none) (hv:mA name=some v) (hv':PySem.W.handedIn v=true) (h:Q v { s with toks:=s.toks+1 }) :
  wpAny (model prog w) A (getAttr (.ref x) name expr) Q E s:=by
 obtain⟨od,J,hl⟩:=I.look
 exact PySem.W.get_value X J (PySem.W.plainGet_of hg).1 (PySem.W.findObj_own hh ha rfl (by rw[hl,hv])) hv' h
theorem Wu {pl:Sem Bool}{Q:Value×List Value→Shared→Prop}(X:K.In s.heap) (I:ObjM s.heap x dx C mA) (hg:PySem.W.plainGet K C name=true)
  (hf:PySem.W.findIn K (.ref C) name=some (some (.ref f))) (ht:PySem.W.isFn K (.ref f)=true) (hv:mA name=none) (h:Q (.ref f,[.ref x]) s) :
  wpAny (model prog w) A (getMethod (.ref x) name pl) Q E s:=by
 obtain⟨od,J,hl⟩:=I.look
 exact PySem.W.method_fn X J (PySem.W.plainGet_of hg).1 (PySem.W.plainGet_of hg).2 hf (beq_iff_eq.mp ht) (by show(PySem.W.lookIn name od).map (·.isSome)=some false;rw[hl,hv];rfl) h
theorem Vh {ns:List Str}{Q:Unit→Shared→Prop}(X:K.In s.heap) (I:ObjM s.heap x dx C mA)
  (hs:PySem.W.findIn K (.ref C) "__setattr__" = some (some (.builtin "object.__setattr__"))) (hp:PySem.W.plainOver K C=true) (ht:PySem.W.takerIn K C name=some none) (hh:PySem.W.hasDictIn K C=true)
  (hw:PySem.Within mA ns) (hsz:ns.length≤sizeLine)
  (h:∀ h',ObjM h' x dx C (fun y=>if y=name then some v else mA y)→Heap.SameBut dx s.heap h'→Q () { s with heap:=h',toks:=s.toks+2 }) :
  wpAny (model prog w) A (setAttr (.ref x) name v) Q E s:=by
 obtain⟨od,J,hl⟩:=I.look
 refine PySem.W.set_plain X J hs (PySem.W.osa_open (s:={ s with toks:=s.toks+1 }) (r:=none) X J hp ht fun b=>?_)
 obtain⟨cd,hc,hd'⟩:=PySem.W.any_some hh
 have hx:s.heap.get? x=some ⟨.ref C,some dx,.plain,#[]⟩:=I.obj
 refine wpAny_bind (wpAny_pure (wpAny_bind (wpAny_bind (wpAny_loadPart hx (wpAny_bind (PySem.W.Looks.here (s:={ s with toks:=s.toks+1 }) (PySem.W.looks_clsIn X hc) ?_))))))
 rw[hd']
 refine wpAny_pure (a:=some dx) (wpAny_bind (wpAny_pure (wpAny_bind ?_)))
 refine wpAny_nsSet1 (s:={ s with toks:=s.toks+1 }) I.ns fun h' hn2 hs2=>?_
 obtain⟨oD,esD,epD,hoD,hdD,hcD⟩:=hn2.count (PySem.Within.cons name v hw)
 refine wpAny_bind (wpAny_lookBehind hoD (by rw[hdD];exact pastItsLine_dict (Nat.le_trans hcD (by rw[List.length_cons];omega))) ?_)
 exact wpAny_pure (h _ ⟨(hs2.2 _ (Ne.symm I.ne)).trans I.obj,hn2,I.ne⟩ hs2)
theorem Wj {R:Result→Shared→Prop}{vs:List Value}{kw:List (Str×Value)}(X:K.In s.heap) (hm:PySem.W.makesIn K C=true)
  (hi:PySem.W.findIn K (.ref C) "__init__" = some (some (.ref f))) (hf:PySem.W.typeIn K (.ref f)=some (.type "function"))
  (h:codeAny (model prog w) (A.under (.builtin "type.__call__" ⟨.ref C::vs,kw⟩)) (.call (.ref f) ⟨.ref (s.heap.objs.size+1)::vs,kw⟩) (PySem.W.InitBack (s.heap.objs.size+1) R)
   { s with heap:=(s.heap.push PySem.W.emptyDict).push (PySem.W.instObj C s.heap.objs.size) }) :
  codeAny (model prog w) A (.call (.ref C) ⟨vs,kw⟩) R s:=by
 obtain⟨hh,g,d,t,os⟩:=s
 exact PySem.W.make_core (PySem.W.makes_of X hm) (PySem.W.looks_findIn X hi) (fun self=>PySem.W.bind_fn X self hf) (.inl rfl) h
end
noncomputable def vH (f:Str) (v:V):List (Str×V)→List (Str×V)
 |[]=>[(f,v)]
 |(g,x)::r=>if g=f then(g,v)::r else(g,x)::vH f v r
theorem xO (f g:Str) (v:V):∀ fs:List (Str×V),(vH f v fs).lookup g=if g=f then some v else fs.lookup g
 |[]=>by
  show List.lookup g [(f,v)]=_
  by_cases h:g=f
  ·have hb:(g == f)=true:=beq_iff_eq.mpr h
   simp only[List.lookup,hb,if_pos h]
  ·have hb:(g == f)=false:=beq_eq_false_iff_ne.mpr h
   simp only[List.lookup,hb,if_neg h]
 |(k,x)::r=>by
  have ih:=xO f g v r
  rw[show vH f v ((k,x)::r)=(if k=f then(k,v)::r else(k,x)::vH f v r) from rfl]
  by_cases hk:k=f
  ·rw[if_pos hk]
   by_cases h:g=k
   ·have hb:(g == k)=true:=beq_iff_eq.mpr h
    simp only[List.lookup,hb,if_pos (h.trans hk)]
   ·have hb:(g == k)=false:=beq_eq_false_iff_ne.mpr h
    simp only[List.lookup,hb,if_neg (fun e:g=f=>h (e.trans hk.symm))]
  ·rw[if_neg hk]
   by_cases h:g=k
   ·have hb:(g == k)=true:=beq_iff_eq.mpr h
    simp only[List.lookup,hb,if_neg (fun e:g=f=>hk (h.symm.trans e))]
   ·have hb:(g == k)=false:=beq_eq_false_iff_ne.mpr h
    simp only[List.lookup,hb]
    exact ih
theorem xQ (f:Str) (v:V):∀ fs:List (Str×V),f∈(vH f v fs).map (·.1)∧∀ g,g∈fs.map (·.1)→g∈(vH f v fs).map (·.1)
 |[]=>⟨by simp[vH],fun g h=>by simp at h⟩
 |(k,x)::r=>by
  obtain⟨i1,i2⟩:=xQ f v r
  rw[show vH f v ((k,x)::r)=(if k=f then(k,v)::r else(k,x)::vH f v r) from rfl]
  by_cases hk:k=f
  ·rw[if_pos hk]
   subst hk
   exact⟨by simp,fun g h=>by simpa using h⟩
  ·rw[if_neg hk]
   refine⟨?_,fun g h=>?_⟩
   ·rw[List.map_cons]
    exact List.mem_cons_of_mem _ i1
   ·rw[List.map_cons] at h ⊢
    rcases List.mem_cons.mp h with e | e
    ·exact List.mem_cons.mpr (.inl e)
    ·exact List.mem_cons_of_mem _ (i2 g e)
theorem xP (f:Str) (v:V):∀ fs:List (Str×V),(vH f v fs).length≤fs.length+1
 |[]=>by simp[vH]
 |(k,x)::r=>by
  have ih:=xP f v r
  rw[show vH f v ((k,x)::r)=(if k=f then(k,v)::r else(k,x)::vH f v r) from rfl]
  by_cases hk:k=f
  ·rw[if_pos hk,List.length_cons,List.length_cons];omega
  ·rw[if_neg hk,List.length_cons,List.length_cons];omega
theorem RelO.some_of {v:V}{o:Option Value}(r:RelO (some v) o):∃ u,o=some u∧RelV v u:=by
 cases o with
 |none=>exact(show False from r).elim
 |some u=>exact⟨u,rfl,r⟩
theorem RelO.none_of {o:Option Value}(r:RelO none o):o=none:=by
 cases o with
 |none=>rfl
 |some u=>exact(show False from r).elim
theorem Y3 {v:V}{u:Value}(r:RelV v u):PySem.W.handedIn u=true:=by
 cases v with
 |non=>cases (show u=Value.none from r);rfl
 |bl b=>cases (show u=Value.bool b from r);rfl
 |int i=>obtain⟨t,e⟩:=(show ∃ t,u=Value.int i t from r);cases e;rfl
 |str x=>obtain⟨t,e⟩:=(show ∃ t,u=Value.str x t from r);cases e;rfl
 |byt b=>obtain⟨t,e⟩:=(show ∃ t,u=Value.bytes b t from r);cases e;rfl
 |flt b=>obtain⟨t,e⟩:=(show ∃ t,u=Value.float b t from r);cases e;rfl
 |ref a=>cases (show u=Value.ref a from r);rfl
 |ty n=>cases (show u=Value.type n from r);rfl
section
variable {P:Program}{w:World}{H H':Hp}{h h':Heap}{a C dx:Addr}{fs fs':List (Str×V)}
theorem wP (hok:HOk P w H h) (e:H a=some (.ins C dx fs)):∃ mA,ObjM h a dx C mA∧(∀ f,RelO (fs.lookup f) (mA f))∧PySem.Within mA (fs.map (·.1))∧fs.length≤1000∧H dx=some (.own a):=by
 obtain⟨d,z,ne,ob,mA,n,r,q⟩:=(show ObjOk P w H h a (.ins C dx fs) from hok a _ e)
 exact⟨mA,⟨ob,n,ne⟩,r,q,z,d⟩
end
structure Cls (K:PySem.W.Frag) (C:Addr):Prop where
 pg:PySem.W.plainGet K C Str.empty=true
 hd:PySem.W.hasDictIn K C=true
 po:PySem.W.plainOver K C=true
 sa:PySem.W.findIn K (.ref C) "__setattr__" = some (some (.builtin "object.__setattr__"))
theorem Cls.get {K:PySem.W.Frag}{C:Addr}(c:Cls K C) (f:Str):PySem.W.plainGet K C f=true:=c.pg
def NoAttr (K:PySem.W.Frag) (C:Addr) (f:Str):Prop:=PySem.W.findIn K (.ref C) f=some none
theorem NoAttr.taker {K:PySem.W.Frag}{C:Addr}{f:Str}(n:NoAttr K C f):PySem.W.takerIn K C f=some none:=by
 unfold PySem.W.takerIn
 rw[show PySem.W.findIn K (.ref C) f=some none from n]
 rfl
structure Meth (K:PySem.W.Frag) (C:Addr) (m:Str) (f:Addr):Prop where
 at_:PySem.W.findIn K (.ref C) m=some (some (.ref f))
 fn:PySem.W.isFn K (.ref f)=true
 kp:PySem.W.keepIn K (.ref f)=true
section
variable {X:Cx}{pins:List (Addr×Obj)}{σ:St}{H:Hp}{s:Shared}{a C dx:Addr}{fs:List (Str×V)}{f:Str}{v:V}{A:Around}{E:Value→Shared→Prop}
theorem u9 {b:Bool}{Q:Value→Shared→Prop}(I:Inv X pins σ H s) (e:H a=some (.ins C dx fs)) (c:Cls X.K C) (n:NoAttr X.K C f) (l:fs.lookup f=some v)
  (h:∀ u s',Inv X pins σ H s'→RelV v u→Q u s'):wpAny (model X.prog X.w) A (getAttr (.ref a) f b) Q E s:=by
 obtain⟨mA,O,r,_,_,_⟩:=wP I.hok e
 obtain⟨u,hu,ru⟩:=RelO.some_of (v:=v) (o:=mA f) (by rw[← l];exact r f)
 exact U5 I.kIn O (c.get f) c.hd n hu (Y3 ru) (h u _ (I.tok _) ru)
theorem yG {m:Str}{g:Addr}{pl:Sem Bool}{Q:Value×List Value→Shared→Prop}(I:Inv X pins σ H s) (e:H a=some (.ins C dx fs)) (c:Cls X.K C) (k:Meth X.K C m g) (l:fs.lookup m=none)
  (h:Q (.ref g,[.ref a]) s):wpAny (model X.prog X.w) A (getMethod (.ref a) m pl) Q E s:=by
 obtain⟨mA,O,r,_,_,_⟩:=wP I.hok e
 have hn:mA m=none:=RelO.none_of (by rw[← l];exact r m)
 exact Wu I.kIn O (c.get m) k.at_ k.fn hn h
theorem uU {y:V}{u:Value}{Q:Unit→Shared→Prop}(I:Inv X pins σ H s) (e:H a=some (.ins C dx fs)) (c:Cls X.K C) (n:NoAttr X.K C f) (hl:fs.length<1000) (ry:RelV y u)
  (h:∀ s',Inv X pins σ (upd H a (.ins C dx (vH f y fs))) s'→Q () s'):wpAny (model X.prog X.w) A (setAttr (.ref a) f u) Q E s:=by
 obtain⟨mA,O,r,wi,_,ho⟩:=wP I.hok e
 have hz:(fs.map (·.1)).length≤sizeLine:=by rw[List.length_map,sizeLine_eq];omega
 refine Vh I.kIn O c.sa c.po n.taker c.hd wi hz fun h' O' sb=>h _ ?_
 have hd:∃ o,h'.get? dx=some o:=let ⟨o,_,_,e',_⟩:=O'.ns;⟨o,e'⟩
 refine I.write (x:=a) (e:=dx) (by rw[e];exact True.intro) (.inr ho) (fun b q hb z=>(sb.2 b hb).trans z) hd ?_
 refine⟨by rw[upd_ne O.ne];exact ho,?_,O.ne,O'.obj,_,O'.ns,fun g=>?_,fun g hg=>?_⟩
 ·have:=xP f y fs;omega
 ·show RelO ((vH f y fs).lookup g) (if g=f then some u else mA g)
  rw[xO]
  by_cases q:g=f
  ·rw[if_pos q,if_pos q];exact ry
  ·rw[if_neg q,if_neg q];exact r g
 ·by_cases q:g=f
  ·rw[q];exact(xQ f y fs).1
  ·refine(xQ f y fs).2 g (wi g fun z=>hg ?_)
   show(if g=f then some u else mA g)=none
   rw[if_neg q];exact z
theorem Inv.made (I:Inv X pins σ H s):Inv X pins σ (upd (upd H s.heap.objs.size (.own (s.heap.objs.size+1))) (s.heap.objs.size+1) (.ins C s.heap.objs.size []))
  { s with heap:=(s.heap.push PySem.W.emptyDict).push (PySem.W.instObj C s.heap.objs.size) }:=by
 have e1:(s.heap.push PySem.W.emptyDict).get? s.heap.objs.size=some PySem.W.emptyDict:=Heap.get?_push_size s.heap rfl
 have e2:((s.heap.push PySem.W.emptyDict).push (PySem.W.instObj C s.heap.objs.size)).get? (s.heap.objs.size+1)=some (PySem.W.instObj C s.heap.objs.size):=by
  have:=Heap.get?_push_size (s.heap.push PySem.W.emptyDict) (o:=PySem.W.instObj C s.heap.objs.size) rfl
  rwa [Heap.size_push] at this
 have e3:(s.heap.push PySem.W.emptyDict).Ns s.heap.objs.size (fun _=>none):=⟨PySem.W.emptyDict,#[],_,e1,rfl,(fun e he=>absurd he (by simp)),fun _=>rfl⟩
 have I1:=I.laid (a:=s.heap.objs.size) (o:=.own (s.heap.objs.size+1)) (h':=s.heap.push PySem.W.emptyDict) (t':=s.toks) (fun b u q=>Heap.get?_push_of_some _ q) (Nat.le_refl _) ⟨_,e1⟩
 refine I1.laid (a:=s.heap.objs.size+1) (o:=.ins C s.heap.objs.size []) (t':=s.toks) (fun b u q=>Heap.get?_push_of_some _ q) (Nat.le_of_eq (Heap.size_push _ _)) ?_
 have ne:s.heap.objs.size≠s.heap.objs.size+1:=Nat.ne_of_lt (Nat.lt_succ_self _)
 refine⟨by rw[upd_ne ne,zd],Nat.zero_le _,ne,e2,fun _=>none,(Heap.Ns1.of_empty e3).at fun o q=>Heap.get?_push_of_some _ q,fun _=>True.intro,fun y hy=>absurd rfl hy⟩
theorem attr_of {prog:Program}{w:World}{env:Env}{e:Expr}{f:Str}{pos:Pos}{s:Shared}{Q:Value→Shared→Prop}(hb:attributeBase e f env (eval e env)=eval e env)
  (h:wpAny (model prog w) A (eval e env) (fun o s₁=>wpAny (model prog w) A (getAttr o f true) Q E s₁) E s):wpAny (model prog w) A (eval (.Attribute e f pos) env) Q E s :=
 Attribute_any_ h (by rw[arm_eval_Attribute,hb])
end
def znT (K:PySem.W.Frag) (ta:TE) (f:Str):TE:=fun σ H Q=>ta σ H fun x H1=>∃ a C dx fs v,x=.ref a∧H1 a=some (.ins C dx fs)∧Cls K C∧NoAttr K C f∧fs.lookup f=some v∧Q v H1
def zus (K:PySem.W.Frag) (ta tv:TE) (f:Str):TS:=fun D σ H=>tv σ H fun y H1=>ta σ H1 fun x H2=>∃ a C dx fs,x=.ref a∧H2 a=some (.ins C dx fs)∧Cls K C∧NoAttr K C f∧fs.length<1000 ∧
 D.nx σ (upd H2 a (.ins C dx (vH f y fs)))
section
variable {X:Cx}{o e value:Expr}{f:Str}{pos pos' tpos:Pos}{ta tv:TE}
theorem zfT (he:PE X e ta) (hb:attributeBase e f X.env (eval e X.env)=eval e X.env):PE X (.Attribute e f pos) (znT X.K ta f):=by
 intro pins s σ H Q I h
 refine attr_of hb (thn (he pins s σ H _ I h) fun u s1 hq0=>?_)
 obtain⟨x,H1,I1,rx,a,C,dx,fs,v,ex,ea,c,n,l,q⟩:=hq0
 subst ex
 obtain rfl:u=Value.ref a:=rx
 exact u9 I1 ea c n l fun u' s2 I2 ru=>⟨v,H1,I2,ru,q⟩
theorem ur (ha:PE X o ta) (hv:PE X value tv) (hs:swapsWith value (some (.Attribute o f pos')) pos.line X.env=pure false):PS X (.Assign [.Attribute o f pos'] value pos) (zus X.K ta tv f):=by
 intro pins s σ H D I h
 refine plainObj_wpAny_Assign_Attribute (thn (hv pins s σ H _ I h) fun u s1 ⟨y,H1,I1,ry,q⟩=>thn (ha pins s1 σ H1 _ I1 q) fun ov s2 hq0=>?_) hs
 obtain⟨x,H2,I2,rx,a,C,dx,fs,ex,ea,c,n,l,q2⟩:=hq0
 subst ex
 obtain rfl:ov=Value.ref a:=rx
 exact uU I2 ea c n l ry fun s3 I3=>⟨σ,_,I3,q2⟩
theorem U1 {pl:Sem Bool}{m:Str}{apos:Pos}{args:List Expr}{pins:List (Addr×Obj)}{s:Shared}{σ:St}{H:Hp}{Q:Value→Shared→Prop}{te:TE}(he:PE X e te) (I:Inv X pins σ H s)
  (h:te σ H fun x H1=>∃ a C dx fs g,x=.ref a∧H1 a=some (.ins C dx fs)∧Cls X.K C∧Meth X.K C m g∧fs.lookup m=none ∧
   ∀ s1,Inv X pins σ H1 s1→wpAny (model X.prog X.w) X.A (callWith pos (.ref g) [.ref a] (backTo pos (starEach args X.env)) (backToKw pos (keywordEach [] X.env))) Q X.xe s1)
  (ht:eval (.Call (.Attribute e m apos) args [] pos) X.env=(do
   let ov ← eval e X.env
   standAt apos.atName
   let (f,first) ← holding [ov] (getMethod ov m pl)
   callWith pos f first (backTo pos (starEach args X.env)) (backToKw pos (keywordEach [] X.env)))) :
  wpAny (model X.prog X.w) X.A (eval (.Call (.Attribute e m apos) args [] pos) X.env) Q X.xe s:=by
 refine PySem.W.methodCall_KW (pl:=pl) (thn (he pins s σ H _ I h) fun u s1 hq0=>?_) ht
 obtain⟨x,H1,I1,rx,a,C,dx,fs,g,ex,ea,c,k,l,q⟩:=hq0
 subst ex
 obtain rfl:u=Value.ref a:=rx
 exact yG I1 ea c k l (q s1 I1)
end
section
variable {X:Cx}{pins:List (Addr×Obj)}{σ:St}{H:Hp}{s:Shared}{A:Around}{E:Value→Shared→Prop}{Q:Value→Shared→Prop}{c:Value}{b:Bool}
inductive TyOf (K:PySem.W.Frag) (H:Hp):V→Value→Prop where
 |non:TyOf K H .non (.type "NoneType")
 |bl (x:Bool):TyOf K H (.bl x) (.type "bool")
 |int (i:Int):TyOf K H (.int i) (.type "int")
 |str (x:Str):TyOf K H (.str x) (.type "str")
 |flt (x:UInt64):TyOf K H (.flt x) (.type "float")
 |lst {a:Addr}{xs:List V}(e:H a=some (.lst xs)):TyOf K H (.ref a) (.type "list")
 |frz {a:Addr}{o:Obj}{xs:List V}(e:H a=some (.frz o (.lst xs))):TyOf K H (.ref a) (.type "list")
 |tup {a:Addr}{xs:List V}(e:H a=some (.tup xs)):TyOf K H (.ref a) (.type "tuple")
 |dK {a:Addr}{kvs:List (Key×V)}(e:H a=some (.dK kvs)):TyOf K H (.ref a) (.type "dict")
 |dT {a:Addr}{kvs:List (List Key×V)}(e:H a=some (.dT kvs)):TyOf K H (.ref a) (.type "dict")
 |ins {a C dx:Addr}{fs:List (Str×V)}(e:H a=some (.ins C dx fs)) (cl:Cls K C) (ha:PySem.W.findIn K (.ref C) "__class__" = some (some (.builtin "object.__class__")))
   (hn:PySem.W.specialIn K (.builtin "object.__class__") "__get__" = some (some (.builtin "getset_descriptor.__get__"))) (htk:PySem.W.takesIn K (.builtin "object.__class__")=some true)
   (hm:PySem.W.mroIn K C (.type "object")=some true):TyOf K H (.ref a) (.ref C)
theorem YX {x:V}{u t:Value}(I:Inv X pins σ H s) (rx:RelV x u) (ty:TyOf X.K H x t) (e:PySem.W.kitOne X.K t c=some b) (h:∀ tk,Q (.bool b) { s with toks:=tk }) :
  wpAny (model X.prog X.w) A (call (.builtin "isinstance") [u,c]) Q E s:=by
 cases ty with
 |non=>cases (show u=Value.none from rx);exact PySem.W.kia_one PySem.W.kitx_none I.kIn True.intro e (fun z=>nomatch z) h
 |bl y=>cases (show u=Value.bool y from rx);exact PySem.W.kia_one PySem.W.kitx_bool I.kIn True.intro e (fun z=>nomatch z) h
 |int i=>obtain⟨t,q⟩:=(show ∃ t,u=Value.int i t from rx);cases q;exact PySem.W.kia_one PySem.W.kitx_int I.kIn True.intro e (fun z=>nomatch z) h
 |str y=>obtain⟨t,q⟩:=(show ∃ t,u=Value.str y t from rx);cases q;exact PySem.W.kia_one PySem.W.kitx_str I.kIn True.intro e (fun z=>nomatch z) h
 |flt y=>obtain⟨t,q⟩:=(show ∃ t,u=Value.float y t from rx);cases q;exact PySem.W.kia_one PySem.W.kitx_float I.kIn True.intro e (fun z=>nomatch z) h
 | @lst a xs ea =>
  cases (show u=Value.ref a from rx)
  obtain⟨_,_,n,_,h1⟩:=(show ObjOk X.prog X.w H s.heap a (.lst xs) from I.hok a _ ea)
  exact PySem.W.kia_one PySem.W.kitx_list I.kIn ⟨_,h1,rfl⟩ e (fun z=>nomatch z) h
 | @frz a ob xs ea =>
  cases (show u=Value.ref a from rx)
  obtain⟨_,_,_,n,_,h1⟩:=(show ObjOk X.prog X.w H s.heap a (.frz ob (.lst xs)) from I.hok a _ ea)
  exact PySem.W.kia_one PySem.W.kitx_list I.kIn ⟨_,h1,rfl⟩ e (fun z=>nomatch z) h
 | @tup a xs ea =>
  cases (show u=Value.ref a from rx)
  obtain⟨_,_,_,p⟩:=(show ObjOk X.prog X.w H s.heap a (.tup xs) from I.hok a _ ea)
  obtain⟨o,h1,h2,_⟩:=p
  exact PySem.W.kia_one PySem.W.kitx_tuple I.kIn ⟨o,h1,h2⟩ e (fun z=>nomatch z) h
 | @dK a kvs ea =>
  cases (show u=Value.ref a from rx)
  obtain⟨_,_,vs,_,p⟩:=(show ObjOk X.prog X.w H s.heap a (.dK kvs) from I.hok a _ ea)
  obtain⟨o,es,ep,h1,h2,_⟩:=p
  exact PySem.W.kia_one PySem.W.kitx_dict I.kIn ⟨o,h1,h2.1⟩ e (fun z=>nomatch z) h
 | @dT a kvs ea =>
  cases (show u=Value.ref a from rx)
  obtain⟨_,_,xs,_,o,es,ep,h1,h2,_⟩:=(show ObjOk X.prog X.w H s.heap a (.dT kvs) from I.hok a _ ea)
  exact PySem.W.kia_one PySem.W.kitx_dict I.kIn ⟨o,h1,h2.1⟩ e (fun z=>nomatch z) h
 | @ins a C dx fs ea cl ha hn htk hm =>
  cases (show u=Value.ref a from rx)
  obtain⟨mA,O,_⟩:=wP I.hok ea
  obtain⟨od,J,_⟩:=O.look
  exact PySem.W.kia_one (PySem.W.kitx_own (cl.get _) cl.hd ha hn htk hm) I.kIn J e (fun z=>nomatch z) h
end
end L2
namespace L2
open PySem PySem.Spec PyProof.Rows
structure Room (k:Nat) (A:Around):Prop where
 hd:A.handled=none
 dp:A.depth+3*k+5<recursionLimit
 un:A.units+16*k+200<cLine
theorem Room.mono {j k:Nat}{A:Around}(r:Room k A) (h:j≤k):Room j A:=⟨r.hd,by have:=r.dp;omega,by have:=r.un;omega⟩
theorem Room.deeper {k:Nat}{A:Around}(r:Room (k+1) A) (env:Env):Room k (A.deeper env) :=
 ⟨r.hd,by have:=r.dp;show A.depth+1+3*k+5<_;omega,by have:=r.un;show A.units+3+16*k+200<_;omega⟩
theorem uZ {A:Around}{C:Addr}{us:List Value}{kw:List (Str×Value)}:(A.under (.builtin "type.__call__" ⟨.ref C::us,kw⟩)).depth=A.depth+1:=by
 first | rfl | simp[Around.under,Code.weight,Code.isCreation,Code.isGuard,Code.isCaller,Code.frames,Code.isFrame,guardIds]
theorem uY {A:Around}{C:Addr}{us:List Value}{kw:List (Str×Value)}:(A.under (.builtin "type.__call__" ⟨.ref C::us,kw⟩)).units=A.units+1:=by
 first | rfl | simp[Around.under,Code.cUnits,Code.frames,Code.isFrame]
theorem Room.make {k:Nat}{A:Around}(r:Room (k+1) A) (C:Addr) (us:List Value) (kw:List (Str×Value)):Room k (A.under (.builtin "type.__call__" ⟨.ref C::us,kw⟩)) :=
 ⟨r.hd,by have:=r.dp;rw[uZ];omega,by have:=r.un;rw[uY];omega⟩
theorem Room.depth {k:Nat}{A:Around}(r:Room k A):A.depth<recursionLimit:=by have:=r.dp;omega
theorem Room.units {k:Nat}{A:Around}(r:Room k A):A.units+64<cLine:=by have:=r.un;omega
def zac:TA:=fun _ H Q=>Q [] H
def xp (ta:TE) (tr:TA):TA:=fun σ H Q=>ta σ H fun x H1=>tr σ H1 fun xs H2=>Q (x::xs) H2
section
variable {X:Cx}{e:Expr}{es:List Expr}{te:TE}{t:TA}{pos:Pos}
theorem zR:PA X [] zac:=fun _ _ _ _ H Q I h=>Calls.spliced_nil ⟨[],H,I,.nil,h⟩
theorem yz (ha:PE X e te) (hr:PA X es t) (hs:starEach (e::es) X.env=(false,eval e X.env)::starEach es X.env:=by rfl):PA X (e::es) (xp te t):=by
 intro pos pins s σ H Q I h
 rw[hs]
 show wpAny _ _ (spliced ((false,eval e X.env)::backTo pos (starEach es X.env))) _ _ s
 refine Calls.spliced_cons (thn (ha pins s σ H _ I h) fun u s1 hq0=>?_)
 obtain⟨x,H1,I1,r1,q1⟩:=hq0
 exact thn (hr pos pins s1 σ H1 _ I1 q1) fun us s2 ⟨xs,H2,I2,r2,q2⟩=>⟨x::xs,H2,I2,.cons r1 r2,q2⟩
def znK (t:TA):TE:=fun σ H Q=>t σ H fun xs H1=>xs.length≤sizeLine∧∀ p,H1 p=none→Q (.ref p) (upd H1 p (.tup xs))
def znQ (t:TA):TE:=fun σ H Q=>t σ H fun xs H1=>xs.length≤sizeLine∧∀ p,H1 p=none→Q (.ref p) (upd H1 p (.lst xs))
theorem zfQ {x1}(h:PA X es t):PE X (.Tuple es x1 pos) (znK t):=by
 intro pins s σ H Q I hq
 refine wpAny_Tuple_spliced (thn (h pos pins s σ H _ I hq) fun us s1 ⟨xs,H1,I1,r,z,q⟩=>⟨by rw[← r.length];exact z,?_⟩)
 have hf:H1 s1.heap.objs.size=none:=I1.hok.fresh (Nat.le_refl _)
 refine⟨.ref s1.heap.objs.size,upd H1 s1.heap.objs.size (.tup xs),I1.laid (t':=s1.toks) (fun b u e=>Heap.get?_push_of_some _ e) (Nat.le_refl _) ?_,rfl,q _ hf⟩
 exact⟨z,us,r,⟨_,Heap.get?_push_size _ rfl,rfl,_,rfl⟩⟩
theorem WQ (h:PA X es t):PE X (.List es pos) (znQ t):=by
 intro pins s σ H Q I hq
 refine wpAny_List_spliced (thn (h pos pins s σ H _ I hq) fun us s1 ⟨xs,H1,I1,r,z,q⟩=>⟨by rw[← r.length];exact z,?_⟩)
 have hf:H1 s1.heap.objs.size=none:=I1.hok.fresh (Nat.le_refl _)
 refine⟨.ref s1.heap.objs.size,upd H1 s1.heap.objs.size (.lst xs),I1.laid (t':=s1.toks) (fun b u e=>Heap.get?_push_of_some _ e) (Nat.le_refl _) ?_,rfl,q _ hf⟩
 exact⟨z,us,0,r,Heap.get?_push_size _ rfl⟩
end
abbrev Sp:=List V→Hp→VK→XK→Prop
abbrev CXT:=List Env→Hp→Shared→XK→Value→Shared→Prop
structure Env0 (P:Program) (w:World) (K:PySem.W.Frag) (mg:Str→Option Value) (base:Heap) (A:Around) (outer:List Env) (s:Shared) (H:Hp):Prop where
 frames:A.frames=some outer
 mod:Mod K mg base
 bs:∀ b o,base.get? b=some o→s.heap.get? b=some o∧H b=none
 bsz:base.objs.size≤s.heap.objs.size
 funs:s.heap.FunFrames base outer
 frf:∀ b∈frs outer,H b=none
 hok:HOk P w H s.heap
 bare:AllBare s.gens
def CE (outer:List Env) (P:Program) (w:World) (H:Hp) (s:Shared) (Q:VK) (u:Value) (s':Shared):Prop :=
 ∃ v H',s'.os=s.os∧AllBare s'.gens∧Un (frs outer) [] H H' s.heap s'.heap∧HOk P w H' s'.heap∧RelV v u∧Q v H'
def CR (CX:CXT) (outer:List Env) (P:Program) (w:World) (H:Hp) (s:Shared) (Q:VK) (E:XK) (r:Result) (s':Shared):Prop :=
 match r with
 |.ok (.ret u)=>CE outer P w H s Q u s'
 |.ok _=>False
 |.error e=>CX outer H s E e s'
structure FnOk (P:Program) (w:World) (K:PySem.W.Frag) (mg:Str→Option Value) (base:Heap) (CX:CXT) (k:Nat) (f:Addr) (fd:FuncData) (ps:List Str) (sp:Sp):Prop where
 len:∀ vs H Q E,sp vs H Q E→vs.length=ps.length
 run:∀ (A:Around) (outer:List Env) (s:Shared) (H:Hp) (args:Args) (us:List Value) (vs:List V) (Q:VK) (E:XK),Room k A→Env0 P w K mg base A outer s H→BindsTo s fd args (ps.zip us)→Vals vs us→sp vs H Q E →
  codeAny (model P w) A (.call (.ref f) args) (CR CX outer P w H s Q E) s
theorem Env0.make {P:Program}{w:World}{K:PySem.W.Frag}{mg:Str→Option Value}{base:Heap}{A:Around}{outer:List Env}{s:Shared}{H:Hp}(e:Env0 P w K mg base A outer s H) (C:Addr) (us:List Value) (kw:List (Str×Value)) :
  Env0 P w K mg base (A.under (.builtin "type.__call__" ⟨.ref C::us,kw⟩)) outer s H:=⟨by first | exact e.frames | (simpa[Around.under,Code.envs,Code.isFrame,pushEnvs] using e.frames),e.mod,e.bs,e.bsz,e.funs,e.frf,e.hok,e.bare⟩
section
variable {X:Cx}{pins:List (Addr×Obj)}{σ:St}{H:Hp}{s s':Shared}
theorem Inv.env0 (I:Inv X pins σ H s):Env0 X.prog X.w X.K X.mg X.base X.A X.stack s H :=
 ⟨I.ok.frames,I.ok.mod,I.bs,Nat.le_trans I.ok.bsz I.sz,I.stack,I.stkFree,I.hok,I.bare⟩
theorem Inv.after {Q:VK}{u:Value}(I:Inv X pins σ H s) (h:CE X.stack X.prog X.w H s Q u s'):EP X pins σ Q u s':=by
 obtain⟨v,H',os,bare,un,hok,r,q⟩:=h
 obtain⟨hh,g,d,t,os'⟩:=s'
 obtain rfl:os'=s.os:=os
 exact⟨v,H',I.call (h':=hh) (g':=g) (d':=d) (t':=t) (ch:=[]) un hok bare (fun b z=>absurd z (by simp)),r,q⟩
end
def Zr (sp:Sp) (dvs:List V) (E:XK) (t:TA):TE:=fun σ H Q=>t σ H fun vs H1=>sp (vs++dvs) H1 Q E
def zaD (C:Addr) (m:Str) (sp:Sp) (dvs:List V) (E:XK) (ta:TE) (t:TA):TE:=fun σ H Q=>ta σ H fun x H1=>∃ a dx fs,x=.ref a∧H1 a=some (.ins C dx fs)∧fs.lookup m=none ∧
 t σ H1 fun vs H2=>sp (x::(vs++dvs)) H2 Q E
def Vd (C:Addr) (sp:Sp) (dvs:List V) (E:XK) (t:TA):TE:=fun σ H Q=>t σ H fun vs H1=>∀ x dx,H1 x=none→H1 dx=none→dx≠x →
 sp (.ref x::(vs++dvs)) (upd (upd H1 dx (.own x)) x (.ins C dx [])) (fun v H2=>v=.non∧Q (.ref x) H2) E
noncomputable def Binds (K:PySem.W.Frag) (fd:FuncData) (ps:List Str) (ds:List Value):Prop :=
 ∀ (s:Shared) (us:List Value),K.In s.heap→(us++ds).length=ps.length→BindsTo s fd ⟨us,[]⟩ (ps.zip (us++ds))
theorem Binds.all {K:PySem.W.Frag}{fd:FuncData}{ps:List Str}(h:∀ us:List Value,us.length=ps.length→bindArgs fd ⟨us,[]⟩=pure (ps.zip us)):Binds K fd ps []:=fun s us _ hl=>by
 rw[List.append_nil] at hl ⊢
 exact .of_eq (h us hl)
def xc (CX:CXT) (X:Cx) (E:XK):Prop:=∀ (pins:List (Addr×Obj)) (σ:St) (H:Hp) (s:Shared) (e:Value) (s':Shared),Inv X pins σ H s→CX X.stack H s E e s'→X.xe e s'
section
variable {X:Cx}{CX:CXT}{k:Nat}{f C:Addr}{fd:FuncData}{ps:List Str}{sp:Sp}{dvs:List V}{ds:List Value}{E:XK}{x m:Str}{p pos apos:Pos}{e o:Expr}{es:List Expr}{ta:TE}{t:TA}
theorem run_fn {pins:List (Addr×Obj)}{σ:St}{H:Hp}{s:Shared}{Q:VK}{us:List Value}{vs:List V}(F:FnOk X.prog X.w X.K X.mg X.base CX k f fd ps sp) (hr:Room k X.A) (hb:Binds X.K fd ps ds) (hd:Vals dvs ds) (hx:xc CX X E)
  (I:Inv X pins σ H s) (r:Vals vs us) (h:sp (vs++dvs) H Q E):wpAny (model X.prog X.w) X.A (call (.ref f) us) (EP X pins σ Q) X.xe s:=by
 have r2:Vals (vs++dvs) (us++ds):=r.append hd
 have hl:(us++ds).length=ps.length:=by rw[← r2.length];exact F.len _ _ _ _ h
 refine wpAny_call (codeAny_mono (F.run X.A X.stack s H ⟨us,[]⟩ (us++ds) (vs++dvs) Q E hr I.env0 (hb s us I.kIn hl) r2 h) fun r s' hq=>?_)
 cases r with
 |error e=>exact hx pins σ H s e s' I hq
 |ok fl =>
  cases fl with
  |ret u=>exact I.after hq
  |next=>exact False.elim hq
  |brk=>exact False.elim hq
  |cont=>exact False.elim hq
theorem VC (F:FnOk X.prog X.w X.K X.mg X.base CX k f fd ps sp) (hr:Room k X.A) (hg:Gl X x) (hm:X.mg x=some (.ref f)) (hk:PySem.W.keepIn X.K (.ref f)=true) (hb:Binds X.K fd ps ds) (hd:Vals dvs ds) (hx:xc CX X E)
  (ha:PA X (e::es) t) (hdb:(x == ("__debug__" : Str))=false:=by decide) (he:starEach (e::es) X.env=(false,eval e X.env)::starEach es X.env:=by rfl) (hpl:(backTo pos (starEach es X.env)).any (·.1)=false:=by rfl) :
  PE X (.Call (.Name x p) (e::es) [] pos) (Zr sp dvs E t):=by
 intro pins s σ H Q I h
 refine wpAny_Call_Name_kw (ld_glob I hg hm ?_ hdb)
 refine PySem.W.callWith_K (h₀:=X.base) I.ok.mod.kin hk (thn (ha pos pins s σ H _ I h) fun us s1 ⟨vs,H1,I1,r,q⟩=>⟨I1.kIn,?_⟩) he hpl
 exact run_fn F hr hb hd hx I1 r q
theorem XT (F:FnOk X.prog X.w X.K X.mg X.base CX k f fd ps sp) (hr:Room k X.A) (hg:Gl X x) (hm:X.mg x=some (.ref f)) (hk:PySem.W.keepIn X.K (.ref f)=true) (hb:Binds X.K fd ps ds) (hd:Vals dvs ds) (hx:xc CX X E)
  (hdb:(x == ("__debug__" : Str))=false:=by decide):PE X (.Call (.Name x p) [] [] pos) (Zr sp dvs E zac):=by
 intro pins s σ H Q I h
 refine wpAny_Call_Name_kw (ld_glob I hg hm ?_ hdb)
 exact PySem.W.callWith_K0 I.kIn hk (run_fn (us:=[]) F hr hb hd hx I .nil h)
theorem Vv {pl:Sem Bool}(he:PE X o ta) (c:Cls X.K C) (hm:Meth X.K C m f) (F:FnOk X.prog X.w X.K X.mg X.base CX k f fd ps sp) (hr:Room k X.A) (hb:Binds X.K fd ps ds) (hd:Vals dvs ds) (hx:xc CX X E) (ha:PA X (e::es) t)
  (hst:starEach (e::es) X.env=(false,eval e X.env)::starEach es X.env:=by rfl) (hpl:(backTo pos (starEach es X.env)).any (·.1)=false:=by rfl)
  (ht:eval (.Call (.Attribute o m apos) (e::es) [] pos) X.env=(do
   let ov ← eval o X.env
   standAt apos.atName
   let (f,first) ← holding [ov] (getMethod ov m pl)
   callWith pos f first (backTo pos (starEach (e::es) X.env)) (backToKw pos (keywordEach [] X.env))):=by rfl) :
  PE X (.Call (.Attribute o m apos) (e::es) [] pos) (zaD C m sp dvs E ta t):=by
 intro pins s σ H Q I h
 refine PySem.W.methodCall_KW (pl:=pl) (thn (he pins s σ H _ I h) fun u s1 hq0=>?_) ht
 obtain⟨x,H1,I1,rx,a,dx,fs,ex,ea,l,q⟩:=hq0
 subst ex
 obtain rfl:u=Value.ref a:=rx
 refine yG I1 ea c hm l ?_
 refine PySem.W.callWith_K (first:=[.ref a]) (h₀:=X.base) I.ok.mod.kin hm.kp (thn (ha pos pins s1 σ H1 _ I1 q) fun us s2 ⟨vs,H2,I2,r,q2⟩=>⟨I2.kIn,?_⟩) hst hpl
 exact run_fn (us:=.ref a::us) (vs:=.ref a::vs) F hr hb hd hx I2 (.cons rfl r) q2
structure Mk (K:PySem.W.Frag) (C f:Addr):Prop where
 makes:PySem.W.makesIn K C=true
 init:PySem.W.findIn K (.ref C) "__init__" = some (some (.ref f))
 fn:PySem.W.isFn K (.ref f)=true
 kp:PySem.W.keepIn K (.ref C)=true
theorem XI {pins:List (Addr×Obj)}{σ:St}{H:Hp}{s:Shared}{Q:VK}{us:List Value}{vs:List V}(M:Mk X.K C f) (F:FnOk X.prog X.w X.K X.mg X.base CX k f fd ps sp) (hr:Room (k+1) X.A) (hb:Binds X.K fd ps ds) (hd:Vals dvs ds)
  (hx:xc CX X E) (I:Inv X pins σ H s) (r:Vals vs us)
  (h:∀ x dx,H x=none→H dx=none→dx≠x→sp (.ref x::(vs++dvs)) (upd (upd H dx (.own x)) x (.ins C dx [])) (fun v H2=>v=.non∧Q (.ref x) H2) E) :
  wpAny (model X.prog X.w) X.A (call (.ref C) us) (EP X pins σ Q) X.xe s:=by
 have hq:=h (s.heap.objs.size+1) s.heap.objs.size (I.hok.fresh (Nat.le_succ _)) (I.hok.fresh (Nat.le_refl _)) (Nat.ne_of_lt (Nat.lt_succ_self _))
 have I2:=Inv.made (C:=C) I
 have r2:Vals (V.ref (s.heap.objs.size+1)::(vs++dvs)) (Value.ref (s.heap.objs.size+1)::(us++ds)):=.cons rfl (r.append hd)
 have hl:(Value.ref (s.heap.objs.size+1)::us++ds).length=ps.length:=by
  have e:=r2.length
  rw[F.len _ _ _ _ hq] at e
  exact e.symm
 refine wpAny_call (Wj (f:=f) I.kIn M.makes M.init (beq_iff_eq.mp M.fn) (codeAny_mono (F.run _ X.stack _ _ ⟨Value.ref (s.heap.objs.size+1)::us,[]⟩ (Value.ref (s.heap.objs.size+1)::(us++ds)) _ _ E (hr.make C us [])
  (I2.env0.make C us []) (hb _ (Value.ref (s.heap.objs.size+1)::us) I2.kIn hl) r2 hq) fun r s' hq'=>?_))
 cases r with
 |error e=>exact hx pins σ _ _ e s' I2 hq'
 |ok fl =>
  cases fl with
  |ret u =>
   obtain⟨v,H',I3,rv,ev,q3⟩:=I2.after hq'
   subst ev
   exact⟨rv,⟨V.ref (s.heap.objs.size+1),H',I3,rfl,q3⟩⟩
  |next=>exact False.elim hq'
  |brk=>exact False.elim hq'
  |cont=>exact False.elim hq'
theorem Vx (M:Mk X.K C f) (F:FnOk X.prog X.w X.K X.mg X.base CX k f fd ps sp) (hr:Room (k+1) X.A) (hg:Gl X x) (hm:X.mg x=some (.ref C)) (hb:Binds X.K fd ps ds) (hd:Vals dvs ds) (hx:xc CX X E)
  (ha:PA X (e::es) t) (hdb:(x == ("__debug__" : Str))=false:=by decide) (he:starEach (e::es) X.env=(false,eval e X.env)::starEach es X.env:=by rfl) (hpl:(backTo pos (starEach es X.env)).any (·.1)=false:=by rfl) :
  PE X (.Call (.Name x p) (e::es) [] pos) (Vd C sp dvs E t):=by
 intro pins s σ H Q I h
 refine wpAny_Call_Name_kw (ld_glob I hg hm ?_ hdb)
 refine PySem.W.callWith_K (h₀:=X.base) I.ok.mod.kin M.kp (thn (ha pos pins s σ H _ I h) fun us s1 ⟨vs,H1,I1,r,q⟩=>⟨I1.kIn,?_⟩) he hpl
 exact XI M F hr hb hd hx I1 r q
end
structure FnScope (N P:List Str) (sc:Scope):Prop where
 kind:sc.kind=.function
 co:sc.isCoroutine=false
 gen:sc.isGenerator=false
 nd:N.Nodup
 pre:N.take P.length=P
 par:∀ x∈P,sc.names.lookup x=some .local∨sc.names.lookup x=some .cell
 nofree:∀ y∈sc.names,y.2≠.free
theorem vF {kindOf:Str→Option NameKind}{x:Str}:∀ {binds:List (Str×Value)}{m:Str→Option Value},(∀ v,(x,v)∉binds)→bindL kindOf binds m x=m x
 |[],_,_=>rfl
 |(n,v)::r,m,h=>by
  unfold bindL
  rw[vF fun w hw=>h w (List.mem_cons_of_mem _ hw)]
  split
  ·have:x≠n:=by rintro rfl;exact h v List.mem_cons_self
   simp[this]
  ·rfl
theorem bindC_out {kindOf:Str→Option NameKind}{x:Str}:∀ {binds:List (Str×Value)}{m:Str→Option Value},(∀ v,(x,v)∉binds)→bindC kindOf binds m x=m x
 |[],_,_=>rfl
 |(n,v)::r,m,h=>by
  unfold bindC
  rw[bindC_out fun w hw=>h w (List.mem_cons_of_mem _ hw)]
  split
  ·rfl
  ·have:x≠n:=by rintro rfl;exact h v List.mem_cons_self
   simp[this]
theorem bindL_get {kindOf:Str→Option NameKind}{x:Str}{v:Value}:∀ {P:List Str}{vs:List Value}{i:Nat}{m:Str→Option Value},P.Nodup→P[i]?=some x→vs[i]?=some v→kindOf x=some .local →
  bindL kindOf (P.zip vs) m x=some v
 |[],_,_,_,_,h,_,_=>by simp at h
 |_::_,[],_,_,_,_,h,_=>by simp at h
 |p::P,w::vs,0,m,nd,h1,h2,hk=>by
  simp at h1 h2;subst h1;subst h2
  show bindL kindOf ((p,w)::P.zip vs) m p=_
  unfold bindL
  rw[vF fun v hv=>(List.nodup_cons.mp nd).1 (List.of_mem_zip hv).1,if_pos hk]
  simp
 |p::P,w::vs,i+1,m,nd,h1,h2,hk=>by
  show bindL kindOf ((p,w)::P.zip vs) m x=_
  unfold bindL
  exact bindL_get (i:=i) (List.nodup_cons.mp nd).2 (by simpa using h1) (by simpa using h2) hk
theorem vG {kindOf:Str→Option NameKind}{x:Str}{v:Value}:∀ {P:List Str}{vs:List Value}{i:Nat}{m:Str→Option Value},P.Nodup→P[i]?=some x→vs[i]?=some v→kindOf x≠some .local →
  bindC kindOf (P.zip vs) m x=some v
 |[],_,_,_,_,h,_,_=>by simp at h
 |_::_,[],_,_,_,_,h,_=>by simp at h
 |p::P,w::vs,0,m,nd,h1,h2,hk=>by
  simp at h1 h2;subst h1;subst h2
  show bindC kindOf ((p,w)::P.zip vs) m p=_
  unfold bindC
  rw[bindC_out fun v hv=>(List.nodup_cons.mp nd).1 (List.of_mem_zip hv).1,if_neg hk]
  simp
 |p::P,w::vs,i+1,m,nd,h1,h2,hk=>by
  show bindC kindOf ((p,w)::P.zip vs) m x=_
  unfold bindC
  exact vG (i:=i) (List.nodup_cons.mp nd).2 (by simpa using h1) (by simpa using h2) hk
noncomputable def start (N:List Str) (vs:List V):St:=vs.map some++List.replicate (N.length-vs.length) none
def zaq (CX:CXT) (P:Program) (w:World) (K:PySem.W.Frag) (mg:Str→Option Value) (base:Heap) (N:List Str) (qual:Str) (scope:Scope) (f:Addr) (cd:Value) (A:Around) (outer:List Env) (s:Shared) (H:Hp) (E:XK):Cx where
 prog:=P
 w:=w
 K:=K
 mg:=mg
 base:=base
 A:=A.deeper (envOfC qual scope s.heap.objs.size f cd)
 N:=N
 s₀:=s
 H₀:=H
 env:=envOfC qual scope s.heap.objs.size f cd
 outer:=outer
 stack:=envOfC qual scope s.heap.objs.size f cd::outer
 ex:=[]
 calm:=true
 fn:=fun _=>true
 pn:=[]
 xe:=fun e s'=>wpAny (model P w) (A.deeper (envOfC qual scope s.heap.objs.size f cd)) (leaving (envOfC qual scope s.heap.objs.size f cd) e) (fun _ s''=>CX outer H s E e s'') (fun e' s''=>CX outer H s E e' s'') s'
theorem uG {sc:Scope}{n:Nat}{x:Str}(h:sc.names.lookup x=some .cell):∃ c,(cellsFrom n sc.names []).lookup x=some c:=by
 have q:=PySem.W.cellsFrom_some sc.names n [] (.inl h)
 exact Option.isSome_iff_exists.mp q
theorem YZ {CX:CXT}{P:Program}{w:World}{K:PySem.W.Frag}{mg:Str→Option Value}{base:Heap}{N ps:List Str}{qual:Str}{scope:Scope}{f:Addr}{cd:Value}{A:Around}{outer:List Env}{s s1:Shared}{H:Hp}{E:XK}{us:List Value}{vs:List V}
  (S:FnScope N ps scope) (hd:A.handled=none) (e0:Env0 P w K mg base A outer s H) (hl:vs.length=ps.length) (r:Vals vs us)
  (x:InCallC s s.heap.objs.size (bindL (envOfC qual scope s.heap.objs.size f cd).kindOf (ps.zip us) fun _=>none) (cellsFrom (s.heap.objs.size+1) scope.names []) (bindC (envOfC qual scope s.heap.objs.size f cd).kindOf (ps.zip us) fun _=>none) s1) :
  Inv (zaq CX P w K mg base N qual scope f cd A outer s H E) [] (start N vs) H s1:=by
 have hpl:ps.length≤N.length:=by have:=congrArg List.length S.pre;rw[List.length_take] at this;omega
 obtain⟨h1,tk,rfl,hk⟩:=x.done
 have noA:∀ b:Addr,b∉(zaq CX P w K mg base N qual scope f cd A outer s H E).ex:=fun b z=>absurd (show b∈([]:List Addr) from z) (by simp)
 refine⟨⟨e0.mod,S.kind,rfl,rfl,Nat.le_refl _,fun y z c h1 h2=>?_,fun y hy=>?_,fun y c _ h=>?_,fun _=>hd,Around.frames_deeper e0.frames,.inr ⟨rfl,rfl⟩,fun b z=>absurd z (noA b),e0.bs,e0.bsz,fun b _ _=>noA b,fun b z=>absurd z (noA b),e0.funs,e0.frf⟩,
  rfl,e0.bare,Un.kept hk,⟨_,x.toInCall.ns,fun i y v h1 h2 h3=>?_⟩,fun y c h=>⟨_,x.cell y c h⟩,e0.hok.fresh (Nat.le_refl _),fun y c h=>?_,fun p hp=>absurd (show p∈([]:List (Addr×Obj)) from hp) (by simp),e0.hok.kept hk,?_⟩
 ·exact name_of_addr x.apart (PySem.mem_of_lookup h1) (PySem.mem_of_lookup h2)
 ·have hy:scope.names.lookup y=some .cell∨scope.names.lookup y=some .free:=hy
  rcases hy with hy | hy
  ·exact uG hy
  ·exact absurd rfl (S.nofree _ (PySem.mem_of_lookup hy))
 ·exact Nat.le_of_lt (x.above y c (PySem.mem_of_lookup h))
 ·have hi:i<vs.length:=by
   unfold start at h2
   by_cases hi:i<vs.length
   ·exact hi
   ·rw[List.getElem?_append_right (by simpa using hi)] at h2
    rw[List.getElem?_replicate] at h2
    split at h2<;>cases h2
  have ha:vs[i]?=some v:=by
   unfold start at h2
   rw[List.getElem?_append_left (by simpa using hi),List.getElem?_map] at h2
   cases e:vs[i]? with
   |none=>rw[e] at h2;cases h2
   |some a=>rw[e] at h2;cases h2;rfl
  obtain⟨u,hu,rv⟩:=r.get ha
  have hp:ps[i]?=some y:=by
   rw[← S.pre,List.getElem?_take_of_lt (by omega)];exact h1
  have ndP:ps.Nodup:=by rw[← S.pre];exact S.nd.sublist (List.take_sublist _ _)
  refine⟨u,rv,?_⟩
  rcases S.par y (List.mem_of_getElem? hp) with k | k
  ·exact .inl ⟨k,bindL_get ndP hp hu k⟩
  ·obtain⟨c,e⟩:=uG (n:=s.heap.objs.size+1) k
   refine .inr ⟨.inl k,c,e,?_⟩
   have q:=x.cell y c e
   rw[vG ndP hp hu (by show scope.names.lookup y≠_;rw[k];decide)] at q
   exact q
 ·exact e0.hok.fresh (Nat.le_of_lt (x.above y c (PySem.mem_of_lookup h)))
 ·unfold start
  show _=N.length
  rw[List.length_append,List.length_map,List.length_replicate]
  omega
theorem znB {CX:CXT}{P:Program}{w:World}{K:PySem.W.Frag}{mg:Str→Option Value}{base:Heap}{k:Nat}{f:Addr}{name qual:Str}{params:Arguments}{body:List Stmt}{scope:Scope}{dV kV doc pm cdv ct oc:Value}{an od:Option Addr}
  {osl:Array (Option Value)}{N ps:List Str}{sp:Sp}(lk:K.lookup f=some ⟨oc,od,.func (PySem.W.fnOf name qual params body scope dV kV doc pm an cdv ct),osl⟩) (hcd:PySem.W.codeIn K cdv qual=true) (S:FnScope N ps scope)
  (len:∀ vs H Q E,sp vs H Q E→vs.length=ps.length)
  (hbody:∀ (A:Around) (outer:List Env) (s:Shared) (H:Hp) (vs:List V) (Q:VK) (E:XK),Room k (A.deeper (envOfC qual scope s.heap.objs.size f cdv))→sp vs H Q E →
   ∃ t,PSs (zaq CX P w K mg base N qual scope f cdv A outer s H E) body t∧t { nx:=fun _ H'=>Q .non H',rt:=Q } (start N vs) H) :
  FnOk P w K mg base CX (k+1) f (PySem.W.fnOf name qual params body scope dV kV doc pm an cdv ct) ps sp:=by
 refine⟨len,fun A outer s H args us vs Q E hr e0 hb r hsp=>?_⟩
 have hl:=len _ _ _ _ hsp
 have KX:K.In s.heap:=e0.mod.kin.keeps fun b o e=>(e0.bs b o e).1
 have lim:s.heap.NoLimit:=e0.mod.nolimit.keeps fun b o e=>(e0.bs b o e).1
 have hkind:∀ y∈ps.zip us,scope.names.lookup y.1=some .local∨(scope.names.lookup y.1=some .cell∧((cellsFrom (s.heap.objs.size+1) scope.names []).lookup y.1).isSome=true):=fun⟨n,v⟩ hy=>by
  rcases S.par n (List.of_mem_zip hy).1 with q | q
  ·exact .inl q
  ·exact .inr ⟨q,PySem.W.cellsFrom_some _ _ _ (.inl q)⟩
 refine codeAny_call_function hr.depth (KX _ _ lk) rfl S.co S.gen rfl (PySem.W.codeRec_of KX hcd) (hb _ _ _ _ ?_)
 refine wpAny_newFunctionEnv_cells S.kind hkind fun env he s1 x=>?_
 subst he
 refine⟨lim.keeps x.toInCall.keep,codeAny_func ?_⟩
 obtain⟨t,ht,hq⟩:=hbody A outer s H vs Q E (hr.deeper _) hsp
 have I:Inv (zaq CX P w K mg base N qual scope f cdv A outer s H E) [] (start N vs) H s1:=YZ S hr.hd e0 hl r x
 refine wpAny_mono (ht [] s1 (start N vs) H _ I hq) (fun fl s' hs=>?_) fun e s' hs=>hs
 have fin:∀ {σ':St}{H':Hp}{v:V}{u:Value},Inv (zaq CX P w K mg base N qual scope f cdv A outer s H E) [] σ' H' s'→RelV v u→Q v H'→CE outer P w H s Q u s' :=
  fun {σ' H' v u} J rv q=>⟨v,H',J.os,J.bare,J.base,J.hok,rv,q⟩
 cases fl with
 |ret u =>
  obtain⟨v,σ',H',J,rv,q⟩:=hs
  exact fin J rv q
 |next =>
  obtain⟨σ',H',J,q⟩:=hs
  exact fin (v:=V.non) (u:=Value.none) J rfl q
 |brk =>
  obtain⟨_,_,_,q⟩:=hs
  exact False.elim q
 |cont =>
  obtain⟨_,_,_,q⟩:=hs
  exact False.elim q
end L2
namespace L2
open PySem PySem.Spec PyProof.Rows
section
variable {X:Cx}{x:Str}{p pos:Pos}{e:Expr}{es:List Expr}{t:TA}{id T:String}{r:List V→Hp→VK→Prop}
def tCB (r:List V→Hp→VK→Prop) (t:TA):TE:=fun σ H Q=>t σ H fun vs H1=>r vs H1 Q
theorem zY (hc:yv X (.builtin id) r) (hg:Gl X x) (hm:X.mg x=none) (hv:bootBuiltins x=some (.builtin id)) (ha:PA X (e::es) t) (hn:x ≠ "__name__" := by decide) (hdb:(x == ("__debug__" : Str))=false:=by decide)
  (he:starEach (e::es) X.env=(false,eval e X.env)::starEach es X.env:=by rfl) (hpl:(backTo pos (starEach es X.env)).any (·.1)=false:=by rfl):PE X (.Call (.Name x p) (e::es) [] pos) (tCB r t):=by
 intro pins s σ H Q I h
 refine wpAny_Call_Name_kw (ld_blt I hg hm hv ?_ hn hdb)
 exact PyProof.Rows.callWith_builtin1 (thn (ha pos pins s σ H _ I h) fun us s1 ⟨vs,H1,I1,r1,q1⟩=>hc pins s1 σ H1 vs us Q I1 r1 q1) he hpl
theorem vk (hc:yv X (.type T) r) (hg:Gl X x) (hm:X.mg x=none) (hv:bootBuiltins x=some (.type T)) (ha:PA X (e::es) t) (hn:x ≠ "__name__" := by decide) (hdb:(x == ("__debug__" : Str))=false:=by decide)
  (he:starEach (e::es) X.env=(false,eval e X.env)::starEach es X.env:=by rfl) (hpl:(backTo pos (starEach es X.env)).any (·.1)=false:=by rfl):PE X (.Call (.Name x p) (e::es) [] pos) (tCB r t):=by
 intro pins s σ H Q I h
 refine wpAny_Call_Name_kw (ld_blt I hg hm hv ?_ hn hdb)
 exact PyProof.Rows.callWith_type1 (thn (ha pos pins s σ H _ I h) fun us s1 ⟨vs,H1,I1,r1,q1⟩=>hc pins s1 σ H1 vs us Q I1 r1 q1) he hpl
end
end L2
namespace HT
open PySem PyProof.Rows
section
variable {prog:Program}{w:World}{A:Around}{E:Value→Shared→Prop}{s:Shared}
theorem cat_tup {t b:Addr}{vs ws:List Value}{Q:Value→Shared→Prop}(ht:IsTup s.heap t vs.toArray) (hb:IsTup s.heap b ws.toArray) (hv:vs≠[])
  (h1:ws=[]→Q (.ref t) s) (h2:ws≠[]→Q (.ref s.heap.objs.size) { s with heap:=s.heap.push { cls:=.type "tuple",data:=.seq (vs++ws).toArray } })
  (hsz:vs.length+ws.length≤sizeLine):wpAny (model prog w) A (binaryOp .Add (.ref t) (.ref b)) Q E s:=by
 obtain⟨⟨cls,dd,data,sl⟩,ho,hc,n,hd⟩:=id ht
 obtain⟨⟨cls2,dd2,data2,sl2⟩,ho2,hc2,n2,hd2⟩:=id hb
 simp only at hc hd hc2 hd2
 subst hc hd hc2 hd2
 have e:vs.toArray++ws.toArray=(vs++ws).toArray:=by simp
 by_cases hw:ws=[]
 ·exact concat_meets ⟨_,ho,rfl⟩ ⟨_,ho2,rfl⟩ noFill_tuple_add seq_tuple_add PySem.F.slot_tuple_add PySem.F.entry_tuple_add (PySem.F.args_tuple_add_2 _ _)
   (tuple_addW1 t b vs.toArray ws.toArray n n2 dd dd2 sl sl2 (by simpa using hv) (by simp[hw])) ⟨ho,ho2,h1 hw⟩
 ·refine concat_meets ⟨_,ho,rfl⟩ ⟨_,ho2,rfl⟩ noFill_tuple_add seq_tuple_add PySem.F.slot_tuple_add PySem.F.entry_tuple_add (PySem.F.args_tuple_add_2 _ _)
   (tuple_addW2 t b vs.toArray ws.toArray n n2 dd dd2 sl sl2 (by simpa using hv) (by simpa using hw) (by rw[List.size_toArray,List.size_toArray];exact hsz)) ⟨ho,ho2,?_⟩
  rw[e]
  exact h2 hw
noncomputable def sIx (n d:Nat):Option Int→Nat
 |none=>d
 |some v=>if v<0 then(v+(n:Int)).toNat else min v.toNat n
theorem sIx_nat (n d k:Nat):sIx n d (some (k:Int))=min k n:=by
 show(if (k:Int)<0 then((k:Int)+(n:Int)).toNat else min (k:Int).toNat n)=min k n
 rw[if_neg (by omega),Int.toNat_natCast]
end
end HT
namespace L2
open PySem PySem.Spec PyProof.Rows
abbrev TO:=St→Hp→(Option Int→Hp→Prop)→Prop
noncomputable def PO (X:Cx) (e:Option Expr) (t:TO):Prop :=
 ∀ (pins:List (Addr×Obj)) (s:Shared) (σ:St) (H:Hp) (Q:Option Int→Hp→Prop),Inv X pins σ H s→t σ H Q →
  wpAny (model X.prog X.w) X.A (evalPart e X.env) (fun u s'=>∃ o H',Inv X pins σ H' s'∧IsPart u o∧Q o H') X.xe s
def Zq:TO:=fun _ H Q=>Q none H
def zaz (t:TE):TO:=fun σ H Q=>t σ H fun x H1=>∃ i,x=.int i∧Q (some i) H1
section
variable {X:Cx}{e:Expr}{te:TE}{lo hi:Option Expr}{tl th:TO}{pos p2:Pos}
theorem Vt:PO X none Zq:=by
 intro pins s σ H Q I h
 rw[evalPart_none]
 exact wpAny_pure ⟨none,H,I,.none,h⟩
theorem po_some (h:PE X e te):PO X (some e) (zaz te):=by
 intro pins s σ H Q I hw
 rw[evalPart_some]
 refine thn (h pins s σ H _ I hw) fun u s1 hq0=>?_
 obtain⟨x,H1,I1,r1,q1⟩:=hq0
 obtain⟨i,rfl,q⟩:=q1
 obtain⟨t,rfl⟩:=r1
 exact⟨some i,H1,I1,.int i t,q⟩
noncomputable def SlR (X:Cx) (r:V→Option Int→Option Int→Hp→VK→Prop):Prop :=
 ∀ (pins:List (Addr×Obj)) (s:Shared) (σ:St) (H:Hp) (x:V) (v vl vu:Value) (lo hi:Option Int) (sl:Addr) (Q:VK),Inv X pins σ H s→RelV x v→s.heap.IsSliceOf sl vl vu .none→IsPart vl lo→IsPart vu hi→r x lo hi H Q →
  ∃ T id,typeLookup (.type T) "__getitem__" = pure (some (.builtin id))∧s.TypeIs v T∧wpAny (model X.prog X.w) X.A (getItem v (.ref sl)) (EP X pins σ Q) X.xe s
def tSl (r:V→Option Int→Option Int→Hp→VK→Prop) (te:TE) (tl th:TO):TE:=fun σ H Q=>te σ H fun x H1=>tl σ H1 fun l H2=>th σ H2 fun u H3=>r x l u H3 Q
theorem XQ {r:V→Option Int→Option Int→Hp→VK→Prop}(hr:SlR X r) (he:PE X e te) (hl:PO X lo tl) (hu:PO X hi th):PE X (.Subscript e (.Slice lo hi none p2) pos) (tSl r te tl th):=by
 intro pins s σ H Q I h
 refine Subscript_ (thn (he pins s σ H _ I h) fun v s1 hq0=>?_)
 obtain⟨x,H1,I1,r1,q1⟩:=hq0
 refine wpAny_Slice (thn (hl pins s1 σ H1 _ I1 q1) fun vl s2 ⟨l,H2,I2,pl,q2⟩=>thn (hu pins s2 σ H2 _ I2 q2) fun vu s3 hq0=>?_)
 obtain⟨u,H3,I3,pu,q3⟩:=hq0
 rw[evalPart_none]
 refine wpAny_pure ?_
 have I4:Inv X pins σ H3 { s3 with heap:=s3.heap.push { cls:=.type "slice",data:=.fields #[vl,vu,.none] } }:=I3.kept (t':=s3.toks) fun b ob q=>Heap.get?_push_of_some _ q
 obtain⟨T,id,hT,ht,hg⟩:=hr pins { s3 with heap:=s3.heap.push { cls:=.type "slice",data:=.fields #[vl,vu,.none] } } σ H3 x v vl vu l u s3.heap.objs.size Q I4 r1 (Heap.IsSliceOf.new ..) pl pu q3
 show wpAny (model X.prog X.w) X.A (subscriptTail e (.Slice lo hi none p2) v (.ref s3.heap.objs.size)) (EP X pins σ Q) X.xe { s3 with heap:=s3.heap.push { cls:=.type "slice",data:=.fields #[vl,vu,.none] } }
 exact tail_any (ops:=[.ref s3.heap.objs.size,v]) ht hT hg (by with_unfolding_all rfl)
noncomputable def cutV (xs:List V) (lo hi:Option Int):List V:=(xs.drop (HT.sIx xs.length 0 lo)).take (HT.sIx xs.length xs.length hi-HT.sIx xs.length 0 lo)
theorem yS (xs:List V) (lo hi:Option Int):(cutV xs lo hi).length≤xs.length:=by
 unfold cutV
 rw[List.length_take,List.length_drop]
 omega
def zmt (K:PySem.W.Frag):R2:=fun x y H Q=>∃ a b xs ys,x=.ref a∧y=.ref b∧SqT K H a xs∧SqT K H b ys∧xs≠[]∧xs.length+ys.length≤sizeLine ∧
 (ys=[]→Q (.ref a) H)∧(ys≠[]→∀ p,H p=none→Q (.ref p) (upd H p (.tup (xs++ys))))
theorem Vals.nil_iff {xs:List V}{us:List Value}(r:Vals xs us):us=[]↔xs=[]:=by
 cases r with
 |nil=>simp
 |cons _ _=>simp
theorem VH:OpR X (binaryOp .Add) (zmt X.K):=by
 intro pins s σ H x y v u Q I rx ry h
 obtain⟨a,b,xs,ys,rfl,rfl,ha,hb,hx,hz,q1,q2⟩:=h
 cases rx
 cases ry
 obtain⟨its,r1,p1,_⟩:=I.tuple ha
 obtain⟨its2,r2,p2,_⟩:=I.tuple hb
 refine HT.cat_tup p1 p2 (fun z=>hx (r1.nil_iff.mp z)) (fun z=>⟨.ref a,H,I,rfl,q1 (r2.nil_iff.mp z)⟩) (fun z=>?_) (by rw[← r1.length,← r2.length];exact hz)
 refine⟨.ref s.heap.objs.size,_,I.laid (t':=s.toks) (o:=.tup (xs++ys)) (fun b ob q=>Heap.get?_push_of_some _ q) (Nat.le_refl _) ?_,rfl,q2 (fun w=>z (r2.nil_iff.mpr w)) _ (I.hok.fresh (Nat.le_refl _))⟩
 exact⟨by rw[List.length_append];exact hz,_,r1.append r2,IsTup.new _ _⟩
end
end L2
namespace L2
open PySem PySem.Spec PyProof.Rows
noncomputable def ixN (n:Nat) (i:Int):Option Nat:=if 0≤i then(if i<n then some i.toNat else none) else if -(n:Int)≤i then some (i+n).toNat else none
noncomputable def atI {α:Type}(xs:List α) (i:Int):Option α:=(ixN xs.length i).bind fun j=>xs[j]?
theorem U4 {n:Nat}{i:Int}{j:Nat}(h:ixN n i=some j):seqIndex? i n=some j∧j<n∧-(n:Int)≤i∧i<n:=by
 unfold ixN at h
 by_cases h0:0≤i
 ·rw[if_pos h0] at h
  by_cases h1:i<n
  ·rw[if_pos h1] at h
   have e:i.toNat=j:=Option.some.inj h
   exact⟨by rw[seqIndex_of h0 h1,e],by omega,by omega,h1⟩
  ·rw[if_neg h1] at h;cases h
 ·rw[if_neg h0] at h
  by_cases h1 : -(n:Int)≤i
  ·rw[if_pos h1] at h
   have e:(i+n).toNat=j:=Option.some.inj h
   exact⟨by rw[seqIndex_neg (by omega) h1,e],by omega,h1,by omega⟩
  ·rw[if_neg h1] at h;cases h
theorem Xj {α:Type}{xs:List α}{i:Int}{v:α}(h:atI xs i=some v):∃ j,seqIndex? i xs.length=some j∧xs[j]?=some v∧j<xs.length∧-(xs.length:Int)≤i∧i<xs.length:=by
 unfold atI at h
 cases e:ixN xs.length i with
 |none=>rw[e] at h;cases h
 |some j =>
  rw[e] at h
  obtain⟨h1,h2,h3,h4⟩:=U4 e
  exact⟨j,h1,h,h2,h3,h4⟩
theorem xY {α:Type}{xs:List α}{j:Nat}{v:α}(h:xs[j]?=some v):atI xs (j:Int)=some v:=by
 have hj:j<xs.length:=(List.getElem?_eq_some_iff.mp h).1
 have e:ixN xs.length (j:Int)=some j:=by
  unfold ixN
  rw[if_pos (by omega),if_pos (by omega)];simp
 unfold atI;rw[e];exact h
def Xn (b:Expr):Prop:=∀ o i,subscripted b false o i=operate [o,i] (getItem o i)
def IxR (X:Cx) (r:R2):Prop :=
 ∀ (value slice:Expr) (pins:List (Addr×Obj)) (s:Shared) (σ:St) (H:Hp) (x y:V) (v u:Value) (Q:VK),Inv X pins σ H s→RelV x v→RelV y u→r x y H Q →
  subscripted slice false v u=operate [v,u] (getItem v u)→wpAny (model X.prog X.w) X.A (subscriptTail value slice v u) (EP X pins σ Q) X.xe s
noncomputable def MtR (X:Cx) (id:String) (r:V→List V→Hp→VK→Prop):Prop :=
 ∀ (pins:List (Addr×Obj)) (s:Shared) (σ:St) (H:Hp) (x:V) (xs:List V) (v:Value) (us:List Value) (Q:VK),Inv X pins σ H s→RelV x v→Vals xs us→r x xs H Q →
  wpAny (model X.prog X.w) X.A (call (.builtin id) (v::us)) (EP X pins σ Q) X.xe s
section
variable {X:Cx}{a b:Expr}{ta tb:TE}{pos:Pos}
theorem vQ {r:R2}(hr:IxR X r) (ha:PE X a ta) (hb:PE X b tb) (hs:Xn b):PE X (.Subscript a b pos) (tOp r ta tb):=by
 intro pins s σ H Q I h
 exact Subscript_ (binT ha hb I h fun v u s2 x y H2 I2 rx ry q=>hr a b pins s2 σ H2 x y v u Q I2 rx ry q (hs _ _))
def zwy (K:PySem.W.Frag):R2:=fun x y H Q=>∃ p xs i v,x=.ref p∧y=.int i∧SqL K H p xs∧atI xs i=some v∧Q v H
def zwx (K:PySem.W.Frag):R2:=fun x y H Q=>∃ p xs i v,x=.ref p∧y=.int i∧SqT K H p xs∧atI xs i=some v∧Q v H
theorem zD:IxR X (zwy X.K):=by
 intro value slice pins s σ H x y v u Q I rx ry h hs
 obtain⟨p,xs,i,z,rfl,rfl,hq,he,q⟩:=h
 cases rx
 obtain⟨t,rfl⟩:=ry
 obtain⟨its,r,pl,hz⟩:=I.list hq
 obtain⟨j,h1,h2,h3,h4,h5⟩:=Xj he
 obtain⟨w,ew,rw'⟩:=r.get h2
 have hl:=r.length
 have hn:=YT
 have fin:EP X pins σ Q w s:=⟨z,H,I,rw',q⟩
 by_cases h0:0≤i
 ·have hj:i.toNat=j:=by
   rw[seqIndex_of h0 h5] at h1
   exact Option.some.inj h1
  exact item_listR pl.isList h0 (by omega) (by rw[hj];simpa using ew) fin hs
 ·have hj:(i+(its.toArray.size:Int)).toNat=j:=by
   rw[seqIndex_neg (by omega) h4] at h1
   rw[List.size_toArray,← hl]
   exact Option.some.inj h1
  exact subscriptTail_builtinR (x:=w) pl.isList.typeIs slot_list_getitem.lookup
   (wpAny_getItem_list_neg (Q:=fun r s'=>r=w∧EP X pins σ Q r s') pl.isList (by omega) (by rw[List.size_toArray]<;>omega) (by omega) (by rw[hj];simpa using ew) ⟨rfl,fin⟩) hs
theorem zw:IxR X (zwx X.K):=by
 intro value slice pins s σ H x y v u Q I rx ry h hs
 obtain⟨p,xs,i,z,rfl,rfl,hq,he,q⟩:=h
 cases rx
 obtain⟨t,rfl⟩:=ry
 obtain⟨its,r,pl,hz⟩:=I.tuple hq
 obtain⟨j,h1,h2,h3,h4,h5⟩:=Xj he
 obtain⟨w,ew,rw'⟩:=r.get h2
 have hl:=r.length
 have hn:=YT
 have fin:EP X pins σ Q w s:=⟨z,H,I,rw',q⟩
 exact subscriptTail_builtinR (x:=w) pl.typeIs slot_tuple_getitem.lookup
  (getItem_tuple (j:=j) (Q:=fun r s'=>r=w∧EP X pins σ Q r s') pl (by omega) (by omega) (by rw[List.size_toArray,← hl];exact h1) (by simpa using ew) ⟨rfl,fin⟩) hs
theorem ve (lo hi:Option Int) (n:Nat):(sliceBounds lo hi none n).1=((HT.sIx n 0 lo:Nat):Int)∧(sliceBounds lo hi none n).2.1=((HT.sIx n n hi:Nat):Int)∧(sliceBounds lo hi none n).2.2=1:=by
 refine⟨?_,?_,rfl⟩
 ·cases lo with
  |none=>simp[sliceBounds,HT.sIx]
  |some i =>
   simp only[sliceBounds,HT.sIx,Option.getD_none,show(1:Int)>0 by decide,if_true]
   by_cases h:i<0
   ·simp only[h,if_true]<;>omega
   ·simp only[h,if_false]<;>omega
 ·cases hi with
  |none=>simp[sliceBounds,HT.sIx]
  |some i =>
   simp only[sliceBounds,HT.sIx,Option.getD_none,show(1:Int)>0 by decide,if_true]
   by_cases h:i<0
   ·simp only[h,if_true]<;>omega
   ·simp only[h,if_false]<;>omega
theorem wz (its:List Value) (lo hi:Option Int):slicePick its.toArray lo hi none=((its.drop (HT.sIx its.length 0 lo)).take (HT.sIx its.length its.length hi-HT.sIx its.length 0 lo)).toArray:=by
 obtain⟨h1,h2,h3⟩:=ve lo hi its.toArray.size
 unfold slicePick
 rw[h1,h2,h3]
 simp only[sliceRange_one,pick_run,List.size_toArray]<;>rfl
def zwv (K:PySem.W.Frag):V→Option Int→Option Int→Hp→VK→Prop:=fun x lo hi H Q=>∃ a xs,x=.ref a∧SqL K H a xs∧∀ p,H p=none→Q (.ref p) (upd H p (.lst (cutV xs lo hi)))
theorem wA:SlR X (zwv X.K):=by
 intro pins s σ H x v vl vu lo hi sl Q I rx hs pl pu h
 obtain⟨a,xs,rfl,hx,q⟩:=h
 cases rx
 obtain⟨its,r,ht,hz⟩:=I.list hx
 have hlen:=r.length
 refine⟨"list",_,slot_list_getitem.lookup,ht.isList.typeIs,?_⟩
 refine wpAny_getItem_list_slice ht.isList hs pl pu .none (by simp) ?_ (by rw[List.size_toArray]<;>omega)
 rw[wz,← hlen]
 refine⟨.ref s.heap.objs.size,_,I.laid (t':=s.toks) (o:=.lst (cutV xs lo hi)) (fun b ob q=>Heap.get?_push_of_some _ q) (Nat.le_refl _) ?_,rfl,q _ (I.hok.fresh (Nat.le_refl _))⟩
 exact⟨Nat.le_trans (yS xs lo hi) hz,_,0,(r.drop (HT.sIx xs.length 0 lo)).take (HT.sIx xs.length xs.length hi-HT.sIx xs.length 0 lo),Heap.get?_push_size _ rfl⟩
noncomputable def yR:V→Bool
 |.non=>true
 |.bl _=>true
 |.int _=>true
 |.str _=>true
 |_=>false
noncomputable def eqV:V→V→Bool
 |.non,.non=>true
 |.bl a,.bl b=>a == b
 |.bl a,.int b=>(if a then 1 else 0) == b
 |.int a,.bl b=>a == (if b then 1 else 0)
 |.int a,.int b=>a == b
 |.str a,.str b=>a == b
 |_,_=>false
theorem eqAt_V {A:Around}{s:Shared}{y x:V}{u v:Value}(ry:RelV y u) (rx:RelV x v) (fy:yR y=true) (fx:yR x=true):SeqAt.EqAt A s u v (eqV y x):=by
 cases y with
 |non =>
  cases ry
  cases x with
  |non=>cases rx;exact SeqAt.EqAt.same _
  |bl b=>cases rx;exact SeqAt.EqAt.none_bool b
  |int b=>obtain⟨t,rfl⟩:=rx;exact SeqAt.EqAt.none_int b t
  |str b=>obtain⟨t,rfl⟩:=rx;exact SeqAt.EqAt.none_str b t
  |_=>exact absurd (show false=true from fx) Bool.false_ne_true
 |bl a =>
  cases ry
  cases x with
  |non=>cases rx;exact SeqAt.EqAt.bool_none a
  |bl b=>cases rx;exact SeqAt.EqAt.bool_bool a b
  |int b=>obtain⟨t,rfl⟩:=rx;exact SeqAt.EqAt.bool_int a b t
  |str b=>obtain⟨t,rfl⟩:=rx;exact SeqAt.EqAt.bool_str a b t
  |_=>exact absurd (show false=true from fx) Bool.false_ne_true
 |int a =>
  obtain⟨t',rfl⟩:=ry
  cases x with
  |non=>cases rx;exact SeqAt.EqAt.int_none a t'
  |bl b=>cases rx;exact SeqAt.EqAt.int_bool a t' b
  |int b=>obtain⟨t,rfl⟩:=rx;exact SeqAt.EqAt.int_int a t' b t
  |str b=>obtain⟨t,rfl⟩:=rx;exact SeqAt.EqAt.int_str a t' b t
  |_=>exact absurd (show false=true from fx) Bool.false_ne_true
 |str a =>
  obtain⟨t',rfl⟩:=ry
  cases x with
  |non=>cases rx;exact SeqAt.EqAt.str_none a t'
  |bl b=>cases rx;exact SeqAt.EqAt.str_bool a t' b
  |int b=>obtain⟨t,rfl⟩:=rx;exact SeqAt.EqAt.str_int a t' b t
  |str b=>obtain⟨t,rfl⟩:=rx;exact SeqAt.EqAt.str_str a t' b t
  |_=>exact absurd (show false=true from fx) Bool.false_ne_true
 |_=>exact absurd (show false=true from fy) Bool.false_ne_true
noncomputable def eqU (x:V) (u:Value):Bool:=match u with
 |.none=>eqV .non x
 |.bool b=>eqV (.bl b) x
 |.int i _=>eqV (.int i) x
 |.str z _=>eqV (.str z) x
 |_=>false
theorem W8 {x y:V}{u:Value}(r:RelV y u) (f:yR y=true):eqU x u=eqV y x:=by
 cases y with
 |non=>cases r;rfl
 |bl b=>cases r;rfl
 |int i=>obtain⟨t,rfl⟩:=r;rfl
 |str z=>obtain⟨t,rfl⟩:=r;rfl
 |_=>exact absurd (show false=true from f) Bool.false_ne_true
theorem ub {x:V}:∀ {xs:List V}{us:List Value},Vals xs us→xs.all yR=true→us.any (eqU x)=xs.any fun y=>eqV y x
 |_,_,.nil,_=>rfl
 |y::xs,u::us,.cons r t,f=>by
  rw[List.all_cons,Bool.and_eq_true] at f
  rw[List.any_cons,List.any_cons,W8 r f.1,ub t f.2]
theorem wO {A:Around}{s:Shared}{x:V}{v:Value}(rx:RelV x v) (fx:yR x=true):∀ {xs:List V}{us:List Value},Vals xs us→xs.all yR=true→∀ u∈us,SeqAt.EqAt A s u v (eqU x u)
 |_,_,.nil,_=>fun u hu=>by cases hu
 |y::xs,u::us,.cons r t,f=>fun u' hu=>by
  rw[List.all_cons,Bool.and_eq_true] at f
  rcases List.mem_cons.mp hu with rfl | hu
  ·rw[W8 r f.1];exact eqAt_V r rx f.1 fx
  ·exact wO rx fx t f.2 u' hu
noncomputable def inV (x:V) (xs:List V):Bool:=xs.any fun y=>eqV y x
def rIn (K:PySem.W.Frag) (neg:Bool):R2:=fun x y H Q=>∃ p xs,y=.ref p∧(SqL K H p xs∨SqT K H p xs)∧yR x=true∧xs.all yR=true∧Q (.bl (if neg then !inV x xs else inV x xs)) H
theorem xK:OpR X (compareOp .In) (rIn X.K false):=by
 intro pins s σ H x y v u Q I rx ry h
 obtain⟨p,xs,rfl,hq,fx,fs,q⟩:=h
 cases ry
 rcases hq with hq | hq
 ·obtain⟨its,r,pl,hz⟩:=I.list hq
  refine SeqAt.in_listAt (eqU x) pl.isList (fun w hw=>wO rx fx r fs w (by simpa using hw)) ⟨.bl _,H,I,rfl,?_⟩
  rw[show its.toArray.any (eqU x)=its.any (eqU x) by simp,ub r fs]
  exact q
 ·obtain⟨its,r,pl,hz⟩:=I.tuple hq
  refine SeqAt.in_tupleAt (eqU x) pl (fun w hw=>wO rx fx r fs w (by simpa using hw)) ⟨.bl _,H,I,rfl,?_⟩
  rw[show its.toArray.any (eqU x)=its.any (eqU x) by simp,ub r fs]
  exact q
theorem zl:yv X (.builtin "len") (fun xs H Q=>∃ p ys,xs=[.ref p]∧(SqL X.K H p ys∨SqT X.K H p ys)∧Q (.int ys.length) H):=by
 intro pins s σ H xs us Q I r h
 obtain⟨p,ys,rfl,hq,q⟩:=h
 obtain⟨u,rfl,rx⟩:=vK r
 cases rx
 have hn:=YT
 rcases hq with hq | hq
 ·obtain⟨its,r',pl,hz⟩:=I.list hq
  have hlen:=r'.length
  exact Calls.call_len_list pl.isList (by simp only[List.size_toArray]<;>omega) ⟨.int ys.length,H,I.tok _,⟨s.toks+1,by rw[List.size_toArray,hlen]⟩,q⟩
 ·obtain⟨its,r',pl,hz⟩:=I.tuple hq
  have hlen:=r'.length
  exact len_tuple pl (by simp only[List.size_toArray]<;>omega) ⟨.int ys.length,H,I.tok _,⟨s.toks+1,by rw[List.size_toArray,hlen]⟩,q⟩
theorem yC:yv X (.type "list") (fun xs H Q=>∃ p ys,xs=[.ref p]∧(SqL X.K H p ys∨SqT X.K H p ys)∧∀ l,H l=none→Q (.ref l) (upd H l (.lst ys))):=by
 intro pins s σ H xs us Q I r h
 obtain⟨p,ys,rfl,hq,q⟩:=h
 obtain⟨u,rfl,rx⟩:=vK r
 cases rx
 have fin:∀ (its:List Value),Vals ys its→ys.length≤sizeLine→∀ (h':Heap) (c':Nat),(∀ b o',s.heap.get? b=some o'→h'.get? b=some o') →
   h'.get? s.heap.objs.size=some { cls:=.type "list",dict:=none,data:=.seq its.toArray c',slots:=#[] }→EP X pins σ Q (.ref s.heap.objs.size) { s with heap:=h' }:=fun its r' hz h' c' kp e =>
  ⟨.ref s.heap.objs.size,_,I.laid (t':=s.toks) kp (Nat.le_refl _) (show ObjOk X.prog X.w _ h' _ (.lst ys) from⟨hz,its,c',r',e⟩),rfl,q _ (I.hok.fresh (Nat.le_refl _))⟩
 rcases hq with hq | hq
 ·obtain⟨its,r',pl,hz⟩:=I.list hq
  have hlen:=r'.length
  obtain⟨o,ho,hc,n,hd⟩:=pl.isList
  exact call_list_seq p (.inl rfl) ho hc hd (fun h' c' kp e=>fin its r' hz h' c' kp e) (by simp only[List.size_toArray]<;>omega)
 ·obtain⟨its,r',pl,hz⟩:=I.tuple hq
  have hlen:=r'.length
  obtain⟨o,ho,hc,n,hd⟩:=pl
  exact call_list_seq p (.inr rfl) ho hc hd (fun h' c' kp e=>fin its r' hz h' c' kp e) (by simp only[List.size_toArray]<;>omega)
theorem wS:yv X (.type "tuple") (fun xs H Q=>∃ p ys,xs=[.ref p]∧((SqL X.K H p ys∧∀ l,H l=none→Q (.ref l) (upd H l (.tup ys)))∨(SqT X.K H p ys∧Q (.ref p) H))):=by
 intro pins s σ H xs us Q I r h
 obtain⟨p,ys,rfl,h⟩:=h
 obtain⟨u,rfl,rx⟩:=vK r
 cases rx
 rcases h with⟨hq,q⟩ | ⟨hq,q⟩
 ·obtain⟨its,r',pl,hz⟩:=I.list hq
  have hlen:=r'.length
  refine call_tuple_list pl.isList (fun h' kp=>?_) (by simp only[List.size_toArray]<;>omega)
  have I1:Inv X pins σ H { s with heap:=h' }:=I.kept (t':=s.toks) kp
  have I2:Inv X pins σ (upd H h'.objs.size (.tup ys)) { s with heap:=h'.push { cls:=.type "tuple",data:=.seq its.toArray } } :=
   I1.laid (t':=s.toks) (fun b o e=>Heap.get?_push_of_some _ e) (Nat.le_refl _) (show ObjOk X.prog X.w _ _ _ (.tup ys) from⟨hz,its,r',IsTup.new _ _⟩)
  exact⟨.ref h'.objs.size,_,I2,rfl,q _ (I1.hok.fresh (Nat.le_refl _))⟩
 ·obtain⟨its,r',pl,hz⟩:=I.tuple hq
  exact call_tuple_same pl ⟨.ref p,H,I,rfl,q⟩
def tyV (K:PySem.W.Frag) (T:String) (x:V) (H:Hp):Prop:=match x with
 |.str _=>T = "str"
 |.int _=>T = "int"
 |.ref p=>(T = "list" ∧ ∃ xs,SqL K H p xs)∨(T = "tuple" ∧ ∃ o,K.lookup p=some o∧o.cls=.type "tuple" ∧ o.dict=none) ∨
   (T = "dict" ∧ ((∃ kvs,H p=some (.dK kvs))∨∃ kvs,H p=some (.dT kvs)))∨(T = "set" ∧ ∃ S n,H p=some (.set S n))
 |_=>False
theorem WD {pins:List (Addr×Obj)}{σ:St}{H:Hp}{s:Shared}{T:String}{x:V}{v:Value}(I:Inv X pins σ H s) (r:RelV x v) (ty:tyV X.K T x H) :
  s.TypeIs v T∧∀ a,v=.ref a→∃ ob,s.heap.get? a=some ob∧ob.dict=none:=by
 cases x with
 |str z =>
  obtain⟨t,rfl⟩:=r
  cases (show T = "str" from ty)
  exact⟨typeIs_str s z t,fun _ e=>nomatch e⟩
 |int i =>
  obtain⟨t,rfl⟩:=r
  cases (show T = "int" from ty)
  exact⟨typeIs_int s i t,fun _ e=>nomatch e⟩
 |ref p =>
  cases r
  rcases ty with⟨rfl,xs,hq⟩ | ⟨rfl,o,hk,hc,hd⟩ | ⟨rfl,hk⟩ | ⟨rfl,S,n,hk⟩
  ·obtain⟨its,_,pl,_⟩:=I.list hq
   refine⟨pl.isList.typeIs,fun a e=>?_⟩
   cases e
   obtain⟨o,n,e,c,hd,_⟩:=pl
   exact⟨o,e,hd⟩
  ·refine⟨⟨o,I.kIn p o hk,hc⟩,fun a e=>?_⟩
   cases e
   exact⟨o,I.kIn _ o hk,hd⟩
  ·have z:∃ o,s.heap.get? p=some o∧o.ExactDict:=by
    rcases hk with⟨kvs,hk⟩ | ⟨kvs,hk⟩
    ·obtain⟨_,_,_,_,o,_,_,e,ex,_⟩:=I.hok p _ hk
     exact⟨o,e,ex⟩
    ·obtain⟨_,_,_,_,o,_,_,e,ex,_⟩:=I.hok p _ hk
     exact⟨o,e,ex⟩
   obtain⟨o,e,ex⟩:=z
   refine⟨⟨o,e,ex.1⟩,fun a e2=>?_⟩
   cases e2
   exact⟨o,e,ex.2.1⟩
  ·obtain⟨o,_,_,_,e,ex,_⟩:=I.hok p _ hk
   refine⟨⟨o,e,ex.1⟩,fun a e2=>?_⟩
   cases e2
   exact⟨o,e,ex.2.1⟩
 |_=>exact False.elim ty
def znV (K:PySem.W.Frag) (T:String) (r:V→List V→Hp→VK→Prop) (to:TE):TE:=fun σ H Q=>to σ H fun x H1=>tyV K T x H1∧r x [] H1 Q
def tBM (K:PySem.W.Frag) (T:String) (r:V→List V→Hp→VK→Prop) (to:TE) (t:TA):TE:=fun σ H Q=>to σ H fun x H1=>tyV K T x H1∧t σ H1 fun xs H2=>r x xs H2 Q
variable {o e:Expr}{es:List Expr}{to:TE}{t:TA}{name:Str}{apos cpos:Pos}{T id:String}{r:V→List V→Hp→VK→Prop}
theorem zfW (pa:PlainAttrs T) (slot:Slot T name id) (hty:typeOf (.builtin id)=pure (.type "method_descriptor")) (hm:MtR X id r) (ho:PE X o to)
  (hbase:attributeBase o name X.env (eval o X.env)=eval o X.env:=by rfl) (hline:(apos.endLine == cpos.line)=true:=by rfl):PE X (.Call (.Attribute o name apos) [] [] cpos) (znV X.K T r to):=by
 intro pins s σ H Q I h
 refine wpAny_Call_method0_late hbase hline (thn (ho pins s σ H _ I h) fun v s1 hq0=>?_)
 obtain⟨x,H1,I1,r1,ty,q1⟩:=hq0
 obtain⟨h1,h2⟩:=WD I1 r1 ty
 exact⟨T,id,pa,slot,hty,h1,h2,Calls.callWith_builtin rfl (PySem.evalArgs_none (hm pins s1 σ H1 x [] v [] Q I1 r1 .nil q1))⟩
theorem VD (pa:PlainAttrs T) (slot:Slot T name id) (hty:typeOf (.builtin id)=pure (.type "method_descriptor")) (hm:MtR X id r) (ho:PE X o to) (ha:PA X (e::es) t)
  (hbase:attributeBase o name X.env (eval o X.env)=eval o X.env:=by rfl)
  (hfew:((backTo cpos (starEach (e::es) X.env)).all (fun x=>!x.1)&&(backToKw cpos (keywordEach [] X.env)).all (fun x=>x.1.isSome)
   && decide ((e::es).length+([]:List Keyword).length+(if ([]:List Keyword).isEmpty then 0 else 1)<30))=true:=by rfl)
  (hline:(apos.endLine == cpos.line)=true:=by rfl) (hs:starEach (e::es) X.env=(false,eval e X.env)::starEach es X.env:=by rfl) (hplain:(backTo cpos (starEach es X.env)).any (·.1)=false:=by rfl) :
  PE X (.Call (.Attribute o name apos) (e::es) [] cpos) (tBM X.K T r to t):=by
 intro pins s σ H Q I h
 refine wpAny_Call_method_late hbase hfew hline rfl (thn (ho pins s σ H _ I h) fun v s1 hq0=>?_)
 obtain⟨x,H1,I1,r1,ty,q1⟩:=hq0
 obtain⟨h1,h2⟩:=WD I1 r1 ty
 refine⟨T,id,pa,slot,hty,h1,h2,?_⟩
 have hA:=ha cpos pins s1 σ H1 _ I1 q1
 rw[hs] at hA ⊢
 refine Calls.callWith_builtin (by show(false||(backTo cpos (starEach es X.env)).any (·.1))=false;rw[hplain]<;>rfl) (Calls.evalArgs_plain ?_)
 exact thn hA fun us s2 ⟨vs,H2,I2,r2,q2⟩=>hm pins s2 σ H2 x vs v us Q I2 r1 r2 q2
end
end L2
namespace L2
open PySem PySem.Spec PyProof.Rows
noncomputable def MtM (X:Cx) (id:String) (r:V→List V→Hp→VK→Prop):Prop :=
 ∀ (pins:List (Addr×Obj)) (s:Shared) (σ:St) (H:Hp) (x:V) (xs:List V) (v:Value) (us:List Value) (Q:VK),Inv X pins σ H s→RelV x v→Vals xs us→r x xs H Q →
  wpAny (model X.prog X.w) X.A (call (.builtin id) (v::us)) (EP X pins σ Q) X.xe s
theorem Vals.one:∀ {x:V}{us:List Value},Vals [x] us→∃ u,us=[u]∧RelV x u
 |_,_,.cons r .nil=>⟨_,rfl,r⟩
theorem Vals.two:∀ {x y:V}{us:List Value},Vals [x,y] us→∃ u v,us=[u,v]∧RelV x u∧RelV y v
 |_,_,_,.cons r (.cons q .nil)=>⟨_,_,rfl,r,q⟩
theorem Vals.zero:∀ {us:List Value},Vals [] us→us=[]
 |_,.nil=>rfl
theorem Vals.dropLast {xs:List V}{us:List Value}(h:Vals xs us):Vals xs.dropLast us.dropLast:=by
 induction h with
 |nil=>exact .nil
 |cons r t ih =>
  cases t with
  |nil=>exact .nil
  |cons q t'=>exact .cons r ih
theorem Vals.eraseIdx:∀ {xs:List V}{us:List Value}(i:Nat),Vals xs us→Vals (xs.eraseIdx i) (us.eraseIdx i)
 |_,_,_,.nil=>.nil
 |_,_,0,.cons _ t=>t
 |_,_,i+1,.cons r t=>.cons r (Vals.eraseIdx i t)
theorem Za {α:Type}(l:List α):l.eraseIdx (l.length-1)=l.dropLast:=by
 induction l with
 |nil=>rfl
 |cons a r ih =>
  cases r with
  |nil=>rfl
  |cons b r =>
   have e:(a::b::r).length-1=((b::r).length-1)+1:=by
    have h1:(a::b::r).length=r.length+2:=rfl
    have h2:(b::r).length=r.length+1:=rfl
    omega
   rw[e,List.eraseIdx_cons_succ,ih]
   all_goals rfl
theorem vv {α:Type}:∀ (l:List α) (i:Nat),(l.eraseIdx i).length≤l.length
 |[],_=>Nat.le_refl _
 |_::_,0=>Nat.le_succ _
 |_::r,i+1=>Nat.succ_le_succ (vv r i)
section
variable {X:Cx}{pins:List (Addr×Obj)}{σ:St}{H:Hp}{s:Shared}{l b:Addr}{xs ys zs:List V}
theorem Inv.lset {its its':List Value}{n:Nat}{f:Array Value→Array Value}{t':Nat}(I:Inv X pins σ H s) (hH:H l=some (.lst xs))
  (e:s.heap.get? l=some { cls:=.type "list",data:=.seq its.toArray n }) (hf:f its.toArray=its'.toArray) (hv:Vals ys its') (hz:ys.length≤sizeLine) :
  Inv X pins σ (upd H l (.lst ys)) { s with heap:=s.heap.update l (Obj.mapSeq f),toks:=t' }:=by
 have q:=PySem.IsL.update e f
 rw[hf] at q
 refine I.write (x:=l) (e:=l) (by rw[hH];exact trivial) (.inl rfl) (fun b' u hb hu=>(Heap.get?_update_other s.heap (Obj.mapSeq f) (Ne.symm hb)).trans hu) ⟨_,q⟩ ?_
 exact⟨hz,its',_,hv,q⟩
theorem Inv.lnew {its:List Value}{t':Nat}(I:Inv X pins σ H s) (hv:Vals ys its) (hz:ys.length≤sizeLine) :
  Inv X pins σ (upd H s.heap.objs.size (.lst ys)) { s with heap:=s.heap.push { cls:=.type "list",data:=.seq its.toArray },toks:=t' } :=
 I.laid (fun _ _ q=>Heap.get?_push_of_some _ q) (Nat.le_refl _) ⟨hz,its,0,hv,Heap.get?_push_size _ rfl⟩
theorem Inv.fresh (I:Inv X pins σ H s):H s.heap.objs.size=none:=I.hok.fresh (Nat.le_refl _)
theorem Inv.lstM (I:Inv X pins σ H s) (hH:H l=some (.lst xs)):xs.length≤sizeLine∧∃ (its:List Value) (n:Nat),Vals xs its∧xs.length=its.length∧s.heap.get? l=some { cls:=.type "list",data:=.seq its.toArray n }:=by
 obtain⟨z,its,n,r,e⟩:=I.hok l _ hH
 exact⟨z,its,n,r,r.length,e⟩
theorem X9 {n:Nat}(h:n≤sizeLine):Builtin.List.listTooLong n=false:=by
 unfold Builtin.List.listTooLong
 exact decide_eq_false (by omega)
end
section
variable {X:Cx}
def Vl:V→List V→Hp→VK→Prop:=fun x vs H Q=>∃ l xs y,x=.ref l∧vs=[y]∧H l=some (.lst xs)∧xs.length<sizeLine∧Q .non (upd H l (.lst (xs++[y])))
theorem zH:MtM X "list.append" Vl:=by
 intro pins s σ H x vs v us Q I rx rv h
 obtain⟨l,xs,y,rfl,rfl,hH,hz,q⟩:=h
 cases rx
 obtain⟨u,rfl,ru⟩:=rv.one
 obtain⟨z,its,n,r,hl,e⟩:=I.lstM hH
 refine call_meets F.slot_list_append ⟨_,e,rfl⟩ F.entry_list_append (F.args_list_append_2 _ _) (PySem.list_append l its.toArray n u (by rw[List.size_toArray];omega)) ⟨e,?_⟩
 refine⟨.non,_,I.lset (its':=its++[u]) hH e (by simp) (r.append (.cons ru .nil)) ?_,rfl,q⟩
 rw[List.length_append,List.length_singleton]
 omega
def Vk:V→List V→Hp→VK→Prop:=fun x vs H Q=>∃ l b xs zs,x=.ref l∧vs=[.ref b]∧H l=some (.lst xs)∧H b=some (.lst zs)∧xs.length+zs.length≤sizeLine∧Q .non (upd H l (.lst (xs++zs)))
theorem zhT:MtM X "list.extend" Vk:=by
 intro pins s σ H x vs v us Q I rx rv h
 obtain⟨l,b,xs,zs,rfl,rfl,hH,hB,hz,q⟩:=h
 cases rx
 obtain⟨u,rfl,ru⟩:=rv.one
 cases ru
 obtain⟨z,its,n,r,hl,e⟩:=I.lstM hH
 obtain⟨z2,its2,n2,r2,hl2,e2⟩:=I.lstM hB
 have hsz:its.toArray.size+its2.toArray.size≤sizeLine:=by rw[List.size_toArray,List.size_toArray];omega
 have hlong:¬ (!its.toArray.isEmpty&&Builtin.List.listTooLong (its.toArray.size+its2.toArray.size))=true:=by
  rw[X9 hsz,Bool.and_false]
  exact Bool.false_ne_true
 refine call_meets F.slot_list_extend ⟨_,e,rfl⟩ F.entry_list_extend (F.args_list_extend_2 _ _)
  (AutoSeq1.list_extend_list_list_0 l its.toArray n b its2.toArray n2 hlong (by rw[List.size_toArray];omega) (by omega)) ⟨e,e2,?_⟩
 refine⟨.non,_,I.lset (its':=its++its2) hH e (by simp) (r.append r2) ?_,rfl,q⟩
 rw[List.length_append]
 omega
def zww:V→List V→Hp→VK→Prop:=fun x vs H Q=>∃ l xs y,x=.ref l∧vs=[]∧H l=some (.lst xs)∧xs[xs.length-1]?=some y∧Q y (upd H l (.lst xs.dropLast))
theorem zvX:MtM X "list.pop" zww:=by
 intro pins s σ H x vs v us Q I rx rv h
 obtain⟨l,xs,y,rfl,rfl,hH,hy,q⟩:=h
 cases rx
 have hus:=rv.zero
 subst hus
 obtain⟨z,its,n,r,hl,e⟩:=I.lstM hH
 obtain⟨u,hu,ru⟩:=r.get hy
 have hy':its.toArray[its.toArray.size-1]?=some u:=by
  show its.toArray[its.length-1]?=some u
  rw[← Array.getElem?_toList,← hl]
  exact hu
 refine call_meets F.slot_list_pop ⟨_,e,rfl⟩ F.entry_list_pop (F.args_list_pop_1 _) (MeetsSeq.list_pop_last l its.toArray n u hy' (by rw[List.size_toArray];omega)) ⟨e,?_⟩
 refine⟨y,_,I.lset (its':=its.dropLast) hH e ?_ r.dropLast ?_,ru,q⟩
 ·show its.toArray.eraseIdxIfInBounds (its.toArray.size-1)=its.dropLast.toArray
  rw[List.size_toArray,List.eraseIdxIfInBounds_toArray,Za]
 ·rw[List.length_dropLast]
  omega
def zfF:V→List V→Hp→VK→Prop:=fun x vs H Q=>∃ l xs i k y,x=.ref l∧vs=[.int i]∧H l=some (.lst xs)∧-(2 ^ 63)≤i∧i<2 ^ 63∧seqIndex? i xs.length=some k∧xs[k]?=some y∧Q y (upd H l (.lst (xs.eraseIdx k)))
theorem Wd:MtM X "list.pop" zfF:=by
 intro pins s σ H x vs v us Q I rx rv h
 obtain⟨l,xs,i,k,y,rfl,rfl,hH,h1,h2,hk,hy,q⟩:=h
 cases rx
 obtain⟨u,rfl,ru⟩:=rv.one
 obtain⟨t,rfl⟩:=ru
 obtain⟨z,its,n,r,hl,e⟩:=I.lstM hH
 obtain⟨w,hw,rw'⟩:=r.get hy
 refine call_meets F.slot_list_pop ⟨_,e,rfl⟩ F.entry_list_pop (F.args_list_pop_2 _ _)
  (MeetsSeq.list_pop_at l its.toArray n i t k w (fitsIndex_both h1 h2) (by rw[List.size_toArray,← hl];exact hk) (by rw[← Array.getElem?_toList];exact hw) (by rw[List.size_toArray];omega)) ⟨e,?_⟩
 refine⟨y,_,I.lset (its':=its.eraseIdx k) hH e ?_ (r.eraseIdx k) ?_,rw',q⟩
 ·show its.toArray.eraseIdxIfInBounds k=(its.eraseIdx k).toArray
  rw[List.eraseIdxIfInBounds_toArray]
 ·have:=vv xs k
  omega
def zfH:V→List V→Hp→VK→Prop:=fun x vs H Q=>∃ l xs,x=.ref l∧vs=[]∧H l=some (.lst xs)∧Q .non (upd H l (.lst []))
theorem uz:MtM X "list.clear" zfH:=by
 intro pins s σ H x vs v us Q I rx rv h
 obtain⟨l,xs,rfl,rfl,hH,q⟩:=h
 cases rx
 have hus:=rv.zero
 subst hus
 obtain⟨z,its,n,r,hl,e⟩:=I.lstM hH
 refine call_meets F.slot_list_clear ⟨_,e,rfl⟩ F.entry_list_clear (F.args_list_clear_1 _) (AutoSeq1.list_clear_list_0 l its.toArray n (by rw[List.size_toArray];omega)) ⟨e,?_⟩
 exact⟨.non,_,I.lset (its':=[]) (ys:=[]) hH e rfl .nil (Nat.zero_le _),rfl,q⟩
def zwC:R2:=fun x y H Q=>∃ l b xs zs,x=.ref l∧y=.ref b∧H l=some (.lst xs)∧H b=some (.lst zs)∧xs.length+zs.length≤sizeLine∧∀ p,H p=none→Q (.ref p) (upd H p (.lst (xs++zs)))
theorem yA:OpR X (binaryOp .Add) zwC:=by
 intro pins s σ H x y v u Q I rx ry h
 obtain⟨l,b,xs,zs,rfl,rfl,hH,hB,hz,q⟩:=h
 cases rx
 cases ry
 obtain⟨z,its,n,r,hl,e⟩:=I.lstM hH
 obtain⟨z2,its2,n2,r2,hl2,e2⟩:=I.lstM hB
 refine PySem.P.add_list e e2 ?_ (by rw[List.size_toArray,List.size_toArray];omega)
 have ea:its.toArray++its2.toArray=(its++its2).toArray:=by simp
 rw[ea]
 exact⟨.ref _,_,I.lnew (t':=s.toks) (r.append r2) (by rw[List.length_append];omega),rfl,q _ I.fresh⟩
end
end L2
namespace L2
open PySem PySem.Spec PyProof.Rows
section
variable {κ:Type} [DecidableEq κ]
noncomputable def xu (kvs:List (κ×V)) (k:κ):Option V:=(kvs.find? fun kv=>decide (kv.1=k)).map (·.2)
noncomputable def putK (kvs:List (κ×V)) (k:κ) (v:V):List (κ×V) :=
 if (kvs.any fun kv=>decide (kv.1=k))=true then kvs.map (fun kv=>if kv.1=k then(kv.1,v) else kv) else kvs++[(k,v)]
theorem xq {p:κ×V}{r:List (κ×V)}{k:κ}(e:p.1=k):xu (p::r) k=some p.2:=by simp[xu,List.find?_cons,e]
theorem xr {p:κ×V}{r:List (κ×V)}{k:κ}(e:¬ p.1=k):xu (p::r) k=xu r k:=by simp[xu,List.find?_cons,e]
theorem xt (k:κ):∀ kvs:List (κ×V),(kvs.any fun kv=>decide (kv.1=k))=(xu kvs k).isSome
 |[]=>rfl
 |p::r=>by
  rw[List.any_cons]
  by_cases e:p.1=k
  ·simp only[xq e,decide_eq_true e,Bool.true_or,Option.isSome_some]
  ·rw[xr e,decide_eq_false e,Bool.false_or];exact xt k r
theorem yQ (kvs:List (κ×V)) (k:κ) (v:V):(putK kvs k v).length≤kvs.length+1:=by
 unfold putK
 split
 ·rw[List.length_map];omega
 ·rw[List.length_append,List.length_cons,List.length_nil];omega
theorem RelO.isSome_eq {o:Option V}{u:Option Value}(r:RelO o u):o.isSome=u.isSome:=by
 cases o with
 |none=>cases u with
  |none=>rfl
  |some _=>exact(show False from r).elim
 |some _=>cases u with
  |none=>exact(show False from r).elim
  |some _=>rfl
theorem KV.val {kvs:List (κ×V)}{vs:List (κ×Value)}(r:KV kvs vs) (k:κ):RelO (xu kvs k) (valueAt vs k):=by
 unfold KV at r
 induction r with
 |nil=>exact True.intro
 | @cons p q ps qs h t ih =>
  obtain⟨h1,h2⟩:=h
  by_cases e:p.1=k
  ·have e':q.1=k:=h1.symm.trans e
   have b:valueAt (q::qs) k=some q.2:=by simp[valueAt,List.find?_cons,e']
   rw[xq e,b];exact h2
  ·have e':¬ q.1=k:=fun z=>e (h1.trans z)
   have b:valueAt (q::qs) k=valueAt qs k:=by simp[valueAt,List.find?_cons,e']
   rw[xr e,b];exact ih
theorem KV.any {kvs:List (κ×V)}{vs:List (κ×Value)}(r:KV kvs vs) (k:κ):(kvs.any fun kv=>decide (kv.1=k))=vs.any fun kv=>decide (kv.1=k):=by
 unfold KV at r
 induction r with
 |nil=>rfl
 |cons h t ih=>rw[List.any_cons,List.any_cons,ih,h.1]
theorem KV.repl {kvs:List (κ×V)}{vs:List (κ×Value)}(r:KV kvs vs) (k:κ){y:V}{u:Value}(ry:RelV y u) :
  KV (kvs.map fun kv=>if kv.1=k then(kv.1,y) else kv) (vs.map fun kv=>if kv.1=k then(kv.1,u) else kv):=by
 unfold KV at r ⊢
 induction r with
 |nil=>exact .nil
 | @cons p q ps qs h t ih =>
  rw[List.map_cons,List.map_cons]
  refine .cons ?_ ih
  obtain⟨h1,h2⟩:=h
  by_cases e:p.1=k
  ·rw[if_pos e,if_pos (h1.symm.trans e)];exact⟨h1,ry⟩
  ·rw[if_neg e,if_neg (fun z=>e (h1.trans z))];exact⟨h1,h2⟩
theorem KV.put {kvs:List (κ×V)}{vs:List (κ×Value)}(r:KV kvs vs) (k:κ){y:V}{u:Value}(ry:RelV y u):KV (putK kvs k y) (stored vs k u):=by
 unfold putK stored
 rw[r.any k]
 by_cases e:(vs.any fun kv=>decide (kv.1=k))=true
 ·rw[if_pos e,if_pos e];exact r.repl k ry
 ·rw[if_neg e,if_neg e];exact Paired.snoc r ⟨rfl,ry⟩
theorem KV.length {kvs:List (κ×V)}{vs:List (κ×Value)}(r:KV kvs vs):kvs.length=vs.length:=Paired.length r
end
theorem u0 {P:Program}{w:World}{k:Key}{u:Value}(r:RelV (kV k) u):(zx P w).is k u=true:=by
 cases k with
 |inl i=>obtain⟨t,e⟩:=(show ∃ t,u=Value.int i t from r);subst e;exact vY P w i t
 |inr x=>obtain⟨t,e⟩:=(show ∃ t,u=Value.str x t from r);subst e;exact vX P w x t
theorem vw {P:Program}{w:World}:∀ {ks:List Key}{us:List Value},Vals (ks.map kV) us→ItemsAre (zx P w) ks us
 |[],_,r=>by rw[List.map_nil] at r;cases r;exact .nil
 |k::ks,_,r=>by
  rw[List.map_cons] at r
  cases r with
  |cons h t=>exact .cons (u0 h) (vw t)
abbrev KT (H:Hp):List (List Key×V)→List (List Key×Addr×Value)→Prop:=Paired fun p q=>p.1=q.1∧H q.2.1=some (.tup (p.1.map kV))∧RelV p.2 q.2.2
theorem KT.val {H:Hp}{kvs:List (List Key×V)}{xs:List (List Key×Addr×Value)}(r:KT H kvs xs) (k:List Key):RelO (xu kvs k) ((atKey xs k).map (·.2)):=by
 induction r with
 |nil=>exact True.intro
 | @cons p q ps qs h t ih =>
  obtain⟨h1,_,h2⟩:=h
  by_cases e:p.1=k
  ·have e':q.1=k:=h1.symm.trans e
   have b:atKey (q::qs) k=some q.2:=by simp[atKey,List.find?_cons,e']
   rw[xq e,b];exact h2
  ·have e':¬ q.1=k:=fun z=>e (h1.trans z)
   have b:atKey (q::qs) k=atKey qs k:=by simp[atKey,List.find?_cons,e']
   rw[xr e,b];exact ih
theorem KT.repl {H:Hp}{kvs:List (List Key×V)}{xs:List (List Key×Addr×Value)}(r:KT H kvs xs) (k:List Key){y:V}{u:Value}(ry:RelV y u) :
  KT H (kvs.map fun kv=>if kv.1=k then(kv.1,y) else kv) (xs.map (putAt k u)):=by
 induction r with
 |nil=>exact .nil
 | @cons p q ps qs h t ih =>
  rw[List.map_cons,List.map_cons]
  refine .cons ?_ ih
  obtain⟨h1,h2,h3⟩:=h
  unfold putAt
  by_cases e:p.1=k
  ·rw[if_pos e,if_pos (h1.symm.trans e)];exact⟨h1,h2,ry⟩
  ·rw[if_neg e,if_neg (fun z=>e (h1.trans z))];exact⟨h1,h2,h3⟩
theorem KT.put {H:Hp}{kvs:List (List Key×V)}{xs:List (List Key×Addr×Value)}(r:KT H kvs xs) (k:List Key){b:Addr}{y:V}{u:Value}(hb:H b=some (.tup (k.map kV))) (ry:RelV y u) :
  KT H (putK kvs k y) (storedH xs k b u):=by
 have e:(kvs.any fun kv=>decide (kv.1=k))=(atKey xs k).isSome:=by
  rw[xt,(r.val k).isSome_eq,Option.isSome_map]
 unfold putK storedH
 rw[e]
 by_cases q:(atKey xs k).isSome=true
 ·rw[if_pos q,if_pos q];exact r.repl k ry
 ·rw[if_neg q,if_neg q];exact Paired.snoc r ⟨rfl,hb,ry⟩
theorem KT.keeps {H H':Hp}{kvs:List (List Key×V)}{xs:List (List Key×Addr×Value)}(r:KT H kvs xs) (ht:∀ b ys,H b=some (.tup ys)→H' b=some (.tup ys)):KT H' kvs xs :=
 Paired.mapP r fun _ _ z=>⟨z.1,ht _ _ z.2.1,z.2.2⟩
section
variable {P:Program}{w:World}{H:Hp}{h:Heap}{a:Addr}
theorem zfC {u:HO}(ok:HOk P w H h) (e:Rd H a u):ObjOk P w H h a u:=e.ok ok
theorem Zb {kvs:List (Key×V)}(ok:HOk P w H h) (e:Rd H a (.dK kvs)):kvs.length≤sizeLine∧(a == sysModules)=false∧∃ vs,KV kvs vs∧h.DictOf (zx P w) a vs :=
 show ObjOk P w H h a (.dK kvs) from zfC ok e
theorem Y5 {kvs:List (Key×V)}(ok:HOk P w H h) (e:H a=some (.dK kvs)):kvs.length≤sizeLine∧(a == sysModules)=false∧∃ vs,KV kvs vs∧h.DictOf (zx P w) a vs:=Zb ok (.inl e)
theorem uA {ks:List Key}(ok:HOk P w H h) (e:H a=some (.tup (ks.map kV))):(tupleKind (zx P w)).is h ks a:=by
 obtain⟨_,its,r,o,h1,h2,n,h3⟩:=(show ObjOk P w H h a (.tup (ks.map kV)) from ok a _ e)
 exact⟨o,its.toArray,n,h1,h2,h3,by simpa using vw r⟩
theorem Y4 {kvs:List (List Key×V)}(ok:HOk P w H h) (e:Rd H a (.dT kvs)):kvs.length≤sizeLine∧(a == sysModules)=false ∧
  ∃ xs,KT H kvs xs∧h.DictOfH (tupleKind (zx P w)) a xs:=by
 obtain⟨z,y,xs,r,o,es,ep,h1,h2,h3,h4,h5⟩:=(show ObjOk P w H h a (.dT kvs) from zfC ok e)
 refine⟨z,y,xs,r,o,es,ep,h1,h2,h3,h4,fun x hx=>?_,h5⟩
 have all:∀ {l:List (List Key×V)}{m:List (List Key×Addr×Value)},KT H l m→∀ x∈m,(tupleKind (zx P w)).is h x.1 x.2.1:=by
  intro l m q
  induction q with
  |nil=>intro x hx;exact nomatch hx
  | @cons p q ps qs hq t ih =>
   intro x hx
   rcases List.mem_cons.mp hx with e | hx
   ·subst e
    exact uA ok (by rw[← hq.1];exact hq.2.1)
   ·exact ih x hx
 exact all r x hx
theorem znD {kvs:List (List Key×V)}(ok:HOk P w H h) (e:H a=some (.dT kvs)):kvs.length≤sizeLine∧(a == sysModules)=false ∧
  ∃ xs,KT H kvs xs∧h.DictOfH (tupleKind (zx P w)) a xs:=Y4 ok (.inl e)
end
noncomputable def DGet (H:Hp) (a:Addr) (y:V) (r:Option V):Prop :=
 (∃ kvs k,Rd H a (.dK kvs)∧y=kV k∧r=xu kvs k)∨∃ kvs k b,Rd H a (.dT kvs)∧y=.ref b∧H b=some (.tup (k.map kV))∧r=xu kvs k
noncomputable def DPut (H:Hp) (a:Addr) (y v:V) (H':Hp):Prop :=
 (∃ kvs k,H a=some (.dK kvs)∧y=kV k∧kvs.length<sizeLine∧H'=upd H a (.dK (putK kvs k v))) ∨
 ∃ kvs k b,H a=some (.dT kvs)∧y=.ref b∧H b=some (.tup (k.map kV))∧kvs.length<sizeLine∧H'=upd H a (.dT (putK kvs k v))
theorem DGet.k {H:Hp}{a:Addr}{kvs:List (Key×V)}{k:Key}(e:H a=some (.dK kvs)):DGet H a (kV k) (xu kvs k):=.inl ⟨kvs,k,.inl e,rfl,rfl⟩
theorem DGet.t {H:Hp}{a b:Addr}{kvs:List (List Key×V)}{k:List Key}(e:H a=some (.dT kvs)) (eb:H b=some (.tup (k.map kV))):DGet H a (.ref b) (xu kvs k):=.inr ⟨kvs,k,b,.inl e,rfl,eb,rfl⟩
theorem DPut.k {H:Hp}{a:Addr}{kvs:List (Key×V)}{k:Key}{v:V}(e:H a=some (.dK kvs)) (hl:kvs.length<sizeLine):DPut H a (kV k) v (upd H a (.dK (putK kvs k v))):=.inl ⟨kvs,k,e,rfl,hl,rfl⟩
theorem DPut.t {H:Hp}{a b:Addr}{kvs:List (List Key×V)}{k:List Key}{v:V}(e:H a=some (.dT kvs)) (eb:H b=some (.tup (k.map kV))) (hl:kvs.length<sizeLine) :
  DPut H a (.ref b) v (upd H a (.dT (putK kvs k v))):=.inr ⟨kvs,k,b,e,rfl,eb,hl,rfl⟩
section
variable {X:Cx}{pins:List (Addr×Obj)}{σ:St}{H:Hp}{s:Shared}{a:Addr}{y v:V}{u r:Value}{o:Option V}{A:Around}{E:Value→Shared→Prop}
theorem Inv.big (I:Inv X pins σ H s):sysModules<s.heap.objs.size:=by
 have h:mainGlobals<s.heap.objs.size:=(I.mod.glob.keeps I.bk).lt
 exact Nat.lt_trans (by decide) h
theorem Xa {Q:Value→Shared→Prop}(hu:A.units+1<cLine) (I:Inv X pins σ H s) (g:DGet H a y (some v)) (ry:RelV y u) (h:∀ w' s',Inv X pins σ H s'→RelV v w'→Q w' s') :
  wpAny (model X.prog X.w) A (getItem (.ref a) u) Q E s:=by
 rcases g with⟨kvs,k,e,ey,l⟩ | ⟨kvs,k,b,e,ey,eb,l⟩
 ·subst ey
  obtain⟨z,hd,vs,rel,dd⟩:=Zb I.hok e
  obtain⟨w',hw,rw'⟩:=RelO.some_of (v:=v) (o:=valueAt vs k) (by rw[l];exact rel.val k)
  exact wpAny_getItem_of (u0 ry) dd.mapOf hw (h w' _ (I.tok _) rw')
 ·subst ey
  cases (show u=Value.ref b from ry)
  obtain⟨z,hd,xs,rel,dd⟩:=Y4 I.hok e
  obtain⟨w',hw,rw'⟩:=RelO.some_of (v:=v) (o:=(atKey xs k).map (·.2)) (by rw[l];exact rel.val k)
  obtain⟨p,hp,hp2⟩:=Option.map_eq_some_iff.mp hw
  refine wpAny_getItem_heap (tupleKind_room_in1 hu) (uA I.hok eb) dd hp ?_
  rw[hp2]
  exact h w' _ (I.tok _) rw'
theorem zw6 {Q:Value→Shared→Prop}(hu:A.units+1<cLine) (I:Inv X pins σ H s) (g:DGet H a y o) (ry:RelV y u) (h:∀ s',Inv X pins σ H s'→Q (.bool o.isSome) s') :
  wpAny (model X.prog X.w) A (compareOp .In u (.ref a)) Q E s:=by
 rcases g with⟨kvs,k,e,ey,l⟩ | ⟨kvs,k,b,e,ey,eb,l⟩
 ·subst ey
  obtain⟨z,hd,vs,rel,dd⟩:=Zb I.hok e
  refine wpAny_in_of (u0 ry) hd dd.mapOf ?_
  rw[← (rel.val k).isSome_eq,← l]
  exact h _ (I.tok _)
 ·subst ey
  cases (show u=Value.ref b from ry)
  obtain⟨z,hd,xs,rel,dd⟩:=Y4 I.hok e
  refine wpAny_in_heap (tupleKind_room_in1 hu) (uA I.hok eb) hd dd ?_
  have q:=(rel.val k).isSome_eq
  rw[Option.isSome_map] at q
  rw[← q,← l]
  exact h _ (I.tok _)
theorem xT {h':Heap}{t':Nat}{ob:HO}(I:Inv X pins σ H s) (mu:Mut (H a)) (hs:Heap.SameBut a s.heap h') (he:∃ q,h'.get? a=some q) (new:ObjOk X.prog X.w (upd H a ob) h' a ob) :
  Inv X pins σ (upd H a ob) { s with heap:=h',toks:=t' } :=
 I.write (x:=a) (e:=a) mu (.inl rfl) (fun b q hb z=>(hs.2 b hb).trans z) he new
theorem wm {P:Program}{w:World}{H':Hp}{h':Heap}{kvs:List (Key×V)}{vs:List (Key×Value)}(z:kvs.length≤sizeLine) (hd:(a == sysModules)=false) (rel:KV kvs vs) (dd:h'.DictOf (zx P w) a vs) :
  ObjOk P w H' h' a (.dK kvs):=⟨z,hd,vs,rel,dd⟩
theorem Y9 {H':Hp}{Q:Unit→Shared→Prop}(hu:A.units+1<cLine) (I:Inv X pins σ H s) (g:DPut H a y v H') (ry:RelV y u) (rv:RelV v r) (h:∀ s',Inv X pins σ H' s'→Q () s') :
  wpAny (model X.prog X.w) A (setItem (.ref a) u r) Q E s:=by
 rcases g with⟨kvs,k,e,ey,l,eH⟩ | ⟨kvs,k,b,e,ey,eb,l,eH⟩
 ·subst ey eH
  obtain⟨z,hd,vs,rel,dd⟩:=Y5 I.hok e
  have hz:vs.length≤sizeLine:=by rw[← rel.length];exact z
  have hl:(putK kvs k v).length≤sizeLine:=by have:=yQ kvs k v;omega
  refine wpAny_setItem_pairs (hsz:=hz) (u0 ry) dd fun h' dd' hs=>h _ ?_
  have he:∃ q,h'.get? a=some q:=let ⟨q,_,_,hq,_⟩:=dd';⟨q,hq⟩
  exact xT I (by rw[e];exact True.intro) hs he (wm hl hd (rel.put k rv) dd')
 ·subst ey eH
  cases (show u=Value.ref b from ry)
  obtain⟨z,hd,xs,rel,dd⟩:=znD I.hok e
  have hz:xs.length≤sizeLine:=by rw[← Paired.length rel];exact z
  have hl:(putK kvs k v).length≤sizeLine:=by have:=yQ kvs k v;omega
  refine wpAny_setItem_heap (hsz:=hz) (tupleKind_room_in1 hu) (uA I.hok eb) dd fun h' dd' hs=>h _ ?_
  obtain⟨q,es,ep,hq,h2,h3,h4,_,h5⟩:=dd'
  refine xT I (by rw[e];exact True.intro) hs ⟨q,hq⟩ ⟨hl,hd,_,(rel.put k eb rv).keeps fun c ys ec=>?_,q,es,ep,hq,h2,h3,h4,h5⟩
  rw[upd_ne (ne_of ec e (fun z=>nomatch z))]
  exact ec
end
section
variable {X:Cx}{pins:List (Addr×Obj)}{σ:St}{H:Hp}{s:Shared}{a:Addr}{kvs:List (Key×V)}{k:Key}{u:Value}{A:Around}{E:Value→Shared→Prop}
theorem U7 {Q:Value→Shared→Prop}(I:Inv X pins σ H s) (e:H a=some (.dK kvs)) (h:∀ s',Inv X pins σ (upd H a (.dK [])) s'→Q .none s'):wpAny (model X.prog X.w) A (call (.builtin "dict.clear") [.ref a]) Q E s:=by
 obtain⟨z,hd,vs,rel,dd⟩:=Y5 I.hok e
 refine call_meetsIn PySem.F.slot_dict_clear dd.typeIs PySem.F.entry_dict_clear (PySem.F.args_dict_clear_1 _) (meets_dict_clear (zx X.prog X.w) a) ⟨vs,dd,by rw[← rel.length];exact z,fun h' dd' hs=>h _ ?_⟩
 have he:∃ q,h'.get? a=some q:=let ⟨q,_,_,hq,_⟩:=dd';⟨q,hq⟩
 exact xT (t':=s.toks) I (by rw[e];exact True.intro) hs he (wm (Nat.zero_le _) hd .nil dd')
end
def znI (i:Expr):Prop:=∀ ov iv,subscripted i false ov iv=operate [ov,iv] (getItem ov iv)
theorem subD_of {prog:Program}{w:World}{A:Around}{E:Value→Shared→Prop}{s:Shared}{env:Env}{value slice:Expr}{pos:Pos}{T id:String}{Q:Value→Shared→Prop}
  (hl:typeLookup (.type T) "__getitem__" = pure (some (.builtin id))) (hs:znI slice)
  (h:wpAny (model prog w) A (eval value env) (fun o s₁=>wpAny (model prog w) A (eval slice env) (fun i s₂=>s₂.TypeIs o T∧wpAny (model prog w) A (getItem o i) Q E s₂) E s₁) E s) :
  wpAny (model prog w) A (eval (.Subscript value slice pos) env) Q E s:=by
 refine Subscript_ (wpAny_mono h (fun o s₁ h₁=>wpAny_mono h₁ (fun i s₂ h₂=>?_) fun _ _ x=>x) fun _ _ x=>x)
 obtain⟨hT,h₂⟩:=h₂
 unfold subscriptTail
 refine wpAny_bind ?_
 rw[getitemInPython_of_ne hT.not_modules]
 refine wpAny_bind (wpAny_specialOf hT hl ?_)
 have fin:wpAny (model prog w) A (subscripted slice false o i) (fun r s₃=>wpAny (model prog w) A (letTemporaryGo value o r >>= fun _=>pure r) Q E s₃) E s₂:=by
  rw[hs o i]
  exact wpAny_operating (wpAny_mono h₂ (fun r s₃ h₃=>wpAny_bind (wpAny_letTemporaryGo (wpAny_pure h₃))) fun _ _ x=>x)
 first
  |exact wpAny_pure (wpAny_bind fin)
  |exact wpAny_bind (wpAny_pure (wpAny_bind fin))
  |exact wpAny_bind fin
theorem v9 {X:Cx}{pins:List (Addr×Obj)}{σ:St}{H:Hp}{s:Shared}{a:Addr}{y:V}{o:Option V}(I:Inv X pins σ H s) (g:DGet H a y o):s.TypeIs (.ref a) "dict" := by
 rcases g with⟨kvs,k,e,_,_⟩ | ⟨kvs,k,b,e,_,_,_⟩
 ·obtain⟨_,_,vs,_,dd⟩:=Zb I.hok e
  exact dd.typeIs
 ·obtain⟨_,_,xs,_,dd⟩:=Y4 I.hok e
  exact dd.typeIs
def zaJ (td ty:TE):TE:=fun σ H Q=>td σ H fun x H1=>ty σ H1 fun y H2=>∃ a v,x=.ref a∧DGet H2 a y (some v)∧Q v H2
def znU (ty td:TE):TE:=fun σ H Q=>ty σ H fun y H1=>td σ H1 fun x H2=>∃ a o,x=.ref a∧DGet H2 a y o∧Q (.bl o.isSome) H2
def zfB (td ty tv:TE):TS:=fun D σ H=>tv σ H fun v H1=>td σ H1 fun x H2=>ty σ H2 fun y H3=>∃ a H4,x=.ref a∧DPut H3 a y v H4∧D.nx σ H4
section
variable {X:Cx}{o i e value:Expr}{pos pos' tpos:Pos}{td ty tv:TE}
theorem vR (hu:X.A.units+1<cLine) (ho:PE X o td) (hi:PE X i ty) (hs:znI i):PE X (.Subscript o i pos) (zaJ td ty):=by
 intro pins s σ H Q I h
 refine subD_of PySem.F.slot_dict_getitem.lookup hs (thn (ho pins s σ H _ I h) fun u s1 ⟨x,H1,I1,rx,q1⟩=>thn (hi pins s1 σ H1 _ I1 q1) fun iv s2 hq0=>?_)
 obtain⟨y,H2,I2,ry,a,v,ex,g,q2⟩:=hq0
 subst ex
 obtain rfl:u=Value.ref a:=rx
 exact⟨v9 I2 g,Xa hu I2 g ry fun w' s3 I3 rw'=>⟨v,H2,I3,rw',q2⟩⟩
theorem WS (hu:X.A.units+1<cLine) (hi:PE X i ty) (ho:PE X o td):PC X .In i o (znU ty td):=by
 intro pins s σ H Q I h
 refine thn (hi pins s σ H _ I h) fun iv s1 ⟨y,H1,I1,ry,q1⟩=>thn (ho pins s1 σ H1 _ I1 q1) fun u s2 hq0=>?_
 obtain⟨x,H2,I2,rx,a,ov,ex,g,q2⟩:=hq0
 subst ex
 obtain rfl:u=Value.ref a:=rx
 exact zw6 hu I2 g ry fun s3 I3=>⟨.bl ov.isSome,H2,I3,rfl,q2⟩
theorem vP (hu:X.A.units+1<cLine) (ho:PE X o td) (hi:PE X i ty) (hv:PE X value tv) (hs:swapsWith value (some (.Subscript o i pos')) pos.line X.env=pure false) :
  PS X (.Assign [.Subscript o i pos'] value pos) (zfB td ty tv):=by
 intro pins s σ H D I h
 refine wpAny_Assign_Subscript (thn (hv pins s σ H _ I h) fun r s1 ⟨v,H1,I1,rv,q1⟩=>thn (ho pins s1 σ H1 _ I1 q1) fun u s2 ⟨x,H2,I2,rx,q2⟩=>thn (hi pins s2 σ H2 _ I2 q2) fun iv s3 hq0=>?_) hs
 obtain⟨y,H3,I3,ry,a,H4,ex,g,q3⟩:=hq0
 subst ex
 obtain rfl:u=Value.ref a:=rx
 exact Y9 hu I3 g ry rv fun s4 I4=>⟨σ,H4,I4,q3⟩
end
theorem uF {P:Program}{w:World}{H:Hp}(h:Heap) (hb:sysModules<h.objs.size):ObjOk P w H (h.push { cls:=.type "dict",data:=.dict #[] }) h.objs.size (.dK []) :=
 ⟨Nat.zero_le _,beq_eq_false_iff_ne.mpr (Ne.symm (Nat.ne_of_lt hb)),[],.nil,Heap.DictOf.new h⟩
theorem Wv {P:Program}{w:World}{H:Hp}(h:Heap) (hb:sysModules<h.objs.size):ObjOk P w H (h.push { cls:=.type "dict",data:=.dict #[] }) h.objs.size (.dT []) :=
 ⟨Nat.zero_le _,beq_eq_false_iff_ne.mpr (Ne.symm (Nat.ne_of_lt hb)),[],.nil,_,#[],0,Heap.get?_push_size _ rfl,⟨rfl,rfl,rfl⟩,rfl,rfl,List.nodup_nil⟩
def WI:TE:=fun _ H Q=>∀ p,H p=none→Q (.ref p) (upd H p (.dK []))
def zaI:TE:=fun _ H Q=>∀ p,H p=none→Q (.ref p) (upd H p (.dT []))
section
variable {X:Cx}{pos:Pos}
theorem uu:PE X (.Dict [] [] pos) WI:=fun pins s σ H Q I h =>
 wpAny_Dict_empty ⟨.ref s.heap.objs.size,_,I.laid (a:=s.heap.objs.size) (o:=.dK []) (t':=s.toks) (fun _ _ q=>Heap.get?_push_of_some _ q) (Nat.le_refl _) (uF s.heap I.big),rfl,h _ (I.hok.fresh (Nat.le_refl _))⟩
theorem XS:PE X (.Dict [] [] pos) zaI:=fun pins s σ H Q I h =>
 wpAny_Dict_empty ⟨.ref s.heap.objs.size,_,I.laid (a:=s.heap.objs.size) (o:=.dT []) (t':=s.toks) (fun _ _ q=>Heap.get?_push_of_some _ q) (Nat.le_refl _) (Wv s.heap I.big),rfl,h _ (I.hok.fresh (Nat.le_refl _))⟩
end
noncomputable def Zp:List (TE×TE)→St→Hp→(List (V×V)→Hp→Prop)→Prop
 |[],_,H,Q=>Q [] H
 |(tk,tv)::r,σ,H,Q=>tk σ H fun x H1=>tv σ H1 fun y H2=>Zp r σ H2 fun ps H3=>Q ((x,y)::ps) H3
abbrev VV:List (V×V)→List (Value×Value)→Prop:=Paired fun p q=>RelV p.1 q.1∧RelV p.2 q.2
noncomputable def PPs (X:Cx) (pos:Pos) (keys:List (Option Expr)) (values:List Expr) (trs:List (TE×TE)):Prop :=
 ∀ (pins:List (Addr×Obj)) (s:Shared) (σ:St) (H:Hp) (Q:List (V×V)→Hp→Prop),Inv X pins σ H s→Zp trs σ H Q →
  wpAny (model X.prog X.w) X.A (evalPairs (pairTrees keys values X.env pos)) (fun vs s'=>∃ ps H',Inv X pins σ H' s'∧VV ps vs∧Q ps H') X.xe s
theorem Vs {X:Cx}{pos:Pos}:PPs X pos [] [] []:=fun pins s σ H Q I h=>pairTrees_nil_walk ⟨[],H,I,.nil,h⟩
theorem XO {X:Cx}{pos:Pos}{k v:Expr}{ks:List (Option Expr)}{vs:List Expr}{tk tv:TE}{trs:List (TE×TE)}(hk:PE X k tk) (hv:PE X v tv) (hr:PPs X pos ks vs trs) :
  PPs X pos (some k::ks) (v::vs) ((tk,tv)::trs):=fun pins s σ H Q I h =>
 pairTrees_cons_walk (thn (hk pins s σ H _ I h) fun u s1 ⟨x,H1,I1,rx,q1⟩=>thn (hv pins s1 σ H1 _ I1 q1) fun w2 s2 ⟨y,H2,I2,ry,q2⟩ =>
  thn (hr pins s2 σ H2 _ I2 q2) fun ws s3 ⟨ps,H3,I3,rel,q3⟩=>⟨(x,y)::ps,H3,I3,.cons ⟨rx,ry⟩ rel,q3⟩)
noncomputable def mergeK (kvs more:List (Key×V)):List (Key×V):=more.foldl (fun acc kv=>putK acc kv.1 kv.2) kvs
theorem KV.merge:∀ {more:List (Key×V)}{rs:List (Key×Value)}{kvs:List (Key×V)}{vs:List (Key×Value)},KV more rs→KV kvs vs→KV (mergeK kvs more) (merged vs rs):=by
 intro more rs kvs vs r
 unfold KV at r
 induction r generalizing kvs vs with
 |nil=>intro q;exact q
 | @cons p q ps qs h t ih =>
  intro r0
  have e:KV (putK kvs p.1 p.2) (stored vs q.1 q.2):=by
   have:=r0.put p.1 h.2
   rw[← h.1];exact this
  exact ih e
theorem xa:∀ (more kvs:List (Key×V)),(mergeK kvs more).length≤kvs.length+more.length
 |[],kvs=>by show kvs.length≤kvs.length+0;omega
 |p::r,kvs=>by
  have h1:=xa r (putK kvs p.1 p.2)
  have h2:=yQ kvs p.1 p.2
  show(mergeK (putK kvs p.1 p.2) r).length≤_
  rw[List.length_cons];omega
theorem wo {P:Program}{w:World}:∀ {kvs:List (Key×V)}{ws:List (Value×Value)},VV (kvs.map fun kv=>(kV kv.1,kv.2)) ws→∃ rs,Carries (zx P w) ws rs∧KV kvs rs
 |[],_,r=>by rw[List.map_nil] at r;cases r;exact⟨[],True.intro,.nil⟩
 |p::kvs,_,r=>by
  rw[List.map_cons] at r
  cases r with
  | @cons a b as bs h t =>
   obtain⟨rs,c,q⟩:=wo (P:=P) (w:=w) t
   obtain⟨b1,b2⟩:=b
   exact⟨(p.1,b2)::rs,⟨u0 h.1,rfl,c⟩,.cons ⟨rfl,h.2⟩ q⟩
def zaG (trs:List (TE×TE)):TE:=fun σ H Q=>∀ p,H p=none→Zp trs σ (upd H p (.dK [])) fun ps H2=>H2 p=some (.dK [])∧∃ kvs:List (Key×V),ps=kvs.map (fun kv=>(kV kv.1,kv.2))∧kvs.length≤15∧Q (.ref p) (upd H2 p (.dK (mergeK [] kvs)))
theorem Vz {X:Cx}{pos:Pos}{keys:List (Option Expr)}{values:List Expr}{trs:List (TE×TE)}(h:PPs X pos keys values trs) (hall:keys.all (·.isSome)=true) (hl:keys.length=values.length) (h0:keys≠[])
  (h15:keys.length≤15):PE X (.Dict keys values pos) (zaG trs):=by
 intro pins s σ H Q I q
 have hn:=I.hok.fresh (Nat.le_refl s.heap.objs.size)
 have I1:=I.laid (a:=s.heap.objs.size) (o:=.dK []) (h':=s.heap.push { cls:=.type "dict",data:=.dict #[] }) (t':=s.toks) (fun _ _ q=>Heap.get?_push_of_some _ q) (Nat.le_refl _) (uF s.heap I.big)
 refine wpAny_Dict_walk (knd:=zx X.prog X.w) hall hl h0 h15 (thn (h pins _ σ _ _ I1 (q _ hn)) fun ws s2 hq0=>?_)
 obtain⟨ps,H2,I2,rel,e,kvs,ep,lk,q2⟩:=hq0
 subst ep
 obtain⟨rs,c,rk⟩:=wo (P:=X.prog) (w:=X.w) rel
 obtain⟨z,hd,vs0,r0,dd⟩:=Y5 I2.hok e
 cases r0
 refine⟨rs,c,dd,fun h' dd' hs=>⟨.ref s.heap.objs.size,_,?_,rfl,q2⟩⟩
 have hz:(mergeK [] kvs).length≤sizeLine:=by
  have h1:=xa kvs []
  rw[List.length_nil] at h1
  rw[sizeLine_eq];omega
 have he:∃ q,h'.get? s.heap.objs.size=some q:=let ⟨q,_,_,hq,_⟩:=dd';⟨q,hq⟩
 exact xT I2 (by rw[e];exact True.intro) hs he (wm hz hd (rk.merge .nil) dd')
structure M1 (X:Cx) (o:Expr) (m:Str) (apos:Pos) (e:Expr) (cpos:Pos):Prop where
 base:attributeBase o m X.env (eval o X.env)=eval o X.env
 few:((backTo cpos (starEach [e] X.env)).all (fun x=>!x.1)&&(backToKw cpos (keywordEach [] X.env)).all (fun x=>x.1.isSome)
  && decide (([e]:List Expr).length+([]:List Keyword).length+(if ([]:List Keyword).isEmpty then 0 else 1)<30))=true
 line:(apos.endLine == cpos.line)=true
 trees:backTo cpos (starEach [e] X.env)=[(false,eval e X.env)]
def IsD (H:Hp) (a:Addr):Prop:=(∃ kvs,Rd H a (.dK kvs))∨∃ kvs,Rd H a (.dT kvs)
theorem W6 {X:Cx}{pins:List (Addr×Obj)}{σ:St}{H:Hp}{s:Shared}{a:Addr}(I:Inv X pins σ H s) (d:IsD H a) :
  s.TypeIs (.ref a) "dict" ∧ (∀ b,Value.ref a=.ref b→∃ ob,s.heap.get? b=some ob∧ob.dict=none)∧(a == sysModules)=false:=by
 rcases d with⟨kvs,e⟩ | ⟨kvs,e⟩
 ·obtain⟨_,hd,vs,_,dd⟩:=Zb I.hok e
  refine⟨dd.typeIs,fun b q=>?_,hd⟩
  cases q
  obtain⟨ob,_,_,h1,h2,_⟩:=dd
  exact⟨ob,h1,h2.2.1⟩
 ·obtain⟨_,hd,xs,_,dd⟩:=Y4 I.hok e
  refine⟨dd.typeIs,fun b q=>?_,hd⟩
  cases q
  obtain⟨ob,_,_,h1,h2,_⟩:=dd
  exact⟨ob,h1,h2.2.1⟩
section
variable {X:Cx}{pins:List (Addr×Obj)}{σ:St}{H:Hp}{s:Shared}{a:Addr}{kvs:List (Key×V)}{A:Around}{E:Value→Shared→Prop}
theorem Ww {Q:Value→Shared→Prop}(I:Inv X pins σ H s) (e:Rd H a (.dK kvs)) (h:∀ p s',H p=none→Inv X pins σ (upd H p (.dK kvs)) s'→Q (.ref p) s'):wpAny (model X.prog X.w) A (call (.type "dict") [.ref a]) Q E s:=by
 obtain⟨z,hd,vs,rel,dd⟩:=Zb I.hok e
 refine kt_call_dict hd dd (by rw[← rel.length];exact z) fun h' dd' hs=>?_
 refine h _ _ (I.hok.fresh (Nat.le_refl _)) (I.laid (a:=s.heap.objs.size) (o:=.dK kvs) (t':=s.toks) (fun b q hq=>?_) (Nat.le_refl _) (wm z (beq_eq_false_iff_ne.mpr (Ne.symm (Nat.ne_of_lt I.big))) rel dd'))
 exact(hs.2 b (Nat.ne_of_lt (Heap.lt_size hq))).trans (Heap.get?_push_of_some _ hq)
end
end L2
namespace Att
open PySem PySem.W PySem.Calls PyProof.Rows
theorem xR {P:Params}{h:Heap}:∀ (ns:List Int) (vs:List Value),WellAll P h vs (ns.map WData.int)→IntsAre vs ns:=by
 intro ns
 induction ns with
 |nil =>
  intro vs w
  rw[List.map_nil] at w
  cases w
  exact .nil
 |cons n ns ih =>
  intro vs w
  rw[List.map_cons] at w
  cases w with
  |cons a b =>
   cases a
   exact .cons _ _ (ih _ b)
theorem Yn {l:OpenLaw}{n:Nat}(hn:l.most=some n){P:Params}{h:Heap}{args:List WData}{vals:List Value}
  (hpre:l.row.toRowW.claim.pre args=true) (hwl:WellAll P h vals args) :
  ∃ a vs ns,vals=[Value.ref a]∧args=[WData.list (ns.map WData.int)]∧h.get? a=some { cls:=.type "list",data:=.seq vs.toArray }∧IntsAre vs ns∧ns.length≤n:=by
 have hsh:WShape.hasAll [] args [.list .int]=true:=(pre_splitW hpre).1
 have hc:l.pre.holds [] { args:=args }=true:=(pre_splitW hpre).2
 obtain⟨d,r,rfl,h1,h2⟩:=hasAllW_cons hsh
 obtain rfl:=hasAllW_nil h2
 obtain⟨xs,rfl,h3⟩:=hasW_list h1
 obtain⟨ns,rfl⟩:=items_int h3
 have hlen:ns.length≤n:=by
  unfold OpenLaw.pre at hc
  have h4:(WTm.not (.lt (.lit (.int (n:Int))) (.len (.arg 0)))).holds [] { args:=[.list (ns.map .int)] }=true:=by
   have h4:=(holds_andW hc).1
   rw[hn] at h4
   exact h4
  have h5:=condW_of h4 (w_not (w_lt w_lit (w_len_list (w_arg rfl))))
  rw[List.length_map] at h5
  refine Nat.le_of_not_lt fun q=>?_
  have q':(n:Int)<((ns.length:Nat):Int):=by omega
  first
   |(rw[decide_eq_true q'] at h5;exact absurd h5 (by decide))
   |(simp at h5;omega)
 cases hwl with
 |cons w1 w2 =>
  cases w2
  cases w1 with
  |list ho hall=>exact⟨_,_,ns,rfl,rfl,ho,xR ns _ hall,hlen⟩
theorem Yp (l:OpenLaw) (args:List WData):l.row.toRowW.claim.post args (.bool true) args=true :=
 postW_of (r:=l.row.toRowW) (X:=(true == true))
  (show WShape.has [] (.bool true) .bool=true by first | rfl | decide | simp[WShape.has,WShape.arms,WShape.armsAll])
  (show(WTm.eq .res (.lit (.bool true))).value [] { args:=args,res:=some (.bool true),after:=args }=some (.bool (true == true)) from w_eq_bool (w_res rfl) w_lit) rfl
theorem attach_call {l:OpenLaw}{n:Nat}{q:Program}{loose:List Str}{XP:(Str→Option Value)→Heap→Prop}{YP:World→Heap→Prop}{d:DefRec}
  (hn:l.most=some n) (hdf:d.params.defaults=[])
  (call:∀ (w:World) (s₀ s₁:Shared) (mg mb:Str→Option Value) (fa:Addr) (o:Obj) (pm cd doc:Value) (a:Addr) (vs:List Value) (ns:List Int),
   Ground q loose [] XP w s₀ mg mb s₁.heap→YP w s₁.heap →
   s₁.heap.get? fa=some o→o.data=.func (docDef d.name d.params d.body d.scope pm cd doc)→s₁.heap.CodeRec cd d.name→mg d.name=some (.ref fa) →
   s₁.heap.get? a=some { cls:=.type "list",data:=.seq vs.toArray }→IntsAre vs ns→ns.length≤n→s₁.gens = #[] →
   codeAny (model l.prog w) callerA (.call (.ref fa) ⟨[.ref a],[]⟩) (fun r s'=>r=.ok (.ret (.bool true))∧OldK s₁.heap s'.heap∧s'.os=s₁.os∧AllBare s'.gens) s₁) :
  WalkO q loose XP YP l.row.toRowW d [] (fun f vs=>PySem.call f vs):=by
 intro w s₀ s₁ mg mb G Y fa o pm cd doc dV kV ho hd hcd hD hmg hg args vals as hpre hlay hrd hwl hlo
 obtain rfl:dV=.none:=Dflts.none hD hdf
 obtain rfl:kV=.none:=Dflts.noKw hD
 obtain⟨a,vs,ns,rfl,rfl,hobj,hints,hlen⟩:=Yn hn hpre hwl
 refine enter_call (codeAny_mono (call w s₀ s₁ mg mb fa o pm cd doc a vs ns G Y ho (fd_plain hd) hcd hmg hobj hints hlen hg) fun r s' hq=>?_)
 obtain⟨rfl,h2,h3,h4⟩:=hq
 exact⟨.inl ⟨.bool true,.bool true,[],rfl,fun _=>rfl,.bool true,Yp l _,fun _=>⟨List.Pairwise.nil,fun _ hm=>(nomatch hm)⟩⟩,h2,h3,h4⟩
end Att
namespace L2
open PySem PySem.Spec PyProof.Rows
theorem wY:∀ {vs:List Value}{ns:List Int},IntsAre vs ns→Vals (ns.map V.int) vs
 |_,_,.nil=>.nil
 |_,_,.cons n t h=>.cons ⟨t,rfl⟩ (wY h)
def zib (H:Hp):Prop:=∀ b,H b=none∨∃ o xs,H b=some (.frz o (.lst xs))
theorem Wl {P:Program}{w:World}{K:PySem.W.Frag}{mg mb:Str→Option Value}{CX:CXT}{k:Nat}{fa a:Addr}{fd:FuncData}{x:Str}{sp:Sp}{s₁:Shared}{vs:List Value}{ns:List Int}
  (KX:K.In s₁.heap) (hns:s₁.heap.Ns mainGlobals mg) (hb:s₁.heap.Ns builtinsNs mb) (hbb:∀ x:Str,x ≠ "__name__" → mb x=bootBuiltins x) (hlim:s₁.heap.NoLimit) (hg:s₁.gens = #[])
  (ha:s₁.heap.get? a=some { cls:=.type "list",data:=.seq vs.toArray }) (hi:IntsAre vs ns) (hl:ns.length≤sizeLine) (hr:Room k callerA)
  (F:∀ base:Heap,K.In base→base.Ns mainGlobals mg→FnOk P w K mg base CX k fa fd [x] sp) (hbind:∀ (s:Shared) (u:Value),BindsTo s fd ⟨[u],[]⟩ [(x,u)])
  (hsp:∀ H:Hp,zib H→SqL K H a (ns.map V.int)→sp [.ref a] H (fun v _=>v=.bl true) fun _ _ _=>False)
  (hCX:∀ H e s',CX [] H s₁ (fun _ _ _=>False) e s'→False) :
  codeAny (model P w) callerA (.call (.ref fa) ⟨[.ref a],[]⟩) (fun r s'=>r=.ok (.ret (.bool true))∧OldK s₁.heap s'.heap∧s'.os=s₁.os∧AllBare s'.gens) s₁:=by
 have rv:=wY hi
 have lenV:=hi.length
 -- from an abstract heap in which nothing but the script may be tracked
 have core:∀ H:Hp,zib H→SqL K H a (ns.map V.int)→HOk P w H s₁.heap→(∀ b,H b≠none→b=a)→(H a≠none→K.lookup a=none) →
   codeAny (model P w) callerA (.call (.ref fa) ⟨[.ref a],[]⟩) (fun r s'=>r=.ok (.ret (.bool true))∧OldK s₁.heap s'.heap∧s'.os=s₁.os∧AllBare s'.gens) s₁:=by
  intro H hO hS hok hA hK
  have base_of:∀ {b:Addr}{o:Obj},s₁.heap.get? b=some o→H b=none→(Wt s₁.heap H).get? b=some o:=fun e n=>Ws e n
  have noA:∀ {b:Addr}{o:Obj}{es:Array DictEntry}{ep:Nat},s₁.heap.get? b=some o→o.data=.dict es ep→H b=none:=fun {b o es ep} e d=>by
   cases q:H b with
   |none=>rfl
   |some u =>
    have e':b=a:=hA b (by rw[q];simp)
    subst e'
    rw[ha] at e;cases e
    have d':Data.seq vs.toArray _=Data.dict es ep:=d
    cases d'
  have nsK:∀ {b:Addr}{m:Str→Option Value},s₁.heap.Ns b m→(Wt s₁.heap H).Ns b m:=fun {b m} ⟨o,es,ep,e,d,r⟩=>⟨o,es,ep,base_of e (noA e d),d,r⟩
  have hKb:K.In (Wt s₁.heap H):=fun b o e=>base_of (KX b o e) (by
   cases q:H b with
   |none=>rfl
   |some u =>
    have e':b=a:=hA b (by rw[q];simp)
    subst e'
    rw[hK (by rw[q];simp)] at e;cases e)
  have hM:Mod K mg (Wt s₁.heap H):=⟨hKb,nsK hns,⟨mb,nsK hb,hbb⟩,let ⟨mc,h1,h2⟩:=hlim;⟨mc,nsK h1,h2⟩⟩
  have e0:Env0 P w K mg (Wt s₁.heap H) callerA [] s₁ H:=⟨rfl,hM,fun b o e=>VQ e,Nat.le_of_eq (Y2 _ _),trivial,fun b hb=>absurd (show b∈([]:List Addr) from hb) (by simp),hok,.of_eq hg⟩
  refine codeAny_mono ((F _ hKb (nsK hns)).run callerA [] s₁ H ⟨[.ref a],[]⟩ [.ref a] [.ref a] _ _ hr e0 (hbind s₁ (.ref a)) (.cons rfl .nil) (hsp H hO hS)) fun r s' h=>?_
  cases r with
  |error e=>exact(hCX H e s' h).elim
  |ok fl =>
   cases fl with
   |next=>exact False.elim h
   |brk=>exact False.elim h
   |cont=>exact False.elim h
   |ret u =>
    obtain⟨v,H',os,bare,un,hok',r',q⟩:=h
    have q':v=.bl true:=q
    subst q'
    obtain rfl:u=Value.bool true:=r'
    refine⟨rfl,OldK.of_keep fun b o e=>?_,os,bare⟩
    cases q:H b with
    |none=>exact un.keep b o e q (by intro z;exact absurd (show b∈([]:List Addr) from z) (by simp)) (by simp)
    |some u =>
     rcases hO b with z | ⟨ob,xs,z⟩
     ·rw[q] at z;cases z
     ·have z2:=un.frzs b ob _ z
      obtain⟨e1,_⟩:=hok b _ z
      obtain⟨e2,_⟩:=hok' b _ z2
      rw[e] at e1;cases e1
      exact e2
 cases hk:K.lookup a with
 |some o =>
  -- the script is one of the module's own objects
  have e:=KX a o hk
  rw[ha] at e
  cases e
  refine core (fun _=>none) (fun _=>.inl rfl) (.inr ⟨_,vs.toArray,_,hk,rfl,rfl,rfl,by rw[List.size_toArray,lenV];exact hl,by simpa using rv⟩) (fun b u z=>by have z':(none:Option HO)=some u:=z;cases z') (fun b z=>absurd rfl z) fun z=>absurd rfl z
 |none =>
  refine core (fun b=>if b=a then some (.frz { cls:=.type "list",data:=.seq vs.toArray } (.lst (ns.map V.int))) else none) (fun b=>?_) (.inl (.inr ⟨{ cls:=.type "list",data:=.seq vs.toArray },if_pos rfl⟩)) (fun b u z=>?_) (fun b z=>?_) fun _=>hk
  ·by_cases hb:b=a
   ·exact .inr ⟨_,_,if_pos hb⟩
   ·exact .inl (if_neg hb)
  ·by_cases hb:b=a
   ·have z':=(if_pos hb).symm.trans z
    cases z'
    subst hb
    exact⟨ha,by rw[List.length_map];exact hl,vs,_,rv,ha⟩
   ·have z':=(if_neg hb).symm.trans z
    cases z'
  ·by_cases hb:b=a
   ·exact hb
   ·exact absurd (if_neg hb) z
end L2
namespace L2
open PySem PySem.Spec PyProof.Rows
abbrev KOf {K:PySem.W.Frag}{h:Heap}(_:K.In h):PySem.W.Frag:=K
theorem Va {l:PySem.W.OpenLaw}{n k:Nat}{q:Program}{loose:List Str}{XP:(Str→Option Value)→Heap→Prop}{YP:World→Heap→Prop}{d:DefRec}{K:Params→PySem.W.Frag}{CX:World→CXT}{sp:World→Sp}{x:Str}
  (hn:l.most=some n) (hn2:n≤sizeLine) (hdf:d.params.defaults=[]) (hr:Room k callerA)
  (hY:∀ (w:World) (h:Heap),YP w h→(K w.params).In h)
  (F:∀ (w:World) (mg:Str→Option Value) (fa:Addr) (h:Heap),(K w.params).In h→h.Ns mainGlobals mg→mg d.name=some (.ref fa) →
   ∃ fd:FuncData,(∀ (s:Shared) (u:Value),BindsTo s fd ⟨[u],[]⟩ [(x,u)]) ∧
    ∀ base:Heap,(K w.params).In base→base.Ns mainGlobals mg→FnOk l.prog w (K w.params) mg base (CX w) k fa fd [x] (sp w))
  (hsp:∀ (w:World) (H:Hp) (a:Addr) (ns:List Int),ns.length≤n→zib H→SqL (K w.params) H a (ns.map V.int)→sp w [.ref a] H (fun v _=>v=.bl true) fun _ _ _=>False)
  (hCX:∀ (w:World) (H:Hp) (s:Shared) (e:Value) (s':Shared),CX w [] H s (fun _ _ _=>False) e s'→False) :
  PySem.W.WalkO q loose XP YP l.row.toRowW d [] (fun f vs=>PySem.call f vs):=by
 refine Att.attach_call hn hdf fun w s₀ s₁ mg mb fa o pm cd doc a vs ns G Y ho hd hcd hmg hobj hints hlen hg=>?_
 have KX:=hY w _ Y
 obtain⟨fd,hb,hF⟩:=F w mg fa _ KX G.T.g hmg
 exact Wl KX G.T.g G.T.b G.T.builtins G.T.nolimit hg hobj hints (Nat.le_trans hlen hn2) hr hF hb (fun H hO hS=>hsp w H a ns hlen hO hS) fun H e s'=>hCX w H s₁ e s'
theorem walk_ofK {l:PySem.W.OpenLaw}{n k:Nat}{q:Program}{loose:List Str}{XP:(Str→Option Value)→Heap→Prop}{YP:World→Heap→Prop}{d:DefRec}{K:Params→PySem.W.Frag}{CX:CXT}{sp:PySem.W.Frag→Sp}{x:Str}
  (hn:l.most=some n) (hn2:n≤sizeLine) (hdf:d.params.defaults=[]) (hr:Room k callerA)
  (hY:∀ (w:World) (h:Heap),YP w h→(K w.params).In h)
  (F:∀ (w:World) (mg:Str→Option Value) (fa:Addr) (h:Heap),(K w.params).In h→h.Ns mainGlobals mg→mg d.name=some (.ref fa) →
   ∃ fd:FuncData,(∀ (s:Shared) (u:Value),BindsTo s fd ⟨[u],[]⟩ [(x,u)]) ∧
    ∀ base:Heap,(K w.params).In base→base.Ns mainGlobals mg→FnOk l.prog w (K w.params) mg base CX k fa fd [x] (sp (K w.params)))
  (hsp:∀ (K:PySem.W.Frag) (H:Hp) (a:Addr) (ns:List Int),ns.length≤n→zib H→SqL K H a (ns.map V.int)→sp K [.ref a] H (fun v _=>v=.bl true) fun _ _ _=>False)
  (hCX:∀ (H:Hp) (s:Shared) (e:Value) (s':Shared),CX [] H s (fun _ _ _=>False) e s'→False) :
  PySem.W.WalkO q loose XP YP l.row.toRowW d [] (fun f vs=>PySem.call f vs) :=
 Va (K:=K) (CX:=fun _=>CX) (sp:=fun w=>sp (K w.params)) hn hn2 hdf hr hY F (fun w H a ns h1 h2 h3=>hsp (K w.params) H a ns h1 h2 h3) fun _ H s e s'=>hCX H s e s'
end L2
namespace L2
open PySem PySem.Spec PyProof.Rows
noncomputable def inClass (s:Stmt) (j:Nat):Stmt:=match s with
 |.ClassDef _ _ _ body _ _ _ _ _ _ _=>body.getD j (.Pass ⟨0,0,0,0⟩)
 |_=>.Pass ⟨0,0,0,0⟩
noncomputable def defArgs (s:Stmt):Arguments:=match s with
 |.FunctionDef _ a _ _ _ _ _ _ _ _=>a
 |_=>{ posonlyargs:=[],args:=[],vararg:=none,kwonlyargs:=[],kw_defaults:=[],kwarg:=none,defaults:=[] }
noncomputable def defBody (s:Stmt):List Stmt:=match s with
 |.FunctionDef _ _ b _ _ _ _ _ _ _=>b
 |_=>[]
noncomputable def defScope (s:Stmt):Scope:=match s with
 |.FunctionDef _ _ _ _ _ _ sc _ _ _=>sc
 |_=>{ kind:=.function,names:=[],isGenerator:=false,isCoroutine:=false }
abbrev CX0:CXT:=fun _ _ _ _ _ _=>False
abbrev E0:XK:=fun _ _ _=>False
theorem Yv {X:Cx}:xc CX0 X E0:=fun _ _ _ _ _ _ _ h=>h.elim
structure Fun (K:PySem.W.Frag) (x qual:Str) (st:Stmt) (f:Addr) (fd:FuncData):Prop where
 ex:∃ (oc:Value) (od:Option Addr) (kV doc pm:Value) (an:Option Addr) (cdv ct:Value) (osl:Array (Option Value)),
  fd=PySem.W.fnOf x qual (defArgs st) (defBody st) (defScope st) .none kV doc pm an cdv ct∧K.lookup f=some ⟨oc,od,.func fd,osl⟩∧PySem.W.codeIn K cdv qual=true
 kp:PySem.W.keepIn K (.ref f)=true
section
variable {P:Program}{w:World}{K:PySem.W.Frag}{mg:Str→Option Value}{base:Heap}
theorem Fun.ok {x qual:Str}{st:Stmt}{f:Addr}{fd:FuncData}{N ps:List Str}{k:Nat}{sp:Sp}(F:Fun K x qual st f fd) (S:FnScope N ps (defScope st)) (len:∀ vs H Q E,sp vs H Q E→vs.length=ps.length)
  (hbody:∀ (cdv:Value) (A:Around) (outer:List Env) (s:Shared) (H:Hp) (vs:List V) (Q:VK) (E:XK),Room k (A.deeper (envOfC qual (defScope st) s.heap.objs.size f cdv))→sp vs H Q E →
   ∃ t,PSs (zaq CX0 P w K mg base N qual (defScope st) f cdv A outer s H E).nox (defBody st) t∧t { nx:=fun _ H'=>Q .non H',rt:=Q } (start N vs) H):FnOk P w K mg base CX0 (k+1) f fd ps sp:=by
 obtain⟨oc,od,kV,doc,pm,an,cdv,ct,osl,rfl,lk,hcd⟩:=F.ex
 refine znB lk hcd S len fun A outer s H vs Q E hr hsp=>?_
 obtain⟨t,h,q⟩:=hbody cdv A outer s H vs Q E hr hsp
 exact⟨t,h.nox,q⟩
theorem Fun.binds {x qual:Str}{st:Stmt}{f:Addr}{fd:FuncData}{ps:List Str}(F:Fun K x qual st f fd)
  (h:∀ (kV doc pm:Value) (an:Option Addr) (cdv ct:Value) (us:List Value),us.length=ps.length→bindArgs (PySem.W.fnOf x qual (defArgs st) (defBody st) (defScope st) .none kV doc pm an cdv ct) ⟨us,[]⟩=pure (ps.zip us)):Binds K fd ps []:=by
 obtain⟨oc,od,kV,doc,pm,an,cdv,ct,osl,rfl,lk,hcd⟩:=F.ex
 exact .all (h kV doc pm an cdv ct)
theorem zn {x qual:Str}{st:Stmt}{f:Addr}{oc:Value}{od an:Option Addr}{osl:Array (Option Value)}{kV doc pm cdv ct:Value}(l:K.lookup f=some ⟨oc,od,.func (PySem.W.fnOf x qual (defArgs st) (defBody st) (defScope st) .none kV doc pm an cdv ct),osl⟩)
  (c:PySem.W.codeIn K cdv qual=true) (k:PySem.W.keepIn K (.ref f)=true):Fun K x qual st f (PySem.W.fnOf x qual (defArgs st) (defBody st) (defScope st) .none kV doc pm an cdv ct):=⟨⟨oc,od,kV,doc,pm,an,cdv,ct,osl,rfl,l,c⟩,k⟩
end
theorem yH {A:Around}{k:Nat}(hr:Room k A):A.units+1<cLine:=Nat.lt_of_le_of_lt (Nat.add_le_add_left (by decide:1≤64) _) hr.units
theorem zj {n:Nat}(h:n≤1000):n<sizeLine:=Nat.lt_of_le_of_lt h (by decide)
section
variable {X:Cx}
theorem pv (i:Nat){x:Str}{pos:Pos}(hN:X.N[i]?=some x:=by rfl) (hv:Vis X.env.scope x:=by first | exact Or.inl rfl | exact Or.inr (Or.inl rfl) | exact Or.inr (Or.inr rfl)) (hd:(x == ("__debug__" : Str))=false:=by decide)
  (hcd:(x == ("__classdict__" : Str))=false:=by decide):PE X (.Name x pos) (zla i):=zfO hN hv hd hcd
end
theorem vI {A B:Prop}(h:B):if false=true then A else B:=by
 rw[if_neg Bool.false_ne_true]
 exact h
theorem Xw {A B:Prop}(h:A):if true=true then A else B:=by
 rw[if_pos rfl]
 exact h
theorem ite2 {c A B:Prop} [Decidable c] (h1:c→A) (h2:¬ c→B):if c then A else B:=by
 by_cases h:c
 ·rw[if_pos h]
  exact h1 h
 ·rw[if_neg h]
  exact h2 h
def Same (H H':Hp):Prop:=∀ b o,H b=some o→H' b=some o
theorem Same.refl (H:Hp):Same H H:=fun _ _ h=>h
theorem Same.trans {H H1 H2:Hp}(a:Same H H1) (b:Same H1 H2):Same H H2:=fun c o h=>b c o (a c o h)
theorem Same.free {H H':Hp}(e:Same H H'){l:Addr}(h:H' l=Option.none):H l=Option.none:=by
 cases q:H l with
 |none=>rfl
 |some o =>
  rw[e l o q] at h
  cases h
end L2

set_option maxHeartbeats 4000000
namespace L2
open PySem PySem.Spec PyProof.Rows
def zay (t u:TS):TS:=fun D σ H=>∃ M:St→Hp→Prop,t { D with nx:=M } σ H∧∀ σ' H',M σ' H'→u D σ' H'
theorem Vp {X:Cx}{st:Stmt}{rest:List Stmt}{t u:TS}(h1:PS X st t) (h2:PSs X rest u):PSs X (st::rest) (zay t u):=by
 intro pins s σ H D I h
 obtain⟨M,h,hM⟩:=h
 refine wpAny_execs_cons (thn (h1 pins s σ H { D with nx:=M } I h) fun f s1 q=>?_)
 cases f with
 |next =>
  obtain⟨σ',H',I',q⟩:=q
  exact h2 pins s1 σ' H' D I' (hM σ' H' q)
 |brk=>exact q
 |cont=>exact q
 |ret u=>exact q
theorem iteB {c:Bool}{A B:Prop}(hc:c=true) (h:A):if c=true then A else B:=by rw[if_pos hc];exact h
theorem zZ {c:Bool}{A B:Prop}(hc:c=false) (h:B):if c=true then A else B:=by rw[hc];exact vI h
def PTs (X:Cx) (ifs:List Expr) (t:TT):Prop :=
 ∀ (pins:List (Addr×Obj)) (s:Shared) (σ:St) (H:Hp) (Q:Bool→Hp→Prop),Inv X pins σ H s→t σ H Q →
  wpAny (model X.prog X.w) X.A (forIn ifs true fun c r=>if r=true then do let ok ← isTrue c X.env (eval c X.env);pure (ForInStep.yield ok) else pure (ForInStep.yield r)) (TP X pins σ Q) X.xe s
def zid:TT:=fun _ H Q=>Q true H
theorem Vo {X:Cx}:PTs X [] zid:=fun _ _ _ H _ I h=>wpAny_tests_nil ⟨H,I,h⟩
theorem Vn {X:Cx}{c:Expr}{t:TT}(h:PT X c t):PTs X [c] t:=fun pins s σ H Q I hw=>wpAny_tests_one (h pins s σ H Q I hw)
section
variable {prog:Program}{w:World}{A:Around}{R:Result→Shared→Prop}{s:Shared}
abbrev NoE:Value→Shared→Prop:=fun _ _=>False
theorem zmL {α:Type}{m:Sem α}{Q:α→Shared→Prop}{E:Value→Shared→Prop}{s:Shared}(h:wpAny (model prog w) A m Q NoE s):wpAny (model prog w) A m Q E s :=
 wpAny_mono h (fun _ _ q=>q) fun _ _ z=>z.elim
noncomputable def Xm (prog:Program) (w:World) (A:Around) (env:Env) (tg:Expr) (ifs:List Expr) (elt:Expr) (it acc:Value) (again:Shared→Prop) (v:Value) (s1:Shared):Prop :=
 wpAny (model prog w) A (letOwnedTupleGo tg it v) (fun _ s2=>wpAny (model prog w) A (assign tg env v) (fun _ s3 =>
  wpAny (model prog w) A (forIn ifs true fun c r=>if r=true then do let ok ← isTrue c env (eval c env);pure (ForInStep.yield ok) else pure (ForInStep.yield r)) (fun ok s4 =>
   if ok=true then wpAny (model prog w) A (eval elt env) (fun x s5=>wpAny (model prog w) A (call (.builtin "list.append") [acc,x]) (fun _ s6=>again s6) NoE s5) NoE s4
   else again s4) NoE s3) NoE s2) NoE s1
theorem Zd {elt tg iter:Expr}{ifs:List Expr}{scope:Scope}{pos:Pos}{it acc:Value}{env:Env}(J:Nat→Shared→Prop)
  (turn:∀ n s,J n s→wpAny (model prog w) A (pyNext it) (fun r s1=>match r with
   |none=>R (.ok .next) s1
   |some v=>Xm prog w A env tg ifs elt it acc (fun s6=>∃ m,m<n∧J m s6) v s1) NoE s)
  (n:Nat) (h:J n s):codeAny (model prog w) A (.compLoop (.ListComp elt [⟨tg,iter,ifs,0⟩] scope pos) 0 it acc env) R s:=by
 refine codeAny_loop rfl J (fun n s hJ=>?_) n h
 show wpAny _ A ((compTurn (.ListComp elt [⟨tg,iter,ifs,0⟩] scope pos) 0 it acc env).onRaise (fun x=>do noteFrame x env;theTreesLotGoes x)) _ _ s
 refine wpAny_noted (zmL ?_)
 rw[compTurn_list]
 refine wpAny_bind (wpAny_standAt (wpAny_bind (thn (turn n s hJ) fun r s1 h1=>?_)))
 cases r with
 |none=>exact wpAny_pure h1
 |some v =>
  refine wpAny_bind (thn h1 fun _ s2 h2=>wpAny_bind (thn h2 fun _ s3 h3=>wpAny_bind (thn h3 fun ok s4 h4=>?_)))
  cases ok with
  |false=>exact wpAny_pure ⟨rfl,h4⟩
  |true=>exact wpAny_bind (wpAny_bind (thn h4 fun x s5 h5=>wpAny_bind (thn h5 fun _ s6 h6=>wpAny_pure (wpAny_pure ⟨rfl,h6⟩))))
end
theorem ua {env:Env}:∀ (names:List (Str×NameKind)) (acc:List (Str×Addr)),(∀ y∈names,y.2=.free→∃ c,env.cells.lookup y.1=some c)→(∀ x c,acc.lookup x=some c→env.cells.lookup x=some c) →
  ∃ cl,(forIn names acc (fun(y:Str×NameKind) (cs:List (Str×Addr))=>(if (y.2 == NameKind.free)=true then(do let c ← cellOf env y.1;pure (ForInStep.yield ((y.1,c)::cs))) else pure (ForInStep.yield cs):Sem (ForInStep (List (Str×Addr))))))=(pure cl:Sem (List (Str×Addr))) ∧
   (∀ x c,cl.lookup x=some c→env.cells.lookup x=some c)∧(∀ x,(acc.lookup x).isSome=true→(cl.lookup x).isSome=true)∧(∀ y∈names,y.2=.free→(cl.lookup y.1).isSome=true)
 |[],acc,_,h2=>⟨acc,rfl,h2,fun _ h=>h,fun y hy=>by cases hy⟩
 |(n,k)::r,acc,h1,h2=>by
  have h1':∀ y∈r,y.2=.free→∃ c,env.cells.lookup y.1=some c:=fun y hy=>h1 y (List.mem_cons_of_mem _ hy)
  by_cases hk:k=.free
  ·subst hk
   obtain⟨c,hc⟩:=h1 (n,.free) List.mem_cons_self rfl
   have h2':∀ x c',(((n,c)::acc:List (Str×Addr)).lookup x)=some c'→env.cells.lookup x=some c':=fun x c' e=>by
    rw[List.lookup_cons] at e
    by_cases hx:(x == n)=true
    ·rw[hx] at e
     cases e
     rw[beq_iff_eq.mp hx]
     exact hc
    ·rw[Bool.not_eq_true] at hx
     rw[hx] at e
     exact h2 x c' e
   obtain⟨cl,e,p1,p2,p3⟩:=ua r ((n,c)::acc) h1' h2'
   refine⟨cl,?_,p1,fun x hx=>p2 x ?_,fun y hy hf=>?_⟩
   ·rw[List.forIn_cons]
    have q:cellOf env n=pure c:=by unfold cellOf;rw[hc]
    simp only[beq_self_eq_true,if_true,q,pure_bind]
    exact e
   ·rw[List.lookup_cons]
    cases q:x == n with
    |true=>rfl
    |false=>exact hx
   ·rcases List.mem_cons.mp hy with rfl | hy
    ·exact p2 n (by rw[List.lookup_cons,beq_self_eq_true];rfl)
    ·exact p3 y hy hf
  ·obtain⟨cl,e,p1,p2,p3⟩:=ua r acc h1' h2
   have hb:(k == NameKind.free)=false:=by simpa using hk
   refine⟨cl,?_,p1,p2,fun y hy hf=>?_⟩
   ·rw[List.forIn_cons]
    simp only[hb,Bool.false_eq_true,if_false,pure_bind]
    exact e
   ·rcases List.mem_cons.mp hy with rfl | hy
    ·exact absurd hf hk
    ·exact p3 y hy hf
structure Clos (env:Env) (scope:Scope) (cl:List (Str×Addr)):Prop where
 eq:closureFor scope env=pure cl
 sub:∀ x c,cl.lookup x=some c→env.cells.lookup x=some c
 all:∀ y∈scope.names,y.2=.free→(cl.lookup y.1).isSome=true
theorem Xc {env:Env}{scope:Scope}(h:∀ y∈scope.names,y.2=.free→∃ c,env.cells.lookup y.1=some c):∃ cl,Clos env scope cl:=by
 obtain⟨cl,e,p1,p2,p3⟩:=ua (env:=env) scope.names [] h (fun x c z=>by simp at z)
 refine⟨cl,⟨?_,p1,p3⟩⟩
 have q:closureFor scope env=(forIn scope.names [] (fun(y:Str×NameKind) (cs:List (Str×Addr))=>(if (y.2 == NameKind.free)=true then(do let c ← cellOf env y.1;pure (ForInStep.yield ((y.1,c)::cs))) else pure (ForInStep.yield cs):Sem (ForInStep (List (Str×Addr))))) >>= fun s=>pure s):=rfl
 rw[q,e,pure_bind]
abbrev yN (X:Cx) (scope:Scope) (N':List Str) (cl:List (Str×Addr)) (C:Addr) (s₀:Shared) (H₀:Hp) (fp:List Addr):Cx :=
 { X with N:=N',s₀:=s₀,H₀:=H₀,env:=compEnvC scope cl C X.env,outer:=X.stack,ex:=fp,fn:=fun _=>false,pn:=[],xe:=NoE }
structure Blk where
 cl:List (Str×Addr)
 C:Addr
 s₀:Shared
 H₀:Hp
 fp:List Addr
abbrev cxB (X:Cx) (scope:Scope) (N':List Str) (b:Blk):Cx:=yN X scope N' b.cl b.C b.s₀ b.H₀ b.fp
noncomputable def YY:Option NameKind→Bool
 |some .cell=>true
 |some .free=>true
 |_=>false
theorem xz {k:Option NameKind}(h:YY k=true):k=some .cell∨k=some .free:=by
 cases k with
 |none=>cases h
 |some k=>cases k<;>first | exact .inl rfl | exact .inr rfl | cases h
noncomputable def Wz (N:List Str) (kd kd':Str→Option NameKind) (N':List Str) (t:Nat):List Nat→Nat→Bool
 |[],k=>N'.length == t+k
 |j::r,k=>(match N[j]?,N'[t+k]? with
  |some x,some y=>(x == y)&&YY (kd x)&&YY (kd' x)
  |_,_=>false)&&Wz N kd kd' N' t r (k+1)
theorem vB {N:List Str}{kd kd':Str→Option NameKind}{N':List Str}{t:Nat}:∀ {caps:List Nat}{k:Nat},Wz N kd kd' N' t caps k=true→N'.length=t+k+caps.length
 |[],k,h=>by
  have:=beq_iff_eq.mp h
  simpa using this
 |j::r,k,h=>by
  have:=vB (Bool.and_eq_true_iff.mp h).2
  rw[List.length_cons]
  omega
theorem uH {N:List Str}{kd kd':Str→Option NameKind}{N':List Str}{t:Nat}:∀ {caps:List Nat}{k i j:Nat},Wz N kd kd' N' t caps k=true→caps[i]?=some j →
  ∃ x,N[j]?=some x∧N'[t+k+i]?=some x∧YY (kd x)=true∧YY (kd' x)=true
 |[],_,_,_,_,e=>by simp at e
 |j::r,k,0,j',h,e=>by
  simp at e
  subst e
  have h1:=(Bool.and_eq_true_iff.mp h).1
  cases q:N[j]? with
  |none=>rw[q] at h1;cases h1
  |some x =>
   cases q':N'[t+k]? with
   |none=>rw[q,q'] at h1;cases h1
   |some y =>
    rw[q,q'] at h1
    obtain⟨h2,h3⟩:=Bool.and_eq_true_iff.mp h1
    obtain⟨h4,h5⟩:=Bool.and_eq_true_iff.mp h2
    obtain rfl:x=y:=beq_iff_eq.mp h4
    exact⟨x,rfl,rfl,h5,h3⟩
 |j::r,k,i+1,j',h,e=>by
  obtain⟨x,a,b,c,d⟩:=uH (i:=i) (Bool.and_eq_true_iff.mp h).2 (by simpa using e)
  refine⟨x,a,?_,c,d⟩
  have q:t+(k+1)+i=t+k+(i+1):=by omega
  rw[← q]
  exact b
structure CompOk (X:Cx) (scope:Scope) (N':List Str) (t:Nat) (caps:List Nat):Prop where
 kind:scope.kind=.function
 shape:(scope.names.all fun y=>(y.2 == .local&&scope.names.lookup y.1 == some .local)||(y.2 == .free&&YY (X.env.kindOf y.1))||(y.2 == .globalImplicit))=true
 cap:Wz X.N X.env.kindOf (compEnvC scope [] 0 X.env).kindOf N' t caps 0=true
theorem CompOk.at {X:Cx}{scope:Scope}{N':List Str}{t:Nat}{caps:List Nat}(S:CompOk X scope N' t caps){y:Str×NameKind}(hy:y∈scope.names) :
  y.2≠.cell∧(y.2=.local→scope.names.lookup y.1=some .local)∧(y.2=.free→YY (X.env.kindOf y.1)=true):=by
 have h:=List.all_eq_true.mp S.shape y hy
 obtain⟨n,k⟩:=y
 cases k<;>simp at h<;>simp[h]
noncomputable def zh9 (t:Nat) (caps:List Nat) (σ:St):St:=List.replicate t none++caps.map fun j=>(σ[j]?).join
theorem xh {scope:Scope}{env:Env}{x:Str}:∀ {names:List (Str×NameKind)},(∀ y∈names,y.2≠.cell)→YY ((names.map fun(y:Str×NameKind)=>if (y.2 == NameKind.free&&env.scope.kind == .function&&env.kindOf y.1 == some .cell)=true then(y.1,NameKind.cell) else(y.1,y.2)).lookup x)=true →
  (x,NameKind.free)∈names
 |[],_,h=>by simp[YY] at h
 |(n,k)::r,hn,h=>by
  have hr:∀ y∈r,y.2≠.cell:=fun y hy=>hn y (List.mem_cons_of_mem _ hy)
  have hk:k≠.cell:=hn (n,k) List.mem_cons_self
  rw[List.map_cons] at h
  by_cases hx:(x == n)=true
  ·obtain rfl:x=n:=beq_iff_eq.mp hx
   have q:k=.free:=by
    by_cases hf:k=.free
    ·exact hf
    ·exfalso
     have hb:(k == NameKind.free)=false:=by simpa using hf
     simp only[hb,Bool.false_and,Bool.false_eq_true,if_false,List.lookup_cons,beq_self_eq_true] at h
     cases k<;>simp[YY] at h hk hf
   subst q
   exact List.mem_cons_self
  ·rw[Bool.not_eq_true] at hx
   refine List.mem_cons_of_mem _ (xh (scope:=scope) (env:=env) hr ?_)
   by_cases hc:(k == NameKind.free&&env.scope.kind == .function&&env.kindOf n == some .cell)=true
   ·simp only[hc,if_true,List.lookup_cons,hx] at h
    exact h
   ·rw[Bool.not_eq_true] at hc
    simp only[hc,Bool.false_eq_true,if_false,List.lookup_cons,hx] at h
    exact h
def Xo (J:It) (g:TG) (tc:TT) (te:TE) (Q:VK) (D:Addr) (τ0:St) (H0:Hp):Prop :=
 ∃ W:Nat→Nat→List V→St→Hp→Prop,(∃ m,W 0 m [] τ0 H0)∧∀ i m ys τ H,W i m ys τ H →
  (J.stop i H∧Q (.ref D) H)∨(J.go i H∧∃ N:List V→St→Hp→Prop,(∀ zs τ' H',N zs τ' H'→∃ m',m'<m∧W (i+1) m' zs τ' H')∧∀ x H3,J.yld i H x H3→g x τ H3 fun τ2 H4=>tc τ2 H4 fun b H5 =>
   if b=true then te τ2 H5 fun y H6=>H6 D=some (.lst ys)∧ys.length<sizeLine∧N (ys++[y]) τ2 (upd H6 D (.lst (ys++[y]))) else N ys τ2 H5)
def XF (wi:TI) (g:Blk→TG) (tc:Blk→TT) (te:Blk→TE) (t:Nat) (caps:List Nat):TE:=fun σ H Q =>
 wi σ H fun J H1=>∀ D,H1 D=none→∀ b:Blk,Xo J (g b) (tc b) (te b) Q D (zh9 t caps σ) (upd H1 D (.lst []))
theorem Xb {J:It}{g:TG}{tc:TT}{te:TE}{Q:VK}{D:Addr}{τ0:St}{H0:Hp}(n:Nat) (Pv:Nat→List V→St→Hp→Prop) (h0:Pv 0 [] τ0 H0)
  (hst:∀ zs τ H,Pv n zs τ H→J.stop n H∧Q (.ref D) H)
  (hgo:∀ i zs τ H,i<n→Pv i zs τ H→J.go i H∧∀ x H3,J.yld i H x H3→g x τ H3 fun τ2 H4=>tc τ2 H4 fun b H5 =>
   if b=true then te τ2 H5 fun y H6=>H6 D=some (.lst zs)∧zs.length<sizeLine∧Pv (i+1) (zs++[y]) τ2 (upd H6 D (.lst (zs++[y]))) else Pv (i+1) zs τ2 H5):Xo J g tc te Q D τ0 H0:=by
 refine⟨fun i m zs τ H=>m=n-i∧i≤n∧Pv i zs τ H,⟨n,by simp,Nat.zero_le _,h0⟩,?_⟩
 rintro i m zs τ H ⟨rfl,hi,p⟩
 by_cases hlt:i<n
 ·obtain⟨go,step⟩:=hgo i zs τ H hlt p
  exact .inr ⟨go,Pv (i+1),fun zs' τ' H' p'=>⟨n-(i+1),by omega,rfl,hlt,p'⟩,step⟩
 ·have e:i=n:=by omega
  subst e
  exact .inl (hst zs τ H p)
theorem zJ {K:PySem.W.Frag}{a:Addr}{xs:List V}{g:TG}{tc:TT}{te:TE}{Q:VK}{D:Addr}{τ0:St}{H0:Hp}(Pv:Nat→List V→St→Hp→Prop) (h0:Pv 0 [] τ0 H0) (hl:∀ i zs τ H,Pv i zs τ H→SqL K H a xs)
  (hs:∀ i x zs τ H,xs[i]?=some x→Pv i zs τ H→g x τ H fun τ2 H4=>tc τ2 H4 fun b H5 =>
   if b=true then te τ2 H5 fun y H6=>H6 D=some (.lst zs)∧zs.length<sizeLine∧Pv (i+1) (zs++[y]) τ2 (upd H6 D (.lst (zs++[y]))) else Pv (i+1) zs τ2 H5)
  (hd:∀ zs τ H,Pv xs.length zs τ H→Q (.ref D) H):Xo (Itl K a) g tc te Q D τ0 H0 :=
 Xb xs.length Pv h0 (fun zs τ H p=>⟨⟨xs,hl _ _ _ _ p,Nat.le_refl _⟩,hd zs τ H p⟩) fun i zs τ H hi p=>⟨⟨xs,xs[i],hl _ _ _ _ p,by simp[hi]⟩,fun x H3 y=>by
  obtain⟨e,y⟩:=y
  subst e
  exact hs i x zs τ _ (y xs (hl _ _ _ _ p)) p⟩
theorem Zc {lo:Int}{n:Nat}{g:TG}{tc:TT}{te:TE}{Q:VK}{D:Addr}{τ0:St}{H0:Hp}(Pv:Nat→List V→St→Hp→Prop) (h0:Pv 0 [] τ0 H0)
  (hs:∀ i zs τ H,i<n→Pv i zs τ H→g (.int (lo+i)) τ H fun τ2 H4=>tc τ2 H4 fun b H5 =>
   if b=true then te τ2 H5 fun y H6=>H6 D=some (.lst zs)∧zs.length<sizeLine∧Pv (i+1) (zs++[y]) τ2 (upd H6 D (.lst (zs++[y]))) else Pv (i+1) zs τ2 H5)
  (hd:∀ zs τ H,Pv n zs τ H→Q (.ref D) H):Xo (Itr lo n) g tc te Q D τ0 H0 :=
 Xb n Pv h0 (fun zs τ H p=>⟨Nat.le_refl _,hd zs τ H p⟩) fun i zs τ H hi p=>⟨hi,fun x H3 y=>by
  obtain⟨e,y⟩:=y
  subst e y
  exact hs i zs τ _ hi p⟩
section
variable {X:Cx}{tg iter elt:Expr}{ifs:List Expr}{scope:Scope}{pos:Pos}{N':List Str}{t:Nat}{caps:List Nat}{g:Blk→TG}{tc:Blk→TT}{te:Blk→TE}{wi:TI}
theorem FpOk.heap {pins:List (Addr×Obj)}{H H':Hp}{b:Addr}(f:FpOk X pins H b) (h:H' b=none):FpOk X pins H' b:=⟨h,f.2⟩
theorem vA {cl:List (Str×Addr)}{J:It}{fp:List Addr}{it:Addr}{tn:Nat→Heap→Prop}{pins:List (Addr×Obj)}{σ:St}{H2:Hp}{s2:Shared}{Q:VK}{E:Value→Shared→Prop}
  (hc:X.calm=true) (S:CompOk X scope N' t caps) (L:Clos X.env scope cl)
  (hg:∀ b,PG (cxB X scope N' b) tg (g b)) (ht:∀ b,PTs (cxB X scope N' b) ifs (tc b)) (he:∀ b,PE (cxB X scope N' b) elt (te b))
  (I2:Inv X pins σ H2 s2) (T:Turn X.prog X.w X.K tg J fp it tn) (st2:tn 0 s2.heap) (f2:∀ b∈fp,FpOk X pins H2 b)
  (R:∀ D,H2 D=none→∀ b,Xo J (g b) (tc b) (te b) Q D (zh9 t caps σ) (upd H2 D (.lst []))) :
  wpAny (model X.prog X.w) X.A (newList []) (fun acc s3=>wpAny (model X.prog X.w) X.A (newFunctionEnv scope X.env.globals cl [] X.env.qual none .none (some X.env)) (fun cenv s4 =>
   codeAny (model X.prog X.w) X.A (.compStart (.ListComp elt [⟨tg,iter,ifs,0⟩] scope pos) 0 (.ref it) acc { cenv with scope:=relabel scope X.env })
    (fun r s'=>∃ (D:Addr) (H':Hp) (m:Str→Option Value),acc=.ref D∧r=.ok .next∧Inv X pins σ H' s'∧s'.heap.Ns cenv.locals m∧FpOk X pins H' cenv.locals∧Q (.ref D) H') s4) E s3) E s2:=by
 refine wpAny_newObj_type ?_
 have I3:Inv X pins σ (upd H2 s2.heap.objs.size (.lst [])) { s2 with heap:=s2.heap.push { cls:=.type "list",data:=.seq ([]:List Value).toArray } }:=I2.lnew (t':=s2.toks) .nil (Nat.zero_le _)
 have hD:H2 s2.heap.objs.size=none:=I2.fresh
 have R:=R _ hD
 generalize hs3:({ s2 with heap:=s2.heap.push { cls:=.type "list",data:=.seq ([]:List Value).toArray } }:Shared)=s3 at I3 ⊢
 generalize hH3:upd H2 s2.heap.objs.size (.lst [])=H3 at I3 R
 generalize hDD:s2.heap.objs.size=D at R ⊢
 have k3:∀ b o,s2.heap.get? b=some o→s3.heap.get? b=some o:=fun b o e=>by rw[← hs3];exact Heap.get?_push_of_some _ e
 have st3:tn 0 s3.heap:=T.keep 0 _ _ st2 fun b _ o e=>k3 b o e
 have fpn:∀ b∈fp,H3 b=none:=fun b hb=>by
  obtain⟨o,e,_⟩:=T.obj 0 _ st2 b hb
  rw[← hH3,upd_ne (Nat.ne_of_lt (Heap.lt_size e))]
  exact(f2 b hb).1
 have f3:∀ b∈fp,FpOk X pins H3 b:=fun b hb=>(f2 b hb).heap (fpn b hb)
 refine wpAny_newFunctionEnv (fun y hy=>(S.at hy).1) (by intro y hy;simp at hy) (fun h4 hns hsb=>?_) S.kind
 generalize hC:s3.heap.objs.size=C at hns hsb ⊢
 have k4:∀ b o,s3.heap.get? b=some o→h4.get? b=some o:=fun b o e=>hsb.extBut b o (by rw[← hC];exact Nat.ne_of_lt (Heap.lt_size e)) (Heap.get?_push_of_some _ e)
 have cellsub:∀ x c,(yN X scope N' cl C s3 H3 fp).env.cells.lookup x=some c→X.env.cells.lookup x=some c:=L.sub
 have hnc:∀ y∈scope.names,y.2≠.cell:=fun y hy=>(S.at hy).1
 have fC:∀ {H':Hp},H' C=none→FpOk X pins H' C:=fun h=>by rw[← hC] at h ⊢;exact I3.fpOk (Nat.le_refl _) h
 have I4:Inv (yN X scope N' cl C s3 H3 fp) [] (zh9 t caps σ) H3 { s3 with heap:=h4,toks:=s3.toks+([]:List (Str×Value)).length }:=by
  refine⟨⟨I3.ok.mod,S.kind,I3.ok.glob,I3.ok.blt,Nat.le_of_eq hC,fun x y c h1 h2=>I3.ok.inj x y c (L.sub _ _ h1) (L.sub _ _ h2),fun x hx=>?_,fun x c h _=>absurd (show false=true from h) Bool.false_ne_true,I3.ok.hd,I3.ok.frames,.inl rfl,fun b hb=>⟨?_,fun x c e=>(f3 b hb).2.2.2.2.1 x c (L.sub x c e)⟩,
    I3.bs,Nat.le_trans I3.ok.bsz I3.sz,fun b o e hb=>?_,fun b hb z=>?_,I3.stack,I3.stkFree⟩,
   rfl,I3.bare,Un.kept k4,⟨_,hns,fun i x v e1 e2 e3=>?_⟩,fun x c e=>?_,(by rw[← hC];exact I3.fresh),fun x c e=>I3.freeC x c (L.sub x c e),fun p hp=>?_,I3.hok.kept k4,?_⟩
  ·have hx':YY ((relabel scope X.env).names.lookup x)=true:=by
    rcases hx with q | q
    ·rw[show(relabel scope X.env).names.lookup x=some .cell from q];rfl
    ·rw[show(relabel scope X.env).names.lookup x=some .free from q];rfl
   exact Option.isSome_iff_exists.mp (L.all _ (xh (scope:=scope) hnc hx') rfl)
  ·obtain⟨o,e,_⟩:=T.obj 0 _ st3 b hb
   rw[← hC]
   exact Nat.ne_of_lt (Heap.lt_size e)
  ·rcases(f3 b hb).2.2.2.1 with z | z
   ·exact I3.ok.noex b o e z
   ·exact absurd (Nat.lt_of_lt_of_le (Nat.lt_of_lt_of_le (Heap.lt_size e) I3.ok.bsz) z) (Nat.lt_irrefl _)
  ·rcases List.mem_cons.mp (I3.stkSub b z) with q | q
   ·exact(f3 b hb).2.1 q
   ·exact(f3 b hb).2.2.1 q
  ·-- a name that was taken over
   unfold zh9 at e2
   by_cases hi:i<t
   ·rw[List.getElem?_append_left (by simpa using hi),List.getElem?_replicate] at e2
    simp[hi] at e2
   ·rw[List.getElem?_append_right (by simpa using hi),List.length_replicate,List.getElem?_map] at e2
    cases q:caps[i-t]? with
    |none=>rw[q] at e2;simp at e2
    |some j =>
     rw[q] at e2
     obtain⟨y,c1,c2,c3,c4⟩:=uH S.cap q
     have ei:t+0+(i-t)=i:=by omega
     rw[ei] at c2
     have exy:x=y:=Option.some.inj ((show N'[i]?=some x from e1).symm.trans c2)
     subst exy
     have e2':σ[j]?=some (some v):=by
      have e2:(σ[j]?).join=some v:=Option.some.inj e2
      cases r:σ[j]? with
      |none=>rw[r] at e2;cases e2
      |some z =>
       rw[r] at e2
       have e2:z=some v:=e2
       rw[e2]
     obtain⟨m,hn,hl⟩:=I3.loc
     have cf:=xz c3
     obtain⟨u,ru,lk⟩:=hl j x v c1 e2' (.inr (by
      rcases cf with z | z
      ·exact .inl z
      ·exact .inr z))
     refine⟨u,ru,.inr ⟨xz c4,?_⟩⟩
     rcases lk with⟨z,_⟩ | ⟨_,c,ec,zc⟩
     ·rcases cf with w | w<;>(rw[z] at w;cases w)
     ·have hfree:=xh (scope:=scope) (env:=X.env) (x:=x) hnc c4
      obtain⟨c',ec'⟩:=Option.isSome_iff_exists.mp (L.all _ hfree rfl)
      have:=L.sub _ _ ec'
      rw[show X.env.cells.lookup x=some c from ec] at this
      cases this
      obtain⟨o,ho,hd⟩:=zc
      exact⟨c,ec',o,k4 _ _ ho,hd⟩
  ·obtain⟨v,o,ho,hd⟩:=I3.cell x c (L.sub x c e)
   exact⟨v,o,k4 _ _ ho,hd⟩
  ·exact absurd (show p∈([]:List (Addr×Obj)) from hp) (by simp)
  ·unfold zh9
   rw[List.length_append,List.length_replicate,List.length_map,vB S.cap]
   omega
 obtain⟨W,⟨m0,w0⟩,turn⟩:=R ⟨cl,C,s3,H3,fp⟩
 -- back to the frame outside
 have back:∀ {τ:St}{H':Hp}{s':Shared},Inv (yN X scope N' cl C s3 H3 fp) [] τ H' s'→Inv X pins σ H' s':=fun {τ H' s'} J=>by
  refine I3.call' (ch:=fp) (J.os.trans ?_) J.base J.hok J.bare fun b hb=>⟨(f3 b hb).2.2.2.1,(f3 b hb).2.1,(f3 b hb).2.2.2.2.1,(f3 b hb).2.2.2.2.2⟩
  rfl
 have stat:∀ {H':Hp},(∀ b∈fp,H' b=none)→∀ b∈fp,FpOk (yN X scope N' cl C s3 H3 fp) [] H' b:=fun {H'} hn b hb=>by
  refine⟨hn b hb,(I4.ok.exf b hb).1,I4.ok.exfs b hb,.inl hb,(I4.ok.exf b hb).2,fun p hp=>?_⟩
  exact absurd (show p∈([]:List (Addr×Obj)) from hp) (by simp)
 have loop:codeAny (model X.prog X.w) X.A (.compLoop (.ListComp elt [⟨tg,iter,ifs,0⟩] scope pos) 0 (.ref it) (.ref D) (compEnvC scope cl C X.env))
   (fun r s'=>∃ (D':Addr) (H':Hp) (m:Str→Option Value),Value.ref D=.ref D'∧r=.ok .next∧Inv X pins σ H' s'∧s'.heap.Ns C m∧FpOk X pins H' C∧Q (.ref D') H') { s3 with heap:=h4,toks:=s3.toks+([]:List (Str×Value)).length }:=by
  refine Zd (fun n s'=>∃ i ys τ H',Inv (yN X scope N' cl C s3 H3 fp) [] τ H' s'∧tn i s'.heap∧(∀ b∈fp,H' b=none)∧W i n ys τ H') ?_ m0 ⟨0,[],_,H3,I4,T.keep 0 _ _ st3 fun b _ o e=>k4 b o e,fpn,w0⟩
  rintro n s5 ⟨i,ys,τ,H5,I5,st5,fr5,w5⟩
  rcases turn i n ys τ H5 w5 with⟨stop,q⟩ | ⟨go,N,hN,step⟩
  ·refine thn (T.done (yN X scope N' cl C s3 H3 fp) rfl rfl rfl hc i [] s5 τ H5 NoE I5 (stat fr5) st5 stop) fun r s6 ⟨hr,I6⟩=>?_
   subst hr
   obtain⟨m,hm,_⟩:=id I6.loc
   exact⟨D,H5,m,rfl,rfl,back I6,hm,fC I6.free,q⟩
  ·refine thn (T.item (yN X scope N' cl C s3 H3 fp) rfl rfl rfl hc i [] s5 τ H5 NoE I5 (stat fr5) st5 go) fun r s6 ⟨u,hr,h6⟩=>?_
   subst hr
   refine thn h6 fun _ s7 hq0=>?_
   obtain⟨x,H7,I7,r7,y7,st7,fr7⟩:=hq0
   have I7':=I7.pinned (stat fr7) (T.obj _ _ st7)
   have again:∀ {τ9:St}{H9:Hp}{s9:Shared}{ys9:List V}{m':Nat},Inv (yN X scope N' cl C s3 H3 fp) ([]++vj fp s7.heap) τ9 H9 s9→m'<n→W (i+1) m' ys9 τ9 H9 →
     ∃ m,m<n∧∃ i ys τ H',Inv (yN X scope N' cl C s3 H3 fp) [] τ H' s9∧tn i s9.heap∧(∀ b∈fp,H' b=none)∧W i m ys τ H':=fun {τ9 H9 s9 ys9 m'} I9 hm w9=>by
    refine⟨m',hm,i+1,ys9,τ9,H9,I9.unpinned,T.keep _ _ _ st7 fun b hb o e=>(I9.pin (b,o) (List.mem_append_right _ (List.mem_append_right _ (yF hb e)))).1,fun b hb=>?_,w9⟩
    obtain⟨o,e,_⟩:=T.obj _ _ st7 b hb
    exact(I9.pin (b,o) (List.mem_append_right _ (List.mem_append_right _ (yF hb e)))).2.1
   refine thn (hg ⟨cl,C,s3,H3,fp⟩ _ s7 τ H7 x u _ I7' r7 (step x H7 y7)) fun _ s8 hq0=>?_
   obtain⟨τ8,H8,I8,q8⟩:=hq0
   refine thn (ht ⟨cl,C,s3,H3,fp⟩ _ s8 τ8 H8 _ I8 q8) fun ok s9 hq0=>?_
   obtain⟨H9,I9,q9⟩:=hq0
   cases ok with
   |false =>
    obtain⟨m',hm,w9⟩:=hN _ _ _ (show N ys τ8 H9 from q9)
    exact again I9 hm w9
   |true =>
    refine thn (he ⟨cl,C,s3,H3,fp⟩ _ s9 τ8 H9 _ I9 q9) fun y s10 hq0=>?_
    obtain⟨z,H10,I10,r10,hl,hz,q10⟩:=hq0
    refine thn (zH _ s10 τ8 H10 (.ref D) [z] (.ref D) [y] (fun v H11=>v=.non∧H11=upd H10 D (.lst (ys++[z]))) I10 rfl (.cons r10 .nil) ⟨D,ys,z,rfl,rfl,hl,hz,rfl,rfl⟩) fun _ s11 hq0=>?_
    obtain⟨v,H11,I11,_,_,e11⟩:=hq0
    subst e11
    obtain⟨m',hm,w10⟩:=hN _ _ _ q10
    exact again I11 hm w10
 exact codeAny_compStart_list loop (T.self _ 0 _ _ _ (T.keep 0 _ _ st3 fun b _ o e=>k4 b o e) loop)
theorem VB (hc:X.calm=true) (S:CompOk X scope N' t caps) (hi:PI X tg iter wi)
  (hg:∀ b,PG (cxB X scope N' b) tg (g b)) (ht:∀ b,PTs (cxB X scope N' b) ifs (tc b)) (he:∀ b,PE (cxB X scope N' b) elt (te b))
  (hs:∀ x,foldedSetIterable iter X.env x=pure x:=by intro _;rfl):PE X (.ListComp elt [⟨tg,iter,ifs,0⟩] scope pos) (XF wi g tc te t caps):=by
 intro pins s σ H Q I h
 obtain⟨cl,L⟩:=Xc (env:=X.env) (scope:=scope) fun y hy hf=>I.ok.has y.1 (xz ((S.at hy).2.2 hf))
 rw[eval_ListComp]
 refine wpAny_comprehension_free (use:=none) rfl hs L.eq S.kind (fun y hy=>(S.at hy).2.1) (thn (hi pins s σ H _ I h) fun x s1 h1=>thn h1 fun itv s2 h2=>?_)
 obtain⟨it,fp,tn,J,H2,rfl,I2,T,st2,f2,R⟩:=h2
 refine thn (vA hc S L hg ht he I2 T st2 f2 R) fun acc s3 h3=>thn h3 fun cenv s4 h4=>codeAny_mono h4 fun r s' hr=>?_
 obtain⟨D,H',m,rfl,rfl,I',hm,fC,q⟩:=hr
 obtain⟨c0,c1,c2,c3,c4,c5⟩:=fC
 exact⟨m,hm,fun h' sb=>⟨.ref D,H',I'.turned (t':=s'.toks) (fun b o hb e=>sb.extBut b o hb e) c0 c1 c3 c4 c5,rfl,q⟩⟩
theorem uV {i:Nat}{y:Str}{py spos:Pos}(hc:X.calm=true) (hN:X.N.Nodup) (hiy:X.N[i]?=some y) (hy:Loc X.env.scope y) (S:CompOk X scope N' t caps) (hi:PI X tg iter wi)
  (hg:∀ b,PG (cxB X scope N' b) tg (g b)) (ht:∀ b,PTs (cxB X scope N' b) ifs (tc b)) (he:∀ b,PE (cxB X scope N' b) elt (te b))
  (hsw:swapsWith (.ListComp elt [⟨tg,iter,ifs,0⟩] scope pos) (some (.Name y py)) spos.line X.env=pure true:=by rfl)
  (hs:∀ x,foldedSetIterable iter X.env x=pure x:=by intro _;rfl) (hf:X.fn y=true∨X.env.scope.names.lookup y=some .local:=by first | exact .inl rfl | exact .inr rfl | assumption) :
  PS X (.Assign [.Name y py] (.ListComp elt [⟨tg,iter,ifs,0⟩] scope pos) spos) (zad (XF wi g tc te t caps) (v8 i)):=by
 intro pins s σ H D' I h
 obtain⟨cl,L⟩:=Xc (env:=X.env) (scope:=scope) fun y hy hf=>I.ok.has y.1 (xz ((S.at hy).2.2 hf))
 rw[exec_Assign_Name_used _ _ _ _ hsw]
 refine wpAny_bind (wpAny_standAt (wpAny_bind ?_))
 show wpAny _ X.A (comprehension (.ListComp elt [⟨tg,iter,ifs,0⟩] scope pos) scope X.env _ (newList []) false (eval iter X.env) (some (assign (.Name y py) X.env)) >>= fun _=>pure ()) _ _ s
 refine wpAny_bind (thn (Q:=fun _ s'=>SP X pins D' .next s') ?_ fun _ s' hq=>wpAny_pure (wpAny_pure hq))
 refine wpAny_comprehension_free (use:=some (assign (.Name y py) X.env)) rfl hs L.eq S.kind (fun y hy=>(S.at hy).2.1) (thn (hi pins s σ H _ I h) fun x s1 h1=>thn h1 fun itv s2 h2=>?_)
 obtain⟨it,fp,tn,J,H2,rfl,I2,T,st2,f2,R⟩:=h2
 refine thn (vA hc S L hg ht he I2 T st2 f2 R) fun acc s3 h3=>thn h3 fun cenv s4 h4=>codeAny_mono h4 fun r s' hr=>?_
 obtain⟨D,H',m,rfl,rfl,I',hm,fC,q⟩:=hr
 obtain⟨c0,c1,c2,c3,c4,c5⟩:=fC
 show wpAny _ X.A (assign (.Name y py) X.env (.ref D)) _ _ _
 refine wpAny_assign_Name (w6 I' hN hiy hy (show RelV (.ref D) (.ref D) from rfl) (fun s'' I'' hq0=>?_) hf)
 obtain⟨a,sb,ha⟩:=hq0
 have hne:cenv.locals≠a:=by
  rcases ha with z | z
  ·rw[z];exact c1
  ·exact fun z'=>c4 y a z z'.symm
 refine⟨m,hm.sameBut sb hne,fun h' sb'=>?_⟩
 exact⟨_,H',I''.turned (t':=s''.toks) (fun b o hb e=>sb'.extBut b o hb e) c0 c1 c3 c4 c5,q⟩
end
end L2

namespace L2
open PySem PySem.Spec PyProof.Rows
def znJ (i j:Int):Prop:=0<j∧j.natAbs.log2<9000
section
variable {X:Cx}
theorem xw:OpR X (binaryOp .FloorDiv) (rI znJ fun i j=>.int (i/j)):=opI fun i j _ _ _ _ _ hc q=>by
 have e:i.fdiv j=i/j:=Int.fdiv_eq_ediv_of_nonneg i (Int.le_of_lt hc.1)
 exact floordiv_int (Ne.symm (Int.ne_of_lt hc.1)) (by rw[e];exact q) (.inl (PyProof.noPylong_of_log2 hc.2))
noncomputable def znG:V→Option Value
 |.ty n=>some (.type n)
 |.ref a=>some (.ref a)
 |_=>none
theorem Wy {c:V}{cv u:Value}(h:znG c=some cv) (r:RelV c u):u=cv:=by
 cases c<;>simp[znG] at h
 ·exact(show u=Value.ref _ from r).trans h
 ·exact(show u=Value.type _ from r).trans h
def zwz (K:PySem.W.Frag):List V→Hp→VK→Prop:=fun xs H Q=>∃ x c t cv b,xs=[x,c]∧znG c=some cv∧TyOf K H x t∧PySem.W.kitOne K t cv=some b∧Q (.bl b) H
theorem zQ:yv X (.builtin "isinstance") (zwz X.K):=by
 intro pins s σ H xs us Q I r h
 obtain⟨x,c,t,cv,b,rfl,hc,ty,e,q⟩:=h
 obtain⟨u,v,rfl,r1,r2⟩:=r.two
 obtain rfl:=Wy hc r2
 exact YX I r1 ty e fun tk=>⟨.bl b,H,I.tok tk,rfl,q⟩
inductive EqD (K:PySem.W.Frag) (H:Hp):V→V→Bool→Nat→Prop where
 |flat {x y:V}{n:Nat}(fx:yR x=true) (fy:yR y=true):EqD K H x y (eqV x y) n
 |same {a:Addr}{n:Nat}:EqD K H (.ref a) (.ref a) true n
 |lst {a b:Addr}{xs ys:List V}{e:Nat→Bool}{n:Nat}(hne:a≠b) (ha:SqL K H a xs) (hb:SqL K H b ys) (hl:xs.length=ys.length) (h:∀ (j:Nat) x y,xs[j]?=some x→ys[j]?=some y→EqD K H x y (e j) n) :
   EqD K H (.ref a) (.ref b) ((List.range xs.length).all e) (n+1)
 |tup {a b:Addr}{xs ys:List V}{e:Nat→Bool}{n:Nat}(hne:a≠b) (ha:SqT K H a xs) (hb:SqT K H b ys) (hl:xs.length=ys.length) (h:∀ (j:Nat) x y,xs[j]?=some x→ys[j]?=some y→EqD K H x y (e j) n) :
   EqD K H (.ref a) (.ref b) ((List.range xs.length).all e) (n+1)
theorem yB (A:Around):A.in1.units=A.units+1:=rfl
theorem EqD.at {pins:List (Addr×Obj)}{σ:St}{H:Hp}{s:Shared}{x y:V}{b:Bool}{n:Nat}(I:Inv X pins σ H s) (h:EqD X.K H x y b n) :
  ∀ (A:Around) (u v:Value),A.units+n<cLine→RelV x u→RelV y v→SeqAt.EqAt A s u v b:=by
 induction h with
 |flat fx fy=>intro A u v _ rx ry;exact eqAt_V rx ry fx fy
 |same=>intro A u v _ rx ry;cases rx;cases ry;exact SeqAt.EqAt.same _
 | @lst a b xs ys e n hne ha hb hl h ih =>
  intro A u v hu rx ry
  cases rx;cases ry
  obtain⟨i1,r1,p1,_⟩:=I.list ha
  obtain⟨i2,r2,p2,_⟩:=I.list hb
  have l1:=r1.length
  have l2:=r2.length
  refine SeqAt.EqAt.of_refs hne ?_
  have q:=SeqAt.RcAt.lists (A:=A) (s:=s) (e:=e) p1.isList p2.isList (by simp;omega) (by omega) (fun j h1 h2=>?_)
  ·rw[List.size_toArray,← l1] at q
   exact q
  ·have g1:j<xs.length:=by rw[l1];simpa using h1
   have g2:j<ys.length:=by rw[l2];simpa using h2
   obtain⟨u1,e1,q1⟩:=r1.get (i:=j) (x:=xs[j]) (by simp[g1])
   obtain⟨u2,e2,q2⟩:=r2.get (i:=j) (x:=ys[j]) (by simp[g2])
   have f1:i1.toArray[j]=u1:=by
    have:=List.getElem?_eq_some_iff.mp e1
    obtain⟨_,z⟩:=this
    simpa using z
   have f2:i2.toArray[j]=u2:=by
    have:=List.getElem?_eq_some_iff.mp e2
    obtain⟨_,z⟩:=this
    simpa using z
   rw[f1,f2]
   exact ih j _ _ (by simp[g1]) (by simp[g2]) A.in1 u1 u2 (by rw[yB];omega) q1 q2
 | @tup a b xs ys e n hne ha hb hl h ih =>
  intro A u v hu rx ry
  cases rx;cases ry
  obtain⟨i1,r1,p1,_⟩:=I.tuple ha
  obtain⟨i2,r2,p2,_⟩:=I.tuple hb
  have l1:=r1.length
  have l2:=r2.length
  refine SeqAt.EqAt.of_refs hne ?_
  have q:=SeqAt.RcAt.tuples (A:=A) (s:=s) (e:=e) (show s.heap.IsTuple a i1.toArray from p1) (show s.heap.IsTuple b i2.toArray from p2) (by omega) (fun j h1 h2=>?_)
  ·have z:i1.toArray.size=i2.toArray.size:=by simp;omega
   rw[← z,Nat.min_self,beq_self_eq_true,Bool.and_true,List.size_toArray,← l1] at q
   exact q
  ·have g1:j<xs.length:=by rw[l1];simpa using h1
   have g2:j<ys.length:=by rw[l2];simpa using h2
   obtain⟨u1,e1,q1⟩:=r1.get (i:=j) (x:=xs[j]) (by simp[g1])
   obtain⟨u2,e2,q2⟩:=r2.get (i:=j) (x:=ys[j]) (by simp[g2])
   have f1:i1.toArray[j]=u1:=by
    have:=List.getElem?_eq_some_iff.mp e1
    obtain⟨_,z⟩:=this
    simpa using z
   have f2:i2.toArray[j]=u2:=by
    have:=List.getElem?_eq_some_iff.mp e2
    obtain⟨_,z⟩:=this
    simpa using z
   rw[f1,f2]
   exact ih j _ _ (by simp[g1]) (by simp[g2]) A.in1 u1 u2 (by rw[yB];omega) q1 q2
def zwA (K:PySem.W.Frag) (A:Around) (neg:Bool):R2:=fun x y H Q=>∃ (a b:Addr) (xs ys:List V) (e:Nat→Bool) (n:Nat),x=.ref a∧y=.ref b∧((SqL K H a xs∧SqL K H b ys)∨(SqT K H a xs∧SqT K H b ys))∧xs.length=ys.length ∧
 A.units+n+2<cLine∧(∀ (j:Nat) x y,xs[j]?=some x→ys[j]?=some y→EqD K H x y (e j) n)∧Q (.bl (if neg then !(List.range xs.length).all e else(List.range xs.length).all e)) H
theorem uB {pins:List (Addr×Obj)}{σ:St}{H:Hp}{s:Shared}{A:Around}{xs ys:List V}{i1 i2:List Value}{e:Nat→Bool}{n:Nat}(I:Inv X pins σ H s) (r1:Vals xs i1) (r2:Vals ys i2) (hu:A.units+n+2<cLine)
  (h:∀ (j:Nat) x y,xs[j]?=some x→ys[j]?=some y→EqD X.K H x y (e j) n):∀ (j:Nat) (h1:j<i1.toArray.size) (h2:j<i2.toArray.size),SeqAt.EqAt A.in1 s i1.toArray[j] i2.toArray[j] (e j):=fun j h1 h2=>by
 have g1:j<xs.length:=by rw[r1.length];simpa using h1
 have g2:j<ys.length:=by rw[r2.length];simpa using h2
 obtain⟨u1,e1,q1⟩:=r1.get (i:=j) (x:=xs[j]) (by simp[g1])
 obtain⟨u2,e2,q2⟩:=r2.get (i:=j) (x:=ys[j]) (by simp[g2])
 have f1:i1.toArray[j]=u1:=by
  obtain⟨_,z⟩:=List.getElem?_eq_some_iff.mp e1
  simpa using z
 have f2:i2.toArray[j]=u2:=by
  obtain⟨_,z⟩:=List.getElem?_eq_some_iff.mp e2
  simpa using z
 rw[f1,f2]
 exact(h j _ _ (by simp[g1]) (by simp[g2])).at I A.in1 u1 u2 (by rw[yB];omega) q1 q2
theorem Yz:OpR X (compareOp .Eq) (zwA X.K X.A false):=by
 intro pins s σ H x y v u Q I rx ry h
 obtain⟨a,b,xs,ys,e,n,rfl,rfl,hq,hl,hu,hi,q⟩:=h
 cases rx;cases ry
 rcases hq with⟨h1,h2⟩ | ⟨h1,h2⟩
 ·obtain⟨i1,r1,p1,_⟩:=I.list h1
  obtain⟨i2,r2,p2,_⟩:=I.list h2
  refine SeqAt.eq_listAt p1.isList p2.isList (by simp;rw[← r1.length,← r2.length,hl]) (by omega) (uB I r1 r2 hu hi) ⟨.bl _,H,I,rfl,?_⟩
  rw[List.size_toArray,← r1.length]
  exact q
 ·obtain⟨i1,r1,p1,_⟩:=I.tuple h1
  obtain⟨i2,r2,p2,_⟩:=I.tuple h2
  have z:i1.toArray.size=i2.toArray.size:=by simp;rw[← r1.length,← r2.length,hl]
  refine SeqAt.eq_tupleAt (show s.heap.IsTuple a i1.toArray from p1) (show s.heap.IsTuple b i2.toArray from p2) (by omega) (uB I r1 r2 hu hi) ⟨.bl _,H,I,rfl,?_⟩
  rw[← z,Nat.min_self,beq_self_eq_true,Bool.and_true,List.size_toArray,← r1.length]
  exact q
theorem wt:yv X (.type "dict") (fun xs H Q=>∃ a kvs,xs=[V.ref a]∧H a=some (.dK kvs)∧∀ p,H p=none→Q (.ref p) (upd H p (.dK kvs))):=by
 intro pins s σ H xs us Q I r h
 obtain⟨a,kvs,rfl,ha,q⟩:=h
 obtain⟨u,rfl,ru⟩:=r.one
 cases ru
 exact Ww I (.inl ha) fun p s' hp I'=>⟨.ref p,_,I',rfl,q p hp⟩
end
structure Callee (P:Program) (w:World) (K:PySem.W.Frag) (mg:Str→Option Value) (base:Heap) (x:Str) (f:Addr) (fd:FuncData) (ps:List Str) (k:Nat) (sp:Sp):Prop where
 ok:FnOk P w K mg base CX0 k f fd ps sp
 g:mg x=some (.ref f)
 kp:PySem.W.keepIn K (.ref f)=true
 b:Binds K fd ps []
structure Maker (P:Program) (w:World) (K:PySem.W.Frag) (mg:Str→Option Value) (base:Heap) (x:Str) (C f:Addr) (fd:FuncData) (ps:List Str) (k:Nat) (sp:Sp):Prop where
 ok:FnOk P w K mg base CX0 k f fd ps sp
 g:mg x=some (.ref C)
 mm:Mk K C f
 b:Binds K fd ps []
section
variable {X:Cx}{k:Nat}{f C:Addr}{fd:FuncData}{ps:List Str}{sp:Sp}{x m:Str}{p pos apos:Pos}{e o:Expr}{es:List Expr}{ta:TE}{t:TA}
theorem WR (c:Callee X.prog X.w X.K X.mg X.base x f fd ps k sp) (hr:Room k X.A) (ha:PA X (e::es) t) (hg:Gl X x:=by rfl) (hdb:(x == ("__debug__" : Str))=false:=by decide)
  (he:starEach (e::es) X.env=(false,eval e X.env)::starEach es X.env:=by rfl) (hpl:(backTo pos (starEach es X.env)).any (·.1)=false:=by rfl):PE X (.Call (.Name x p) (e::es) [] pos) (Zr sp [] E0 t) :=
 VC c.ok hr hg c.g c.kp c.b .nil Yv ha hdb he hpl
theorem zwE (c:Maker X.prog X.w X.K X.mg X.base x C f fd ps k sp) (hr:Room (k+1) X.A) (ha:PA X (e::es) t) (hg:Gl X x:=by rfl) (hdb:(x == ("__debug__" : Str))=false:=by decide)
  (he:starEach (e::es) X.env=(false,eval e X.env)::starEach es X.env:=by rfl) (hpl:(backTo pos (starEach es X.env)).any (·.1)=false:=by rfl):PE X (.Call (.Name x p) (e::es) [] pos) (Vd C sp [] E0 t) :=
 Vx c.mm c.ok hr hg c.g c.b .nil Yv ha hdb he hpl
def ui (X:Cx) (m:Str) (ta:TE) (t:TA):TE:=fun σ H Q=>ta σ H fun x H1=>∃ (a C dx:Addr) (fs:List (Str×V)) (f:Addr) (fd:FuncData) (ps:List Str) (k:Nat) (sp:Sp),x=.ref a∧H1 a=some (.ins C dx fs)∧fs.lookup m=none∧Cls X.K C∧Meth X.K C m f ∧
 FnOk X.prog X.w X.K X.mg X.base CX0 k f fd ps sp∧Room k X.A∧Binds X.K fd ps []∧t σ H1 fun vs H2=>sp (x::(vs++[])) H2 Q E0
theorem XR {pl:Sem Bool}(he:PE X o ta) (ha:PA X (e::es) t)
  (hst:starEach (e::es) X.env=(false,eval e X.env)::starEach es X.env:=by rfl) (hpl:(backTo pos (starEach es X.env)).any (·.1)=false:=by rfl)
  (ht:eval (.Call (.Attribute o m apos) (e::es) [] pos) X.env=(do
   let ov ← eval o X.env
   standAt apos.atName
   let (f,first) ← holding [ov] (getMethod ov m pl)
   callWith pos f first (backTo pos (starEach (e::es) X.env)) (backToKw pos (keywordEach [] X.env))):=by rfl) :
  PE X (.Call (.Attribute o m apos) (e::es) [] pos) (ui X m ta t):=by
 intro pins s σ H Q I h
 refine PySem.W.methodCall_KW (pl:=pl) (thn (he pins s σ H _ I h) fun u s1 hq0=>?_) ht
 obtain⟨x,H1,I1,rx,a,C,dx,fs,f,fd,ps,k,sp,ex,ea,l,cl,hm,F,hr,hb,q⟩:=hq0
 subst ex
 obtain rfl:u=Value.ref a:=rx
 refine yG I1 ea cl hm l ?_
 refine PySem.W.callWith_K (first:=[.ref a]) (h₀:=X.base) I.ok.mod.kin hm.kp (thn (ha pos pins s1 σ H1 _ I1 q) fun us s2 ⟨vs,H2,I2,r,q2⟩=>⟨I2.kIn,?_⟩) hst hpl
 exact run_fn (us:=.ref a::us) (vs:=.ref a::vs) F hr hb .nil Yv I2 (.cons rfl r) q2
theorem Yu {pl:Sem Bool}(he:PE X o ta)
  (ht:eval (.Call (.Attribute o m apos) [] [] pos) X.env=(do
   let ov ← eval o X.env
   standAt apos.atName
   let (f,first) ← holding [ov] (getMethod ov m pl)
   callWith pos f first (backTo pos (starEach [] X.env)) (backToKw pos (keywordEach [] X.env))):=by rfl) :
  PE X (.Call (.Attribute o m apos) [] [] pos) (ui X m ta zac):=by
 intro pins s σ H Q I h
 refine PySem.W.methodCall_KW (pl:=pl) (thn (he pins s σ H _ I h) fun u s1 hq0=>?_) ht
 obtain⟨x,H1,I1,rx,a,C,dx,fs,f,fd,ps,k,sp,ex,ea,l,cl,hm,F,hr,hb,q⟩:=hq0
 subst ex
 obtain rfl:u=Value.ref a:=rx
 refine yG I1 ea cl hm l ?_
 exact PySem.W.callWith_K0 (first:=[.ref a]) I1.kIn hm.kp (run_fn (us:=[.ref a]) (vs:=[.ref a]) F hr hb .nil Yv I1 (.cons rfl .nil) q)
end
end L2

namespace PySem
namespace Zt
end Zt
end PySem

namespace PySem
namespace Zt
end Zt
end PySem

namespace L2
open PySem PySem.Spec PyProof.Rows PySem.Zt
theorem zfV {X:Cx}{x:Str}{C:Addr}{pos:Pos}(hm:X.mg x=some (.ref C)) (hg:Gl X x:=by rfl) (hd:(x == ("__debug__" : Str))=false:=by decide):PE X (.Name x pos) (tC (.ref C)):=wE hg hm rfl hd
theorem wj {X:Cx}{x:Str}{n:String}{pos:Pos}(hm:X.mg x=none) (hv:bootBuiltins x=some (.type n)) (hg:Gl X x:=by rfl) (hn:x ≠ "__name__" := by decide) (hd:(x == ("__debug__" : Str))=false:=by decide):PE X (.Name x pos) (tC (.ty n)):=VE hg hm hv rfl hn hd
theorem zN:bootBuiltins "len" = some (.builtin "len"):=by decide +kernel
theorem uJ:bootBuiltins "int" = some (.type "int"):=by decide +kernel
theorem bt_min:bootBuiltins "min" = some (.builtin "min"):=by decide +kernel
theorem bt_max:bootBuiltins "max" = some (.builtin "max"):=by decide +kernel
theorem zv:bootBuiltins "isinstance" = some (.builtin "isinstance"):=by decide +kernel
theorem xV:bootBuiltins "list" = some (.type "list"):=by decide +kernel
theorem xW:bootBuiltins "dict" = some (.type "dict"):=by decide +kernel
theorem zia:bootBuiltins "abs" = some (.builtin "abs"):=by decide +kernel
theorem xU:bootBuiltins "sorted" = some (.builtin "sorted"):=by decide +kernel
theorem Xe:bootBuiltins "str" = some (.type "str"):=by decide +kernel
theorem Xd:bootBuiltins "sum" = some (.builtin "sum"):=by decide +kernel
theorem Xf:bootBuiltins "bool" = some (.type "bool"):=by decide +kernel
theorem uI:bootBuiltins "tuple" = some (.type "tuple"):=by decide +kernel
end L2

namespace L2
open PySem PySem.Spec PyProof.Rows
theorem xS {ns:List Int}{i:Nat}(h:i<ns.length):ns.getD i 0=ns[i]:=by simp[List.getD,h]
theorem xE {ns:List Int}{its:List Value}(r:Vals (ns.map V.int) its){i:Nat}{v:Value}(e:its.toArray[i]?=some v):∃ t,v=.int (ns.getD i 0) t:=by
 have e':its[i]?=some v:=by simpa using e
 have hi:i<its.length:=(List.getElem?_eq_some_iff.mp e').1
 have hl:=r.length
 rw[List.length_map] at hl
 have hb:i<ns.length:=by omega
 obtain⟨u,e2,ru⟩:=r.get (i:=i) (x:=V.int ns[i]) (by simp[hb])
 rw[e'] at e2
 cases e2
 obtain⟨t,rfl⟩:=ru
 exact⟨t,by rw[xS hb]⟩
theorem Xi (val:Nat→Int):∀ k,argBest (fun i j=>decide (val i>val j)) k≤k∧∀ j,j≤k→val j≤val (argBest (fun i j=>decide (val i>val j)) k)
 |0=>⟨Nat.le_refl _,fun j hj=>by rw[Nat.le_zero.mp hj];exact Int.le_refl _⟩
 |k+1=>by
  obtain⟨h1,h2⟩:=Xi val k
  show(if decide (val (k+1)>val (argBest _ k))=true then k+1 else argBest _ k)≤k+1∧∀ j,j≤k+1→val j≤val (if decide (val (k+1)>val (argBest _ k))=true then k+1 else argBest _ k)
  by_cases q:val (k+1)>val (argBest (fun i j=>decide (val i>val j)) k)
  ·rw[if_pos (decide_eq_true q)]
   refine⟨Nat.le_refl _,fun j hj=>?_⟩
   by_cases e:j=k+1
   ·rw[e];exact Int.le_refl _
   ·have:=h2 j (by omega)
    omega
  ·rw[if_neg (fun z=>q (of_decide_eq_true z))]
   refine⟨Nat.le_succ_of_le h1,fun j hj=>?_⟩
   by_cases e:j=k+1
   ·rw[e];omega
   ·exact h2 j (by omega)
theorem Xh (val:Nat→Int):∀ k,argBest (fun i j=>decide (val i<val j)) k≤k∧∀ j,j≤k→val (argBest (fun i j=>decide (val i<val j)) k)≤val j
 |0=>⟨Nat.le_refl _,fun j hj=>by rw[Nat.le_zero.mp hj];exact Int.le_refl _⟩
 |k+1=>by
  obtain⟨h1,h2⟩:=Xh val k
  show(if decide (val (k+1)<val (argBest _ k))=true then k+1 else argBest _ k)≤k+1∧∀ j,j≤k+1→val (if decide (val (k+1)<val (argBest _ k))=true then k+1 else argBest _ k)≤val j
  by_cases q:val (k+1)<val (argBest (fun i j=>decide (val i<val j)) k)
  ·rw[if_pos (decide_eq_true q)]
   refine⟨Nat.le_refl _,fun j hj=>?_⟩
   by_cases e:j=k+1
   ·rw[e];exact Int.le_refl _
   ·have:=h2 j (by omega)
    omega
  ·rw[if_neg (fun z=>q (of_decide_eq_true z))]
   refine⟨Nat.le_succ_of_le h1,fun j hj=>?_⟩
   by_cases e:j=k+1
   ·rw[e];omega
   ·exact h2 j (by omega)
abbrev bst (u:Value) (c:Nat):Obj:={ cls:=.type "list",data:=.seq #[u,u] c }
section
variable {P:Program}{w:World}{A:Around}{R:Result→Shared→Prop}{I S:Addr}{fp wr:List Addr}{n:Nat}{Is:Nat→Value→Prop}{St:Nat→Heap→Prop}{kw:List (Str×Value)}
theorem U2 (W:Walks P w A.in1 I fp wr n Is St) (bt:Nat→Nat→Bool) (cm:CmpOf P w A.in1 .Gt Is bt) (nf:S∉fp):∀ (r j:Nat) (t:Shared) (u:Value) (c:Nat),n=j+1+r→St (j+1) t.heap→Is (argBest bt j) u→t.heap.get? S=some (bst u c) →
  (∀ v h' tk,Is (argBest bt (n-1)) v→(∀ b o,b∉wr→b≠S→t.heap.get? b=some o→h'.get? b=some o)→R (.ok (.ret v)) { t with heap:=h',toks:=tk })→codeAny (model P w) A (.builtin "max.loop" ⟨[.ref I,.none,.ref S],kw⟩) R t:=by
 have nw:S∉wr:=fun z=>nf (W.sub _ z)
 have nm:(toString "max" ++ toString ".loop" : String) = "max.loop" := by decide
 intro r
 induction r with
 |zero =>
  intro j t u c hn st iu at_ fin
  subst hn
  refine codeAny_builtin F.entry_max_loop (by
   rw[Around.under_plainId F.plain_max_loop _]
   show wpAny _ A.in1 (seqItems? (.ref S) >>= _) _ _ t
   refine wpAny_bind (wpAny_seqItems at_ rfl (by
    show wpAny _ A.in1 (tryCatch (pyNext (.ref I)) _ >>= _) _ _ t
    refine wpAny_bind (wpAny_tryCatch (W.done t _ _ st fun h1 tk kk=>?_))
    show wpAny _ A.in1 (updateSeq S (fun _=>#[]) >>= _) _ _ _
    refine wpAny_bind (wpAny_updateSeq (kk S _ nw at_) rfl (wpAny_bind (wpAny_letGo (wpAny_pure ?_))))
    exact fin u _ tk iu fun b o n1 n2 e=>(Heap.get?_update_other _ _ n2.symm).trans (kk b o n1 e))))
 |succ r ih =>
  intro j t u c hn st iu at_ fin
  refine codeAny_builtin F.entry_max_loop (by
   rw[Around.under_plainId F.plain_max_loop _]
   show wpAny _ A.in1 (seqItems? (.ref S) >>= _) _ _ t
   refine wpAny_bind (wpAny_seqItems at_ rfl (by
    show wpAny _ A.in1 (tryCatch (pyNext (.ref I)) _ >>= _) _ _ t
    refine wpAny_bind (wpAny_tryCatch (W.item (j+1) t _ _ (by omega) st fun v h1 tk iv st1 kk=>?_))
    have at1:=kk S _ nw at_
    show wpAny _ A.in1 (tryCatch (holding [v,v] (richCompare .Gt v u >>= _)) _ >>= _) _ _ _
    refine wpAny_bind (wpAny_tryCatch (wpAny_holding (wpAny_bind (cm (j+1) (argBest bt j) v u _ _ _ iv iu (wpAny_bind (wpAny_holding (wpAny_truthy_bool (wpAny_bind (wpAny_letGo (wpAny_pure ?_))))))))))
    by_cases q:bt (j+1) (argBest bt j)=true
    ·have ab:argBest bt (j+1)=j+1:=by show(if bt (j+1) (argBest bt j)=true then j+1 else argBest bt j)=_;rw[if_pos q]
     rw[if_pos q]
     refine wpAny_bind (wpAny_updateSeq at1 rfl (wpAny_bind (wpAny_letGo ?_)))
     rw[nm]
     refine wpAny_pure ⟨plainId_quiet F.plain_max_loop _,ih (j+1) _ v _ (by omega) (W.frame _ _ _ st1 fun b hb o e=>(Heap.get?_update_other _ _ fun z:S=b=>nf (z ▸ hb)).trans e) (by rw[ab];exact iv) (Heap.get?_update_self _ at1 rfl) fun v2 h2 tk2 iv2 kk2=>?_⟩
     exact fin v2 h2 tk2 iv2 fun b o n1 n2 e=>kk2 b o n1 n2 ((Heap.get?_update_other _ _ n2.symm).trans (kk b o n1 e))
    ·have ab:argBest bt (j+1)=argBest bt j:=by show(if bt (j+1) (argBest bt j)=true then j+1 else argBest bt j)=_;rw[if_neg q]
     rw[if_neg q]
     refine wpAny_bind (wpAny_letGo ?_)
     rw[nm]
     exact wpAny_pure ⟨plainId_quiet F.plain_max_loop _,ih (j+1) _ u c (by omega) st1 (by rw[ab];exact iu) at1 fun v2 h2 tk2 iv2 kk2=>fin v2 h2 tk2 iv2 fun b o n1 n2 e=>kk2 b o n1 n2 (kk b o n1 e)⟩)))
theorem Wi {d:Value}{x:Str}(W:Walks P w A.in1 I fp wr n Is St) (bt:Nat→Nat→Bool) (cm:CmpOf P w A.in1 .Gt Is bt) (nf:S∉fp){t:Shared}{c:Nat}(st:St 0 t.heap)
  (at_:t.heap.get? S=some { cls:=.type "list",data:=.seq #[] c }) (fin:∀ v h' tk,((n=0∧v=d)∨(0<n∧Is (argBest bt (n-1)) v))→(∀ b o,b∉wr→b≠S→t.heap.get? b=some o→h'.get? b=some o)→R (.ok (.ret v)) { t with heap:=h',toks:=tk }) :
  codeAny (model P w) A (.builtin "max.loop" ⟨[.ref I,.none,.ref S],[(x,d)]⟩) R t:=by
 have nw:S∉wr:=fun z=>nf (W.sub _ z)
 have nm:(toString "max" ++ toString ".loop" : String) = "max.loop" := by decide
 refine codeAny_builtin F.entry_max_loop (by
  rw[Around.under_plainId F.plain_max_loop _]
  show wpAny _ A.in1 (seqItems? (.ref S) >>= _) _ _ t
  refine wpAny_bind (wpAny_seqItems at_ rfl (by
   show wpAny _ A.in1 (tryCatch (pyNext (.ref I)) _ >>= _) _ _ t
   by_cases hn:n=0
   ·subst hn
    refine wpAny_bind (wpAny_tryCatch (W.done t _ _ st fun h1 tk kk=>?_))
    show wpAny _ A.in1 (rule _ >>= _) _ _ _
    exact wpAny_bind (wpAny_rule (wpAny_pure (fin d h1 tk (.inl ⟨rfl,rfl⟩) fun b o n1 _ e=>kk b o n1 e)))
   ·refine wpAny_bind (wpAny_tryCatch (W.item 0 t _ _ (by omega) st fun v h1 tk iv st1 kk=>?_))
    have at1:=kk S _ nw at_
    show wpAny _ A.in1 (updateSeq S (fun _=>#[v,v]) >>= _) _ _ _
    refine wpAny_bind (wpAny_updateSeq at1 rfl ?_)
    rw[nm]
    refine wpAny_pure ⟨plainId_quiet F.plain_max_loop _,U2 W bt cm nf (n-1) 0 _ v _ (by omega) (W.frame _ _ _ st1 fun b hb o e=>(Heap.get?_update_other _ _ fun z:S=b=>nf (z ▸ hb)).trans e) iv (Heap.get?_update_self _ at1 rfl) fun v2 h2 tk2 iv2 kk2=>?_⟩
    exact fin v2 h2 tk2 (.inr ⟨by omega,iv2⟩) fun b o n1 n2 e=>kk2 b o n1 n2 ((Heap.get?_update_other _ _ n2.symm).trans (kk b o n1 e)))))
theorem Xl (a v:Value):argsOk "max" ⟨[a],[(Str.ofString "default",v)]⟩:=by unfold argsOk;kernel_rfl
theorem v0 {l:Addr}{its:List Value}{ns:List Int}{d:Value}{Q:Value→Shared→Prop}{E:Value→Shared→Prop}{s:Shared}(hh:A.handled=none) (hl:s.heap.IsList l its.toArray) (hr:Vals (ns.map V.int) its)
  (h:∀ v h' tk,((ns=[]∧v=d)∨∃ m t,v=.int m t∧m∈ns∧∀ y∈ns,y≤m)→(∀ b o,s.heap.get? b=some o→h'.get? b=some o)→Q v { s with heap:=h',toks:=tk }) :
  wpAny (model P w) A (call (.builtin "max") [.ref l] [(Str.ofString "default",d)]) Q E s:=by
 have nm:(toString "max" ++ toString ".loop" : String) = "max.loop" := by decide
 have lt:l<s.heap.objs.size:=by
  obtain⟨_,e,_⟩:=hl
  exact Heap.lt_size e
 have len:its.toArray.size=ns.length:=by
  have:=hr.length
  rw[List.length_map] at this
  simp[this]
 refine PyProof.Rows.kmk_tree F.kind_max F.plain_max F.entry_max (Xl _ _) (by
  show wpAny _ A.in1 (Builtin.Builtins.bindParams "max" ["key", "default"] 0 ⟨[],[(Str.ofString "default",d)]⟩ >>= _) _ _ s
  refine wpAny_bind (wpAny_of_eq (show Builtin.Builtins.bindParams "max" ["key", "default"] 0 ⟨[],[(Str.ofString "default",d)]⟩=pure [none,some d] from rfl) (wpAny_bind (wpAny_pure (wpAny_bind (wpAny_pyIter_list hl (wpAny_bind (wpAny_newObj_type ?_)))))))
  rw[nm]
  have W:=Walks.list (prog:=P) (w:=w) (A:=A.in1) hh s.heap.objs.size l (Nat.ne_of_lt lt) its.toArray
  have st:((s.heap.push { cls:=.type "list_iterator",data:=.fields #[.ref l,.int 0 0] }).IsListIter s.heap.objs.size l 0∧(s.heap.push { cls:=.type "list_iterator",data:=.fields #[.ref l,.int 0 0] }).IsList l its.toArray):=⟨⟨_,Heap.get?_push_size _ rfl,rfl,rfl⟩,hl.push _⟩
  have cm:=CmpOf.ints_gt (prog:=P) (w:=w) (A:=A.in1) (fun i=>ns.getD i 0) (fun i v e=>xE hr e)
  have nf:(s.heap.push { cls:=.type "list_iterator",data:=.fields #[.ref l,.int 0 0] }).objs.size∉[s.heap.objs.size,l]:=by
   intro z
   rw[Heap.size_push] at z
   rcases List.mem_cons.mp z with e | e
   ·exact Nat.succ_ne_self _ e
   ·exact Nat.lt_irrefl _ (Nat.lt_trans (Nat.lt_succ_self _) ((List.mem_singleton.mp e).symm ▸ lt))
  refine wpAny_pure ⟨plainId_quiet F.plain_max_loop _,Wi (c:=0) W _ cm nf (W.frame _ _ _ st fun b _ o e=>Heap.get?_push_of_some _ e) (Heap.get?_push_size _ rfl) fun v h' tk hv kk=>?_⟩
  refine h v h' tk ?_ fun b o e=>kk b o (fun z=>?_) (fun z=>?_) (Heap.get?_push_of_some _ (Heap.get?_push_of_some _ e))
  ·rcases hv with⟨z,e⟩ | ⟨z,e⟩
   ·left
    exact⟨List.eq_nil_of_length_eq_zero (by omega),e⟩
   ·right
    obtain⟨t,et⟩:=xE hr e
    have hb:=Xi (fun i=>ns.getD i 0) (its.toArray.size-1)
    refine⟨_,t,et,?_,fun y hy=>?_⟩
    ·have hi:=hb.1
     rw[xS (by omega)]
     exact List.getElem_mem _
    ·obtain⟨i,hi,rfl⟩:=List.mem_iff_getElem.mp hy
     have:=hb.2 i (by omega)
     rw[show(ns.getD i 0)=ns[i] from xS hi] at this
     exact this
  ·rw[List.mem_singleton.mp z] at e
   exact Nat.lt_irrefl _ (Heap.lt_size e)
  ·have z2:b=s.heap.objs.size+1:=z.trans (Heap.size_push _ _)
   exact Nat.lt_irrefl _ (Nat.lt_trans (Nat.lt_succ_self _) (z2 ▸ Heap.lt_size e)))
def zaE (K:PySem.W.Frag) (ta:TA) (td:TE):TE:=fun σ H Q=>ta σ H fun vs H1=>td σ H1 fun dv H2=>∃ a ns i,vs=[V.ref a]∧dv=.int i∧SqL K H2 a (ns.map V.int)∧∀ m:Int,((ns=[]∧m=i)∨(m∈ns∧∀ y∈ns,y≤m))→Q (.int m) H2
theorem Vw {X:Cx}{e dv:Expr}{ta:TA}{td:TE}{p kp pos:Pos}(hc:X.calm=true) (hg:Gl X "max") (hm:X.mg "max" = none) (ha:PA X [e] ta) (hd:PE X dv td) (hs:starEach [e] X.env=[(false,eval e X.env)]:=by rfl) :
  PE X (.Call (.Name "max" p) [e] [⟨some "default",dv,kp⟩] pos) (zaE X.K ta td):=by
 intro pins s σ H Q I h
 refine wpAny_Call_Name_kw (ld_blt I hg hm bt_max ?_)
 refine PyProof.Rows.callWith_kw (thn (ha pos pins s σ H _ I h) fun us s1 ⟨vs,H1,I1,r1,q1⟩=>PyProof.Rows.kws_cons (thn (hd pins s1 σ H1 _ I1 q1) fun u s2 ⟨y,H2,I2,r2,q2⟩=>PyProof.Rows.kws_nil ?_)) (by rw[hs];rfl) (by rw[hs];rfl)
 obtain⟨a,ns,i,rfl,rfl,hl,q⟩:=q2
 obtain⟨z,rfl,rz⟩:=r1.one
 cases rz
 obtain⟨tk0,rfl⟩:=r2
 obtain⟨its,rv,pl,_⟩:=I2.list hl
 refine v0 (I2.ok.hd hc) pl.isList rv fun v h' tk hv kk=>?_
 rcases hv with⟨e1,rfl⟩ | ⟨m,t,rfl,hm⟩
 ·exact⟨.int i,H2,I2.kept (t':=tk) kk,⟨_,rfl⟩,q i (.inl ⟨e1,rfl⟩)⟩
 ·exact⟨.int m,H2,I2.kept (t':=tk) kk,⟨_,rfl⟩,q m (.inr hm)⟩
theorem U0 (W:Walks P w A.in1 I fp wr n Is St) (bt:Nat→Nat→Bool) (cm:CmpOf P w A.in1 .Lt Is bt) (nf:S∉fp):∀ (r j:Nat) (t:Shared) (u:Value) (c:Nat),n=j+1+r→St (j+1) t.heap→Is (argBest bt j) u→t.heap.get? S=some (bst u c) →
  (∀ v h' tk,Is (argBest bt (n-1)) v→(∀ b o,b∉wr→b≠S→t.heap.get? b=some o→h'.get? b=some o)→R (.ok (.ret v)) { t with heap:=h',toks:=tk })→codeAny (model P w) A (.builtin "min.loop" ⟨[.ref I,.none,.ref S],kw⟩) R t:=by
 have nw:S∉wr:=fun z=>nf (W.sub _ z)
 have nm:(toString "min" ++ toString ".loop" : String) = "min.loop" := by decide
 intro r
 induction r with
 |zero =>
  intro j t u c hn st iu at_ fin
  subst hn
  refine codeAny_builtin F.entry_min_loop (by
   rw[Around.under_plainId F.plain_min_loop _]
   show wpAny _ A.in1 (seqItems? (.ref S) >>= _) _ _ t
   refine wpAny_bind (wpAny_seqItems at_ rfl (by
    show wpAny _ A.in1 (tryCatch (pyNext (.ref I)) _ >>= _) _ _ t
    refine wpAny_bind (wpAny_tryCatch (W.done t _ _ st fun h1 tk kk=>?_))
    show wpAny _ A.in1 (updateSeq S (fun _=>#[]) >>= _) _ _ _
    refine wpAny_bind (wpAny_updateSeq (kk S _ nw at_) rfl (wpAny_bind (wpAny_letGo (wpAny_pure ?_))))
    exact fin u _ tk iu fun b o n1 n2 e=>(Heap.get?_update_other _ _ n2.symm).trans (kk b o n1 e))))
 |succ r ih =>
  intro j t u c hn st iu at_ fin
  refine codeAny_builtin F.entry_min_loop (by
   rw[Around.under_plainId F.plain_min_loop _]
   show wpAny _ A.in1 (seqItems? (.ref S) >>= _) _ _ t
   refine wpAny_bind (wpAny_seqItems at_ rfl (by
    show wpAny _ A.in1 (tryCatch (pyNext (.ref I)) _ >>= _) _ _ t
    refine wpAny_bind (wpAny_tryCatch (W.item (j+1) t _ _ (by omega) st fun v h1 tk iv st1 kk=>?_))
    have at1:=kk S _ nw at_
    show wpAny _ A.in1 (tryCatch (holding [v,v] (richCompare .Lt v u >>= _)) _ >>= _) _ _ _
    refine wpAny_bind (wpAny_tryCatch (wpAny_holding (wpAny_bind (cm (j+1) (argBest bt j) v u _ _ _ iv iu (wpAny_bind (wpAny_holding (wpAny_truthy_bool (wpAny_bind (wpAny_letGo (wpAny_pure ?_))))))))))
    by_cases q:bt (j+1) (argBest bt j)=true
    ·have ab:argBest bt (j+1)=j+1:=by show(if bt (j+1) (argBest bt j)=true then j+1 else argBest bt j)=_;rw[if_pos q]
     rw[if_pos q]
     refine wpAny_bind (wpAny_updateSeq at1 rfl (wpAny_bind (wpAny_letGo ?_)))
     rw[nm]
     refine wpAny_pure ⟨plainId_quiet F.plain_min_loop _,ih (j+1) _ v _ (by omega) (W.frame _ _ _ st1 fun b hb o e=>(Heap.get?_update_other _ _ fun z:S=b=>nf (z ▸ hb)).trans e) (by rw[ab];exact iv) (Heap.get?_update_self _ at1 rfl) fun v2 h2 tk2 iv2 kk2=>?_⟩
     exact fin v2 h2 tk2 iv2 fun b o n1 n2 e=>kk2 b o n1 n2 ((Heap.get?_update_other _ _ n2.symm).trans (kk b o n1 e))
    ·have ab:argBest bt (j+1)=argBest bt j:=by show(if bt (j+1) (argBest bt j)=true then j+1 else argBest bt j)=_;rw[if_neg q]
     rw[if_neg q]
     refine wpAny_bind (wpAny_letGo ?_)
     rw[nm]
     exact wpAny_pure ⟨plainId_quiet F.plain_min_loop _,ih (j+1) _ u c (by omega) st1 (by rw[ab];exact iu) at1 fun v2 h2 tk2 iv2 kk2=>fin v2 h2 tk2 iv2 fun b o n1 n2 e=>kk2 b o n1 n2 (kk b o n1 e)⟩)))
theorem We {d:Value}{x:Str}(W:Walks P w A.in1 I fp wr n Is St) (bt:Nat→Nat→Bool) (cm:CmpOf P w A.in1 .Lt Is bt) (nf:S∉fp){t:Shared}{c:Nat}(st:St 0 t.heap)
  (at_:t.heap.get? S=some { cls:=.type "list",data:=.seq #[] c }) (fin:∀ v h' tk,((n=0∧v=d)∨(0<n∧Is (argBest bt (n-1)) v))→(∀ b o,b∉wr→b≠S→t.heap.get? b=some o→h'.get? b=some o)→R (.ok (.ret v)) { t with heap:=h',toks:=tk }) :
  codeAny (model P w) A (.builtin "min.loop" ⟨[.ref I,.none,.ref S],[(x,d)]⟩) R t:=by
 have nw:S∉wr:=fun z=>nf (W.sub _ z)
 have nm:(toString "min" ++ toString ".loop" : String) = "min.loop" := by decide
 refine codeAny_builtin F.entry_min_loop (by
  rw[Around.under_plainId F.plain_min_loop _]
  show wpAny _ A.in1 (seqItems? (.ref S) >>= _) _ _ t
  refine wpAny_bind (wpAny_seqItems at_ rfl (by
   show wpAny _ A.in1 (tryCatch (pyNext (.ref I)) _ >>= _) _ _ t
   by_cases hn:n=0
   ·subst hn
    refine wpAny_bind (wpAny_tryCatch (W.done t _ _ st fun h1 tk kk=>?_))
    show wpAny _ A.in1 (rule _ >>= _) _ _ _
    exact wpAny_bind (wpAny_rule (wpAny_pure (fin d h1 tk (.inl ⟨rfl,rfl⟩) fun b o n1 _ e=>kk b o n1 e)))
   ·refine wpAny_bind (wpAny_tryCatch (W.item 0 t _ _ (by omega) st fun v h1 tk iv st1 kk=>?_))
    have at1:=kk S _ nw at_
    show wpAny _ A.in1 (updateSeq S (fun _=>#[v,v]) >>= _) _ _ _
    refine wpAny_bind (wpAny_updateSeq at1 rfl ?_)
    rw[nm]
    refine wpAny_pure ⟨plainId_quiet F.plain_min_loop _,U0 W bt cm nf (n-1) 0 _ v _ (by omega) (W.frame _ _ _ st1 fun b hb o e=>(Heap.get?_update_other _ _ fun z:S=b=>nf (z ▸ hb)).trans e) iv (Heap.get?_update_self _ at1 rfl) fun v2 h2 tk2 iv2 kk2=>?_⟩
    exact fin v2 h2 tk2 (.inr ⟨by omega,iv2⟩) fun b o n1 n2 e=>kk2 b o n1 n2 ((Heap.get?_update_other _ _ n2.symm).trans (kk b o n1 e)))))
theorem Xk (a v:Value):argsOk "min" ⟨[a],[(Str.ofString "default",v)]⟩:=by unfold argsOk;kernel_rfl
theorem vZ {l:Addr}{its:List Value}{ns:List Int}{d:Value}{Q:Value→Shared→Prop}{E:Value→Shared→Prop}{s:Shared}(hh:A.handled=none) (hl:s.heap.IsList l its.toArray) (hr:Vals (ns.map V.int) its)
  (h:∀ v h' tk,((ns=[]∧v=d)∨∃ m t,v=.int m t∧m∈ns∧∀ y∈ns,m≤y)→(∀ b o,s.heap.get? b=some o→h'.get? b=some o)→Q v { s with heap:=h',toks:=tk }) :
  wpAny (model P w) A (call (.builtin "min") [.ref l] [(Str.ofString "default",d)]) Q E s:=by
 have nm:(toString "min" ++ toString ".loop" : String) = "min.loop" := by decide
 have lt:l<s.heap.objs.size:=by
  obtain⟨_,e,_⟩:=hl
  exact Heap.lt_size e
 have len:its.toArray.size=ns.length:=by
  have:=hr.length
  rw[List.length_map] at this
  simp[this]
 refine PyProof.Rows.kmk_tree F.kind_min F.plain_min F.entry_min (Xk _ _) (by
  show wpAny _ A.in1 (Builtin.Builtins.bindParams "min" ["key", "default"] 0 ⟨[],[(Str.ofString "default",d)]⟩ >>= _) _ _ s
  refine wpAny_bind (wpAny_of_eq (show Builtin.Builtins.bindParams "min" ["key", "default"] 0 ⟨[],[(Str.ofString "default",d)]⟩=pure [none,some d] from rfl) (wpAny_bind (wpAny_pure (wpAny_bind (wpAny_pyIter_list hl (wpAny_bind (wpAny_newObj_type ?_)))))))
  rw[nm]
  have W:=Walks.list (prog:=P) (w:=w) (A:=A.in1) hh s.heap.objs.size l (Nat.ne_of_lt lt) its.toArray
  have st:((s.heap.push { cls:=.type "list_iterator",data:=.fields #[.ref l,.int 0 0] }).IsListIter s.heap.objs.size l 0∧(s.heap.push { cls:=.type "list_iterator",data:=.fields #[.ref l,.int 0 0] }).IsList l its.toArray):=⟨⟨_,Heap.get?_push_size _ rfl,rfl,rfl⟩,hl.push _⟩
  have cm:=CmpOf.ints_lt (prog:=P) (w:=w) (A:=A.in1) (fun i=>ns.getD i 0) (fun i v e=>xE hr e)
  have nf:(s.heap.push { cls:=.type "list_iterator",data:=.fields #[.ref l,.int 0 0] }).objs.size∉[s.heap.objs.size,l]:=by
   intro z
   rw[Heap.size_push] at z
   rcases List.mem_cons.mp z with e | e
   ·exact Nat.succ_ne_self _ e
   ·exact Nat.lt_irrefl _ (Nat.lt_trans (Nat.lt_succ_self _) ((List.mem_singleton.mp e).symm ▸ lt))
  refine wpAny_pure ⟨plainId_quiet F.plain_min_loop _,We (c:=0) W _ cm nf (W.frame _ _ _ st fun b _ o e=>Heap.get?_push_of_some _ e) (Heap.get?_push_size _ rfl) fun v h' tk hv kk=>?_⟩
  refine h v h' tk ?_ fun b o e=>kk b o (fun z=>?_) (fun z=>?_) (Heap.get?_push_of_some _ (Heap.get?_push_of_some _ e))
  ·rcases hv with⟨z,e⟩ | ⟨z,e⟩
   ·left
    exact⟨List.eq_nil_of_length_eq_zero (by omega),e⟩
   ·right
    obtain⟨t,et⟩:=xE hr e
    have hb:=Xh (fun i=>ns.getD i 0) (its.toArray.size-1)
    refine⟨_,t,et,?_,fun y hy=>?_⟩
    ·have hi:=hb.1
     rw[xS (by omega)]
     exact List.getElem_mem _
    ·obtain⟨i,hi,rfl⟩:=List.mem_iff_getElem.mp hy
     have:=hb.2 i (by omega)
     rw[show(ns.getD i 0)=ns[i] from xS hi] at this
     exact this
  ·rw[List.mem_singleton.mp z] at e
   exact Nat.lt_irrefl _ (Heap.lt_size e)
  ·have z2:b=s.heap.objs.size+1:=z.trans (Heap.size_push _ _)
   exact Nat.lt_irrefl _ (Nat.lt_trans (Nat.lt_succ_self _) (z2 ▸ Heap.lt_size e)))
def zaC (K:PySem.W.Frag) (ta:TA) (td:TE):TE:=fun σ H Q=>ta σ H fun vs H1=>td σ H1 fun dv H2=>∃ a ns i,vs=[V.ref a]∧dv=.int i∧SqL K H2 a (ns.map V.int)∧∀ m:Int,((ns=[]∧m=i)∨(m∈ns∧∀ y∈ns,m≤y))→Q (.int m) H2
theorem Vu {X:Cx}{e dv:Expr}{ta:TA}{td:TE}{p kp pos:Pos}(hc:X.calm=true) (hg:Gl X "min") (hm:X.mg "min" = none) (ha:PA X [e] ta) (hd:PE X dv td) (hs:starEach [e] X.env=[(false,eval e X.env)]:=by rfl) :
  PE X (.Call (.Name "min" p) [e] [⟨some "default",dv,kp⟩] pos) (zaC X.K ta td):=by
 intro pins s σ H Q I h
 refine wpAny_Call_Name_kw (ld_blt I hg hm bt_min ?_)
 refine PyProof.Rows.callWith_kw (thn (ha pos pins s σ H _ I h) fun us s1 ⟨vs,H1,I1,r1,q1⟩=>PyProof.Rows.kws_cons (thn (hd pins s1 σ H1 _ I1 q1) fun u s2 ⟨y,H2,I2,r2,q2⟩=>PyProof.Rows.kws_nil ?_)) (by rw[hs];rfl) (by rw[hs];rfl)
 obtain⟨a,ns,i,rfl,rfl,hl,q⟩:=q2
 obtain⟨z,rfl,rz⟩:=r1.one
 cases rz
 obtain⟨tk0,rfl⟩:=r2
 obtain⟨its,rv,pl,_⟩:=I2.list hl
 refine vZ (I2.ok.hd hc) pl.isList rv fun v h' tk hv kk=>?_
 rcases hv with⟨e1,rfl⟩ | ⟨m,t,rfl,hm⟩
 ·exact⟨.int i,H2,I2.kept (t':=tk) kk,⟨_,rfl⟩,q i (.inl ⟨e1,rfl⟩)⟩
 ·exact⟨.int m,H2,I2.kept (t':=tk) kk,⟨_,rfl⟩,q m (.inr hm)⟩
end
theorem ut (ns:List Int):∀ k,preSum (fun i=>ns.getD i 0) k=(ns.take k).sum
 |0=>by simp[preSum]
 |k+1=>by
  show preSum _ k+ns.getD k 0=_
  rw[ut ns k,List.take_add_one]
  cases q:ns[k]? with
  |none=>simp[List.getD,q]
  |some x=>simp[List.getD,q]
def zms (K:PySem.W.Frag):List V→Hp→VK→Prop:=fun xs H Q=>∃ (a:Addr) (ns:List Int),xs=[V.ref a]∧SqL K H a (ns.map V.int)∧Q (.int ns.sum) H
section
variable {X:Cx}
theorem call_sumI (hc:X.calm=true):yv X (.builtin "sum") (zms X.K):=by
 intro pins s σ H xs us Q I r h
 obtain⟨a,ns,rfl,ha,q⟩:=h
 obtain⟨u,rfl,ru⟩:=r.one
 cases ru
 obtain⟨its,rv,p,hz⟩:=I.list ha
 have lt:a<s.heap.objs.size:=by
  obtain⟨_,e,_⟩:=p.isList
  exact Heap.lt_size e
 refine call_sum_walkAnyS (wpAny_pyIter_list p.isList ?_)
 refine⟨s.heap.objs.size,_,_,_,_,_,_,fun i=>ns.getD i 0,rfl,(Walks.list (A:=X.A.in1) (show X.A.in1.handled=none from I.ok.hd hc) s.heap.objs.size a (Nat.ne_of_lt lt) its.toArray).toS,⟨⟨_,Heap.get?_push_size _ rfl,rfl,rfl⟩,p.isList.push _⟩,fun b hb=>?_,fun i v hv=>xE rv hv,fun s' t' hm=>?_⟩
 ·show b<(s.heap.push _).objs.size
  rw[Heap.size_push]
  have z:b=s.heap.objs.size∨b=a:=by simpa using hb
  rcases z with z | z
  ·rw[z];exact Nat.lt_succ_self _
  ·rw[z];exact Nat.lt_succ_of_lt lt
 ·obtain⟨h',g',d',tk',os'⟩:=s'
  have e1:g'=s.gens:=hm.gens
  have e2:d'=s.drawn:=hm.drawn
  have e3:os'=s.os:=hm.os
  subst e1 e2 e3
  have hl:=rv.length
  rw[List.length_map] at hl
  rw[ut,List.size_toArray,← hl,List.take_length]
  exact⟨.int _,H,I.kept (t':=tk') fun b o e=>hm.heap b o (fun z=>by
   rw[List.mem_singleton.mp z] at e
   exact Nat.lt_irrefl _ (Heap.lt_size e)) (Heap.get?_push_of_some _ e),⟨_,rfl⟩,q⟩
theorem Y0:∀ {ns:List Int}{its:List Value},Vals (ns.map V.int) its→IntsAre its ns
 |[],_,r=>by cases r;exact .nil
 |n::ns,_,r=>by
  cases r with
  |cons h t =>
   obtain⟨k,rfl⟩:=h
   exact .cons _ _ (Y0 t)
theorem YE:∀ {ns:List Int}{its:List Value},IntsAre its ns→Vals (ns.map V.int) its
 |_,_,.nil=>.nil
 |_,_,.cons _ _ t=>.cons ⟨_,rfl⟩ (YE t)
def zfE (K:PySem.W.Frag):List V→Hp→VK→Prop:=fun xs H Q=>∃ (a:Addr) (ns:List Int),xs=[V.ref a]∧SqL K H a (ns.map V.int)∧ns.length<64∧∀ (p:Addr) (ms:List Int),H p=none→ms.Perm ns→ms.Pairwise (· ≤ ·)→Q (.ref p) (upd H p (.lst (ms.map V.int)))
theorem wq:yv X (.builtin "sorted") (zfE X.K):=by
 intro pins s σ H xs us Q I r h
 obtain⟨a,ns,rfl,ha,h64,q⟩:=h
 obtain⟨u,rfl,ru⟩:=r.one
 cases ru
 obtain⟨its,rv,p,hz⟩:=I.list ha
 have hl:=rv.length
 rw[List.length_map] at hl hz
 refine sorted_ints p.isList (Y0 rv) (by omega) fun out ms a1 a2 a3=>?_
 have hn:H (s.heap.objs.size+1)=none:=I.hok.fresh (Nat.le_succ _)
 obtain⟨c,hc⟩:=sortedAll_at s.heap its out
 refine⟨.ref _,_,I.laid (a:=s.heap.objs.size+1) (o:=.lst (ms.map V.int)) (t':=s.toks) (fun _ _ e=>sortedAll_old e) (Nat.le_succ _) ⟨?_,out.toList,c,YE a1,?_⟩,rfl,q _ ms hn a2 a3⟩
 ·rw[List.length_map,a2.length_eq];exact hz
 ·exact hc
end
end L2

namespace L2
open PySem PySem.Spec PyProof.Rows
theorem WV {X:Cx}{f:Value→Value→Sem Value}{r1 r2:R2}(h1:OpR X f r1) (h2:OpR X f r2):OpR X f (fun x y H Q=>r1 x y H Q∨r2 x y H Q):=by
 intro pins s σ H x y v u Q I rx ry h
 rcases h with h | h
 ·exact h1 pins s σ H x y v u Q I rx ry h
 ·exact h2 pins s σ H x y v u Q I rx ry h
end L2

namespace K04
open PySem L2
inductive Ex where
 |num (i:Int)
 |name (x:Str)
 |two (w:Str) (e f:Ex)
 |mod (e:Ex) (n:Int)
 |less (e f g h:Ex)
noncomputable def Ex.dep:Ex→Nat
 |.num _=>1
 |.name _=>1
 |.two _ e f=>max e.dep f.dep+1
 |.mod e _=>e.dep+1
 |.less e f g h=>max (max e.dep f.dep) (max g.dep h.dep)+1
theorem Ex.dep_pos:∀ e:Ex,1≤e.dep
 |.num _=>Nat.le_refl _
 |.name _=>Nat.le_refl _
 |.two _ _ _=>Nat.le_add_left _ _
 |.mod _ _=>Nat.le_add_left _ _
 |.less _ _ _ _=>Nat.le_add_left _ _
noncomputable def Ex.val (ρ:Str→Int):Ex→Int
 |.num i=>i
 |.name x=>ρ x
 |.two w e f=>if w = "add" then e.val ρ+f.val ρ else if w = "sub" then e.val ρ-f.val ρ else if w = "min" then(if f.val ρ<e.val ρ then f.val ρ else e.val ρ) else(if f.val ρ>e.val ρ then f.val ρ else e.val ρ)
 |.mod e n=>e.val ρ%n
 |.less e f g h=>if e.val ρ<f.val ρ then g.val ρ else h.val ρ
abbrev znH (w:Str):Prop:=w = "add" ∨ w = "sub" ∨ w = "min" ∨ w = "max"
noncomputable def Ex.ok (names:List Str):Ex→Prop
 |.num i=>-100000000000000000000<i∧i<100000000000000000000
 |.name x=>x∈names
 |.two w e f=>znH w∧e.ok names∧f.ok names
 |.mod e n=>(1≤n∧n≤1000000000)∧e.ok names
 |.less e f g h=>e.ok names∧f.ok names∧g.ok names∧h.ok names
def Ext (l:Addr) (H H':Hp):Prop:=∀ b o,H b=some o→b≠l→H' b=some o
theorem Ext.trans {l:Addr}{H H1 H2:Hp}(a:Ext l H H1) (b:Ext l H1 H2):Ext l H H2:=fun c o e n=>b c o (a c o e n) n
theorem Ext.same {l:Addr}{H H':Hp}(a:Same H H'):Ext l H H':=fun c o e _=>a c o e
theorem Ext.new {l p:Addr}{H:Hp}{o:HO}(h:H p=none):Ext l H (upd H p o):=fun c u e _=>by rw[upd_ne (ne_of_none e h)];exact e
theorem Ext.at {l:Addr}{H:Hp}{o:HO}:Ext l H (upd H l o):=fun c u e n=>by rw[upd_ne n];exact e
theorem Same.new {p:Addr}{H:Hp}{o:HO}(h:H p=none):Same H (upd H p o):=fun c u e=>by rw[upd_ne (ne_of_none e h)];exact e
noncomputable def Told (H:Hp):Ex→V→Prop
 |.num i,v=>∃ p,v=.ref p∧H p=some (.tup [.str "num",.int i])
 |.name x,v=>∃ p,v=.ref p∧H p=some (.tup [.str "name",.str x])
 |.two w e f,v=>∃ p a b,v=.ref p∧H p=some (.tup [.str w,a,b])∧Told H e a∧Told H f b
 |.mod e n,v=>∃ p a,v=.ref p∧H p=some (.tup [.str "mod",a,.int n])∧Told H e a
 |.less e f g h,v=>∃ p a b c d,v=.ref p∧H p=some (.tup [.str "less",a,b,c,d])∧Told H e a∧Told H f b∧Told H g c∧Told H h d
theorem Told.mono {H H':Hp}(k:∀ b xs,H b=some (.tup xs)→H' b=some (.tup xs)):∀ {e:Ex}{v:V},Told H e v→Told H' e v
 |.num _,_,⟨p,e,h⟩=>⟨p,e,k _ _ h⟩
 |.name _,_,⟨p,e,h⟩=>⟨p,e,k _ _ h⟩
 |.two _ _ _,_,⟨p,a,b,e,h,t1,t2⟩=>⟨p,a,b,e,k _ _ h,t1.mono k,t2.mono k⟩
 |.mod _ _,_,⟨p,a,e,h,t1⟩=>⟨p,a,e,k _ _ h,t1.mono k⟩
 |.less _ _ _ _,_,⟨p,a,b,c,d,e,h,t1,t2,t3,t4⟩=>⟨p,a,b,c,d,e,k _ _ h,t1.mono k,t2.mono k,t3.mono k,t4.mono k⟩
theorem Told.same {H H':Hp}(k:Same H H'){e:Ex}{v:V}(t:Told H e v):Told H' e v:=t.mono fun b xs h=>k b _ h
theorem eqV_refl {x:V}(h:yR x=true):eqV x x=true:=by
 cases x<;>simp[yR] at h<;>simp[eqV]
theorem xb {K:PySem.W.Frag}{H:Hp}{x:V}{n:Nat}(h:yR x=true):EqD K H x x true n:=by
 have:=EqD.flat (K:=K) (H:=H) (n:=n) h h
 rw[eqV_refl h] at this
 exact this
noncomputable def rho (kvs:List (Key×V)) (x:Str):Int:=match xu kvs (Sum.inr x) with
 |some (.int i)=>i
 |_=>0
def Has (names:List Str) (kvs:List (Key×V)):Prop:=∀ x∈names,∃ i,xu kvs (Sum.inr x:Key)=some (.int i)
theorem Has.at {names:List Str}{kvs:List (Key×V)}(h:Has names kvs){x:Str}(hx:x∈names):xu kvs (Sum.inr x:Key)=some (.int (rho kvs x)):=by
 obtain⟨i,e⟩:=h x hx
 unfold rho
 rw[e]
theorem Same.made {H:Hp}{x dx C:Addr}{fs fs':List (Str×V)}(nx:H x=none) (ndx:H dx=none):Same H (upd (upd (upd H dx (.own x)) x (.ins C dx fs')) x (.ins C dx fs)):=fun b o e=>by
 rw[upd_ne (ne_of_none e nx),upd_ne (ne_of_none e nx),upd_ne (ne_of_none e ndx)]
 exact e
theorem WE {w:Str}(h:znH w):decide (V.str w=V.str "num")=false∧decide (V.str w=V.str "name")=false∧decide (V.str w=V.str "mod")=false∧decide (V.str w=V.str "less")=false:=by
 rcases h with rfl | rfl | rfl | rfl<;>decide +kernel
theorem zfN {x y d:Int}(h0:0≤d) (h3:d<2):∃ v,atI [V.int x,V.int y] d=some (.int v)∧(v=x∨v=y):=by
 have:d=0∨d=1:=by omega
 rcases this with rfl | rfl
 ·exact⟨x,rfl,.inl rfl⟩
 ·exact⟨y,rfl,.inr rfl⟩
theorem zmv:(10:Int) ^ (20:Int).toNat=100000000000000000000:=by decide
theorem zwD:(10:Int) ^ (9:Int).toNat=1000000000:=by decide
theorem zmw {xs:List Str}{d:Int}(h0:0≤d) (h1:d<(xs.map V.str).length):∃ x,x∈xs∧atI (xs.map V.str) d=some (V.str x):=by
 rw[List.length_map] at h1
 have hd:d.toNat<xs.length:=by omega
 refine⟨xs[d.toNat],List.getElem_mem hd,?_⟩
 unfold atI ixN
 rw[List.length_map,if_pos h0,if_pos h1]
 show(xs.map V.str)[d.toNat]?=_
 simp[hd]
theorem zfM {d:Int}(h0:0≤d) (h4:d<4):∃ x,znH x∧atI [V.str "add",V.str "sub",V.str "min",V.str "max"] d=some (V.str x):=by
 have:d=0∨d=1∨d=2∨d=3:=by omega
 rcases this with rfl | rfl | rfl | rfl
 ·exact⟨"add",.inl rfl,rfl⟩
 ·exact⟨"sub",.inr (.inl rfl),rfl⟩
 ·exact⟨"min",.inr (.inr (.inl rfl)),rfl⟩
 ·exact⟨"max",.inr (.inr (.inr rfl)),rfl⟩
theorem gn_if {i:Nat}{v:V}{τ:St}{H:Hp}{A B:St→Hp→Prop}(h:A (τ.set i (some v)) H):v8 i v τ H fun τ2 H4=>zid τ2 H4 fun b H5=>if b=true then A τ2 H5 else B τ2 H5:=by
 show if true=true then A (τ.set i (some v)) H else B (τ.set i (some v)) H
 exact Xw h
theorem Told.updL {H:Hp}{D:Addr}{zs:List V}{o:HO}(hD:H D=some (.lst zs)){e:Ex}{v:V}(t:Told H e v):Told (upd H D o) e v:=t.mono fun b xs h=>by
 have hb:b≠D:=ne_of h hD (by intro z;cases z)
 rw[upd_ne hb]
 exact h
theorem log_1009:((1009:Int).natAbs.log2<9000):=by decide
theorem Wk:((2003:Int).natAbs.log2<9000):=by decide
end K04

namespace K04
open PySem L2
noncomputable def znA:V→Bool
 |.int _=>true
 |.bl _=>true
 |_=>false
def zvZ:V→Bool
 |.bl _=>true
 |_=>false
def zhY:V→Bool
 |.str _=>true
 |_=>false
def Lf (K:PySem.W.Frag) (H:Hp) (v:V):Prop:=∃ t,TyOf K H v t∧PySem.W.kitOne K t (.type "int")=some (znA v)∧PySem.W.kitOne K t (.type "bool")=some (zvZ v)∧PySem.W.kitOne K t (.type "str")=some (zhY v)
noncomputable def whole:V→Bool
 |.int _=>true
 |_=>false
noncomputable def um:V→Bool
 |.int i=>decide ((if i<0 then -i else i)<100000000000000000000)
 |_=>false
noncomputable def wc (ws:List Str):V→Bool
 |.str x=>inV (.str x) (ws.map V.str)
 |_=>false
noncomputable def zap:V→Bool
 |.int i=>decide (1≤i)&&decide (i≤1000000000)
 |_=>false
theorem Xx (v:V):whole v=(znA v&&!zvZ v):=by cases v<;>rfl
theorem wT {v:V}(h:whole v=true):∃ i,v=.int i:=by
 cases v<;>simp[whole] at h
 exact⟨_,rfl⟩
theorem Wo {v:V}(h:zhY v=true):∃ x,v=.str x:=by
 cases v<;>simp[zhY] at h
 exact⟨_,rfl⟩
theorem inV_str {x:Str}:∀ {ws:List Str},inV (.str x) (ws.map V.str)=true↔x∈ws
 |[]=>by simp[inV]
 |w::ws=>by
  have ih:=inV_str (x:=x) (ws:=ws)
  unfold inV at ih ⊢
  rw[List.map_cons,List.any_cons,Bool.or_eq_true,List.mem_cons,ih]
  constructor
  ·rintro(h | h)
   ·left
    have:V.str w=V.str x:=by simpa[eqV] using h
    cases this
    rfl
   ·exact .inr h
  ·rintro(h | h)
   ·left
    subst h
    exact eqV_refl rfl
   ·exact .inr h
theorem flat_strs (ws:List Str):(ws.map V.str).all yR=true:=by
 rw[List.all_eq_true]
 intro v hv
 obtain⟨x,_,rfl⟩:=List.mem_map.mp hv
 rfl
inductive Gx where
 |num (v:V)
 |name (v:V)
 |two (w:V) (e f:Gx)
 |mod (e:Gx) (n:V)
 |less (e f g h:Gx)
 |oth (v:V)
abbrev twoWs:List Str:=["add", "sub", "min", "max"]
noncomputable def Gx.sound (names:List Str):Nat→Gx→Bool
 |0,_=>false
 |_+1,.num v=>um v
 |_+1,.name v=>wc names v
 |n+1,.two w e f=>wc twoWs w&&([e,f].all (Gx.sound names n))
 |n+1,.mod e v=>zap v&&Gx.sound names n e
 |n+1,.less e f g h=>[e,f,g,h].all (Gx.sound names n)
 |_+1,.oth _=>false
noncomputable def Ex.gx:Ex→Gx
 |.num i=>.num (.int i)
 |.name x=>.name (.str x)
 |.two w e f=>.two (.str w) e.gx f.gx
 |.mod e n=>.mod e.gx (.int n)
 |.less e f g h=>.less e.gx f.gx g.gx h.gx
theorem Ex.sound {names:List Str}:∀ {n:Nat}{e:Ex},e.ok names→e.dep≤n→e.gx.sound names n=true
 |0,e,_,d=>by have:=e.dep_pos;omega
 |n+1,.num i,o,d=>by
  obtain⟨o1,o2⟩:=o
  show decide _=true
  refine decide_eq_true ?_
  split<;>omega
 |n+1,.name x,o,d=>inV_str.mpr o
 |n+1,.two w e f,o,d=>by
  obtain⟨hw,o1,o2⟩:=o
  have d:max e.dep f.dep+1≤n+1:=d
  have h1:=Ex.sound (n:=n) o1 (by omega)
  have h2:=Ex.sound (n:=n) o2 (by omega)
  show(inV (.str w) (twoWs.map V.str)&&([e.gx,f.gx].all _))=true
  have hw':inV (.str w) (twoWs.map V.str)=true:=inV_str.mpr (by rcases hw with rfl | rfl | rfl | rfl<;>simp)
  rw[hw']
  simp[h1,h2]
 |n+1,.mod e i,o,d=>by
  obtain⟨⟨i1,i2⟩,o1⟩:=o
  have d:e.dep+1≤n+1:=d
  have h1:=Ex.sound (n:=n) o1 (by omega)
  show((decide (1≤i)&&decide (i≤1000000000))&&e.gx.sound names n)=true
  simp[h1,i1,i2]
 |n+1,.less e f g h,o,d=>by
  obtain⟨o1,o2,o3,o4⟩:=o
  have d:max (max e.dep f.dep) (max g.dep h.dep)+1≤n+1:=d
  have h1:=Ex.sound (n:=n) o1 (by omega)
  have h2:=Ex.sound (n:=n) o2 (by omega)
  have h3:=Ex.sound (n:=n) o3 (by omega)
  have h4:=Ex.sound (n:=n) o4 (by omega)
  show([e.gx,f.gx,g.gx,h.gx].all _)=true
  simp[h1,h2,h3,h4]
noncomputable def Ex.words:Ex→List Str
 |.num i=>[toString i]
 |.name x=>[x]
 |.two w e f=>w::(e.words++f.words)
 |.mod e n => "mod" :: (e.words++[(toString n:Str)])
 |.less e f g h => "less" :: (e.words++(f.words++(g.words++h.words)))
noncomputable def Ex.size:Ex→Nat
 |.num _=>1
 |.name _=>1
 |.two _ e f=>1+e.size+f.size
 |.mod e _=>2+e.size
 |.less e f g h=>1+e.size+f.size+g.size+h.size
theorem Ex.words_len:∀ e:Ex,e.words.length=e.size
 |.num _=>rfl
 |.name _=>rfl
 |.two _ e f=>by simp[Ex.words,Ex.size,Ex.words_len e,Ex.words_len f];omega
 |.mod e _=>by simp[Ex.words,Ex.size,Ex.words_len e];omega
 |.less e f g h=>by simp[Ex.words,Ex.size,Ex.words_len e,Ex.words_len f,Ex.words_len g,Ex.words_len h];omega
end K04

namespace L2
open PySem PySem.Spec PyProof.Rows
end L2

namespace L2
open PySem PySem.Spec PyProof.Rows
end L2

namespace L2
open PySem PySem.Spec PyProof.Rows
end L2

namespace L2
open PySem PySem.Spec PyProof.Rows
end L2
namespace L2
open PySem PySem.Spec PyProof.Rows
end L2

namespace L2
open PySem PySem.W PySem.Spec PySem.Calls PyProof.Rows PySem.Builtin PySem.Builtin.ObjectAttr PySem.Builtin.Getset_descriptor
end L2

namespace L2
open PySem PySem.Spec PyProof.Rows
end L2

namespace L2
open PySem PySem.Spec PyProof.Rows
end L2

namespace L2
open PySem
section
variable {X:Cx}{es:List Expr}{t:TA}{te:TE}
theorem zwH {c j pos}(ha:PE X (.Constant c j pos) te) (hr:PA X es t):PA X (.Constant c j pos::es) (xp te t):=yz ha hr rfl
theorem zwF {xs c pos}(ha:PE X (.Tuple xs c pos) te) (hr:PA X es t):PA X (.Tuple xs c pos::es) (xp te t):=yz ha hr rfl
theorem zwG {f xs ks pos}(ha:PE X (.Call f xs ks pos) te) (hr:PA X es t):PA X (.Call f xs ks pos::es) (xp te t):=yz ha hr rfl
theorem zwI {l o r pos}(ha:PE X (.BinOp l o r pos) te) (hr:PA X es t):PA X (.BinOp l o r pos::es) (xp te t):=yz ha hr rfl
theorem xn {x pos}(ha:PE X (.Name x pos) te) (hr:PA X es t):PA X (.Name x pos::es) (xp te t):=yz ha hr rfl
end
end L2

namespace L2
open PySem PySem.Spec PyProof.Rows
end L2

namespace L2
open PySem PySem.Spec PyProof.Rows PySem.Builtin PySem.Builtin.Str
end L2

namespace L2
open PySem PySem.Spec PyProof.Rows
end L2

namespace PySem
namespace Zt
end Zt
end PySem
namespace L2
open PySem PySem.Spec PyProof.Rows PySem.Zt
end L2

namespace L2
open PySem PySem.Spec PyProof.Rows
end L2

namespace L2
open PySem PySem.Spec PyProof.Rows
end L2

namespace L2
open PySem PySem.W PySem.Spec PySem.Calls PyProof.Rows PySem.Builtin PySem.Builtin.ObjectAttr
end L2

namespace L2
open PySem PySem.Spec PyProof.Rows
end L2

namespace L2
open PySem PySem.Spec PyProof.Rows
end L2

namespace L2
open PySem PySem.Spec PyProof.Rows
end L2

namespace L2
open PySem PySem.Spec PyProof.Rows
end L2

namespace L2
open PySem PySem.Spec PyProof.Rows
end L2

namespace L2
open PySem PySem.W PySem.Spec PySem.Calls PyProof.Rows PySem.Builtin PySem.Builtin.ObjectAttr PySem.Builtin.Getset_descriptor
end L2

namespace L2
open PySem PySem.Spec PyProof.Rows
end L2

namespace L2
open PySem PySem.Spec PyProof.Rows
end L2

namespace L2
open PySem PySem.W PySem.Spec PySem.Calls PyProof.Rows
end L2

namespace L2
open PySem PySem.Spec PyProof.Rows
end L2

namespace L2
open PySem PySem.Spec PyProof.Rows
theorem entry_dul:entryFor table "dict.update.loop" = some Builtin.«dict.update.loop»:=entryFor_of_tree (by kernel_rfl)
theorem plain_dul:plainId "dict.update.loop" = true:=by decide +kernel
theorem YU:typeLookup (.type "list") "keys" = pure none:=am_miss_of_fast (by kernel_rfl)
section
variable {P:Program}{w:World}{A:Around}{E:Value→Shared→Prop}{s:Shared}
theorem UZ {a:Addr}{xs:Array Value}{Q:Option Value→Shared→Prop}(hl:PlainL s.heap a xs) (hA:A.handled=none)
  (q:∀ h' tk,(∀ b o,s.heap.get? b=some o→h'.get? b=some o)→Q none { s with heap:=h',toks:=tk }):wpAny (model P w) A (getAttr? (.ref a) "keys") Q E s:=by
 obtain⟨o,n,hx,hc,hd,hs⟩:=hl
 obtain⟨c,dct,dat,sl⟩:=o
 dsimp only at hc hd hs
 subst hc hd hs
 obtain⟨hp,g,dr,tk0,os⟩:=s
 have hT:∀ tk',(⟨hp,g,dr,tk',os⟩:Shared).TypeIs (.ref a) "list" := fun _=>⟨_,hx,rfl⟩
 have f1:=sub_AttributeError
 have f3:=F.slot_list_getattribute.lookup
 have f4:=F.slot_list_getattribute.bind (.ref a)
 have f5:=am_list_getattr_none
 unfold getAttr? getAttrBy? getAttrBy
 repeat (any_goals (first | assumption | exact hT _ | ((with_reducible show wpAny _ _ (call (Value.builtin "list.__getattribute__") _ _) _ _ _);refine call_meets F.slot_list_getattribute (hT _) am_entry_list_getattribute (F.args_list_getattribute_2 _ _) (meets_getattribute_miss_list a xs n sl "keys" _ YU (by decide +kernel) (by decide +kernel)) ⟨hx,hA,fun h1 tk1 e1 ne=>?_⟩) | wp_step))
 obtain⟨t',u',he⟩:=ne.there
 show wpAny _ _ (getattributeRaised _ _ _ _ _ _ _) _ _ _
 unfold getattributeRaised hookOrError attributeErrorLeaves
 repeat (any_goals (first | assumption | wp_step))
 exact q _ _ ne.keeps
variable {K:Type} [DecidableEq K]{knd:KeyKind P w K}
theorem zh7 {d I:Addr}{fp wr:List Addr}{n:Nat}{Is:Nat→Value→Prop}{St:Nat→Heap→Prop}{R:Except Value Flow→Shared→Prop}(W:Walks P w A.in1 I fp wr n Is St) (nf:d∉fp) (kvs:List (K×Value)) (hk:kvs.length=n) (hz:n≤1000)
  (h0:Heap) (hI:∀ i v,Is i v→∃ q k,v=.ref q∧(∃ o x,h0.get? q=some o∧o.cls=.type "tuple" ∧ o.data=.seq #[k,(kvs[i]?.map (·.2)).getD .none] x)∧∃ kk,(kvs[i]?.map (·.1))=some kk∧knd.is kk k=true)
  (hq:∀ i v q,Is i v→v=.ref q→q∉wr∧q≠d) :
  ∀ (r j:Nat) (t:Shared) (tk0:Tok),j+r=n→St j t.heap→t.heap.DictOf knd d (merged [] (kvs.take j))→(∀ b o,b∉wr→b≠d→h0.get? b=some o→t.heap.get? b=some o) →
   (∀ h' tk,h'.DictOf knd d (merged [] kvs)→(∀ b o,b∉wr→b≠d→t.heap.get? b=some o→h'.get? b=some o)→R (.ok (.ret .none)) { t with heap:=h',toks:=tk }) →
   codeAny (model P w) A (.builtin "dict.update.loop" ⟨[.ref d,.ref I,.int (j:Int) tk0,.none],[]⟩) R t:=by
 have nw:d∉wr:=fun z=>nf (W.sub _ z)
 intro r
 induction r with
 |zero =>
  intro j t tk0 hj st hd keep fin
  have ej:j=n:=by omega
  subst ej
  refine codeAny_builtin entry_dul (by
   rw[Around.under_plainId plain_dul _]
   show wpAny _ A.in1 (pyNext (.ref I) >>= _) _ _ t
   refine wpAny_bind (W.done t _ _ st fun h1 tk kk=>?_)
   show wpAny _ A.in1 (Builtin.Dict.addKeywords d [] >>= _) _ _ _
   rw[← hk,List.take_length] at hd
   obtain⟨o,ho,hdo⟩:=Heap.dictOf_iff.mp hd
   exact wpAny_bind (wpAny_pure (wpAny_pure (fin h1 tk (Heap.dictOf_iff.mpr ⟨o,kk d o nw ho,hdo⟩) fun b o n1 _ e=>kk b o n1 e))))
 |succ r ih =>
  intro j t tk0 hj st hd keep fin
  refine codeAny_builtin entry_dul (by
   rw[Around.under_plainId plain_dul _]
   show wpAny _ A.in1 (pyNext (.ref I) >>= _) _ _ t
   refine wpAny_bind (W.item j t _ _ (by omega) st fun v h1 tk iv st1 kk=>?_)
   obtain⟨q,k,rfl,⟨o,x,hq0,hc,hs⟩,kx,hkx,hki⟩:=hI j v iv
   obtain⟨nq1,nq2⟩:=hq j _ q iv rfl
   have hq1:=kk q o nq1 (keep q o nq1 nq2 hq0)
   obtain⟨od,hod,hdo⟩:=Heap.dictOf_iff.mp hd
   have hd1:h1.DictOf knd d (merged [] (kvs.take j)):=Heap.dictOf_iff.mpr ⟨od,kk d od nw hod,hdo⟩
   obtain⟨⟨k2,v2⟩,hkv⟩:∃ kv,kvs[j]?=some kv:=⟨kvs[j]'(by omega),by simp[show j<kvs.length by omega]⟩
   rw[hkv] at hs hkx
   cases hkx
   show wpAny _ A.in1 (holding [Value.ref q] (tryCatch (Builtin.Dict.pairItems (Value.ref q)) _ >>= _) >>= _) _ _ _
   refine wpAny_bind (wpAny_holding (wpAny_bind (wpAny_tryCatch ?_)))
   unfold Builtin.Dict.pairItems
   refine wpAny_bind (wpAny_typeOf (T := "tuple") ⟨o,hq1,hc⟩ ?_)
   rw[if_pos (by decide)]
   refine wpAny_bind (wpAny_seqItems hq1 hs (wpAny_pure ?_))
   show wpAny _ A.in1 (holding [k,v2] (dictSet d k v2)) _ _ _
   refine wpAny_holding (wpAny_dictSet_pairs hki hd1 (fun h2 hd2 sb=>?_) ?_)
   ·show wpAny _ A.in1 (pure _) _ _ _
    have hm:=merged_take_succ ([]:List (K×Value)) kvs j (k2,v2) hkv
    refine wpAny_pure ⟨plainId_quiet plain_dul _,ih (j+1) _ _ (by omega) (W.frame _ _ _ st1 fun b hb o e=>?_) (by rw[hm];exact hd2) (fun b o n1 n2 e=>?_) fun h3 tk3 hd3 kk3=>fin h3 tk3 hd3 fun b o n1 n2 e=>kk3 b o n1 n2 ?_⟩
    ·exact(sb.2 b fun z=>nf (z ▸ hb)).trans e
    ·exact(sb.2 b n2).trans (kk b o n1 (keep b o n1 n2 e))
    ·exact(sb.2 b n2).trans (kk b o n1 e)
   ·have:=merged_length_le ([]:List (K×Value)) (kvs.take j)
    rw[List.length_take] at this
    simp only[List.length_nil] at this
    exact Nat.le_trans (show _≤1000 by omega) (by decide))
end
section
variable {X:Cx}
theorem uh:∀ {xs:List V}{us:List Value}{i:Nat}{u:Value},Vals xs us→us[i]?=some u→∃ x,xs[i]?=some x∧RelV x u
 |_,_,0,_,.cons r _,h=>by cases h;exact⟨_,rfl,r⟩
 |_,_,i+1,_,.cons _ t,h=>by
  obtain⟨x,e,r⟩:=uh t (by simpa using h)
  exact⟨x,by simpa using e,r⟩
theorem uw {pins:List (Addr×Obj)}{σ:St}{H:Hp}{s:Shared}(I:Inv X pins σ H s):∀ (qs:List Addr) (kvs:List (Key×V)),qs.length=kvs.length→(∀ (i:Nat) (q:Addr) (kv:Key×V),qs[i]?=some q→kvs[i]?=some kv→H q=some (.tup [kV kv.1,kv.2])) →
  ∃ vs:List (Key×Value),KV kvs vs∧∀ (i:Nat) (q:Addr),qs[i]?=some q→∃ o x k kv,s.heap.get? q=some o∧o.cls=.type "tuple" ∧ o.data=.seq #[k,kv.2] x∧vs[i]?=some kv∧(zx X.prog X.w).is kv.1 k=true
 |[],[],_,_=>⟨[],.nil,fun i q h=>by simp at h⟩
 |q::qs,kv::kvs,hl,h=>by
  obtain⟨vs,r,hv⟩:=uw I qs kvs (by simpa using hl) fun i q' kv' h1 h2=>h (i+1) q' kv' (by simpa using h1) (by simpa using h2)
  have h0:=h 0 q kv rfl rfl
  obtain⟨its,rv,it,_⟩:=I.tuple (SqT.of h0)
  obtain⟨uk,ux,rfl,rk,rx⟩:∃ uk ux,its=[uk,ux]∧RelV (kV kv.1) uk∧RelV kv.2 ux:=by
   cases rv with | cons r1 rv =>
   cases rv with | cons r2 rv =>
   cases rv
   exact⟨_,_,rfl,r1,r2⟩
  obtain⟨o,e,oc,n,od⟩:=it
  refine⟨(kv.1,ux)::vs,.cons ⟨rfl,rx⟩ r,fun i q' hi=>?_⟩
  cases i with
  |zero =>
   cases hi
   exact⟨o,n,uk,(kv.1,ux),e,oc,od,rfl,u0 rk⟩
  |succ i=>exact hv i q' (by simpa using hi)
def zfG (K:PySem.W.Frag):List V→Hp→VK→Prop:=fun xs H Q=>∃ (a:Addr) (qs:List Addr) (kvs:List (Key×V)),xs=[V.ref a]∧H a=some (.lst (qs.map V.ref))∧qs.length=kvs.length∧kvs.length≤1000∧(∀ (i:Nat) (q:Addr) (kv:Key×V),qs[i]?=some q→kvs[i]?=some kv→H q=some (.tup [kV kv.1,kv.2])) ∧
 ∀ p,H p=none→Q (.ref p) (upd H p (.dK (mergeK [] kvs)))
theorem xm (hc:X.calm=true):yv X (.type "dict") (zfG X.K):=by
 intro pins s σ H xs us Q I r h
 obtain⟨a,qs,kvs,rfl,ha,hl,hz,hq,k⟩:=h
 obtain⟨u,rfl,ru⟩:=r.one
 cases ru
 obtain⟨its,rv,pl,_⟩:=I.list (SqL.of ha)
 have hA:X.A.handled=none:=I.ok.hd hc
 refine callType_codes (Q₁:=fun obj s₁=>obj=.ref s.heap.objs.size∧s₁={ s with heap:=s.heap.push { cls:=.type "dict",data:=.dict #[] } }) F.kt_called_dict (F.kt_typeCall_dict_1 _) F.entry_dict_init (kt_code_dict_new _ ⟨rfl,rfl⟩) ?_
 rintro obj s₁ ⟨rfl,rfl⟩
 have hnew:(s.heap.push { cls:=.type "dict",data:=.dict #[] }).DictOf (zx X.prog X.w) s.heap.objs.size []:=Heap.DictOf.new s.heap
 have lt:a<s.heap.objs.size:=by
  obtain⟨_,e,_⟩:=pl.isList
  exact Heap.lt_size e
 have pl1:PlainL (s.heap.push { cls:=.type "dict",data:=.dict #[] }) a its.toArray:=by
  obtain⟨o,n,e,r⟩:=pl
  exact⟨o,n,Heap.get?_push_of_some _ e,r⟩
 refine⟨hnew.typeIs,F.args_dict_init_2 _ _,?_⟩
 unfold Builtin.«dict.__init__»
 refine wpAny_bind ?_
 unfold Builtin.Dict.selfAndRest
 refine wpAny_bind (wpAny_notOrdered_dict hnew.typeIs ?_)
 show wpAny _ _ (pure (s.heap.objs.size,[Value.ref a])) _ _ _
 refine wpAny_pure ?_
 show wpAny _ _ (Builtin.Dict.updateFrom "dict.__init__" s.heap.objs.size (.ref a) [] .none) _ _ _
 unfold Builtin.Dict.updateFrom
 obtain⟨o,n,e,oc,od,os⟩:=pl1
 refine wpAny_bind (wpAny_typeOf (T := "list") ⟨o,e,oc⟩ ?_)
 rw[if_pos (by decide)]
 refine wpAny_bind (UZ ⟨o,n,e,oc,od,os⟩ hA fun h1 tk1 kk1=>?_)
 obtain⟨vs,rel,hvs⟩:=uw I qs kvs hl hq
 have hl1:h1.IsList a its.toArray:=⟨o,kk1 _ _ e,oc,n,os⟩
 show wpAny _ _ (rule _ >>= _) _ _ _
 refine wpAny_bind (wpAny_rule (wpAny_bind (wpAny_pyIter_list hl1 ?_)))
 have nd0:(s.heap.push { cls:=.type "dict",data:=.dict #[] }).get? s.heap.objs.size=some { cls:=.type "dict",data:=.dict #[] }:=Heap.get?_push_size _ rfl
 have nd1:=kk1 _ _ nd0
 have ltd:s.heap.objs.size<h1.objs.size:=Heap.lt_size nd1
 have lta:a<h1.objs.size:=Nat.lt_trans lt ltd
 have len:its.toArray.size=vs.length:=by
  have e1:=rv.length
  rw[List.length_map] at e1
  have e2:=rel.length
  simp
  omega
 have lvs:vs.length=kvs.length:=(rel.length).symm
 have W:=Walks.list (prog:=X.prog) (w:=X.w) (A:=X.A.in1.in1) hA h1.objs.size a (Nat.ne_of_lt lta) its.toArray
 have st:((h1.push { cls:=.type "list_iterator",data:=.fields #[.ref a,.int 0 0] }).IsListIter h1.objs.size a 0∧(h1.push { cls:=.type "list_iterator",data:=.fields #[.ref a,.int 0 0] }).IsList a its.toArray):=⟨⟨_,Heap.get?_push_size _ rfl,rfl,rfl⟩,hl1.push _⟩
 have nf:s.heap.objs.size∉[h1.objs.size,a]:=by
  intro z
  rcases List.mem_cons.mp z with z | z
  ·exact Nat.lt_irrefl _ (z ▸ ltd)
  ·exact Nat.lt_irrefl _ ((List.mem_singleton.mp z) ▸ lt)
 have item:∀ (i:Nat) (v:Value),its.toArray[i]?=some v→∃ q:Addr,v=Value.ref q∧qs[i]?=some q:=fun i v hv=>by
  have hv:its[i]?=some v:=by simpa using hv
  obtain⟨x,hx,rx⟩:=uh rv hv
  rw[List.getElem?_map] at hx
  obtain⟨q,hq,rfl⟩:=Option.map_eq_some_iff.mp hx
  exact⟨q,rx,hq⟩
 have hd0:(h1.push { cls:=.type "list_iterator",data:=.fields #[.ref a,.int 0 0] }).DictOf (zx X.prog X.w) s.heap.objs.size []:=by
  obtain⟨od,hod,hdo⟩:=Heap.dictOf_iff.mp hnew
  exact Heap.dictOf_iff.mpr ⟨od,Heap.get?_push_of_some _ (kk1 _ _ hod),hdo⟩
 refine wpAny_pure ⟨plainId_quiet plain_dul _,zh7 (A:=X.A.in1) (knd:=zx X.prog X.w) W nf vs len.symm (by omega) s.heap ?_ ?_ its.toArray.size 0 _ 0 (by omega) st hd0 ?_ ?_⟩
 ·intro i v hv
  obtain⟨q,rfl,hq'⟩:=item i v hv
  obtain⟨o,x,k',kv,e1,e2,e3,e4,e5⟩:=hvs i q hq'
  exact⟨q,k',rfl,⟨o,x,e1,e2,by rw[e4];exact e3⟩,kv.1,by rw[e4];rfl,e5⟩
 ·intro i v q hv ev
  obtain⟨q',rfl,hq'⟩:=item i v hv
  cases ev
  obtain⟨o,x,k',kv,e1,_⟩:=hvs i _ hq'
  have l1:=Heap.lt_size e1
  exact⟨fun z=>by rw[List.mem_singleton.mp z] at l1;exact Nat.lt_irrefl _ (Nat.lt_trans l1 ltd),fun z=>by rw[z] at l1;exact Nat.lt_irrefl _ l1⟩
 ·intro b o n1 n2 e
  exact Heap.get?_push_of_some _ (kk1 _ _ (Heap.get?_push_of_some _ e))
 ·intro h' tk hd' kk'
  refine⟨rfl,?_⟩
  refine⟨.ref s.heap.objs.size,_,I.laid (a:=s.heap.objs.size) (o:=.dK (mergeK [] kvs)) (t':=tk) (fun b o e=>?_) (Nat.le_refl _) (wm ?_ (beq_eq_false_iff_ne.mpr (Ne.symm (Nat.ne_of_lt I.big))) (KV.merge rel .nil) hd'),rfl,k _ (I.hok.fresh (Nat.le_refl _))⟩
  ·have l1:=Heap.lt_size e
   refine kk' b o (fun z=>?_) (fun z=>?_) (Heap.get?_push_of_some _ (kk1 _ _ (Heap.get?_push_of_some _ e)))
   ·rw[List.mem_singleton.mp z] at l1
    exact Nat.lt_irrefl _ (Nat.lt_trans l1 ltd)
   ·rw[z] at l1
    exact Nat.lt_irrefl _ l1
  ·have e1:=(KV.merge rel (.nil:KV ([]:List (Key×V)) [])).length
   have e2:=merged_length_le ([]:List (Key×Value)) vs
   simp only[List.length_nil] at e2
   exact Nat.le_trans (show _≤1000 by omega) (by decide)
end
end L2

namespace L2
open PySem PySem.Spec PyProof.Rows
def zaH (td ty:TE):TE:=fun σ H Q=>td σ H fun x H1=>∃ a,x=.ref a∧IsD H1 a∧ty σ H1 fun y H2=>∃ b kvs more,y=.ref b∧a≠b∧H2 a=some (.dK kvs)∧H2 b=some (.dK more)∧kvs.length+more.length≤1000∧Q .non (upd H2 a (.dK (mergeK kvs more)))
section
variable {X:Cx}{o e:Expr}{apos cpos:Pos}{td ty:TE}
theorem Vy (ho:PE X o td) (he:PE X e ty) (m:M1 X o "update" apos e cpos):PE X (.Call (.Attribute o "update" apos) [e] [] cpos) (zaH td ty):=by
 intro pins s σ H Q I h
 refine wpAny_Call_method m.base m.few m.line PySem.F.plainAttrs_dict PySem.F.slot_dict_update PySem.F.type_dict_update (thn (ho pins s σ H _ I h) fun u s1 hq0=>?_)
 obtain⟨x,H1,I1,rx,a,ex,d,q1⟩:=hq0
 subst ex
 obtain rfl:u=Value.ref a:=rx
 obtain⟨t1,t2,_⟩:=W6 I1 d
 refine⟨t1,t2,?_⟩
 rw[m.trees]
 refine Calls.callWith_builtin rfl (Calls.evalArgs_plain (Calls.spliced_cons (thn (he pins s1 σ H1 _ I1 q1) fun iv s2 ⟨y,H2,I2,ry,b,kvs,more,ey,ne,ha,hb,hz,q2⟩=>Calls.spliced_nil ?_)))
 subst ey
 obtain rfl:iv=Value.ref b:=ry
 obtain⟨z1,hd1,vs1,rel1,dd1⟩:=Y5 I2.hok ha
 obtain⟨z2,hd2,vs2,rel2,dd2⟩:=Y5 I2.hok hb
 have l1:=rel1.length
 have l2:=rel2.length
 have rm:=KV.merge rel2 rel1
 have lm:=merged_length_le vs1 vs2
 have lm2:=rm.length
 refine call_meetsIn PySem.F.slot_dict_update dd1.typeIs PySem.F.entry_dict_update (PySem.F.args_dict_update_2 _ _) (meets_dict_update (zx X.prog X.w) a b ne hd2) ⟨vs1,vs2,dd1,dd2,Nat.le_trans (show _≤1000 by omega) (by decide),fun h' dd' _ hs=>?_⟩
 have he':∃ q,h'.get? a=some q:=let ⟨q,_,_,hq,_⟩:=dd';⟨q,hq⟩
 exact⟨.non,_,xT (t':=s2.toks) I2 (by rw[ha];exact True.intro) hs he' (wm (Nat.le_trans (show _≤1000 by omega) (by decide)) hd1 rm dd'),rfl,q2⟩
end
end L2

namespace L2
open PySem PySem.W PyProof.Rows
section
variable {X:Cx}{o:Expr}{to:TE}{apos cpos:Pos}
def zaK (to:TE):TE:=fun σ H Q=>to σ H fun x H1=>∃ a kvs,x=.ref a∧H1 a=some (.dK kvs)∧Q .non (upd H1 a (.dK []))
theorem VA (ho:PE X o to) (hbase:attributeBase o "clear" X.env (eval o X.env)=eval o X.env:=by rfl) (hline:(apos.endLine == cpos.line)=true:=by rfl):PE X (.Call (.Attribute o "clear" apos) [] [] cpos) (zaK to):=by
 intro pins s σ H Q I h
 refine wpAny_Call_method0_late hbase hline (thn (ho pins s σ H _ I h) fun v s1 hq0=>?_)
 obtain⟨x,H1,I1,rx,a,kvs,ex,e,q1⟩:=hq0
 subst ex
 obtain rfl:v=Value.ref a:=rx
 obtain⟨t1,t2,_⟩:=W6 I1 (.inl ⟨_,.inl e⟩)
 exact⟨"dict", "dict.clear",PySem.F.plainAttrs_dict,PySem.F.slot_dict_clear,PySem.F.type_dict_clear,t1,t2,Calls.callWith_builtin rfl (PySem.evalArgs_none (U7 I1 e fun s2 I2=>⟨.non,_,I2,rfl,q1⟩))⟩
end
end L2

namespace L2
open PySem PySem.Spec PyProof.Rows
section
variable {X:Cx}
def zwB (K:PySem.W.Frag) (A:Around):R2:=fun x y H Q=>∃ (a b:Addr) (xs ys:List V),x=.ref a∧y=.ref b∧SqL K H a xs∧SqL K H b ys∧xs.length≠ys.length∧A.units<cLine∧Q (.bl false) H
theorem WU:OpR X (compareOp .Eq) (zwB X.K X.A):=by
 intro pins s σ H x y v u Q I rx ry h
 obtain⟨a,b,xs,ys,rfl,rfl,h1,h2,hl,hu,q⟩:=h
 cases rx;cases ry
 obtain⟨i1,r1,p1,_⟩:=I.list h1
 obtain⟨i2,r2,p2,_⟩:=I.list h2
 exact SeqAt.RcAt.lists_lengths p1.isList p2.isList (by simp;rw[← r1.length,← r2.length];exact hl) hu _ _ _ _ ⟨.bl _,H,I,rfl,q⟩
end
end L2

namespace L2
open PySem PySem.Spec PyProof.Rows
theorem Yx {prog prog':Program}{w w':World}{es:List DictEntry}{kvs:List (Key×Value)}(h:Pairs (zx prog w) es kvs):Pairs (zx prog' w') es kvs:=by
 induction h with
 |nil=>exact .nil
 |cons h1 h2 _ ih=>exact .cons h1 h2 ih
theorem Yw {prog:Program}{w:World}{es:List DictEntry}{kvs:List (Key×Value)}(h:Pairs (zx prog w) es kvs):∀ e∈es,∃ kv∈kvs,v5 kv.1 e.key=true:=by
 induction h with
 |nil=>intro e he;cases he
 | @cons e kv es kvs h1 h2 _ ih =>
  intro e' he'
  rcases List.mem_cons.mp he' with z | z
  ·exact⟨kv,List.mem_cons_self ..,by rw[z];exact h1⟩
  ·obtain⟨kv',m,q⟩:=ih e' z
   exact⟨kv',List.mem_cons_of_mem _ m,q⟩
theorem wn {prog prog':Program}{w w':World}{h:Heap}{a:Addr}{kvs:List (Key×Value)}(hk:∀ p∈kvs,∃ i,p.1=Sum.inl i) (D:h.DictOf (zx prog w) a kvs):h.DictOf (zx prog' w') a kvs:=by
 obtain⟨o,es,ep,ho,ex,hd,ks,ps,nd⟩:=D
 refine⟨o,es,ep,ho,ex,hd,fun e he=>?_,Yx ps,nd⟩
 obtain⟨k,h1,h2⟩:=ks e he
 obtain⟨kv,m,q⟩:=Yw ps e (by simpa using he)
 obtain⟨i,hi⟩:=hk kv m
 have e1:k=kv.1:=(zx prog w).inj e.key k kv.1 h1 q
 refine⟨k,h1,?_⟩
 rw[h2,e1,hi]
 rfl
section
variable {X:Cx}
def EqP (X:Cx) (H:Hp) (x y:V) (b:Bool) (n:Nat):Prop:=∀ (pins:List (Addr×Obj)) (σ:St) (s:Shared),Inv X pins σ H s→∀ (A:Around) (u v:Value),A.units+n<cLine→RelV x u→RelV y v→SeqAt.EqAt A s u v b
theorem EqP.of {H:Hp}{x y:V}{b:Bool}{n:Nat}(h:EqD X.K H x y b n):EqP X H x y b n:=fun pins σ s I A u v hu r1 r2=>h.at I A u v hu r1 r2
theorem EqP.same {H:Hp}{a:Addr}{n:Nat}:EqP X H (.ref a) (.ref a) true n:=fun pins σ s I A u v hu rx ry=>by
 cases rx;cases ry
 exact SeqAt.EqAt.same _
theorem vx {pins:List (Addr×Obj)}{σ:St}{H:Hp}{s:Shared}{A:Around}{xs ys:List V}{i1 i2:List Value}{e:Nat→Bool}{n:Nat}(I:Inv X pins σ H s) (r1:Vals xs i1) (r2:Vals ys i2) (hu:A.units+n+2<cLine)
  (h:∀ (j:Nat) x y,xs[j]?=some x→ys[j]?=some y→EqP X H x y (e j) n):∀ (j:Nat) (h1:j<i1.toArray.size) (h2:j<i2.toArray.size),SeqAt.EqAt A.in1 s i1.toArray[j] i2.toArray[j] (e j):=fun j h1 h2=>by
 have g1:j<xs.length:=by rw[r1.length];simpa using h1
 have g2:j<ys.length:=by rw[r2.length];simpa using h2
 obtain⟨u1,e1,q1⟩:=r1.get (i:=j) (x:=xs[j]) (by simp[g1])
 obtain⟨u2,e2,q2⟩:=r2.get (i:=j) (x:=ys[j]) (by simp[g2])
 have f1:i1.toArray[j]=u1:=by
  obtain⟨_,z⟩:=List.getElem?_eq_some_iff.mp e1
  simpa using z
 have f2:i2.toArray[j]=u2:=by
  obtain⟨_,z⟩:=List.getElem?_eq_some_iff.mp e2
  simpa using z
 rw[f1,f2]
 exact(h j _ _ (by simp[g1]) (by simp[g2])) _ _ _ I A.in1 u1 u2 (by rw[yB];omega) q1 q2
theorem EqP.lst {H:Hp}{a b:Addr}{xs ys:List V}{n:Nat}(ha:SqL X.K H a xs) (hb:SqL X.K H b ys) (hl:xs.length=ys.length) (h:∀ (j:Nat) x y,xs[j]?=some x→ys[j]?=some y→EqP X H x y true n):EqP X H (.ref a) (.ref b) true (n+2):=fun pins σ s I A u v hu rx ry=>by
 by_cases hne:a=b
 ·subst hne;exact EqP.same _ _ _ I A u v hu rx ry
 ·cases rx;cases ry
  obtain⟨i1,r1,p1,_⟩:=I.list ha
  obtain⟨i2,r2,p2,_⟩:=I.list hb
  have l1:=r1.length
  have l2:=r2.length
  refine SeqAt.EqAt.of_refs hne ?_
  have q:=SeqAt.RcAt.lists (A:=A) (s:=s) (e:=fun _=>true) p1.isList p2.isList (by simp;omega) (by omega) (vx I r1 r2 (by omega) h)
  have e:((List.range i1.toArray.size).all fun _=>true)=true:=by simp
  rw[e] at q
  exact q
theorem zh2 {pins:List (Addr×Obj)}{σ:St}{H:Hp}{s:Shared}{A:Around}{n:Nat}(I:Inv X pins σ H s) (hu:A.units+n<cLine){kvb:List (Key×V)}{kb:List (Key×Value)}(rb:KV kvb kb) :
  ∀ {kva:List (Key×V)}{ka:List (Key×Value)},KV kva ka→(∀ p∈kva,∃ y,xu kvb p.1=some y∧EqP X H p.2 y true n)→PySem.W.KeqHits A s kb ka true
 |_,_,.nil,_=>.nil
 |(k,v)::r,(k',u)::r',.cons h t,hs=>by
  obtain⟨e1,e2⟩:=h
  cases e1
  obtain⟨y,hv,hE⟩:=hs (k,v) List.mem_cons_self
  have q:=rb.val k
  rw[hv] at q
  cases e:valueAt kb k with
  |none=>rw[e] at q;exact False.elim q
  |some y' =>
   rw[e] at q
   have he:=hE _ _ _ I A u y' hu e2 (show RelV y y' from q)
   have:=PySem.W.KeqHits.hit (k:=k) e he (zh2 I hu rb t fun p hp=>hs p (List.mem_cons_of_mem _ hp))
   simpa using this
theorem KV.keysL {kvs:List (Key×V)}{vs:List (Key×Value)}(r:KV kvs vs) (h:∀ p∈kvs,∃ i,p.1=Sum.inl i):∀ p∈vs,∃ i,p.1=Sum.inl i:=by
 induction r with
 |nil=>intro p hp;cases hp
 | @cons x y xs ys h1 t ih =>
  intro p hp
  rcases List.mem_cons.mp hp with z | z
  ·obtain⟨i,hi⟩:=h x List.mem_cons_self
   exact⟨i,by rw[z,← h1.1];exact hi⟩
  ·exact ih (fun p hp=>h p (List.mem_cons_of_mem _ hp)) p z
theorem EqP.dct {H:Hp}{a b:Addr}{kva kvb:List (Key×V)}{n:Nat}(ha:H a=some (.dK kva)) (hb:H b=some (.dK kvb)) (hl:kva.length=kvb.length) (ia:∀ p∈kva,∃ i,p.1=Sum.inl i) (ib:∀ p∈kvb,∃ i,p.1=Sum.inl i)
  (h:∀ p∈kva,∃ y,xu kvb p.1=some y∧EqP X H p.2 y true n):EqP X H (.ref a) (.ref b) true (n+2):=fun pins σ s I A u v hu rx ry=>by
 by_cases hne:a=b
 ·subst hne;exact EqP.same _ _ _ I A u v hu rx ry
 ·cases rx;cases ry
  obtain⟨z1,d1,vs1,r1,o1⟩:=I.hok a _ ha
  obtain⟨z2,d2,vs2,r2,o2⟩:=I.hok b _ hb
  refine SeqAt.EqAt.of_refs hne fun prog w E Q hq=>?_
  have l1:=r1.length
  have l2:=r2.length
  have e:(vs1.length == vs2.length)=true:=by rw[← l1,← l2,hl];simp
  exact PySem.W.keq_eq d1 d2 (wn (r1.keysL ia) o1) (wn (r2.keysL ib) o2) (by omega) (fun _=>zh2 I (by rw[yB];omega) r2 r1 h) (by rw[e];exact hq)
def zut (X:Cx) (neg:Bool):R2:=fun x y H Q=>∃ (a b:Addr) (xs ys:List V) (n:Nat),x=.ref a∧y=.ref b∧((SqL X.K H a xs∧SqL X.K H b ys)∨(SqT X.K H a xs∧SqT X.K H b ys))∧xs.length=ys.length∧X.A.units+n+2<cLine ∧
 (∀ (j:Nat) x y,xs[j]?=some x→ys[j]?=some y→EqP X H x y true n)∧Q (.bl (!neg)) H
theorem zuu:OpR X (compareOp .Eq) (zut X false):=by
 intro pins s σ H x y v u Q I rx ry h
 obtain⟨a,b,xs,ys,n,rfl,rfl,hq,hl,hu,hi,q⟩:=h
 cases rx;cases ry
 rcases hq with⟨h1,h2⟩ | ⟨h1,h2⟩
 ·obtain⟨i1,r1,p1,_⟩:=I.list h1
  obtain⟨i2,r2,p2,_⟩:=I.list h2
  refine SeqAt.eq_listAt (e:=fun _=>true) p1.isList p2.isList (by simp;rw[← r1.length,← r2.length,hl]) (by omega) (vx I r1 r2 hu hi) ⟨.bl true,H,I,?_,q⟩
  have e:((List.range i1.toArray.size).all fun _=>true)=true:=by simp
  rw[e]
  rfl
 ·obtain⟨i1,r1,p1,_⟩:=I.tuple h1
  obtain⟨i2,r2,p2,_⟩:=I.tuple h2
  have z:i1.toArray.size=i2.toArray.size:=by simp;rw[← r1.length,← r2.length,hl]
  refine SeqAt.eq_tupleAt (e:=fun _=>true) (show s.heap.IsTuple a i1.toArray from p1) (show s.heap.IsTuple b i2.toArray from p2) (by omega) (vx I r1 r2 hu hi) ⟨.bl true,H,I,?_,q⟩
  have e:((List.range i1.toArray.size).all fun _=>true)=true:=by simp
  rw[← z,Nat.min_self,beq_self_eq_true,Bool.and_true,e]
  rfl
theorem zfX:OpR X (compareOp .NotEq) (zut X true):=by
 intro pins s σ H x y v u Q I rx ry h
 obtain⟨a,b,xs,ys,n,rfl,rfl,hq,hl,hu,hi,q⟩:=h
 cases rx;cases ry
 rcases hq with⟨h1,h2⟩ | ⟨h1,h2⟩
 ·obtain⟨i1,r1,p1,_⟩:=I.list h1
  obtain⟨i2,r2,p2,_⟩:=I.list h2
  refine SeqAt.RcNeAt.lists (e:=fun _=>true) p1.isList p2.isList (by simp;rw[← r1.length,← r2.length,hl]) (by omega) (vx I r1 r2 hu hi) _ _ _ _ ⟨.bl false,H,I,?_,q⟩
  have e:((List.range i1.toArray.size).all fun _=>true)=true:=by simp
  rw[e]
  rfl
 ·obtain⟨i1,r1,p1,_⟩:=I.tuple h1
  obtain⟨i2,r2,p2,_⟩:=I.tuple h2
  have z:i1.toArray.size=i2.toArray.size:=by simp;rw[← r1.length,← r2.length,hl]
  refine SeqAt.RcNeAt.tuples (e:=fun _=>true) (show s.heap.IsTuple a i1.toArray from p1) (show s.heap.IsTuple b i2.toArray from p2) (by omega) (vx I r1 r2 hu hi) _ _ _ _ ⟨.bl false,H,I,?_,q⟩
  have e:((List.range i1.toArray.size).all fun _=>true)=true:=by simp
  rw[← z,Nat.min_self,beq_self_eq_true,Bool.and_true,e]
  rfl
end
end L2

namespace L2
open PySem PySem.Spec PyProof.Rows Zt
end L2

namespace L2
open PySem PySem.Spec PyProof.Rows
structure Bx (p:Prop):Prop where
 of:p
theorem zy {X:Cx}{body:List Stmt}{q:TS→Prop}{t:TS}(h:Bx (PSs X body t)) (k:q t):∃ t,PSs X body t∧q t:=⟨t,h.of,k⟩
theorem zk8 {X:Cx}{e:Expr}{t:TT}(h:Bx (PW X e t)):Bx (PT X e t):=⟨h.of.pt⟩
section
variable {X:Cx}
theorem ze {i j pos}:Bx (PE X (.Constant (.int i) j pos) (tC (.int i))):=⟨yL⟩
theorem xg {b j pos}:Bx (PE X (.Constant (.bool b) j pos) (tC (.bl b))):=⟨x8⟩
theorem uf {j pos}:Bx (PE X (.Constant .none j pos) (tC .non)):=⟨zfS⟩
theorem w_pe_str {x j pos}:Bx (PE X (.Constant (.str x) j pos) (tC (.str x))):=⟨zfR⟩
theorem yb {x:Str}{v:V}{u:Value}{pos:Pos}(hg:Gl X x) (hm:X.mg x=some u) (r:RelV v u) (hd:(x == ("__debug__" : Str))=false:=by decide):Bx (PE X (.Name x pos) (tC v)):=⟨wE hg hm r hd⟩
end
section
variable {X:Cx}
variable {a b:Expr}{ta tb:TE}{pos:Pos}
theorem XC {op:CmpOp}{t:TE}(h:Bx (PC X op a b t)) (h1:behindInMarks op b=false:=by first | exact nobehind _ (by decide) (by decide) | rfl):Bx (PE X (.Compare a [op] [b] pos) t):=⟨zfU h.of h1⟩
theorem zT {e:Expr}{t:TE}(h:Bx (PE X e t)) (he:∀ whole,isTrue e X.env whole=(do let v ← whole;standAt e.pos;holding [v] (truthy v)):=by intro _;rfl):Bx (PT X e (tB t)):=⟨yI h.of he⟩
end
section
variable {X:Cx}
variable {a b:Expr}{ta tb:TE}{pos:Pos}
variable {tA tB':TT}{rest:List Expr}
theorem Zf (ha:Bx (PT X a tA)):Bx (PW X (.BoolOp .And [a] pos) tA):=⟨Vm ha.of⟩
theorem ue (ha:Bx (PT X a tA)):Bx (PW X (.BoolOp .Or [a] pos) tA):=⟨wg ha.of⟩
theorem Xy (ha:Bx (PT X a tA)) (hb:Bx (PW X (.BoolOp .And (b::rest) pos) tB')):Bx (PW X (.BoolOp .And (a::b::rest) pos) (znW tA tB')):=⟨zfI ha.of hb.of⟩
theorem Ze (ha:Bx (PT X a tA)) (hb:Bx (PW X (.BoolOp .Or (b::rest) pos) tB')):Bx (PW X (.BoolOp .Or (a::b::rest) pos) (tOr tA tB')):=⟨vg ha.of hb.of⟩
theorem yT (ha:Bx (PT X a tA)):Bx (PT X (.UnaryOp .Not a pos) (znP tA)):=⟨yJ ha.of⟩
theorem yi {op}{t:TE}(h:Bx (PE X a t)):Bx (PE X (.BoolOp op [a] pos) t):=⟨Yt h.of⟩
theorem ym (ha:Bx (PE X a ta)) (hb:Bx (PE X (.BoolOp .And (b::rest) pos) tb)):Bx (PE X (.BoolOp .And (a::b::rest) pos) (tAndV ta tb)):=⟨uv ha.of hb.of⟩
theorem Zg (ha:Bx (PE X a ta)) (hb:Bx (PE X (.BoolOp .Or (b::rest) pos) tb)):Bx (PE X (.BoolOp .Or (a::b::rest) pos) (znO ta tb)):=⟨zmy ha.of hb.of⟩
theorem XB (ha:Bx (PE X a ta)):Bx (PE X (.UnaryOp .Not a pos) (zaA ta)):=⟨WP ha.of⟩
end
section
variable {X:Cx}{st:Stmt}{rest:List Stmt}{t u:TS}{e:Expr}{te:TE}{pos:Pos}
theorem zi  : Bx (PSs X [] zaB):=⟨yq⟩
theorem w_pss_cons (h1:Bx (PS X st t)) (h2:Bx (PSs X rest u)):Bx (PSs X (st::rest) (znL t u)):=⟨zC h1.of h2.of⟩
theorem w_pss_one (h1:Bx (PS X st t)):Bx (PSs X [st] t):=⟨zL h1.of⟩
theorem w_ps_expr (he:Bx (PE X e te)) (hs:swapsWith e none pos.line X.env=pure false:=by rfl):Bx (PS X (.Expr e pos) (zaF te)):=⟨vN he.of hs⟩
theorem zf (he:Bx (PE X e te)):Bx (PS X (.Return (some e) pos) (znM te)):=⟨yu he.of⟩
theorem w_ps_if {c:Expr}{a b:List Stmt}{tc:TT}(hc:Bx (PT X c tc)) (ha:Bx (PSs X a t)) (hb:Bx (PSs X b u)):Bx (PS X (.If c a b pos) (znR tc t u)):=⟨wC hc.of ha.of hb.of⟩
theorem yp  : Bx (PS X st WH):=⟨wB⟩
end
section
variable {X:Cx}{pos:Pos}
theorem zh {i:Nat}{x:Str}(hN:X.N.Nodup) (hi:X.N[i]?=some x) (hx:Loc X.env.scope x) (hf:X.fn x=true∨X.env.scope.names.lookup x=some .local:=by first | exact .inl rfl | exact .inr rfl | assumption):Bx (PG X (.Name x pos) (v8 i)):=⟨xk hN hi hx hf⟩
theorem zU  : Bx (PGs X [] gNil):=⟨Ys⟩
theorem zr {e:Expr}{es:List Expr}{t:TG}{u:TGs}(h1:Bx (PG X e t)) (h2:Bx (PGs X es u)) (hs:(assignEach (e::es) X.env).map (·.2)=assign e X.env::(assignEach es X.env).map (·.2):=by rfl):Bx (PGs X (e::es) (zh4 t u)):=⟨wD h1.of h2.of hs⟩
theorem yh {es:List Expr}{k:Nat}{t:TGs}{n:Nat}(hc:X.calm=true) (h:Bx (PGs X es t)) (hn:(assignEach es X.env).length=n:=by rfl) (hst:(assignEach es X.env).findIdx? (·.1)=none:=by rfl):Bx (PG X (.Tuple es k pos) (zv3 X.K n t)):=⟨WO hc h.of hn hst⟩
theorem XA {tg e:Expr}{te:TE}{g:TG}(he:Bx (PE X e te)) (hg:Bx (PG X tg g)) (hs:swapsWithSole [tg] e pos.line X.env=pure false:=by rfl) (hw:swappedStores [tg] e X.env=pure none:=by rfl) (h1:(assignEach [tg] X.env).map (·.2)=[assign tg X.env]:=by rfl):Bx (PS X (.Assign [tg] e pos) (zad te g)):=⟨zfL he.of hg.of hs hw h1⟩
theorem w_ps_set {i:Nat}{x:Str}{e:Expr}{te:TE}{pos':Pos}(hN:X.N.Nodup) (hi:X.N[i]?=some x) (hx:Loc X.env.scope x) (he:Bx (PE X e te)) (hs:swapsWith e (some (.Name x pos')) pos.line X.env=pure false:=by rfl) (hf:X.fn x=true∨X.env.scope.names.lookup x=some .local:=by first | exact .inl rfl | exact .inr rfl | assumption):Bx (PS X (.Assign [.Name x pos'] e pos) (zad te (v8 i))):=⟨vh hN hi hx he.of hs hf⟩
theorem Xz {i j:Nat}{x y:Str}{a b:Expr}{ta:TA}{px py pt:Pos} {kt k2 pt2}(hc:X.calm=true) (hN:X.N.Nodup) (hi:X.N[i]?=some x) (hj:X.N[j]?=some y) (hij:i≠j) (hx:X.env.scope.names.lookup x=some .local) (hy:X.env.scope.names.lookup y=some .local) (ha:Bx (PA X [a,b] ta)) (hw:swappedStores [.Tuple [.Name x px,.Name y py] kt pt] (.Tuple [a,b] k2 pt2) X.env=pure (some [x,y])) (hs:swapsWithSole [.Tuple [.Name x px,.Name y py] kt pt] (.Tuple [a,b] k2 pt2) pos.line X.env=pure false:=by rfl):Bx (PS X (.Assign [.Tuple [.Name x px,.Name y py] kt pt] (.Tuple [a,b] k2 pt2) pos) (znN i j ta)):=⟨zfK hc hN hi hj hij hx hy ha.of hw hs⟩
theorem uK {c:Expr}{body:List Stmt}{tc:TT}{tb:TS}(hp:PassesOwn (model X.prog X.w) X.A X.env X.xe) (hc:Bx (PT X c tc)) (hb:Bx (PSs X body tb)):Bx (PS X (.While c body [] pos) (WG tc tb)):=⟨XN hp hc.of hb.of⟩
end
section
variable {X:Cx}{tg:Expr}
theorem zt {l:Expr}{tl:TE}(hl:Bx (PE X l tl)):Bx (PI X tg l (zh1 X.K tl)):=⟨xI hl.of⟩
theorem zS {a:Expr}{ta:TA}{p pos:Pos}(hg:Gl X "range") (hm:X.mg "range" = none) (ha:Bx (PA X [a] ta)) (hs:starEach [a] X.env=[(false,eval a X.env)]:=by rfl):Bx (PI X tg (.Call (.Name "range" p) [a] [] pos) (zh0 ta)):=⟨Yr hg hm ha.of hs⟩
theorem vJ {a b:Expr}{ta:TA}{p pos:Pos}(hg:Gl X "range") (hm:X.mg "range" = none) (ha:Bx (PA X [a,b] ta)) (hs:starEach [a,b] X.env=[(false,eval a X.env),(false,eval b X.env)]:=by rfl) (hs2:starEach [b] X.env=[(false,eval b X.env)]:=by rfl):Bx (PI X tg (.Call (.Name "range" p) [a,b] [] pos) (zhZ ta)):=⟨Yq hg hm ha.of hs hs2⟩
theorem zB {iter:Expr}{body:List Stmt}{wi:TI}{g:TG}{tb:TS}{pos:Pos}(hp:PassesOwn (model X.prog X.w) X.A X.env X.xe) (hc:X.calm=true) (hi:Bx (PI X tg iter wi)) (hg:Bx (PG X tg g)) (hb:Bx (PSs X body tb)) (hs:∀ x,foldedSetIterable iter X.env x=pure x:=by intro _;rfl):Bx (PS X (.For tg iter body [] pos) (znS wi g tb)):=⟨vi hp hc hi.of hg.of hb.of hs⟩
end
section
variable {X:Cx}{a b c:Expr}{ta tb tc:TE}{pos:Pos}
theorem zg {op:Operator}{r:R2}(ho:OpR X (binaryOp op) r) (ha:Bx (PE X a ta)) (hb:Bx (PE X b tb)):Bx (PE X (.BinOp a op b pos) (tOp r ta tb)):=⟨zmz ho ha.of hb.of⟩
theorem xC {op:UnaryOp}{r:V→Hp→VK→Prop}(ho:UnR X (unaryOp op) r) (ha:Bx (PE X a ta)):Bx (PE X (.UnaryOp op a pos) (tUn r ta)):=⟨zfP ho ha.of⟩
theorem zG {op:CmpOp}{r:R2}(ho:OpR X (compareOp op) r) (ha:Bx (PE X a ta)) (hb:Bx (PE X b tb)) (hm:behindInMarks op b=false):Bx (PE X (.Compare a [op] [b] pos) (tOp r ta tb)):=⟨wF ho ha.of hb.of hm⟩
theorem w_pt_cmpR {op:CmpOp}{r:R2}(ho:OpR X (compareOp op) r) (ha:Bx (PE X a ta)) (hb:Bx (PE X b tb)) (hm:behindInMarks op b=false):Bx (PT X (.Compare a [op] [b] pos) (zax (tOp r ta tb))):=⟨xj ho ha.of hb.of hm⟩
end
section
variable {X:Cx}{o e value:Expr}{f:Str}{pos pos' tpos:Pos}{ta tv:TE}
theorem w_pe_fld (he:Bx (PE X e ta)) (hb:attributeBase e f X.env (eval e X.env)=eval e X.env):Bx (PE X (.Attribute e f pos) (znT X.K ta f)):=⟨zfT he.of hb⟩
theorem zK (ha:Bx (PE X o ta)) (hv:Bx (PE X value tv)) (hs:swapsWith value (some (.Attribute o f pos')) pos.line X.env=pure false):Bx (PS X (.Assign [.Attribute o f pos'] value pos) (zus X.K ta tv f)):=⟨ur ha.of hv.of hs⟩
end
section
variable {X:Cx}{e:Expr}{es:List Expr}{te:TE}{t:TA}{pos:Pos}
theorem w_pa_nil  : Bx (PA X [] zac):=⟨zR⟩
theorem w_pa_cons (ha:Bx (PE X e te)) (hr:Bx (PA X es t)) (hs:starEach (e::es) X.env=(false,eval e X.env)::starEach es X.env:=by rfl):Bx (PA X (e::es) (xp te t)):=⟨yz ha.of hr.of hs⟩
theorem zF {x1}(h:Bx (PA X es t)):Bx (PE X (.Tuple es x1 pos) (znK t)):=⟨zfQ h.of⟩
theorem zq (h:Bx (PA X es t)):Bx (PE X (.List es pos) (znQ t)):=⟨WQ h.of⟩
end
section
variable {X:Cx}{CX:CXT}{k:Nat}{f C:Addr}{fd:FuncData}{ps:List Str}{sp:Sp}{dvs:List V}{ds:List Value}{E:XK}{x m:Str}{p pos apos:Pos}{e o:Expr}{es:List Expr}{ta:TE}{t:TA}
theorem uL (F:FnOk X.prog X.w X.K X.mg X.base CX k f fd ps sp) (hr:Room k X.A) (hg:Gl X x) (hm:X.mg x=some (.ref f)) (hk:PySem.W.keepIn X.K (.ref f)=true) (hb:Binds X.K fd ps ds) (hd:Vals dvs ds) (hx:xc CX X E) (hdb:(x == ("__debug__" : Str))=false:=by decide):Bx (PE X (.Call (.Name x p) [] [] pos) (Zr sp dvs E zac)):=⟨XT F hr hg hm hk hb hd hx hdb⟩
theorem zas {pl:Sem Bool}(he:Bx (PE X o ta)) (c:Cls X.K C) (hm:Meth X.K C m f) (F:FnOk X.prog X.w X.K X.mg X.base CX k f fd ps sp) (hr:Room k X.A) (hb:Binds X.K fd ps ds) (hd:Vals dvs ds) (hx:xc CX X E) (ha:Bx (PA X (e::es) t)) (hst:starEach (e::es) X.env=(false,eval e X.env)::starEach es X.env:=by rfl) (hpl:(backTo pos (starEach es X.env)).any (·.1)=false:=by rfl) (ht:eval (.Call (.Attribute o m apos) (e::es) [] pos) X.env=(do
   let ov ← eval o X.env
   standAt apos.atName
   let (f,first) ← holding [ov] (getMethod ov m pl)
   callWith pos f first (backTo pos (starEach (e::es) X.env)) (backToKw pos (keywordEach [] X.env))):=by rfl):Bx (PE X (.Call (.Attribute o m apos) (e::es) [] pos) (zaD C m sp dvs E ta t)):=⟨Vv he.of c hm F hr hb hd hx ha.of hst hpl ht⟩
end
section
variable {X:Cx}{x:Str}{p pos:Pos}{e:Expr}{es:List Expr}{t:TA}{id T:String}{r:List V→Hp→VK→Prop}
theorem w_pe_callB (hc:yv X (.builtin id) r) (hg:Gl X x) (hm:X.mg x=none) (hv:bootBuiltins x=some (.builtin id)) (ha:Bx (PA X (e::es) t)) (hn:x ≠ "__name__" := by decide) (hdb:(x == ("__debug__" : Str))=false:=by decide) (he:starEach (e::es) X.env=(false,eval e X.env)::starEach es X.env:=by rfl) (hpl:(backTo pos (starEach es X.env)).any (·.1)=false:=by rfl):Bx (PE X (.Call (.Name x p) (e::es) [] pos) (tCB r t)):=⟨zY hc hg hm hv ha.of hn hdb he hpl⟩
theorem zA (hc:yv X (.type T) r) (hg:Gl X x) (hm:X.mg x=none) (hv:bootBuiltins x=some (.type T)) (ha:Bx (PA X (e::es) t)) (hn:x ≠ "__name__" := by decide) (hdb:(x == ("__debug__" : Str))=false:=by decide) (he:starEach (e::es) X.env=(false,eval e X.env)::starEach es X.env:=by rfl) (hpl:(backTo pos (starEach es X.env)).any (·.1)=false:=by rfl):Bx (PE X (.Call (.Name x p) (e::es) [] pos) (tCB r t)):=⟨vk hc hg hm hv ha.of hn hdb he hpl⟩
end
section
variable {X:Cx}{e:Expr}{te:TE}{lo hi:Option Expr}{tl th:TO}{pos p2:Pos}
theorem xB  : Bx (PO X none Zq):=⟨Vt⟩
theorem yw (h:Bx (PE X e te)):Bx (PO X (some e) (zaz te)):=⟨po_some h.of⟩
theorem yD {r:V→Option Int→Option Int→Hp→VK→Prop}(hr:SlR X r) (he:Bx (PE X e te)) (hl:Bx (PO X lo tl)) (hu:Bx (PO X hi th)):Bx (PE X (.Subscript e (.Slice lo hi none p2) pos) (tSl r te tl th)):=⟨XQ hr he.of hl.of hu.of⟩
end
section
variable {X:Cx}{a b:Expr}{ta tb:TE}{pos:Pos}
theorem zk {r:R2}(hr:IxR X r) (ha:Bx (PE X a ta)) (hb:Bx (PE X b tb)) (hs:Xn b):Bx (PE X (.Subscript a b pos) (tOp r ta tb)):=⟨vQ hr ha.of hb.of hs⟩
end
section
variable {X:Cx}{a b:Expr}{ta tb:TE}{pos:Pos}
variable {o e:Expr}{es:List Expr}{to:TE}{t:TA}{name:Str}{apos cpos:Pos}{T id:String}{r:V→List V→Hp→VK→Prop}
theorem ug (pa:PlainAttrs T) (slot:Slot T name id) (hty:typeOf (.builtin id)=pure (.type "method_descriptor")) (hm:MtR X id r) (ho:Bx (PE X o to)) (hbase:attributeBase o name X.env (eval o X.env)=eval o X.env:=by rfl) (hline:(apos.endLine == cpos.line)=true:=by rfl):Bx (PE X (.Call (.Attribute o name apos) [] [] cpos) (znV X.K T r to)):=⟨zfW pa slot hty hm ho.of hbase hline⟩
theorem yf (pa:PlainAttrs T) (slot:Slot T name id) (hty:typeOf (.builtin id)=pure (.type "method_descriptor")) (hm:MtR X id r) (ho:Bx (PE X o to)) (ha:Bx (PA X (e::es) t)) (hbase:attributeBase o name X.env (eval o X.env)=eval o X.env:=by rfl) (hfew:((backTo cpos (starEach (e::es) X.env)).all (fun x=>!x.1)&&(backToKw cpos (keywordEach [] X.env)).all (fun x=>x.1.isSome)
   && decide ((e::es).length+([]:List Keyword).length+(if ([]:List Keyword).isEmpty then 0 else 1)<30))=true:=by rfl) (hline:(apos.endLine == cpos.line)=true:=by rfl) (hs:starEach (e::es) X.env=(false,eval e X.env)::starEach es X.env:=by rfl) (hplain:(backTo cpos (starEach es X.env)).any (·.1)=false:=by rfl):Bx (PE X (.Call (.Attribute o name apos) (e::es) [] cpos) (tBM X.K T r to t)):=⟨VD pa slot hty hm ho.of ha.of hbase hfew hline hs hplain⟩
end
section
variable {X:Cx}{o i e value:Expr}{pos pos' tpos:Pos}{td ty tv:TE}
theorem zP (hu:X.A.units+1<cLine) (ho:Bx (PE X o td)) (hi:Bx (PE X i ty)) (hs:znI i):Bx (PE X (.Subscript o i pos) (zaJ td ty)):=⟨vR hu ho.of hi.of hs⟩
theorem XD (hu:X.A.units+1<cLine) (hi:Bx (PE X i ty)) (ho:Bx (PE X o td)):Bx (PC X .In i o (znU ty td)):=⟨WS hu hi.of ho.of⟩
theorem w_ps_dput (hu:X.A.units+1<cLine) (ho:Bx (PE X o td)) (hi:Bx (PE X i ty)) (hv:Bx (PE X value tv)) (hs:swapsWith value (some (.Subscript o i pos')) pos.line X.env=pure false):Bx (PS X (.Assign [.Subscript o i pos'] value pos) (zfB td ty tv)):=⟨vP hu ho.of hi.of hv.of hs⟩
end
section
variable {X:Cx}{pos:Pos}
theorem xf  : Bx (PE X (.Dict [] [] pos) WI):=⟨uu⟩
end
section
theorem yj {X:Cx}{pos:Pos}:Bx (PPs X pos [] [] []):=⟨Vs⟩
theorem w_pps_cons {X:Cx}{pos:Pos}{k v:Expr}{ks:List (Option Expr)}{vs:List Expr}{tk tv:TE}{trs:List (TE×TE)}(hk:Bx (PE X k tk)) (hv:Bx (PE X v tv)) (hr:Bx (PPs X pos ks vs trs)):Bx (PPs X pos (some k::ks) (v::vs) ((tk,tv)::trs)):=⟨XO hk.of hv.of hr.of⟩
theorem w_pe_disp {X:Cx}{pos:Pos}{keys:List (Option Expr)}{values:List Expr}{trs:List (TE×TE)}(h:Bx (PPs X pos keys values trs)) (hall:keys.all (·.isSome)=true) (hl:keys.length=values.length) (h0:keys≠[]) (h15:keys.length≤15):Bx (PE X (.Dict keys values pos) (zaG trs)):=⟨Vz h.of hall hl h0 h15⟩
end
section
variable {X:Cx}
theorem w_pv (i:Nat){x:Str}{pos:Pos}(hN:X.N[i]?=some x:=by rfl) (hv:Vis X.env.scope x:=by first | exact Or.inl rfl | exact Or.inr (Or.inl rfl) | exact Or.inr (Or.inr rfl)) (hd:(x == ("__debug__" : Str))=false:=by decide) (hcd:(x == ("__classdict__" : Str))=false:=by decide):Bx (PE X (.Name x pos) (zla i)):=⟨pv i hN hv hd hcd⟩
end
section
theorem yU {X:Cx}{st:Stmt}{rest:List Stmt}{t u:TS}(h1:Bx (PS X st t)) (h2:Bx (PSs X rest u)):Bx (PSs X (st::rest) (zay t u)):=⟨Vp h1.of h2.of⟩
theorem zO {X:Cx}:Bx (PTs X [] zid):=⟨Vo⟩
theorem xA {X:Cx}{c:Expr}{t:TT}(h:Bx (PT X c t)):Bx (PTs X [c] t):=⟨Vn h.of⟩
end
section
variable {X:Cx}{tg iter elt:Expr}{ifs:List Expr}{scope:Scope}{pos:Pos}{N':List Str}{t:Nat}{caps:List Nat}{g:Blk→TG}{tc:Blk→TT}{te:Blk→TE}{wi:TI}
theorem zV (hc:X.calm=true) (S:CompOk X scope N' t caps) (hi:Bx (PI X tg iter wi)) (hg:∀ b,Bx (PG (cxB X scope N' b) tg (g b))) (ht:∀ b,Bx (PTs (cxB X scope N' b) ifs (tc b))) (he:∀ b,Bx (PE (cxB X scope N' b) elt (te b))) (hs:∀ x,foldedSetIterable iter X.env x=pure x:=by intro _;rfl):Bx (PE X (.ListComp elt [⟨tg,iter,ifs,0⟩] scope pos) (XF wi g tc te t caps)):=⟨VB hc S hi.of (fun x0=>(hg x0).of) (fun x0=>(ht x0).of) (fun x0=>(he x0).of) hs⟩
theorem ya {i:Nat}{y:Str}{py spos:Pos}(hc:X.calm=true) (hN:X.N.Nodup) (hiy:X.N[i]?=some y) (hy:Loc X.env.scope y) (S:CompOk X scope N' t caps) (hi:Bx (PI X tg iter wi)) (hg:∀ b,Bx (PG (cxB X scope N' b) tg (g b))) (ht:∀ b,Bx (PTs (cxB X scope N' b) ifs (tc b))) (he:∀ b,Bx (PE (cxB X scope N' b) elt (te b))) (hsw:swapsWith (.ListComp elt [⟨tg,iter,ifs,0⟩] scope pos) (some (.Name y py)) spos.line X.env=pure true:=by rfl) (hs:∀ x,foldedSetIterable iter X.env x=pure x:=by intro _;rfl) (hf:X.fn y=true∨X.env.scope.names.lookup y=some .local:=by first | exact .inl rfl | exact .inr rfl | assumption):Bx (PS X (.Assign [.Name y py] (.ListComp elt [⟨tg,iter,ifs,0⟩] scope pos) spos) (zad (XF wi g tc te t caps) (v8 i))):=⟨uV hc hN hiy hy S hi.of (fun x0=>(hg x0).of) (fun x0=>(ht x0).of) (fun x0=>(he x0).of) hsw hs hf⟩
end
section
variable {X:Cx}{k:Nat}{f C:Addr}{fd:FuncData}{ps:List Str}{sp:Sp}{x m:Str}{p pos apos:Pos}{e o:Expr}{es:List Expr}{ta:TE}{t:TA}
theorem w_pe_c (c:Callee X.prog X.w X.K X.mg X.base x f fd ps k sp) (hr:Room k X.A) (ha:Bx (PA X (e::es) t)) (hg:Gl X x:=by rfl) (hdb:(x == ("__debug__" : Str))=false:=by decide) (he:starEach (e::es) X.env=(false,eval e X.env)::starEach es X.env:=by rfl) (hpl:(backTo pos (starEach es X.env)).any (·.1)=false:=by rfl):Bx (PE X (.Call (.Name x p) (e::es) [] pos) (Zr sp [] E0 t)):=⟨WR c hr ha.of hg hdb he hpl⟩
theorem xD (c:Maker X.prog X.w X.K X.mg X.base x C f fd ps k sp) (hr:Room (k+1) X.A) (ha:Bx (PA X (e::es) t)) (hg:Gl X x:=by rfl) (hdb:(x == ("__debug__" : Str))=false:=by decide) (he:starEach (e::es) X.env=(false,eval e X.env)::starEach es X.env:=by rfl) (hpl:(backTo pos (starEach es X.env)).any (·.1)=false:=by rfl):Bx (PE X (.Call (.Name x p) (e::es) [] pos) (Vd C sp [] E0 t)):=⟨zwE c hr ha.of hg hdb he hpl⟩
theorem w_pe_methD {pl:Sem Bool}(he:Bx (PE X o ta)) (ha:Bx (PA X (e::es) t)) (hst:starEach (e::es) X.env=(false,eval e X.env)::starEach es X.env:=by rfl) (hpl:(backTo pos (starEach es X.env)).any (·.1)=false:=by rfl) (ht:eval (.Call (.Attribute o m apos) (e::es) [] pos) X.env=(do
   let ov ← eval o X.env
   standAt apos.atName
   let (f,first) ← holding [ov] (getMethod ov m pl)
   callWith pos f first (backTo pos (starEach (e::es) X.env)) (backToKw pos (keywordEach [] X.env))):=by rfl):Bx (PE X (.Call (.Attribute o m apos) (e::es) [] pos) (ui X m ta t)):=⟨XR he.of ha.of hst hpl ht⟩
theorem zz {pl:Sem Bool}(he:Bx (PE X o ta)) (ht:eval (.Call (.Attribute o m apos) [] [] pos) X.env=(do
   let ov ← eval o X.env
   standAt apos.atName
   let (f,first) ← holding [ov] (getMethod ov m pl)
   callWith pos f first (backTo pos (starEach [] X.env)) (backToKw pos (keywordEach [] X.env))):=by rfl):Bx (PE X (.Call (.Attribute o m apos) [] [] pos) (ui X m ta zac)):=⟨Yu he.of ht⟩
end
section
theorem yV {X:Cx}{x:Str}{C:Addr}{pos:Pos}(hm:X.mg x=some (.ref C)) (hg:Gl X x:=by rfl) (hd:(x == ("__debug__" : Str))=false:=by decide):Bx (PE X (.Name x pos) (tC (.ref C))):=⟨zfV hm hg hd⟩
theorem wv {X:Cx}{x:Str}{n:String}{pos:Pos}(hm:X.mg x=none) (hv:bootBuiltins x=some (.type n)) (hg:Gl X x:=by rfl) (hn:x ≠ "__name__" := by decide) (hd:(x == ("__debug__" : Str))=false:=by decide):Bx (PE X (.Name x pos) (tC (.ty n))):=⟨wj hm hv hg hn hd⟩
end
section
variable {P:Program}{w:World}{A:Around}{R:Result→Shared→Prop}{I S:Addr}{fp wr:List Addr}{n:Nat}{Is:Nat→Value→Prop}{St:Nat→Heap→Prop}{kw:List (Str×Value)}
theorem wV {X:Cx}{e dv:Expr}{ta:TA}{td:TE}{p kp pos:Pos}(hc:X.calm=true) (hg:Gl X "max") (hm:X.mg "max" = none) (ha:Bx (PA X [e] ta)) (hd:Bx (PE X dv td)) (hs:starEach [e] X.env=[(false,eval e X.env)]:=by rfl):Bx (PE X (.Call (.Name "max" p) [e] [⟨some "default",dv,kp⟩] pos) (zaE X.K ta td)):=⟨Vw hc hg hm ha.of hd.of hs⟩
theorem wU {X:Cx}{e dv:Expr}{ta:TA}{td:TE}{p kp pos:Pos}(hc:X.calm=true) (hg:Gl X "min") (hm:X.mg "min" = none) (ha:Bx (PA X [e] ta)) (hd:Bx (PE X dv td)) (hs:starEach [e] X.env=[(false,eval e X.env)]:=by rfl):Bx (PE X (.Call (.Name "min" p) [e] [⟨some "default",dv,kp⟩] pos) (zaC X.K ta td)):=⟨Vu hc hg hm ha.of hd.of hs⟩
end
section
variable {X:Cx}{es:List Expr}{t:TA}{te:TE}
theorem zm {c j pos}(ha:Bx (PE X (.Constant c j pos) te)) (hr:Bx (PA X es t)):Bx (PA X (.Constant c j pos::es) (xp te t)):=⟨zwH ha.of hr.of⟩
theorem wW {xs c pos}(ha:Bx (PE X (.Tuple xs c pos) te)) (hr:Bx (PA X es t)):Bx (PA X (.Tuple xs c pos::es) (xp te t)):=⟨zwF ha.of hr.of⟩
theorem zu {f xs ks pos}(ha:Bx (PE X (.Call f xs ks pos) te)) (hr:Bx (PA X es t)):Bx (PA X (.Call f xs ks pos::es) (xp te t)):=⟨zwG ha.of hr.of⟩
theorem yc {l o r pos}(ha:Bx (PE X (.BinOp l o r pos) te)) (hr:Bx (PA X es t)):Bx (PA X (.BinOp l o r pos::es) (xp te t)):=⟨zwI ha.of hr.of⟩
theorem w_pa_N {x pos}(ha:Bx (PE X (.Name x pos) te)) (hr:Bx (PA X es t)):Bx (PA X (.Name x pos::es) (xp te t)):=⟨xn ha.of hr.of⟩
end
section
variable {X:Cx}{o e:Expr}{apos cpos:Pos}{td ty:TE}
theorem w_pe_dupd (ho:Bx (PE X o td)) (he:Bx (PE X e ty)) (m:M1 X o "update" apos e cpos):Bx (PE X (.Call (.Attribute o "update" apos) [e] [] cpos) (zaH td ty)):=⟨Vy ho.of he.of m⟩
end
section
variable {X:Cx}{o:Expr}{to:TE}{apos cpos:Pos}
theorem Zh (ho:Bx (PE X o to)) (hbase:attributeBase o "clear" X.env (eval o X.env)=eval o X.env:=by rfl) (hline:(apos.endLine == cpos.line)=true:=by rfl):Bx (PE X (.Call (.Attribute o "clear" apos) [] [] cpos) (zaK to)):=⟨VA ho.of hbase hline⟩
end
end L2

namespace L2
namespace Srt
open PySem PyProof.Rows
noncomputable def U6:Bool→Keyed→Array Keyed→Nat→Nat→Nat→StateT SortSt Sem (Option Nat):=sortPriv% PySem.Builtin.gallop
noncomputable def Wf:Array Keyed→Array Keyed→StateT SortSt Sem (Array Keyed):=sortPriv% PySem.Builtin.mergeLo
noncomputable def Wg:Array Keyed→Array Keyed→StateT SortSt Sem (Array Keyed):=sortPriv% PySem.Builtin.mergeHi
noncomputable def Vi:Nat→StateT SortSt Sem Unit:=sortPriv% PySem.Builtin.setMinGallop
noncomputable def Xg (left:Bool) (key:Keyed) (arr:Array Keyed) (base i:Nat):StateT SortSt Sem (Option Bool) :=
 elem' arr (base+i) >>= fun x=>if left=true then lt' x key else lt' key x >>= fun o=>pure (o.map fun b=>!b)
section
variable {prog:Program}{w:World}{A:Around}{E:Value→Shared→Prop}{s:Shared}{it:List Keyed}{κ:SortKind}
noncomputable def Cmp (prog:Program) (w:World) (A:Around) (s:Shared) (it:List Keyed) (κ:SortKind):Prop :=
 ∀ x∈it,∀ y∈it,∀ (Q:Bool→Shared→Prop) (E:Value→Shared→Prop),(∀ b,Q b s)→wpAny (model prog w) A (keyLt' κ x.1 y.1) Q E s
theorem zaw (C:Cmp prog w A s it κ){st:SortSt}(hk:kindOf st=κ){x y:Keyed}(hx:x∈it) (hy:y∈it){Q:Option Bool→SortSt→Prop}(h:∀ b,Q (some b) st):wpS (model prog w) A E s (lt' x y) Q st:=by
 rw[lt'_eq]
 refine wpS_bind (wpS_get ?_)
 rw[hk]
 refine wpS_bind (wpS_lift (wpAny_attempt (C x hx y hy _ _ fun b=>⟨rfl,?_⟩)))
 exact wpS_pure (h b)
theorem t_elem {st:SortSt}{arr:Array Keyed}{i:Nat}(hi:i<arr.size){Q:Keyed→SortSt→Prop}(h:Q arr[i] st):wpS (model prog w) A E s (elem' arr i) Q st:=by
 rw[elem'_eq,getElem?_pos arr i hi]
 exact wpS_pure h
theorem yX (C:Cmp prog w A s it κ){st:SortSt}(hk:kindOf st=κ){left:Bool}{key:Keyed}{arr:Array Keyed}{base i:Nat}(hkey:key∈it) (harr:∀ x∈arr,x∈it) (hi:base+i<arr.size)
  {Q:Option Bool→SortSt→Prop}(h:∀ b,Q (some b) st):wpS (model prog w) A E s (Xg left key arr base i) Q st:=by
 unfold Xg
 refine wpS_bind (t_elem hi ?_)
 have hx:arr[base+i]∈it:=harr _ (Array.getElem_mem hi)
 cases left with
 |true=>exact zaw C hk hx hkey h
 |false =>
  refine wpS_bind (zaw C hk hkey hx fun b=>?_)
  exact wpS_pure (h (!b))
theorem yE (C:Cmp prog w A s it κ){st:SortSt}(hk:kindOf st=κ){left:Bool}{key:Keyed}{arr:Array Keyed}{base n hint:Nat}(hkey:key∈it) (harr:∀ x∈arr,x∈it) (hb:base+n≤arr.size) (hh:hint<n)
  {Q:Option Nat→SortSt→Prop}(h:∀ k,k≤n→Q (some k) st):wpS (model prog w) A E s (U6 left key arr base n hint) Q st:=by
 refine wpS_bind (yX C hk hkey harr (by omega) fun rt=>?_)
 cases rt with
 |true =>
  simp only[if_true]
  refine wpS_bind (wpS_mono (wpS_forRange (I:=fun _ c st'=>st'=st∧∃ a b,c=(none,a,b)) (Q:=fun c st'=>st'=st∧∃ a b,c=(none,a,b)) ?_ ?_ ⟨rfl,_,_,rfl⟩) ?_)
  ·rintro i c st' _ hi ⟨rfl,a,b,rfl⟩
   dsimp only
   by_cases q:b≥n-hint
   ·rw[if_pos q]
    exact wpS_pure ⟨rfl,_,_,rfl⟩
   ·rw[if_neg q]
    refine wpS_bind (yX C hk hkey harr (by omega) fun mo=>?_)
    cases mo with
    |true=>exact wpS_pure ⟨rfl,_,_,rfl⟩
    |false=>exact wpS_pure ⟨rfl,_,_,rfl⟩
  ·exact fun c st' h=>h
  ·rintro c st' ⟨rfl,a,b,rfl⟩
   dsimp only
   refine wpS_bind (wpS_mono (wpS_forRange (I:=fun _ c st''=>st''=st'∧∃ a b,c=(none,a,b)∧b≤n) (Q:=fun c st''=>st''=st'∧∃ a b,c=(none,a,b)∧b≤n) ?_ ?_ ⟨rfl,_,_,rfl,by omega⟩) ?_)
   ·rintro i c st'' _ _ ⟨rfl,a,b,rfl,ha⟩
    dsimp only
    by_cases q:a≥b
    ·rw[if_pos q]
     exact wpS_pure ⟨rfl,a,b,rfl,ha⟩
    ·rw[if_neg q]
     refine wpS_bind (yX C hk hkey harr (by omega) fun mo=>?_)
     cases mo with
     |true=>exact wpS_pure ⟨rfl,_,_,rfl,ha⟩
     |false=>exact wpS_pure ⟨rfl,_,_,rfl,by omega⟩
   ·exact fun c st'' h=>h
   ·rintro c st'' ⟨rfl,a,b,rfl,ha⟩
    exact wpS_pure (h b ha)
 |false =>
  simp only[Bool.false_eq_true,if_false]
  refine wpS_bind (wpS_mono (wpS_forRange (I:=fun _ c st'=>st'=st∧∃ a b,c=(none,a,b)) (Q:=fun c st'=>st'=st∧∃ a b,c=(none,a,b)) ?_ ?_ ⟨rfl,_,_,rfl⟩) ?_)
  ·rintro i c st' _ hi ⟨rfl,a,b,rfl⟩
   dsimp only
   by_cases q:b≥hint+1
   ·rw[if_pos q]
    exact wpS_pure ⟨rfl,_,_,rfl⟩
   ·rw[if_neg q]
    refine wpS_bind (yX C hk hkey harr (by omega) fun mo=>?_)
    cases mo with
    |true=>exact wpS_pure ⟨rfl,_,_,rfl⟩
    |false=>exact wpS_pure ⟨rfl,_,_,rfl⟩
  ·exact fun c st' h=>h
  ·rintro c st' ⟨rfl,a,b,rfl⟩
   dsimp only
   refine wpS_bind (wpS_mono (wpS_forRange (I:=fun _ c st''=>st''=st'∧∃ a b,c=(none,a,b)∧b≤n) (Q:=fun c st''=>st''=st'∧∃ a b,c=(none,a,b)∧b≤n) ?_ ?_ ⟨rfl,_,_,rfl,by omega⟩) ?_)
   ·rintro i c st'' _ _ ⟨rfl,a,b,rfl,ha⟩
    dsimp only
    by_cases q:a≥b
    ·rw[if_pos q]
     exact wpS_pure ⟨rfl,a,b,rfl,ha⟩
    ·rw[if_neg q]
     refine wpS_bind (yX C hk hkey harr (by omega) fun mo=>?_)
     cases mo with
     |true=>exact wpS_pure ⟨rfl,_,_,rfl,ha⟩
     |false=>exact wpS_pure ⟨rfl,_,_,rfl,by omega⟩
   ·exact fun c st'' h=>h
   ·rintro c st'' ⟨rfl,a,b,rfl,ha⟩
    exact wpS_pure (h b ha)
structure Eqv (st st':SortSt):Prop where
 k:kindOf st'=kindOf st
 a:arrOf st'=arrOf st
 p:pendingOf st'=pendingOf st
 f:failedOf st'=failedOf st
theorem Eqv.refl (st:SortSt):Eqv st st:=⟨rfl,rfl,rfl,rfl⟩
theorem t_setMin {st st':SortSt}(e:Eqv st st'){g:Nat}{Q:Unit→SortSt→Prop}(h:∀ st'',Eqv st st''→Q () st''):wpS (model prog w) A E s (Vi g) Q st':=wpS_modify (h _ ⟨e.k,e.a,e.p,e.f⟩)
def In (it:List Keyed) (o:Array Keyed):Prop:=∀ x∈o,x∈it
theorem In.push {o:Array Keyed}{x:Keyed}(h:In it o) (hx:x∈it):In it (o.push x):=fun y hy=>by
 rcases Array.mem_push.mp hy with q | q
 ·exact h y q
 ·rw[q];exact hx
theorem In.app {o p:Array Keyed}(h:In it o) (k:In it p):In it (o++p):=fun y hy=>by
 rcases Array.mem_append.mp hy with q | q
 ·exact h y q
 ·exact k y q
theorem In.ext {o:Array Keyed}{i j:Nat}(h:In it o):In it (o.extract i j):=fun y hy=>by
 have hy:y∈(o.extract i j).toList:=Array.mem_def.mp hy
 rw[Array.toList_extract,List.extract_eq_drop_take] at hy
 exact h y (Array.mem_def.mpr (List.mem_of_mem_drop (List.mem_of_mem_take hy)))
theorem In.rev {o:Array Keyed}(h:In it o):In it o.reverse:=fun y hy=>h y (Array.mem_reverse.mp hy)
theorem In.at {o:Array Keyed}{i:Nat}(h:In it o) (hi:i<o.size):o[i]∈it:=h _ (Array.getElem_mem hi)
theorem In.one {x:Keyed}(h:x∈it):In it #[x]:=fun y hy=>by
 simp at hy
 rw[hy];exact h
theorem jn1 {α:Type}{P G:α→Prop}(J:∀ m,P m) (k:(∀ m,P m)→∀ m,G m):∀ m,G m:=k J
theorem jn2 {α β:Type}{H K G:α→β→Prop}(h:∃ P:α→β→Prop,(∀ m n,H m n→P m n)∧((∀ m n,H m n→P m n)→∀ m n,K m n→G m n)):∀ m n,K m n→G m n:=by
 obtain⟨P,J,k⟩:=h
 exact k J
noncomputable def LoP (it:List Keyed) (a b:Array Keyed) (m:Nat) (r:Option (Array Keyed)) (o:Array Keyed) (x y:Nat):Prop :=
 match r with
 |some o=>In it o
 |none=>In it o∧x+1<a.size∧y<b.size∧m≤x+y
theorem Zm (C:Cmp prog w A s it κ){st:SortSt}(hk:kindOf st=κ){a b:Array Keyed}(ha:In it a) (hb:In it b) (za:1≤a.size) (zb:1≤b.size)
  {Q:Array Keyed→SortSt→Prop}(h:∀ o st',In it o→Eqv st st'→Q o st'):wpS (model prog w) A E s (Wf a b) Q st:=by
 refine wpS_bind (wpS_lift (wpAny_rule ⟨rfl,?_⟩))
 refine wpS_bind (t_elem (by omega) ?_)
 have b0:=In.one (hb.at (i:=0) (by omega))
 dsimp only
 by_cases q1:(1 == b.size)=true
 ·rw[if_pos q1]
  exact wpS_pure (h _ _ ((b0.app ha.ext).app hb.ext) (Eqv.refl st))
 rw[if_neg q1]
 by_cases q2:(0+1 == a.size)=true
 ·rw[if_pos q2]
  exact wpS_pure (h _ _ ((b0.app hb.ext).app ha.ext) (Eqv.refl st))
 rw[if_neg q2]
 have q1:1≠b.size:=fun z=>q1 (by simp[z])
 have q2:1≠a.size:=fun z=>q2 (by simp[z])
 refine wpS_bind (wpS_get ?_)
 refine wpS_bind (wpS_mono (wpS_forRange (I:=fun i c st'=>Eqv st st'∧∃ o x y mg,c=(none,o,x,y,mg)∧In it o∧x+1<a.size∧y<b.size∧i≤x+y) (Q:=fun c st'=>Eqv st st'∧∃ r o x y mg,c=(some r,o,x,y,mg)∧In it r) ?_ ?_ ⟨Eqv.refl st,_,_,_,_,rfl,b0,by omega,by omega,by omega⟩) ?_)
 ·rintro i c st1 _ hi ⟨ev,o,x,y,mg,rfl,ho,hx,hy,hm⟩
  dsimp only
  refine wpS_bind (wpS_mono (wpS_forRange (I:=fun j c st'=>Eqv st st'∧∃ o x y ca cb,c=(none,o,x,y,ca,cb)∧In it o∧x+1<a.size∧y<b.size∧i+j≤x+y) (Q:=fun c st'=>Eqv st st'∧∃ r o x y ca cb,c=(r,o,x,y,ca,cb)∧LoP it a b (i+1) r o x y) ?_ ?_ ⟨ev,_,_,_,_,_,rfl,ho,hx,hy,hm⟩) ?_)
  ·rintro j c st2 _ hj ⟨ev,o,x,y,ca,cb,rfl,ho,hx,hy,hm⟩
   dsimp only
   have hx0:=ha.at (i:=x) (by omega)
   have hy0:=hb.at hy
   refine wpS_bind (t_elem hy (wpS_bind (t_elem (by omega) (wpS_bind (zaw C (ev.k.trans hk) hy0 hx0 fun bw=>?_)))))
   cases bw with
   |true =>
    simp only[if_true]
    refine wpS_bind (t_elem hy ?_)
    have ho':=ho.push hy0
    by_cases q3:(y+1 == b.size)=true
    ·rw[if_pos q3]
     exact wpS_pure ⟨ev,_,_,_,_,_,_,rfl,(ho'.app ha.ext).app hb.ext⟩
    ·rw[if_neg q3]
     have q3:y+1≠b.size:=fun z=>q3 (by simp[z])
     by_cases q4:cb+1≥mg
     ·rw[if_pos q4]
      exact wpS_pure ⟨ev,_,_,_,_,_,_,rfl,ho',hx,by omega,by omega⟩
     ·rw[if_neg q4]
      exact wpS_pure ⟨ev,_,_,_,_,_,rfl,ho',hx,by omega,by omega⟩
   |false =>
    simp only[Bool.false_eq_true,if_false]
    refine wpS_bind (t_elem (by omega) ?_)
    have ho':=ho.push hx0
    by_cases q3:(x+1+1 == a.size)=true
    ·rw[if_pos q3]
     exact wpS_pure ⟨ev,_,_,_,_,_,_,rfl,(ho'.app hb.ext).app ha.ext⟩
    ·rw[if_neg q3]
     have q3:x+1+1≠a.size:=fun z=>q3 (by simp[z])
     by_cases q4:ca+1≥mg
     ·rw[if_pos q4]
      exact wpS_pure ⟨ev,_,_,_,_,_,_,rfl,ho',by omega,hy,by omega⟩
     ·rw[if_neg q4]
      exact wpS_pure ⟨ev,_,_,_,_,_,rfl,ho',by omega,hy,by omega⟩
  ·rintro c st2 ⟨ev,o,x,y,ca,cb,rfl,ho,hx,hy,hm⟩
   exact⟨ev,_,_,_,_,_,_,rfl,ho,hx,hy,by omega⟩
  ·rintro c st2 ⟨ev,r,o,x,y,ca,cb,rfl,hp⟩
   dsimp only
   cases r with
   |some r=>exact wpS_pure ⟨ev,_,_,_,_,_,rfl,hp⟩
   |none =>
    obtain⟨ho,hx,hy,hm⟩:=hp
    refine wpS_bind (wpS_lift (wpAny_rule ⟨rfl,?_⟩))
    refine wpS_bind (wpS_mono (wpS_forRange (I:=fun _ c st'=>Eqv st st'∧∃ o x y mg ca cb,c=(none,o,x,y,mg,ca,cb)∧In it o∧x+1<a.size∧y<b.size∧i+1≤x+y) (Q:=fun c st'=>Eqv st st'∧∃ r o x y mg ca cb,c=(r,o,x,y,mg,ca,cb)∧LoP it a b (i+1) r o x y) ?_ ?_ ⟨ev,_,_,_,_,_,_,rfl,ho,hx,hy,hm⟩) ?_)
    ·rintro j c st3 _ hj ⟨ev,o,x,y,mg,ca,cb,rfl,ho,hx,hy,hm⟩
     dsimp only
     revert mg
     apply jn1
     case k =>
      intro J mg
      by_cases qm:¬ mg>1
      ·rw[if_neg qm]
       exact J mg
      ·rw[if_pos (Decidable.not_not.mp qm)]
       exact J (mg-1)
     case J =>
      intro mg
      refine wpS_bind (t_setMin ev fun st4 ev4=>?_)
      refine wpS_bind (t_elem hy ?_)
      refine wpS_bind (yE C (ev4.k.trans hk) (hb.at hy) ha (by omega) (by omega) fun k hk1=>?_)
      dsimp only
      have HH:=And.intro ho (And.intro hx (And.intro hm hk1))
      clear ho hx hm hk1
      revert HH
      revert o x
      refine jn2 (H:=fun o x=>In it o∧x+1<a.size∧i+1≤x+y) ?_
      apply Exists.intro
      apply And.intro
      case right =>
       intro J o x ⟨ho,hx,hm,hk1⟩
       by_cases qk:¬ k>0
       ·rw[if_neg qk]
        exact J o x ⟨ho,hx,hm⟩
       rw[if_pos (Decidable.not_not.mp qk)]
       have ho1:=ho.app (ha.ext (i:=x) (j:=x+k))
       by_cases qa:(x+k+1 == a.size)=true
       ·rw[if_pos qa]
        exact wpS_pure ⟨ev4,_,_,_,_,_,_,_,rfl,(ho1.app hb.ext).app ha.ext⟩
       rw[if_neg qa]
       have qa:x+k+1≠a.size:=fun z=>qa (by simp[z])
       by_cases qb:(x+k == a.size)=true
       ·rw[if_pos qb]
        exact wpS_pure ⟨ev4,_,_,_,_,_,_,_,rfl,(ho1.app ha.ext).app hb.ext⟩
       rw[if_neg qb]
       have qb:x+k≠a.size:=fun z=>qb (by simp[z])
       exact J _ _ ⟨ho1,by omega,by omega⟩
      case left =>
       intro o x ⟨ho,hx,hm⟩
       refine wpS_bind (t_elem hy ?_)
       have ho2:=ho.push (hb.at hy)
       by_cases qc:(y+1 == b.size)=true
       ·rw[if_pos qc]
        exact wpS_pure ⟨ev4,_,_,_,_,_,_,_,rfl,(ho2.app ha.ext).app hb.ext⟩
       rw[if_neg qc]
       have qc:y+1≠b.size:=fun z=>qc (by simp[z])
       refine wpS_bind (t_elem (by omega) ?_)
       refine wpS_bind (yE C (ev4.k.trans hk) (ha.at (i:=x) (by omega)) hb (by omega) (by omega) fun k2 hk2=>?_)
       dsimp only
       have hy1:y+1<b.size:=by omega
       have hm1:i+1≤x+(y+1):=by omega
       generalize o.push b[y]=o2 at ho2 ⊢
       generalize y+1=y1 at hy1 hm1 hk2 ⊢
       have HH:=And.intro ho2 (And.intro hy1 (And.intro hm1 hk2))
       clear ho2 hy1 hm1 hk2
       revert HH
       revert o2 y1
       refine jn2 (H:=fun o y=>In it o∧y<b.size∧i+1≤x+y) ?_
       apply Exists.intro
       apply And.intro
       case right =>
        intro J o2 y1 ⟨ho2,hy1,hm1,hk2⟩
        by_cases qk2:¬ k2>0
        ·rw[if_neg qk2]
         exact J o2 y1 ⟨ho2,hy1,hm1⟩
        rw[if_pos (Decidable.not_not.mp qk2)]
        have ho3:=ho2.app (hb.ext (i:=y1) (j:=y1+k2))
        by_cases qd:(y1+k2 == b.size)=true
        ·rw[if_pos qd]
         exact wpS_pure ⟨ev4,_,_,_,_,_,_,_,rfl,(ho3.app ha.ext).app hb.ext⟩
        rw[if_neg qd]
        have qd:y1+k2≠b.size:=fun z=>qd (by simp[z])
        exact J _ _ ⟨ho3,by omega,by omega⟩
       case left =>
        intro o y ⟨ho,hy,hm⟩
        refine wpS_bind (t_elem (by omega) ?_)
        have ho4:=ho.push (ha.at (i:=x) (by omega))
        by_cases qe:(x+1+1 == a.size)=true
        ·rw[if_pos qe]
         exact wpS_pure ⟨ev4,_,_,_,_,_,_,_,rfl,(ho4.app hb.ext).app ha.ext⟩
        rw[if_neg qe]
        have qe:x+1+1≠a.size:=fun z=>qe (by simp[z])
        have H:In it (o.push a[x])∧x+1+1<a.size∧y<b.size∧i+1≤x+1+y:=⟨ho4,by omega,hy,by omega⟩
        split
        ·exact wpS_pure ⟨ev4,_,_,_,_,_,_,_,rfl,H⟩
        ·exact wpS_pure ⟨ev4,_,_,_,_,_,_,rfl,H⟩
    ·rintro c st3 ⟨ev,o,x,y,mg,ca,cb,rfl,ho,hx,hy,hm⟩
     exact⟨ev,_,_,_,_,_,_,_,rfl,ho,hx,hy,hm⟩
    ·rintro c st3 ⟨ev,r,o,x,y,mg,ca,cb,rfl,hp⟩
     dsimp only
     cases r with
     |some r=>exact wpS_pure ⟨ev,_,_,_,_,_,rfl,hp⟩
     |none =>
      obtain⟨ho,hx,hy,hm⟩:=hp
      refine wpS_bind (t_setMin ev fun st4 ev4=>?_)
      exact wpS_pure ⟨ev4,_,_,_,_,rfl,ho,hx,hy,hm⟩
 ·rintro c st1 ⟨ev,o,x,y,mg,rfl,ho,hx,hy,hm⟩
  omega
 ·rintro c st1 ⟨ev,r,o,x,y,mg,rfl,hr⟩
  exact wpS_pure (h r st1 hr ev)
noncomputable def HiP (it:List Keyed) (a b:Array Keyed) (m:Nat) (r:Option (Array Keyed)) (o:Array Keyed) (x y:Nat):Prop :=
 match r with
 |some o=>In it o
 |none=>In it o∧1≤x∧x<a.size∧2≤y∧y≤b.size∧m+x+y≤a.size+b.size
theorem Zn (C:Cmp prog w A s it κ){st:SortSt}(hk:kindOf st=κ){a b:Array Keyed}(ha:In it a) (hb:In it b) (za:1≤a.size) (zb:1≤b.size)
  {Q:Array Keyed→SortSt→Prop}(h:∀ o st',In it o→Eqv st st'→Q o st'):wpS (model prog w) A E s (Wg a b) Q st:=by
 refine wpS_bind (wpS_lift (wpAny_rule ⟨rfl,?_⟩))
 refine wpS_bind (t_elem (by omega) ?_)
 have b0:=In.one (ha.at (i:=a.size-1) (by omega))
 dsimp only
 by_cases q1:(a.size-1 == 0)=true
 ·rw[if_pos q1]
  exact wpS_pure (h _ _ ((ha.ext.app hb.ext).app b0.rev) (Eqv.refl st))
 rw[if_neg q1]
 by_cases q2:(b.size == 1)=true
 ·rw[if_pos q2]
  exact wpS_pure (h _ _ ((hb.ext.app ha.ext).app b0.rev) (Eqv.refl st))
 rw[if_neg q2]
 have q1:a.size-1≠0:=fun z=>q1 (by simp[z])
 have q2:b.size≠1:=fun z=>q2 (by simp[z])
 refine wpS_bind (wpS_get ?_)
 refine wpS_bind (wpS_mono (wpS_forRange (I:=fun i c st'=>Eqv st st'∧∃ x y o mg,c=(none,x,y,o,mg)∧In it o∧1≤x∧x<a.size∧2≤y∧y≤b.size∧i+x+y≤a.size+b.size) (Q:=fun c st'=>Eqv st st'∧∃ r x y o mg,c=(some r,x,y,o,mg)∧In it r) ?_ ?_ ⟨Eqv.refl st,_,_,_,_,rfl,b0,by omega,by omega,by omega,by omega,by omega⟩) ?_)
 ·rintro i c st1 _ hi ⟨ev,x,y,o,mg,rfl,ho,hx,hx2,hy,hy2,hm⟩
  dsimp only
  refine wpS_bind (wpS_mono (wpS_forRange (I:=fun j c st'=>Eqv st st'∧∃ x y o ca cb,c=(none,x,y,o,ca,cb)∧In it o∧1≤x∧x<a.size∧2≤y∧y≤b.size∧i+j+x+y≤a.size+b.size) (Q:=fun c st'=>Eqv st st'∧∃ r x y o ca cb,c=(r,x,y,o,ca,cb)∧HiP it a b (i+1) r o x y) ?_ ?_ ⟨ev,_,_,_,_,_,rfl,ho,hx,hx2,hy,hy2,hm⟩) ?_)
  ·rintro j c st2 _ hj ⟨ev,x,y,o,ca,cb,rfl,ho,hx,hx2,hy,hy2,hm⟩
   dsimp only
   have hx0:=ha.at (i:=x-1) (by omega)
   have hy0:=hb.at (i:=y-1) (by omega)
   refine wpS_bind (t_elem (by omega) (wpS_bind (t_elem (by omega) (wpS_bind (zaw C (ev.k.trans hk) hy0 hx0 fun bw=>?_)))))
   cases bw with
   |true =>
    simp only[if_true]
    refine wpS_bind (t_elem (by omega) ?_)
    have ho':=ho.push hx0
    by_cases q3:(x-1 == 0)=true
    ·rw[if_pos q3]
     exact wpS_pure ⟨ev,_,_,_,_,_,_,rfl,(ha.ext.app hb.ext).app ho'.rev⟩
    ·rw[if_neg q3]
     have q3:x-1≠0:=fun z=>q3 (by simp[z])
     by_cases q4:ca+1≥mg
     ·rw[if_pos q4]
      exact wpS_pure ⟨ev,_,_,_,_,_,_,rfl,ho',by omega,by omega,by omega,by omega,by omega⟩
     ·rw[if_neg q4]
      exact wpS_pure ⟨ev,_,_,_,_,_,rfl,ho',by omega,by omega,by omega,by omega,by omega⟩
   |false =>
    simp only[Bool.false_eq_true,if_false]
    refine wpS_bind (t_elem (by omega) ?_)
    have ho':=ho.push hy0
    by_cases q3:(y-1 == 1)=true
    ·rw[if_pos q3]
     exact wpS_pure ⟨ev,_,_,_,_,_,_,rfl,(hb.ext.app ha.ext).app ho'.rev⟩
    ·rw[if_neg q3]
     have q3:y-1≠1:=fun z=>q3 (by simp[z])
     by_cases q4:cb+1≥mg
     ·rw[if_pos q4]
      exact wpS_pure ⟨ev,_,_,_,_,_,_,rfl,ho',by omega,by omega,by omega,by omega,by omega⟩
     ·rw[if_neg q4]
      exact wpS_pure ⟨ev,_,_,_,_,_,rfl,ho',by omega,by omega,by omega,by omega,by omega⟩
  ·rintro c st2 ⟨ev,x,y,o,ca,cb,rfl,ho,hx,hx2,hy,hy2,hm⟩
   exact⟨ev,_,_,_,_,_,_,rfl,ho,hx,hx2,hy,hy2,by omega⟩
  ·rintro c st2 ⟨ev,r,x,y,o,ca,cb,rfl,hp⟩
   dsimp only
   cases r with
   |some r=>exact wpS_pure ⟨ev,_,_,_,_,_,rfl,hp⟩
   |none =>
    obtain⟨ho,hx,hx2,hy,hy2,hm⟩:=hp
    refine wpS_bind (wpS_lift (wpAny_rule ⟨rfl,?_⟩))
    refine wpS_bind (wpS_mono (wpS_forRange (I:=fun _ c st'=>Eqv st st'∧∃ x y o mg ca cb,c=(none,x,y,o,mg,ca,cb)∧In it o∧1≤x∧x<a.size∧2≤y∧y≤b.size∧i+1+x+y≤a.size+b.size) (Q:=fun c st'=>Eqv st st'∧∃ r x y o mg ca cb,c=(r,x,y,o,mg,ca,cb)∧HiP it a b (i+1) r o x y) ?_ ?_ ⟨ev,_,_,_,_,_,_,rfl,ho,hx,hx2,hy,hy2,hm⟩) ?_)
    ·rintro j c st3 _ hj ⟨ev,x,y,o,mg,ca,cb,rfl,ho,hx,hx2,hy,hy2,hm⟩
     dsimp only
     revert mg
     apply jn1
     case k =>
      intro J mg
      by_cases qm:¬ mg>1
      ·rw[if_neg qm]
       exact J mg
      ·rw[if_pos (Decidable.not_not.mp qm)]
       exact J (mg-1)
     case J =>
      intro mg
      refine wpS_bind (t_setMin ev fun st4 ev4=>?_)
      refine wpS_bind (t_elem (by omega) ?_)
      refine wpS_bind (yE C (ev4.k.trans hk) (hb.at (i:=y-1) (by omega)) ha (by omega) (by omega) fun k hk1=>?_)
      dsimp only
      generalize hn1:x-k=n1
      have HH:=And.intro ho (And.intro hx (And.intro hx2 (And.intro hm (And.intro hk1 hn1))))
      clear ho hx hx2 hm hk1 hn1
      revert HH
      revert o x
      refine jn2 (H:=fun x o=>In it o∧1≤x∧x<a.size∧i+1+x+y≤a.size+b.size) ?_
      apply Exists.intro
      apply And.intro
      case right =>
       intro J x o ⟨ho,hx,hx2,hm,hk1,hn1⟩
       by_cases qk:¬ n1>0
       ·rw[if_neg qk]
        exact J x o ⟨ho,hx,hx2,hm⟩
       rw[if_pos (Decidable.not_not.mp qk)]
       have ho1:=ho.app (ha.ext (i:=k) (j:=x)).rev
       by_cases qa:(k == 0)=true
       ·rw[if_pos qa]
        exact wpS_pure ⟨ev4,_,_,_,_,_,_,_,rfl,(ha.ext.app hb.ext).app ho1.rev⟩
       rw[if_neg qa]
       have qa:k≠0:=fun z=>qa (by simp[z])
       exact J k _ ⟨ho1,by omega,by omega,by omega⟩
      case left =>
       intro x o ⟨ho,hx,hx2,hm⟩
       refine wpS_bind (t_elem (by omega) ?_)
       have ho2:=ho.push (hb.at (i:=y-1) (by omega))
       by_cases qc:(y-1 == 1)=true
       ·rw[if_pos qc]
        exact wpS_pure ⟨ev4,_,_,_,_,_,_,_,rfl,(hb.ext.app ha.ext).app ho2.rev⟩
       rw[if_neg qc]
       have qc:y-1≠1:=fun z=>qc (by simp[z])
       refine wpS_bind (t_elem (by omega) ?_)
       refine wpS_bind (yE C (ev4.k.trans hk) (ha.at (i:=x-1) (by omega)) hb (by omega) (by omega) fun k2 hk2=>?_)
       dsimp only
       have hy1:2≤y-1∧y-1≤b.size∧i+1+x+(y-1)≤a.size+b.size:=⟨by omega,by omega,by omega⟩
       generalize o.push (b[y-1]'(by omega))=o2 at ho2 ⊢
       generalize y-1=y1 at hy1 hk2 ⊢
       generalize hn2:y1-k2=n2
       have HH:=And.intro ho2 (And.intro hy1 (And.intro hk2 hn2))
       clear ho2 hy1 hk2 hn2
       revert HH
       revert o2 y1
       refine jn2 (H:=fun o y=>In it o∧2≤y∧y≤b.size∧i+1+x+y≤a.size+b.size) ?_
       apply Exists.intro
       apply And.intro
       case right =>
        intro J o2 y1 ⟨ho2,hy1,hk2,hn2⟩
        by_cases qk2:¬ n2>0
        ·rw[if_neg qk2]
         exact J o2 y1 ⟨ho2,hy1⟩
        rw[if_pos (Decidable.not_not.mp qk2)]
        have ho3:=ho2.app (hb.ext (i:=k2) (j:=y1)).rev
        by_cases qd:(k2 == 1)=true
        ·rw[if_pos qd]
         exact wpS_pure ⟨ev4,_,_,_,_,_,_,_,rfl,(hb.ext.app ha.ext).app ho3.rev⟩
        rw[if_neg qd]
        have qd:k2≠1:=fun z=>qd (by simp[z])
        by_cases qd2:(k2 == 0)=true
        ·rw[if_pos qd2]
         exact wpS_pure ⟨ev4,_,_,_,_,_,_,_,rfl,(ha.ext.app hb.ext).app ho3.rev⟩
        rw[if_neg qd2]
        have qd2:k2≠0:=fun z=>qd2 (by simp[z])
        exact J _ k2 ⟨ho3,by omega,by omega,by omega⟩
       case left =>
        intro o y ⟨ho,hy,hy2,hm⟩
        refine wpS_bind (t_elem (by omega) ?_)
        have ho4:=ho.push (ha.at (i:=x-1) (by omega))
        by_cases qe:(x-1 == 0)=true
        ·rw[if_pos qe]
         exact wpS_pure ⟨ev4,_,_,_,_,_,_,_,rfl,(ha.ext.app hb.ext).app ho4.rev⟩
        rw[if_neg qe]
        have qe:x-1≠0:=fun z=>qe (by simp[z])
        have H:In it (o.push (a[x-1]'(by omega)))∧1≤x-1∧x-1<a.size∧2≤y∧y≤b.size∧i+1+(x-1)+y≤a.size+b.size:=⟨ho4,by omega,by omega,hy,hy2,by omega⟩
        split
        ·exact wpS_pure ⟨ev4,_,_,_,_,_,_,_,rfl,H⟩
        ·exact wpS_pure ⟨ev4,_,_,_,_,_,_,rfl,H⟩
    ·rintro c st3 ⟨ev,x,y,o,mg,ca,cb,rfl,ho,hx,hx2,hy,hy2,hm⟩
     exact⟨ev,_,_,_,_,_,_,_,rfl,ho,hx,hx2,hy,hy2,hm⟩
    ·rintro c st3 ⟨ev,r,x,y,o,mg,ca,cb,rfl,hp⟩
     dsimp only
     cases r with
     |some r=>exact wpS_pure ⟨ev,_,_,_,_,_,rfl,hp⟩
     |none =>
      obtain⟨ho,hx,hx2,hy,hy2,hm⟩:=hp
      refine wpS_bind (t_setMin ev fun st4 ev4=>?_)
      exact wpS_pure ⟨ev4,_,_,_,_,rfl,ho,hx,hx2,hy,hy2,hm⟩
 ·rintro c st1 ⟨ev,x,y,o,mg,rfl,ho,hx,hx2,hy,hy2,hm⟩
  omega
 ·rintro c st1 ⟨ev,r,x,y,o,mg,rfl,hr⟩
  exact wpS_pure (h r st1 hr ev)
end
end Srt
end L2

namespace L2
namespace Srt
open PySem PyProof.Rows
section
variable {prog:Program}{w:World}{A:Around}{E:Value→Shared→Prop}{s:Shared}{it:List Keyed}{κ:SortKind}{n:Nat}
structure TB (it:List Keyed) (κ:SortKind) (n:Nat) (st:SortSt):Prop where
 z:(arrOf st).size=n
 i:In it (arrOf st)
 k:kindOf st=κ
 f:failedOf st=none
theorem TB.perm {st:SortSt}(t:TB it κ n st){xs:Array Keyed}(p:xs.Perm (arrOf st)):TB it κ n (setArr st xs) :=
 ⟨p.size_eq.trans t.z,fun x hx=>t.i x (Array.mem_def.mpr ((Array.perm_iff_toList_perm.mp p).mem_iff.mp (Array.mem_def.mp hx))),t.k,t.f⟩
theorem t_ltAt (C:Cmp prog w A s it κ){st:SortSt}(t:TB it κ n st){i j:Nat}(hi:i<n) (hj:j<n){Q:Option Bool→SortSt→Prop}(h:∀ b,Q (some b) st):wpS (model prog w) A E s (ltAt' i j) Q st:=by
 rw[ltAt'_eq]
 refine wpS_bind (wpS_get ?_)
 have hi:i<(arrOf st).size:=by rw[t.z];exact hi
 have hj:j<(arrOf st).size:=by rw[t.z];exact hj
 exact wpS_bind (t_elem hi (wpS_bind (t_elem hj (zaw C t.k (t.i.at hi) (t.i.at hj) h))))
def Ord (it:List Keyed) (κ:SortKind) (n:Nat) (p:Array (Nat×Nat×Nat)) (st:SortSt):Prop:=TB it κ n st∧pendingOf st=p
theorem wx {p:Array (Nat×Nat×Nat)}{st:SortSt}(o:Ord it κ n p st){i j:Nat}{Q:Unit→SortSt→Prop}(h:∀ st',Ord it κ n p st'→Q () st'):wpS (model prog w) A E s (reverseSlice' i j) Q st:=by
 rw[reverseSlice'_eq]
 exact wpS_modify (h _ ⟨o.1.perm (mirror_perm _ _ _ _),o.2⟩)
theorem t_move {p:Array (Nat×Nat×Nat)}{st:SortSt}(o:Ord it κ n p st){i j:Nat}{Q:Unit→SortSt→Prop}(h:∀ st',Ord it κ n p st'→Q () st'):wpS (model prog w) A E s (moveDown' i j) Q st:=by
 rw[moveDown'_eq]
 exact wpS_modify (h _ ⟨o.1.perm (bubble_perm _ _ _),o.2⟩)
theorem zk9 (C:Cmp prog w A s it κ){p:Array (Nat×Nat×Nat)}{st:SortSt}(o:Ord it κ n p st){lo m ok:Nat}(hm:lo+m≤n){Q:Bool→SortSt→Prop}(h:∀ st',Ord it κ n p st'→Q true st'):wpS (model prog w) A E s (binarySort' lo m ok) Q st:=by
 rw[binarySort'_eq]
 refine wpS_bind (wpS_mono (wpS_forRange (I:=fun k c st'=>c=(none,())∧Ord it κ n p st') (Q:=fun c st'=>c=(none,())∧Ord it κ n p st') ?_ ?_ ⟨rfl,o⟩) ?_)
 ·rintro k c st1 hk1 hk ⟨rfl,o1⟩
  dsimp only
  refine wpS_bind (wpS_mono (wpS_forRange (I:=fun _ c st'=>st'=st1∧∃ l r,c=(none,l,r)∧r≤k) (Q:=fun c st'=>st'=st1∧∃ l r,c=(none,l,r)∧r≤k) ?_ ?_ ⟨rfl,_,_,rfl,Nat.le_refl _⟩) ?_)
  ·rintro j c st2 _ hj ⟨rfl,l,r,rfl,hr⟩
   dsimp only
   by_cases q:l≥r
   ·rw[if_pos q]
    exact wpS_pure ⟨rfl,_,_,rfl,hr⟩
   ·rw[if_neg q]
    refine wpS_bind (t_ltAt C o1.1 (by omega) (by omega) fun b=>?_)
    cases b with
    |true=>exact wpS_pure ⟨rfl,_,_,rfl,by omega⟩
    |false=>exact wpS_pure ⟨rfl,_,_,rfl,hr⟩
  ·exact fun c st' h=>h
  ·rintro c st2 ⟨rfl,l,r,rfl,hr⟩
   dsimp only
   exact wpS_bind (t_move o1 fun st3 o3=>wpS_pure ⟨rfl,o3⟩)
 ·exact fun c st' h=>h
 ·rintro c st1 ⟨rfl,o1⟩
  exact wpS_pure (h st1 o1)
theorem Vc (C:Cmp prog w A s it κ){p:Array (Nat×Nat×Nat)}{st:SortSt}(o:Ord it κ n p st){lo m:Nat}(h1:1≤m) (hm:lo+m≤n){Q:Option Nat→SortSt→Prop}(h:∀ k st',1≤k→k≤m→Ord it κ n p st'→Q (some k) st'):wpS (model prog w) A E s (countRun' lo m) Q st:=by
 rw[countRun'_eq]
 refine wpS_bind (wpS_mono (wpS_forRange (I:=fun i c st'=>Ord it κ n p st'∧c=(none,i)) (Q:=fun c st'=>Ord it κ n p st'∧∃ k,c=(none,k)∧1≤k∧k≤m) ?_ ?_ ⟨o,rfl⟩) ?_)
 ·rintro i c st1 hi1 hi ⟨o1,rfl⟩
  dsimp only
  refine wpS_bind (t_ltAt C o1.1 (by omega) (by omega) fun b=>?_)
  cases b with
  |true=>exact wpS_pure ⟨o1,_,rfl,hi1,by omega⟩
  |false=>exact wpS_pure ⟨o1,rfl⟩
 ·rintro c st1 ⟨o1,rfl⟩
  exact⟨o1,_,rfl,by omega,by omega⟩
 ·rintro c st1 ⟨o1,k,rfl,k1,k2⟩
  dsimp only
  by_cases q:(k == m)=true
  ·rw[if_pos q]
   exact wpS_pure (h k st1 k1 k2 o1)
  rw[if_neg q]
  have q:k≠m:=fun z=>q (by simp[z])
  by_cases qk:k>1
  ·rw[if_pos qk]
   refine wpS_bind (t_ltAt C o1.1 (by omega) (by omega) fun b=>?_)
   cases b with
   |true=>exact wpS_pure (h k st1 k1 k2 o1)
   |false =>
    simp only[Bool.false_eq_true,if_false]
    refine wpS_bind (wx o1 fun st2 o2=>?_)
    refine wpS_bind (wpS_lift (wpAny_rule ⟨rfl,?_⟩))
    refine wpS_bind (wpS_mono (wpS_forRange (I:=fun i c st'=>Ord it κ n p st'∧∃ g,c=(none,i,g)) (Q:=fun c st'=>Ord it κ n p st'∧∃ j g,c=(none,j,g)∧k+1≤j∧j≤m) ?_ ?_ ⟨o2,_,rfl⟩) ?_)
    ·rintro i c st3 hi1 hi ⟨o3,g,rfl⟩
     dsimp only
     refine wpS_bind (t_ltAt C o3.1 (by omega) (by omega) fun b=>?_)
     cases b with
     |true =>
      simp only[if_true]
      by_cases qg:g>0
      ·rw[if_pos qg]
       exact wpS_bind (wx o3 fun st4 o4=>wpS_pure ⟨o4,_,rfl⟩)
      ·rw[if_neg qg]
       exact wpS_pure ⟨o3,_,rfl⟩
     |false =>
      simp only[Bool.false_eq_true,if_false]
      refine wpS_bind (t_ltAt C o3.1 (by omega) (by omega) fun b=>?_)
      cases b with
      |true=>exact wpS_pure ⟨o3,_,_,rfl,by omega,by omega⟩
      |false=>exact wpS_pure ⟨o3,_,rfl⟩
    ·rintro c st3 ⟨o3,g,rfl⟩
     exact⟨o3,_,_,rfl,by omega,by omega⟩
    ·rintro c st3 ⟨o3,j,g,rfl,j1,j2⟩
     dsimp only
     by_cases qg:g>0
     ·rw[if_pos qg]
      refine wpS_bind (wx o3 fun st4 o4=>?_)
      refine wpS_bind (wx o4 fun st8 o8=>?_)
      refine wpS_bind (wpS_mono (wpS_forRange (I:=fun i c st'=>Ord it κ n p st'∧c=(none,i)) (Q:=fun c st'=>Ord it κ n p st'∧∃ k,c=(none,k)∧1≤k∧k≤m) ?_ ?_ ⟨o8,rfl⟩) ?_)
      ·rintro i c st9 hi1 hi ⟨o9,rfl⟩
       dsimp only
       refine wpS_bind (t_ltAt C o9.1 (by omega) (by omega) fun b=>?_)
       cases b with
       |true=>exact wpS_pure ⟨o9,_,rfl,by omega,by omega⟩
       |false=>exact wpS_pure ⟨o9,rfl⟩
      ·rintro c st9 ⟨o9,rfl⟩
       exact⟨o9,_,rfl,by omega,by omega⟩
      ·rintro c st9 ⟨o9,kk,rfl,e1,e2⟩
       exact wpS_pure (h kk st9 e1 e2 o9)
     ·rw[if_neg qg]
      refine wpS_bind (wx o3 fun st8 o8=>?_)
      refine wpS_bind (wpS_mono (wpS_forRange (I:=fun i c st'=>Ord it κ n p st'∧c=(none,i)) (Q:=fun c st'=>Ord it κ n p st'∧∃ k,c=(none,k)∧1≤k∧k≤m) ?_ ?_ ⟨o8,rfl⟩) ?_)
      ·rintro i c st9 hi1 hi ⟨o9,rfl⟩
       dsimp only
       refine wpS_bind (t_ltAt C o9.1 (by omega) (by omega) fun b=>?_)
       cases b with
       |true=>exact wpS_pure ⟨o9,_,rfl,by omega,by omega⟩
       |false=>exact wpS_pure ⟨o9,rfl⟩
      ·rintro c st9 ⟨o9,rfl⟩
       exact⟨o9,_,rfl,by omega,by omega⟩
      ·rintro c st9 ⟨o9,kk,rfl,e1,e2⟩
       exact wpS_pure (h kk st9 e1 e2 o9)
  ·rw[if_neg qk]
   refine wpS_bind (wpS_lift (wpAny_rule ⟨rfl,?_⟩))
   refine wpS_bind (wpS_mono (wpS_forRange (I:=fun i c st'=>Ord it κ n p st'∧∃ g,c=(none,i,g)) (Q:=fun c st'=>Ord it κ n p st'∧∃ j g,c=(none,j,g)∧k+1≤j∧j≤m) ?_ ?_ ⟨o1,_,rfl⟩) ?_)
   ·rintro i c st3 hi1 hi ⟨o3,g,rfl⟩
    dsimp only
    refine wpS_bind (t_ltAt C o3.1 (by omega) (by omega) fun b=>?_)
    cases b with
    |true =>
     simp only[if_true]
     by_cases qg:g>0
     ·rw[if_pos qg]
      exact wpS_bind (wx o3 fun st4 o4=>wpS_pure ⟨o4,_,rfl⟩)
     ·rw[if_neg qg]
      exact wpS_pure ⟨o3,_,rfl⟩
    |false =>
     simp only[Bool.false_eq_true,if_false]
     refine wpS_bind (t_ltAt C o3.1 (by omega) (by omega) fun b=>?_)
     cases b with
     |true=>exact wpS_pure ⟨o3,_,_,rfl,by omega,by omega⟩
     |false=>exact wpS_pure ⟨o3,_,rfl⟩
   ·rintro c st3 ⟨o3,g,rfl⟩
    exact⟨o3,_,_,rfl,by omega,by omega⟩
   ·rintro c st3 ⟨o3,j,g,rfl,j1,j2⟩
    dsimp only
    by_cases qg:g>0
    ·rw[if_pos qg]
     refine wpS_bind (wx o3 fun st4 o4=>?_)
     refine wpS_bind (wx o4 fun st8 o8=>?_)
     refine wpS_bind (wpS_mono (wpS_forRange (I:=fun i c st'=>Ord it κ n p st'∧c=(none,i)) (Q:=fun c st'=>Ord it κ n p st'∧∃ k,c=(none,k)∧1≤k∧k≤m) ?_ ?_ ⟨o8,rfl⟩) ?_)
     ·rintro i c st9 hi1 hi ⟨o9,rfl⟩
      dsimp only
      refine wpS_bind (t_ltAt C o9.1 (by omega) (by omega) fun b=>?_)
      cases b with
      |true=>exact wpS_pure ⟨o9,_,rfl,by omega,by omega⟩
      |false=>exact wpS_pure ⟨o9,rfl⟩
     ·rintro c st9 ⟨o9,rfl⟩
      exact⟨o9,_,rfl,by omega,by omega⟩
     ·rintro c st9 ⟨o9,kk,rfl,e1,e2⟩
      exact wpS_pure (h kk st9 e1 e2 o9)
    ·rw[if_neg qg]
     refine wpS_bind (wx o3 fun st8 o8=>?_)
     refine wpS_bind (wpS_mono (wpS_forRange (I:=fun i c st'=>Ord it κ n p st'∧c=(none,i)) (Q:=fun c st'=>Ord it κ n p st'∧∃ k,c=(none,k)∧1≤k∧k≤m) ?_ ?_ ⟨o8,rfl⟩) ?_)
     ·rintro i c st9 hi1 hi ⟨o9,rfl⟩
      dsimp only
      refine wpS_bind (t_ltAt C o9.1 (by omega) (by omega) fun b=>?_)
      cases b with
      |true=>exact wpS_pure ⟨o9,_,rfl,by omega,by omega⟩
      |false=>exact wpS_pure ⟨o9,rfl⟩
     ·rintro c st9 ⟨o9,rfl⟩
      exact⟨o9,_,rfl,by omega,by omega⟩
     ·rintro c st9 ⟨o9,kk,rfl,e1,e2⟩
      exact wpS_pure (h kk st9 e1 e2 o9)
theorem vf:∀ (l:List (Keyed×Nat)) (b:Nat) (a:Array Keyed),(l.foldl (fun a (q,j)=>a.setIfInBounds (b+j) q) a).size=a.size
 |[],_,_=>rfl
 |(q,j)::l,b,a=>by rw[List.foldl_cons,vf l b];simp
theorem Ym:∀ (l:List (Keyed×Nat)) (b:Nat) (a:Array Keyed),In it a→(∀ q∈l,q.1∈it)→In it (l.foldl (fun a (q,j)=>a.setIfInBounds (b+j) q) a)
 |[],_,_,h,_=>h
 |(q,j)::l,b,a,h,hl=>by
  rw[List.foldl_cons]
  refine Ym l b _ (fun x hx=>?_) fun r hr=>hl r (List.mem_cons_of_mem _ hr)
  rcases Array.mem_or_eq_of_mem_setIfInBounds hx with z | z
  ·exact h x z
  ·rw[z];exact hl (q,j) List.mem_cons_self
theorem zar {o:Array Keyed}(h:In it o):∀ q∈o.toList.zipIdx,q.1∈it:=fun q hq=>by
 obtain⟨x,i⟩:=q
 have:=(List.mem_zipIdx hq).2.2
 rw[this]
 exact h _ (Array.mem_def.mpr (List.getElem_mem _))
theorem zk7 {x st:SortSt}{Q:PUnit→SortSt→Prop}(h:Q ⟨⟩ x):wpS (model prog w) A E s (set x:StateT SortSt Sem PUnit) Q st:=by
 unfold wpS
 rw[StateT.run_set]
 exact wpAny_pure ⟨rfl,h⟩
theorem Zo (C:Cmp prog w A s it κ){st:SortSt}(t:TB it κ n st){n1 p1 p2:Nat}(hp:pendingOf st = #[(0,n1,p1),(n1,n-n1,p2)]) (h1:1≤n1) (h2:n1<n){Q:Bool→SortSt→Prop}
  (h:∀ st',TB it κ n st'→pendingOf st' = #[(0,n,p1)]→Q true st'):wpS (model prog w) A E s (mergeAt' 0) Q st:=by
 refine wpS_bind (wpS_get ?_)
 have hq:=hp
 unfold pendingOf at hq
 rw[hq]
 have e0 : #[(0,n1,p1),(n1,n-n1,p2)][0]?=some (0,n1,p1):=rfl
 have e1 : #[(0,n1,p1),(n1,n-n1,p2)][0+1]?=some (n1,n-n1,p2):=rfl
 rw[e0,e1]
 dsimp only
 have ep:(#[(0,n1,p1),(n1,n-n1,p2)].setIfInBounds 0 (0,n1+(n-n1),p1)).eraseIdxIfInBounds (0+1) = #[(0,n,p1)]:=by
  rw[show n1+(n-n1)=n by omega]
  apply Array.toList_inj.mp
  simp[Array.setIfInBounds,Array.eraseIdxIfInBounds]
 rw[ep]
 refine wpS_bind (zk7 ?_)
 have t2:TB it κ n (setPending st #[(0,n,p1)]):=⟨t.z,t.i,t.k,t.f⟩
 have hz:=t.z
 refine wpS_bind (t_elem (show n1<(arrOf st).size by omega) ?_)
 refine wpS_bind (yE C t2.k (t.i.at (i:=n1) (by omega)) t.i (by omega) (by omega) fun k hk1=>?_)
 dsimp only
 by_cases q1:(n1-k == 0)=true
 ·rw[if_pos q1]
  exact wpS_pure (h _ t2 rfl)
 rw[if_neg q1]
 have q1:n1-k≠0:=fun z=>q1 (by simp[z])
 refine wpS_bind (t_elem (show 0+k+(n1-k)-1<(arrOf st).size by omega) ?_)
 refine wpS_bind (yE C t2.k (t.i.at (i:=0+k+(n1-k)-1) (by omega)) t.i (by omega) (by omega) fun m hm1=>?_)
 dsimp only
 by_cases q2:(m == 0)=true
 ·rw[if_pos q2]
  exact wpS_pure (h _ t2 rfl)
 rw[if_neg q2]
 have q2:m≠0:=fun z=>q2 (by simp[z])
 have fin:∀ (o:Array Keyed) (st3:SortSt),In it o→Eqv (setPending st #[(0,n,p1)]) st3→wpS (model prog w) A E s (do
   modify fun u=>setArr u (o.toList.zipIdx.foldl (fun a (q,j)=>a.setIfInBounds (0+k+j) q) (arrOf u))
   return (failedOf (← get)).isNone) Q st3:=fun o st3 ho ev=>by
  refine wpS_bind (wpS_modify (wpS_bind (wpS_get ?_)))
  have hf:failedOf st3=none:=ev.f.trans t.f
  have e:(failedOf (setArr st3 (o.toList.zipIdx.foldl (fun a (q,j)=>a.setIfInBounds (0+k+j) q) (arrOf st3)))).isNone=true:=by
   show(failedOf st3).isNone=true
   rw[hf];rfl
  rw[e]
  refine wpS_pure (h _ ⟨?_,?_,ev.k.trans t.k,hf⟩ ev.p)
  ·exact(vf _ _ _).trans ((congrArg Array.size ev.a).trans hz)
  ·refine Ym _ _ _ ?_ (zar ho)
   rw[ev.a]
   exact t.i
 by_cases q3:n1-k≤m
 ·rw[if_pos q3]
  exact wpS_bind (Zm C t2.k t.i.ext t.i.ext (by simp;omega) (by simp;omega) fin)
 ·rw[if_neg q3]
  exact wpS_bind (Zn C t2.k t.i.ext t.i.ext (by simp;omega) (by simp;omega) fin)
theorem YO:∀ z,z≤66→2≤z→z≤2*minRun' z z 0∧minRun' z z 0≤z∧1≤minRun' z z 0:=by decide
theorem zav (C:Cmp prog w A s it κ){st:SortSt}(t:TB it κ n st) (hp:pendingOf st = #[]) (h2:2≤n) (h66:n≤66){Q:Unit→SortSt→Prop}(h:∀ st',TB it κ n st'→Q () st'):wpS (model prog w) A E s sortRuns' Q st:=by
 obtain⟨r1,r2,r3⟩:=YO n h66 h2
 rw[sortRuns'_eq]
 refine wpS_bind (wpS_get ?_)
 rw[t.z]
 dsimp only
 refine wpS_bind (wpS_mono (wpS_forRange (I:=fun i c st'=>TB it κ n st'∧∃ lo,c=(none,lo)∧i≤lo∧((lo=0∧pendingOf st' = #[])∨(1≤lo∧lo≤n∧(lo=n∨minRun' n n 0≤lo)∧∃ p1,pendingOf st' = #[(0,lo,p1)])∨(lo=n∧∃ n1 p1 p2,1≤n1∧n1<n∧pendingOf st' = #[(0,n1,p1),(n1,n-n1,p2)])))
  (Q:=fun c st'=>TB it κ n st'∧∃ lo,c=(none,lo)∧((∃ p1,pendingOf st' = #[(0,n,p1)])∨∃ n1 p1 p2,1≤n1∧n1<n∧pendingOf st' = #[(0,n1,p1),(n1,n-n1,p2)])) ?_ ?_ ⟨t,0,rfl,Nat.le_refl _,.inl ⟨rfl,hp⟩⟩) ?_)
 ·rintro i c st1 _ hi ⟨t1,lo,rfl,hil,hc⟩
  dsimp only
  by_cases q1:lo≥n
  ·rw[if_pos q1]
   refine wpS_pure ⟨t1,lo,rfl,?_⟩
   rcases hc with⟨l0,_⟩ | ⟨l1,l2,l3,p1,hpd⟩ | ⟨l0,hpd⟩
   ·omega
   ·have:lo=n:=by omega
    subst this
    exact .inl ⟨p1,hpd⟩
   ·exact .inr hpd
  rw[if_neg q1]
  refine wpS_bind (Vc (p:=pendingOf st1) C ⟨t1,rfl⟩ (by omega) (by omega) fun fd st0 f1 f2 o0=>?_)
  dsimp only
  by_cases q2:fd<minRun' n n 0
  ·rw[if_pos q2]
   refine wpS_bind (wpS_lift (wpAny_rule ⟨rfl,?_⟩))
   refine wpS_bind (zk9 C o0 (by omega) fun st2 o2=>?_)
   simp only[Bool.not_true,Bool.false_eq_true,if_false]
   refine wpS_bind (wpS_get ?_)
   rcases hc with⟨l0,hpd⟩ | ⟨l1,l2,l3,p1,hpd⟩ | ⟨l0,_⟩
   ·subst l0
    rw[o2.2,hpd]
    refine wpS_bind (wpS_modify (wpS_pure ⟨⟨o2.1.z,o2.1.i,o2.1.k,o2.1.f⟩,_,rfl,by omega,.inr (.inl ⟨by omega,by omega,by omega,0,?_⟩)⟩))
    show(pendingOf st2).push _=_
    rw[o2.2,hpd,Nat.zero_add]
    rfl
   ·have hRe:min (n-lo) (minRun' n n 0)=n-lo:=by omega
    have hpd2:pendingOf st2 = #[(0,lo,p1)]:=o2.2.trans hpd
    rw[hpd2]
    refine wpS_bind (wpS_mono (wpS_forRange (I:=fun _ c st'=>st'=st2∧c=(none,())) (Q:=fun c st'=>st'=st2∧c=(none,())) ?_ (fun _ _ h=>h) ⟨rfl,rfl⟩) ?_)
    ·rintro j c st3 _ hj ⟨rfl,rfl⟩
     refine wpS_bind (wpS_get ?_)
     rw[hpd2]
     exact wpS_pure ⟨rfl,rfl⟩
    ·rintro c st3 ⟨rfl,rfl⟩
     refine wpS_bind (wpS_modify (wpS_bind (wpS_modify (wpS_pure ⟨⟨o2.1.z,o2.1.i,o2.1.k,o2.1.f⟩,_,rfl,by omega,.inr (.inr ⟨by omega,lo,power' n (2*0+lo) (2*0+lo+lo+min (n-lo) (minRun' n n 0)) n,0,by omega,by omega,?_⟩)⟩))))
     show((pendingOf st3).modify ((pendingOf st3).size-1) _).push _=_
     rw[hpd2,hRe]
     apply Array.toList_inj.mp
     simp[Array.modify]
     rfl
   ·omega
  ·rw[if_neg q2]
   obtain⟨st2,e2⟩:∃ st2,st2=st0:=⟨_,rfl⟩
   rw[← e2] at o0 ⊢
   have o2:=o0
   refine wpS_bind (wpS_get ?_)
   rcases hc with⟨l0,hpd⟩ | ⟨l1,l2,l3,p1,hpd⟩ | ⟨l0,_⟩
   ·subst l0
    rw[o2.2,hpd]
    refine wpS_bind (wpS_modify (wpS_pure ⟨⟨o2.1.z,o2.1.i,o2.1.k,o2.1.f⟩,_,rfl,by omega,.inr (.inl ⟨by omega,by omega,by omega,0,?_⟩)⟩))
    show(pendingOf st2).push _=_
    rw[o2.2,hpd,Nat.zero_add]
    rfl
   ·have hRe:fd=n-lo:=by omega
    have hpd2:pendingOf st2 = #[(0,lo,p1)]:=o2.2.trans hpd
    rw[hpd2]
    refine wpS_bind (wpS_mono (wpS_forRange (I:=fun _ c st'=>st'=st2∧c=(none,())) (Q:=fun c st'=>st'=st2∧c=(none,())) ?_ (fun _ _ h=>h) ⟨rfl,rfl⟩) ?_)
    ·rintro j c st3 _ hj ⟨rfl,rfl⟩
     refine wpS_bind (wpS_get ?_)
     rw[hpd2]
     exact wpS_pure ⟨rfl,rfl⟩
    ·rintro c st3 ⟨rfl,rfl⟩
     refine wpS_bind (wpS_modify (wpS_bind (wpS_modify (wpS_pure ⟨⟨o2.1.z,o2.1.i,o2.1.k,o2.1.f⟩,_,rfl,by omega,.inr (.inr ⟨by omega,lo,power' n (2*0+lo) (2*0+lo+lo+fd) n,0,by omega,by omega,?_⟩)⟩))))
     show((pendingOf st3).modify ((pendingOf st3).size-1) _).push _=_
     rw[hpd2,hRe]
     apply Array.toList_inj.mp
     simp[Array.modify]
     rfl
   ·omega
 ·rintro c st1 ⟨t1,lo,rfl,hil,hc⟩
  refine⟨t1,lo,rfl,?_⟩
  rcases hc with⟨l0,_⟩ | ⟨l1,l2,l3,p1,hpd⟩ | ⟨l0,hpd⟩
  ·omega
  ·have:lo=n:=by omega
   subst this
   exact .inl ⟨p1,hpd⟩
  ·exact .inr hpd
 ·rintro c st1 ⟨t1,lo,rfl,hc⟩
  dsimp only
  refine wpS_bind (wpS_mono (wpS_forRange (I:=fun _ c st'=>TB it κ n st'∧c=(none,())∧((∃ p1,pendingOf st' = #[(0,n,p1)])∨∃ n1 p1 p2,1≤n1∧n1<n∧pendingOf st' = #[(0,n1,p1),(n1,n-n1,p2)])) (Q:=fun c st'=>TB it κ n st'∧c=(none,())) ?_ (fun _ _ h=>⟨h.1,h.2.1⟩) ⟨t1,rfl,hc⟩) ?_)
  ·rintro i c st2 _ hi ⟨t2,rfl,hc⟩
   refine wpS_bind (wpS_get ?_)
   rcases hc with⟨p1,hpd⟩ | ⟨n1,p1,p2,h1,h2,hpd⟩
   ·rw[hpd]
    exact wpS_pure ⟨t2,rfl⟩
   ·rw[hpd]
    refine wpS_bind (Zo C t2 hpd h1 h2 fun st3 t3 hp3=>?_)
    exact wpS_pure ⟨t3,rfl,.inl ⟨_,hp3⟩⟩
  ·rintro c st2 ⟨t2,rfl⟩
   exact wpS_pure (h st2 t2)
end
end Srt
end L2

namespace L2
namespace Srt
open PySem PyProof.Rows PySem.W
def Pr (h:Heap) (v:Value):Prop:=∃ x o i j t u n,v=.ref x∧h.get? x=some o∧o.cls=.type "tuple" ∧ o.data=.seq #[.int i t,.int j u] n
section
variable {prog:Program}{w:World}{A:Around}{E:Value→Shared→Prop}{s:Shared}
theorem zmu {x y:Value}(hx:Pr s.heap x) (hy:Pr s.heap y){Q:Bool→Shared→Prop}(h:∀ b,Q b s):wpAny (model prog w) A (keyLt' (tuples' true) x y) Q E s:=by
 obtain⟨x,o,i,j,t,u,n,rfl,ho,_,hd⟩:=hx
 obtain⟨y,o',i',j',t',u',n',rfl,ho',_,hd'⟩:=hy
 refine kat_lt ho hd ho' hd' (kat_cons (wpAny_eqBool_int ?_))
 refine kat_go (fun _=>kat_yes (kat_cons (wpAny_eqBool_int ?_))) fun _=>kat_no (oneLt_int (h _))
 exact kat_go (fun _=>kat_yes (kat_nil (h _))) fun _=>kat_no (kat_one _ _ (lt_int (h _)))
theorem Yo:∀ {vs:List Value},(∀ v∈vs,Pr s.heap v)→∃ fs:List Value,KatTups s.heap vs fs∧fs.length=vs.length∧∀ f∈fs,∃ i t,f=.int i t
 |[],_=>⟨[],.nil,rfl,fun f hf=>by cases hf⟩
 |v::vs,h=>by
  obtain⟨fs,k,hl,hi⟩:=Yo (vs:=vs) fun v hv=>h v (List.mem_cons_of_mem _ hv)
  obtain⟨x,o,i,j,t,u,n,rfl,ho,hc,hd⟩:=h v List.mem_cons_self
  refine⟨.int i t::fs,.cons ho hc hd rfl k,by simp[hl],fun f hf=>?_⟩
  rcases List.mem_cons.mp hf with rfl | hf
  ·exact⟨i,t,rfl⟩
  ·exact hi f hf
theorem Vr {vs:List Value}(h:∀ v∈vs,Pr s.heap v) (hne:0<vs.length){Q:SortKind→Shared→Prop}(q:Q (tuples' true) s):wpAny (model prog w) A (keyKind' vs.toArray) Q E s:=by
 obtain⟨fs,k,hl,hi⟩:=Yo h
 refine kat_kind (T:=.type "int") k (by omega) (fun v hv=>?_) rfl q
 obtain⟨i,t,rfl⟩:=hi v hv
 exact Looks.of_pure rfl
theorem xy {vs:List Value}{p:Keyed}(h:p∈vs.toArray.zip vs.toArray):p.1∈vs∧p.2∈vs:=by
 have h:p∈(vs.toArray.zip vs.toArray).toList:=Array.mem_def.mp h
 rw[Array.toList_zip] at h
 obtain⟨a,b⟩:=p
 exact List.of_mem_zip h
theorem Vq {vs:List Value}(h:∀ v∈vs,Pr s.heap v) (h2:2≤vs.length) (h66:vs.length≤66){Q:Unit→SortSt→Prop}
  (q:∀ st':SortSt,failedOf st'=none→((arrOf st').map (·.2)).size=vs.length→(∀ v∈(arrOf st').map (·.2),v∈vs)→Q () st') :
  wpS (model prog w) A E s sortRuns' Q (SortSt.mk' (tuples' true) (vs.toArray.zip vs.toArray) #[] 7 none):=by
 have hz:(vs.toArray.zip vs.toArray).size=vs.length:=by simp
 refine zav (it:=(vs.toArray.zip vs.toArray).toList) (κ:=tuples' true) (n:=vs.length) (fun x hx y hy Q E hq=>?_) ⟨hz,fun x hx=>Array.mem_def.mp hx,rfl,rfl⟩ rfl h2 h66 fun st' t=>q st' t.f ?_ fun v hv=>?_
 ·exact zmu (h _ (xy (Array.mem_def.mpr hx)).1) (h _ (xy (Array.mem_def.mpr hy)).1) hq
 ·rw[Array.size_map];exact t.z
 ·obtain⟨p,hp,rfl⟩:=Array.mem_map.mp hv
  exact(xy (Array.mem_def.mpr (t.i p hp))).2
theorem Pr.keeps {h h':Heap}{v:Value}(p:Pr h v) (k:∀ b o,h.get? b=some o→o.cls=.type "tuple" → h'.get? b=some o):Pr h' v:=by
 obtain⟨x,o,i,j,t,u,n,e,ho,hc,hd⟩:=p
 exact⟨x,o,i,j,t,u,n,e,k _ _ ho hc,hc,hd⟩
theorem uT {a:Addr}{vs:List Value}{n:Nat}{P:PySem.Fin→Shared→Prop}(ho:s.heap.get? a=some (seqObj "list" vs.toArray n)) (hp:∀ v∈vs,Pr s.heap v) (h66:vs.length≤66)
  (h:∀ o:Array Value,o.size=vs.length→(∀ v∈o,v∈vs)→P (.done (.ret .none)) { s with heap:=sortedHeap s.heap a vs o }):wpAny (model prog w) A (Builtin.«list.sort» ⟨[.ref a],[]⟩) P E s:=by
 have big:66≤sizeLine:=by decide
 have ha:=Heap.lt_size ho
 rw[list_sort_plain]
 refine wpAny_bind (listItems_at ho rfl (wpAny_bind (listUpdate_at ho rfl ?_ (by simp;omega) (Nat.zero_le _))))
 have o1:=get?_update_seq ho (fun _=>(#[]:Array Value))
 refine wpAny_bind (seqEpoch_at o1 rfl (wpAny_bind (wpAny_newTuple (wpAny_bind (wpAny_newList (wpAny_holding ?_) (Nat.zero_le _))) (by show vs.length≤_;omega))))
 generalize hH:Heap.push (Heap.push (s.heap.update a (Obj.mapSeq fun _=>(#[]:Array Value))) (seqObj "tuple" vs.toArray 0)) (seqObj "list" #[] 0)=H6
 have hs:∀ o:Array Value,sortedHeap s.heap a vs o=H6.update a (Obj.mapSeq fun _=>o):=fun o=>by rw[← hH];rfl
 have o6:=Heap.get?_push_of_some (seqObj "list" #[] 0) (Heap.get?_push_of_some (seqObj "tuple" vs.toArray 0) o1)
 rw[hH] at o6
 have hp6:∀ v∈vs,Pr H6 v:=fun v hv=>(hp v hv).keeps fun b o e hc=>by
  have hb:a≠b:=fun z=>by
   rw[← z,ho] at e
   cases e
   have hc:Value.type "list" = .type "tuple" := hc
   injection hc with hc
   exact absurd hc (by decide)
  rw[← hH]
  refine Heap.get?_push_of_some _ (Heap.get?_push_of_some _ ?_)
  rw[Heap.get?_update_other _ _ hb]
  exact e
 have e6:({ s with heap:=Heap.push (Heap.push (s.heap.update a (Obj.mapSeq fun _=>(#[]:Array Value))) (seqObj "tuple" vs.toArray 0)) (seqObj "list" #[] 0) }:Shared)={ s with heap:=H6 }:=by rw[hH]
 refine(show wpAny (model prog w) A _ P E { s with heap:=H6 } from ?_)
 dsimp only
 have hz0:((vs.toArray.zip vs.toArray).map (fun p:Keyed=>p.2)).size=vs.length:=by simp
 by_cases q:vs.toArray.size<2
 ·rw[if_pos q,if_pos q]
  refine wpAny_bind (wpAny_pure ?_)
  rw[StateT.run_pure]
  refine wpAny_bind (wpAny_pure (wpAny_bind (seqEpoch_at o6 rfl (wpAny_bind (listUpdate_at o6 rfl ?_ (Nat.zero_le _) (by show((vs.toArray.zip vs.toArray).map (fun p:Keyed=>p.2)).size≤_;omega))))))
  simp only[bne_self_eq_false,Bool.false_eq_true,if_false]
  refine wpAny_pure ?_
  rw[← hs]
  refine h _ hz0 fun v hv=>?_
  obtain⟨p,hp',rfl⟩:=Array.mem_map.mp hv
  exact(xy hp').2
 ·rw[if_neg q,if_neg q]
  have q:2≤vs.length:=by simp at q;omega
  refine wpAny_bind (Vr hp6 (by omega) ?_)
  refine wpAny_bind (wpAny_mono (Vq (s:={ s with heap:=H6 }) hp6 q h66 (Q:=fun _ st'=>failedOf st'=none∧((arrOf st').map (·.2)).size=vs.length∧∀ v∈(arrOf st').map (·.2),v∈vs) fun st' a1 a2 a3=>⟨a1,a2,a3⟩) ?_ fun _ _ e=>e)
  rintro⟨⟨⟩,st'⟩ s' ⟨rfl,hf,hz,hm⟩
  refine wpAny_bind (seqEpoch_at o6 rfl (wpAny_bind (listUpdate_at o6 rfl ?_ (Nat.zero_le _) (by omega))))
  rw[hf]
  simp only[bne_self_eq_false,Bool.false_eq_true,if_false]
  refine wpAny_pure ?_
  rw[← hs]
  exact h _ hz hm
theorem vd {l:Addr}{vs:List Value}{Q:Value→Shared→Prop}(hl:s.heap.IsList l vs.toArray) (hp:∀ v∈vs,Pr s.heap v) (h66:vs.length≤66)
  (h:∀ o:Array Value,o.size=vs.length→(∀ v∈o,v∈vs)→Q (.ref (s.heap.objs.size+1)) { s with heap:=sortedAll s.heap vs o }):wpAny (model prog w) A (call (.builtin "sorted") [.ref l]) Q E s:=by
 have big:66≤sizeLine:=by decide
 refine Calls.call_function_entry kind_sorted plain_sorted entry_sorted (args_sorted1 _) ?_
 unfold Builtin.«sorted»
 refine wpAny_bind (m:=checkCount "sorted" 1 1 _) (wpAny_pure (wpAny_bind (collect_list hl (wpAny_bind (wpAny_newList ?_ (by show vs.length≤_;omega))) (by omega))))
 have hz:(Heap.update (Heap.push s.heap (seqObj "list" #[] 0)) s.heap.objs.size (Obj.mapSeq fun x=>x++vs.toArray)).objs.size=s.heap.objs.size+1:=(Heap.size_update _ _ _).trans (size_push' _ _)
 have hk:∀ b o,s.heap.get? b=some o→(Heap.push (Heap.update (Heap.push s.heap (seqObj "list" #[] 0)) s.heap.objs.size (Obj.mapSeq fun x=>x++vs.toArray)) (seqObj "list" vs.toArray 0)).get? b=some o:=fun b o e=>by
  refine Heap.get?_push_of_some _ ?_
  rw[Heap.get?_update_other _ _ (Nat.ne_of_gt (Heap.lt_size e))]
  exact Heap.get?_push_of_some _ e
 have ho:=Heap.get?_push_size (Heap.update (Heap.push s.heap (seqObj "list" #[] 0)) s.heap.objs.size (Obj.mapSeq fun x=>x++vs.toArray)) (o:=seqObj "list" vs.toArray 0) rfl
 refine(show wpAny _ _ _ _ _ { s with heap:=Heap.push (Heap.update (Heap.push s.heap (seqObj "list" #[] 0)) s.heap.objs.size (Obj.mapSeq fun x=>x++vs.toArray)) (seqObj "list" vs.toArray 0) } from ?_)
 rw[hz] at ho ⊢
 refine wpAny_bind (wpAny_holding (wpAny_call_entry slot_list_sort ⟨_,ho,rfl⟩ entry_list_sort ?_ (args_list_sort _)))
 refine uT ho (fun v hv=>(hp v hv).keeps fun b o e _=>hk b o e) h66 fun o z m=>⟨_,rfl,wpAny_pure ⟨_,rfl,h o z m⟩⟩
end
section
variable {X:Cx}
theorem wX {ys:List V}:∀ {l:List Value},(∀ v∈l,∃ y∈ys,RelV y v)→∃ zs,Vals zs l∧∀ z∈zs,z∈ys
 |[],_=>⟨[],.nil,fun z hz=>by cases hz⟩
 |v::l,h=>by
  obtain⟨zs,r,m⟩:=wX (l:=l) fun v hv=>h v (List.mem_cons_of_mem _ hv)
  obtain⟨y,hy,e⟩:=h v List.mem_cons_self
  refine⟨y::zs,.cons e r,fun z hz=>?_⟩
  rcases List.mem_cons.mp hz with rfl | hz
  ·exact hy
  ·exact m z hz
def zfD (K:PySem.W.Frag):List V→Hp→VK→Prop:=fun xs H Q=>∃ (a:Addr) (ys:List V),xs=[V.ref a]∧SqL K H a ys∧ys.length≤66∧(∀ y∈ys,∃ q i j,y=.ref q∧H q=some (.tup [.int i,.int j])) ∧
 ∀ (p:Addr) (zs:List V),H p=none→zs.length=ys.length→(∀ z∈zs,z∈ys)→Q (.ref p) (upd H p (.lst zs))
theorem wp:yv X (.builtin "sorted") (zfD X.K):=by
 intro pins s σ H xs us Q I r h
 obtain⟨a,ys,rfl,ha,h66,hy,q⟩:=h
 obtain⟨u,rfl,ru⟩:=r.one
 cases ru
 obtain⟨its,rv,p,hz⟩:=I.list ha
 have hl:=rv.length
 have back:∀ v∈its,∃ y∈ys,RelV y v:=fun v hv=>by
  obtain⟨i,hi,e⟩:=List.getElem_of_mem hv
  have hi':i<ys.length:=by omega
  obtain⟨u,hu,ru⟩:=rv.get (i:=i) (x:=ys[i]) (by simp[hi'])
  rw[List.getElem?_eq_getElem hi] at hu
  cases hu
  exact⟨ys[i],List.getElem_mem hi',e ▸ ru⟩
 refine vd p.isList (fun v hv=>?_) (by omega) fun o z m=>?_
 ·obtain⟨y,hy',e⟩:=back v hv
  obtain⟨t,i,j,rfl,ht⟩:=hy y hy'
  cases e
  obtain⟨_,vs,rr,ob,e1,e2,n,e3⟩:=(show ObjOk X.prog X.w H s.heap t (.tup [.int i,.int j]) from I.hok t _ ht)
  cases rr with
  |cons r1 rr =>
   cases rr with
   |cons r2 rr =>
    cases rr
    obtain⟨t1,rfl⟩:=r1
    obtain⟨t2,rfl⟩:=r2
    exact⟨t,ob,i,j,t1,t2,n,rfl,e1,e2,e3⟩
 ·obtain⟨zs,rz,mz⟩:=wX (ys:=ys) (l:=o.toList) fun v hv=>back v (m v (Array.mem_def.mpr hv))
  have hn:H (s.heap.objs.size+1)=none:=I.hok.fresh (Nat.le_succ _)
  have lz:zs.length=ys.length:=by rw[rz.length,Array.length_toList,z,hl]
  obtain⟨c,hc⟩:=sortedAll_at s.heap its o
  refine⟨.ref _,_,I.laid (a:=s.heap.objs.size+1) (o:=.lst zs) (t':=s.toks) (fun _ _ e=>sortedAll_old e) (Nat.le_succ _) ⟨by rw[lz];exact hz,o.toList,c,rz,hc⟩,rfl,q _ zs hn lz mz⟩
end
end Srt
end L2

namespace L2
namespace Srt
open PySem PyProof.Rows PySem.W
end Srt
end L2

namespace K04
open PySem L2
structure Hs (hs:List Int):Prop where
 l1:1≤hs.length
 l12:hs.length≤12
 up:hs.Pairwise (· < ·)
 lo:∀ h∈hs,0≤h
 hi:∀ h∈hs,h≤99
structure Ls (hs:List Int) (ls:List (Int×Int)):Prop where
 nd:ls.Nodup
 ok:∀ p∈ls,p.1∈hs∧p.2∈hs∧p.1<p.2
 le:ls.length≤66
def Adj (ls:List (Int×Int)) (x y:Int):Prop:=(x,y)∈ls∨(y,x)∈ls
theorem XE {as:List Int}(h:as.Pairwise (· < ·)):as.Nodup:=h.imp fun {a b} z=>by omega
theorem zhR:∀ {as bs:List Int},as.Nodup→(∀ x∈as,x∈bs)→as.length≤bs.length
 |[],_,_,_=>Nat.zero_le _
 |a::as,bs,hn,hs=>by
  rw[List.nodup_cons] at hn
  have ha:=hs a List.mem_cons_self
  have ih:=zhR (as:=as) (bs:=bs.erase a) hn.2 fun x hx=>by
   have ne:x≠a:=fun z=>hn.1 (by rw[← z];exact hx)
   exact(List.mem_erase_of_ne ne).mpr (hs x (List.mem_cons_of_mem _ hx))
  rw[List.length_erase_of_mem ha] at ih
  have:=List.length_pos_of_mem ha
  rw[List.length_cons];omega
noncomputable def nbs (ls:List (Int×Int)) (h:Int):List Int:=ls.flatMap fun p=>(if p.1=h then[p.2] else[])++if p.2=h then[p.1] else[]
theorem mem_nbs {ls:List (Int×Int)}{h x:Int}:x∈nbs ls h↔Adj ls h x:=by
 unfold nbs Adj
 rw[List.mem_flatMap]
 constructor
 ·rintro⟨⟨u,v⟩,hp,hx⟩
  dsimp only at hx
  rw[List.mem_append] at hx
  rcases hx with hx | hx
  ·split at hx
   ·rename_i e;subst e
    rw[List.mem_singleton] at hx;subst hx;exact .inl hp
   ·cases hx
  ·split at hx
   ·rename_i e;subst e
    rw[List.mem_singleton] at hx;subst hx;exact .inr hp
   ·cases hx
 ·rintro(h1 | h1)
  ·exact⟨_,h1,by simp⟩
  ·exact⟨_,h1,by simp⟩
theorem YL {h:Int}:∀ {ls:List (Int×Int)},(nbs ls h).length≤2*ls.length
 |[]=>Nat.le_refl _
 |p::ls=>by
  have ih:=YL (h:=h) (ls:=ls)
  unfold nbs at ih ⊢
  rw[List.flatMap_cons,List.length_append,List.length_append,List.length_cons]
  have h1:(if p.1=h then[p.2] else[]).length≤1:=by split<;>simp
  have h2:(if p.2=h then[p.1] else[]).length≤1:=by split<;>simp
  omega
theorem Wc {ls:List (Int×Int)}{p:Int×Int}{h:Int}:nbs (ls++[p]) h=nbs ls h++((if p.1=h then[p.2] else[])++if p.2=h then[p.1] else[]):=by
 unfold nbs
 rw[List.flatMap_append,List.flatMap_cons,List.flatMap_nil,List.append_nil]
theorem Wa {ls:List (Int×Int)}{p:Int×Int}{i:Nat}{h:Int}(e:ls[i]?=some p):nbs (ls.take (i+1)) h=nbs (ls.take i) h++((if p.1=h then[p.2] else[])++if p.2=h then[p.1] else[]):=by
 rw[List.take_add_one,e]
 exact Wc
end K04

namespace K04
open PySem L2
noncomputable def top (i:Nat):Stmt:=PySem.Challenge.pw_beatless_k23_runs_by_pieces.main.body.getD i (.Pass ⟨0,0,0,0⟩)
abbrev ZR:Stmt:=top 2
abbrev ZQ:Stmt:=top 3
abbrev ZP:Stmt:=top 4
abbrev ZO:Stmt:=top 5
abbrev ZN:Stmt:=top 6
abbrev ZM:Stmt:=top 7
abbrev ZL:Stmt:=top 21
abbrev ZK:Stmt:=top 29
abbrev ZJ:Stmt:=top 30
abbrev ZI:Stmt:=top 31
abbrev ZH:Stmt:=top 32
abbrev ZG:Stmt:=top 33
abbrev uP:Stmt:=top 34
abbrev ZF:Stmt:=top 39
abbrev ZE:Stmt:=top 40
abbrev ZD:Stmt:=top 41
abbrev ZC:Stmt:=top 42
abbrev ZB:Stmt:=top 45
abbrev ZA:Stmt:=top 46
abbrev uN:Stmt:=top 47
abbrev Zz:Stmt:=top 48
abbrev Zy:Stmt:=top 49
abbrev Zx:Stmt:=top 50
abbrev Zw:Stmt:=top 51
abbrev Zv:Stmt:=top 52
abbrev Zu:Stmt:=top 53
abbrev Ye:Stmt:=top 54
abbrev Yd:Stmt:=top 55
abbrev Yc:Stmt:=top 56
abbrev Yb:Stmt:=top 57
abbrev Ya:Stmt:=top 58
abbrev Z9:Stmt:=top 59
abbrev uS:Stmt:=top 60
abbrev Z8:Stmt:=top 61
abbrev uR:Stmt:=top 62
abbrev Z7:Stmt:=inClass (top 10) 0
abbrev Z6:Stmt:=inClass (top 10) 1
abbrev Z5:Stmt:=inClass (top 10) 3
abbrev Z4:Stmt:=inClass (top 11) 0
abbrev Z3:Stmt:=inClass (top 11) 1
abbrev Z2:Stmt:=inClass (top 11) 3
abbrev Z1:Stmt:=inClass (top 12) 0
abbrev Z0:Stmt:=inClass (top 12) 1
abbrev ZZ:Stmt:=inClass (top 12) 3
abbrev ZY:Stmt:=inClass (top 13) 0
abbrev ZX:Stmt:=inClass (top 13) 1
abbrev ZW:Stmt:=inClass (top 13) 3
abbrev ZV:Stmt:=inClass (top 14) 0
abbrev ZU:Stmt:=inClass (top 14) 1
abbrev ZT:Stmt:=inClass (top 14) 3
abbrev ZS:Stmt:=inClass (top 35) 0
abbrev uQ:Stmt:=inClass (top 35) 1
abbrev xF:Stmt:=inClass (top 35) 2
abbrev wf:Stmt:=inClass (top 35) 3
abbrev vc:Stmt:=inClass (top 43) 0
abbrev vb:Stmt:=inClass (top 43) 1
abbrev uj:Stmt:=inClass (top 43) 2
abbrev va:Stmt:=inClass (top 43) 3
abbrev w8:Stmt:=inClass (top 43) 5
theorem zl9:FnScope ["web", "program"] ["web", "program"] (defScope ZR):=⟨rfl,rfl,rfl,by decide +kernel,rfl,by decide +kernel,by decide +kernel⟩
theorem sc_qb:FnScope ["web", "program", "worths", "turn", "heard", "hand", "near", "other", "number"] ["web", "program", "worths", "turn"] (defScope ZQ):=⟨rfl,rfl,rfl,by decide +kernel,rfl,by decide +kernel,by decide +kernel⟩
theorem sc_qc:FnScope ["web", "program", "worths", "turn", "heard", "found", "hand", "lines", "numbers"] ["web", "program", "worths", "turn", "heard"] (defScope ZP):=⟨rfl,rfl,rfl,by decide +kernel,rfl,by decide +kernel,by decide +kernel⟩
theorem sc_qd:FnScope ["pieces", "program", "last", "worths", "heard", "web", "rounds", "first", "turn"] ["pieces", "program"] (defScope ZO):=⟨rfl,rfl,rfl,by decide +kernel,rfl,by decide +kernel,by decide +kernel⟩
theorem zl8:FnScope ["pieces", "program"] ["pieces", "program"] (defScope ZN):=⟨rfl,rfl,rfl,by decide +kernel,rfl,by decide +kernel,by decide +kernel⟩
theorem zl7:FnScope ["pieces", "program"] ["pieces", "program"] (defScope ZM):=⟨rfl,rfl,rfl,by decide +kernel,rfl,by decide +kernel,by decide +kernel⟩
theorem zfw:FnScope ["value"] ["value"] (defScope ZL):=⟨rfl,rfl,rfl,by decide +kernel,rfl,by decide +kernel,by decide +kernel⟩
theorem zl6:FnScope ["value"] ["value"] (defScope ZK):=⟨rfl,rfl,rfl,by decide +kernel,rfl,by decide +kernel,by decide +kernel⟩
theorem zl5:FnScope ["word", "words"] ["word", "words"] (defScope ZJ):=⟨rfl,rfl,rfl,by decide +kernel,rfl,by decide +kernel,by decide +kernel⟩
theorem zl4:FnScope ["number"] ["number"] (defScope ZI):=⟨rfl,rfl,rfl,by decide +kernel,rfl,by decide +kernel,by decide +kernel⟩
theorem sc_qk:FnScope ["parts", "names", "deep", "part"] ["parts", "names", "deep"] (defScope ZH):=⟨rfl,rfl,rfl,by decide +kernel,rfl,by decide +kernel,by decide +kernel⟩
theorem zl3:FnScope ["expr", "names", "deep"] ["expr", "names", "deep"] (defScope ZG):=⟨rfl,rfl,rfl,by decide +kernel,rfl,by decide +kernel,by decide +kernel⟩
theorem zl2:FnScope ["exprs"] ["exprs"] (defScope uP):=⟨rfl,rfl,rfl,by decide +kernel,rfl,by decide +kernel,by decide +kernel⟩
theorem sc_qn:FnScope ["hands", "ahead", "hand"] ["hands"] (defScope ZF):=⟨rfl,rfl,rfl,by decide +kernel,rfl,by decide +kernel,by decide +kernel⟩
theorem zl1:FnScope ["line", "hands"] ["line", "hands"] (defScope ZE):=⟨rfl,rfl,rfl,by decide +kernel,rfl,by decide +kernel,by decide +kernel⟩
theorem sc_qp:FnScope ["lines", "hands", "seen", "line"] ["lines", "hands"] (defScope ZD):=⟨rfl,rfl,rfl,by decide +kernel,rfl,by decide +kernel,by decide +kernel⟩
theorem sc_qq:FnScope ["hands", "lines", "near", "hand", "one", "other"] ["hands", "lines"] (defScope ZC):=⟨rfl,rfl,rfl,by decide +kernel,rfl,by decide +kernel,by decide +kernel⟩
theorem zl0:FnScope ["_law_script", "_law_k"] ["_law_script", "_law_k"] (defScope ZB):=⟨rfl,rfl,rfl,by decide +kernel,rfl,by decide +kernel,by decide +kernel⟩
theorem sc_qs:FnScope ["_law_cell", "_law_many", "_law_found", "_law_rest", "_law_number", "_law_k", "_law_mixed"] ["_law_cell", "_law_many"] (defScope ZA):=⟨rfl,rfl,rfl,by decide +kernel,rfl,by decide +kernel,by decide +kernel⟩
theorem zlZ:FnScope ["_law_xs", "_law_size"] ["_law_xs", "_law_size"] (defScope uN):=⟨rfl,rfl,rfl,by decide +kernel,rfl,by decide +kernel,by decide +kernel⟩
theorem sc_qu:FnScope ["_law_xs", "_law_most", "_law_hand", "_law_found", "_law_k"] ["_law_xs", "_law_most"] (defScope Zz):=⟨rfl,rfl,rfl,by decide +kernel,rfl,by decide +kernel,by decide +kernel⟩
theorem sc_qv:FnScope ["_law_xs", "_law_hands_here", "_law_way", "_law_found", "_law_j", "_law_k", "_law_near_here", "_law_draw", "_law_at"] ["_law_xs", "_law_hands_here"] (defScope Zy):=⟨rfl,rfl,rfl,by decide +kernel,rfl,by decide +kernel,by decide +kernel⟩
theorem sc_qw:FnScope ["_law_lines_here", "_law_hand", "_law_found"] ["_law_lines_here", "_law_hand"] (defScope Zx):=⟨rfl,rfl,rfl,by decide +kernel,rfl,by decide +kernel,by decide +kernel⟩
theorem sc_qx:FnScope ["_law_xs", "_law_names", "_law_deep", "_law_way", "_law_word"] ["_law_xs", "_law_names", "_law_deep"] (defScope Zw):=⟨rfl,rfl,rfl,by decide +kernel,rfl,by decide +kernel,by decide +kernel⟩
theorem sc_qy:FnScope ["_law_cell", "_law_xs", "_law_first", "_law_send", "_law_when"] ["_law_cell"] (defScope Zv):=⟨rfl,rfl,rfl,by decide +kernel,rfl,by decide +kernel,by decide +kernel⟩
theorem zlY:FnScope [] [] (defScope Zu):=⟨rfl,rfl,rfl,by decide +kernel,rfl,by decide +kernel,by decide +kernel⟩
theorem zmr:FnScope ["_law_told"] ["_law_told"] (defScope Ye):=⟨rfl,rfl,rfl,by decide +kernel,rfl,by decide +kernel,by decide +kernel⟩
theorem zmq:FnScope ["_law_program_here"] ["_law_program_here"] (defScope Yd):=⟨rfl,rfl,rfl,by decide +kernel,rfl,by decide +kernel,by decide +kernel⟩
theorem sc_qC:FnScope ["_law_told", "_law_names", "_law_one", "_law_other"] ["_law_told", "_law_names"] (defScope Yc):=⟨rfl,rfl,rfl,by decide +kernel,rfl,by decide +kernel,by decide +kernel⟩
theorem sc_qD:FnScope ["_law_hands_here", "_law_lines_here", "_law_program_here", "_law_worths", "_law_turn", "_law_found", "_law_hand", "_law_near_here", "_law_other", "_law_names"] ["_law_hands_here", "_law_lines_here", "_law_program_here", "_law_worths", "_law_turn"] (defScope Yb):=⟨rfl,rfl,rfl,by decide +kernel,rfl,by decide +kernel,by decide +kernel⟩
theorem sc_qE:FnScope ["_law_hands_here", "_law_lines_here", "_law_program_here", "_law_worths", "_law_turn", "_law_heard_here", "_law_found", "_law_hand", "_law_some", "_law_names"] ["_law_hands_here", "_law_lines_here", "_law_program_here", "_law_worths", "_law_turn", "_law_heard_here"] (defScope Ya):=⟨rfl,rfl,rfl,by decide +kernel,rfl,by decide +kernel,by decide +kernel⟩
theorem sc_qF:FnScope ["_law_pieces_here", "_law_program_here", "_law_hands_here", "_law_lines_here", "_law_many", "_law_last", "_law_hand", "_law_worths", "_law_told", "_law_step"] ["_law_pieces_here", "_law_program_here"] (defScope Z9):=⟨rfl,rfl,rfl,by decide +kernel,rfl,by decide +kernel,by decide +kernel⟩
theorem sc_qG:FnScope ["_law_xs", "_law_hands_here", "_law_some"] ["_law_xs", "_law_hands_here"] (defScope uS):=⟨rfl,rfl,rfl,by decide +kernel,rfl,by decide +kernel,by decide +kernel⟩
theorem sc_qH:FnScope ["_law_script", "_law_at", "_law_most", "_law_xs", "_law_hands_here", "_law_pieces_here", "_law_cell", "_law_ys", "_law_some"] ["_law_script", "_law_at", "_law_most"] (defScope Z8):=⟨rfl,rfl,rfl,by decide +kernel,rfl,by decide +kernel,by decide +kernel⟩
theorem sc_qI:FnScope ["_law_script", "_law_pieces_here", "_law_program_here", "_law_handed", "_law_kept", "_law_made_here", "_law_due", "_law_turn", "_law_worths", "_law_heard_here", "_law_told"] ["_law_script"] (defScope uR):=⟨rfl,rfl,rfl,by decide +kernel,rfl,by decide +kernel,by decide +kernel⟩
theorem zmp:FnScope ["self", "value"] ["self", "value"] (defScope Z7):=⟨rfl,rfl,rfl,by decide +kernel,rfl,by decide +kernel,by decide +kernel⟩
theorem zmo:FnScope ["self", "worths"] ["self", "worths"] (defScope Z6):=⟨rfl,rfl,rfl,by decide +kernel,rfl,by decide +kernel,by decide +kernel⟩
theorem zmn:FnScope ["self"] ["self"] (defScope Z5):=⟨rfl,rfl,rfl,by decide +kernel,rfl,by decide +kernel,by decide +kernel⟩
theorem zmm:FnScope ["self", "word"] ["self", "word"] (defScope Z4):=⟨rfl,rfl,rfl,by decide +kernel,rfl,by decide +kernel,by decide +kernel⟩
theorem zml:FnScope ["self", "worths"] ["self", "worths"] (defScope Z3):=⟨rfl,rfl,rfl,by decide +kernel,rfl,by decide +kernel,by decide +kernel⟩
theorem zmk:FnScope ["self"] ["self"] (defScope Z2):=⟨rfl,rfl,rfl,by decide +kernel,rfl,by decide +kernel,by decide +kernel⟩
theorem zmj:FnScope ["self", "word", "one", "other"] ["self", "word", "one", "other"] (defScope Z1):=⟨rfl,rfl,rfl,by decide +kernel,rfl,by decide +kernel,by decide +kernel⟩
theorem sc_qQ:FnScope ["self", "worths", "one", "other"] ["self", "worths"] (defScope Z0):=⟨rfl,rfl,rfl,by decide +kernel,rfl,by decide +kernel,by decide +kernel⟩
theorem zmi:FnScope ["self"] ["self"] (defScope ZZ):=⟨rfl,rfl,rfl,by decide +kernel,rfl,by decide +kernel,by decide +kernel⟩
theorem zmh:FnScope ["self", "inner", "number"] ["self", "inner", "number"] (defScope ZY):=⟨rfl,rfl,rfl,by decide +kernel,rfl,by decide +kernel,by decide +kernel⟩
theorem zmg:FnScope ["self", "worths"] ["self", "worths"] (defScope ZX):=⟨rfl,rfl,rfl,by decide +kernel,rfl,by decide +kernel,by decide +kernel⟩
theorem zmf:FnScope ["self"] ["self"] (defScope ZW):=⟨rfl,rfl,rfl,by decide +kernel,rfl,by decide +kernel,by decide +kernel⟩
theorem zme:FnScope ["self", "one", "other", "third", "fourth"] ["self", "one", "other", "third", "fourth"] (defScope ZV):=⟨rfl,rfl,rfl,by decide +kernel,rfl,by decide +kernel,by decide +kernel⟩
theorem zmd:FnScope ["self", "worths"] ["self", "worths"] (defScope ZU):=⟨rfl,rfl,rfl,by decide +kernel,rfl,by decide +kernel,by decide +kernel⟩
theorem zmc:FnScope ["self"] ["self"] (defScope ZT):=⟨rfl,rfl,rfl,by decide +kernel,rfl,by decide +kernel,by decide +kernel⟩
theorem zmb:FnScope ["self", "start", "send", "when", "renew"] ["self", "start", "send", "when", "renew"] (defScope ZS):=⟨rfl,rfl,rfl,by decide +kernel,rfl,by decide +kernel,by decide +kernel⟩
theorem zma:FnScope ["self", "hand", "lines"] ["self", "hand", "lines"] (defScope uQ):=⟨rfl,rfl,rfl,by decide +kernel,rfl,by decide +kernel,by decide +kernel⟩
theorem sc_qa0:FnScope ["self", "worth", "hand", "turn", "lines", "other", "worths"] ["self", "worth", "hand", "turn", "lines", "other"] (defScope xF):=⟨rfl,rfl,rfl,by decide +kernel,rfl,by decide +kernel,by decide +kernel⟩
theorem sc_qa1:FnScope ["self", "worth", "hand", "turn", "lines", "heard", "worths"] ["self", "worth", "hand", "turn", "lines", "heard"] (defScope wf):=⟨rfl,rfl,rfl,by decide +kernel,rfl,by decide +kernel,by decide +kernel⟩
theorem zfA:FnScope ["self", "hands", "lines"] ["self", "hands", "lines"] (defScope vc):=⟨rfl,rfl,rfl,by decide +kernel,rfl,by decide +kernel,by decide +kernel⟩
theorem zfz:FnScope ["self"] ["self"] (defScope vb):=⟨rfl,rfl,rfl,by decide +kernel,rfl,by decide +kernel,by decide +kernel⟩
theorem zfy:FnScope ["self", "hand"] ["self", "hand"] (defScope va):=⟨rfl,rfl,rfl,by decide +kernel,rfl,by decide +kernel,by decide +kernel⟩
theorem zfx:FnScope ["self", "hand"] ["self", "hand"] (defScope w8):=⟨rfl,rfl,rfl,by decide +kernel,rfl,by decide +kernel,by decide +kernel⟩
set_option genInjectivity false in
set_option genSizeOf false in
structure Ad where
 f_qa:Addr
 d_qa:FuncData
 f_qb:Addr
 d_qb:FuncData
 f_qc:Addr
 d_qc:FuncData
 f_qd:Addr
 d_qd:FuncData
 f_qe:Addr
 d_qe:FuncData
 f_qf:Addr
 d_qf:FuncData
 f_qg:Addr
 d_qg:FuncData
 f_qh:Addr
 d_qh:FuncData
 f_qi:Addr
 d_qi:FuncData
 f_qj:Addr
 d_qj:FuncData
 f_qk:Addr
 d_qk:FuncData
 f_ql:Addr
 d_ql:FuncData
 f_qm:Addr
 d_qm:FuncData
 f_qn:Addr
 d_qn:FuncData
 f_qo:Addr
 d_qo:FuncData
 f_qp:Addr
 d_qp:FuncData
 f_qq:Addr
 d_qq:FuncData
 f_qr:Addr
 d_qr:FuncData
 f_qs:Addr
 d_qs:FuncData
 f_qt:Addr
 d_qt:FuncData
 f_qu:Addr
 d_qu:FuncData
 f_qv:Addr
 d_qv:FuncData
 f_qw:Addr
 d_qw:FuncData
 f_qx:Addr
 d_qx:FuncData
 f_qy:Addr
 d_qy:FuncData
 f_qz:Addr
 d_qz:FuncData
 f_qA:Addr
 d_qA:FuncData
 f_qB:Addr
 d_qB:FuncData
 f_qC:Addr
 d_qC:FuncData
 f_qD:Addr
 d_qD:FuncData
 f_qE:Addr
 d_qE:FuncData
 f_qF:Addr
 d_qF:FuncData
 f_qG:Addr
 d_qG:FuncData
 f_qH:Addr
 d_qH:FuncData
 f_qI:Addr
 d_qI:FuncData
 f_qJ:Addr
 d_qJ:FuncData
 f_qK:Addr
 d_qK:FuncData
 f_qL:Addr
 d_qL:FuncData
 f_qM:Addr
 d_qM:FuncData
 f_qN:Addr
 d_qN:FuncData
 f_qO:Addr
 d_qO:FuncData
 f_qP:Addr
 d_qP:FuncData
 f_qQ:Addr
 d_qQ:FuncData
 f_qR:Addr
 d_qR:FuncData
 f_qS:Addr
 d_qS:FuncData
 f_qT:Addr
 d_qT:FuncData
 f_qU:Addr
 d_qU:FuncData
 f_qV:Addr
 d_qV:FuncData
 f_qW:Addr
 d_qW:FuncData
 f_qX:Addr
 d_qX:FuncData
 f_qY:Addr
 d_qY:FuncData
 f_qZ:Addr
 d_qZ:FuncData
 f_qa0:Addr
 d_qa0:FuncData
 f_qa1:Addr
 d_qa1:FuncData
 f_qa2:Addr
 d_qa2:FuncData
 f_qa3:Addr
 d_qa3:FuncData
 f_qa4:Addr
 d_qa4:FuncData
 f_qa5:Addr
 d_qa5:FuncData
 f_qa6:Addr
 d_qa6:FuncData
 c_Num:Addr
 c_Name:Addr
 c_Two:Addr
 c_Mod:Addr
 c_Less:Addr
 c_Program:Addr
 c_Web:Addr
 t_START_NAMES:Addr
 t_SEND_NAMES:Addr
 t_RENEW_NAMES:Addr
 t_TWO_WORDS:Addr
 t_MOST_WORDS:Tok
 t_MOST_DEEP:Tok
 t_MOST_HANDS:Tok
 t_LAST_HAND:Tok
structure Txt (w:World) (K:PySem.W.Frag) (mg:Str→Option Value) (a:Ad):Prop where
 n_len:mg "len" = none
 n_int:mg "int" = none
 n_min:mg "min" = none
 n_max:mg "max" = none
 n_range:mg "range" = none
 n_isinstance:mg "isinstance" = none
 n_list:mg "list" = none
 n_dict:mg "dict" = none
 n_abs:mg "abs" = none
 n_sorted:mg "sorted" = none
 n_str:mg "str" = none
 n_sum:mg "sum" = none
 n_bool:mg "bool" = none
 n_tuple:mg "tuple" = none
 n_ValueError:mg "ValueError" = none
 F_qa:Fun K "first_worths" "first_worths" ZR a.f_qa a.d_qa
 b_qa:Binds K a.d_qa ["web", "program"] []
 g_qa:mg "first_worths" = some (.ref a.f_qa)
 F_qb:Fun K "heard_in" "heard_in" ZQ a.f_qb a.d_qb
 b_qb:Binds K a.d_qb ["web", "program", "worths", "turn"] []
 g_qb:mg "heard_in" = some (.ref a.f_qb)
 F_qc:Fun K "worths_behind" "worths_behind" ZP a.f_qc a.d_qc
 b_qc:Binds K a.d_qc ["web", "program", "worths", "turn", "heard"] []
 g_qc:mg "worths_behind" = some (.ref a.f_qc)
 F_qd:Fun K "run_pieces" "run_pieces" ZO a.f_qd a.d_qd
 b_qd:Binds K a.d_qd ["pieces", "program"] []
 g_qd:mg "run_pieces" = some (.ref a.f_qd)
 F_qe:Fun K "worths_by_pieces" "worths_by_pieces" ZN a.f_qe a.d_qe
 b_qe:Binds K a.d_qe ["pieces", "program"] []
 g_qe:mg "worths_by_pieces" = some (.ref a.f_qe)
 F_qf:Fun K "heard_by_pieces" "heard_by_pieces" ZM a.f_qf a.d_qf
 b_qf:Binds K a.d_qf ["pieces", "program"] []
 g_qf:mg "heard_by_pieces" = some (.ref a.f_qf)
 F_qg:Fun K "is_whole" "is_whole" ZL a.f_qg a.d_qg
 b_qg:Binds K a.d_qg ["value"] []
 g_qg:mg "is_whole" = some (.ref a.f_qg)
 F_qh:Fun K "is_short_number" "is_short_number" ZK a.f_qh a.d_qh
 b_qh:Binds K a.d_qh ["value"] []
 g_qh:mg "is_short_number" = some (.ref a.f_qh)
 F_qi:Fun K "is_word_of" "is_word_of" ZJ a.f_qi a.d_qi
 b_qi:Binds K a.d_qi ["word", "words"] []
 g_qi:mg "is_word_of" = some (.ref a.f_qi)
 F_qj:Fun K "is_divisor" "is_divisor" ZI a.f_qj a.d_qj
 b_qj:Binds K a.d_qj ["number"] []
 g_qj:mg "is_divisor" = some (.ref a.f_qj)
 F_qk:Fun K "are_sound" "are_sound" ZH a.f_qk a.d_qk
 b_qk:Binds K a.d_qk ["parts", "names", "deep"] []
 g_qk:mg "are_sound" = some (.ref a.f_qk)
 F_ql:Fun K "is_sound" "is_sound" ZG a.f_ql a.d_ql
 b_ql:Binds K a.d_ql ["expr", "names", "deep"] []
 g_ql:mg "is_sound" = some (.ref a.f_ql)
 F_qm:Fun K "count_words" "count_words" uP a.f_qm a.d_qm
 b_qm:Binds K a.d_qm ["exprs"] []
 g_qm:mg "count_words" = some (.ref a.f_qm)
 F_qn:Fun K "are_hands" "are_hands" ZF a.f_qn a.d_qn
 b_qn:Binds K a.d_qn ["hands"] []
 g_qn:mg "are_hands" = some (.ref a.f_qn)
 F_qo:Fun K "is_line" "is_line" ZE a.f_qo a.d_qo
 b_qo:Binds K a.d_qo ["line", "hands"] []
 g_qo:mg "is_line" = some (.ref a.f_qo)
 F_qp:Fun K "are_lines" "are_lines" ZD a.f_qp a.d_qp
 b_qp:Binds K a.d_qp ["lines", "hands"] []
 g_qp:mg "are_lines" = some (.ref a.f_qp)
 F_qq:Fun K "near_by_hand" "near_by_hand" ZC a.f_qq a.d_qq
 b_qq:Binds K a.d_qq ["hands", "lines"] []
 g_qq:mg "near_by_hand" = some (.ref a.f_qq)
 F_qr:Fun K "_law_cell_at" "_law_cell_at" ZB a.f_qr a.d_qr
 b_qr:Binds K a.d_qr ["_law_script", "_law_k"] []
 g_qr:mg "_law_cell_at" = some (.ref a.f_qr)
 F_qs:Fun K "_law_draws" "_law_draws" ZA a.f_qs a.d_qs
 b_qs:Binds K a.d_qs ["_law_cell", "_law_many"] []
 g_qs:mg "_law_draws" = some (.ref a.f_qs)
 F_qt:Fun K "_law_take" "_law_take" uN a.f_qt a.d_qt
 b_qt:Binds K a.d_qt ["_law_xs", "_law_size"] []
 g_qt:mg "_law_take" = some (.ref a.f_qt)
 F_qu:Fun K "_law_hands" "_law_hands" Zz a.f_qu a.d_qu
 b_qu:Binds K a.d_qu ["_law_xs", "_law_most"] []
 g_qu:mg "_law_hands" = some (.ref a.f_qu)
 F_qv:Fun K "_law_lines" "_law_lines" Zy a.f_qv a.d_qv
 b_qv:Binds K a.d_qv ["_law_xs", "_law_hands_here"] []
 g_qv:mg "_law_lines" = some (.ref a.f_qv)
 F_qw:Fun K "_law_near" "_law_near" Zx a.f_qw a.d_qw
 b_qw:Binds K a.d_qw ["_law_lines_here", "_law_hand"] []
 g_qw:mg "_law_near" = some (.ref a.f_qw)
 F_qx:Fun K "_law_expr" "_law_expr" Zw a.f_qx a.d_qx
 b_qx:Binds K a.d_qx ["_law_xs", "_law_names", "_law_deep"] []
 g_qx:mg "_law_expr" = some (.ref a.f_qx)
 F_qy:Fun K "_law_program" "_law_program" Zv a.f_qy a.d_qy
 b_qy:Binds K a.d_qy ["_law_cell"] []
 g_qy:mg "_law_program" = some (.ref a.f_qy)
 F_qz:Fun K "_law_heard_names" "_law_heard_names" Zu a.f_qz a.d_qz
 b_qz:Binds K a.d_qz [] []
 g_qz:mg "_law_heard_names" = some (.ref a.f_qz)
 F_qA:Fun K "_law_made" "_law_made" Ye a.f_qA a.d_qA
 b_qA:Binds K a.d_qA ["_law_told"] []
 g_qA:mg "_law_made" = some (.ref a.f_qA)
 F_qB:Fun K "_law_program_made" "_law_program_made" Yd a.f_qB a.d_qB
 b_qB:Binds K a.d_qB ["_law_program_here"] []
 g_qB:mg "_law_program_made" = some (.ref a.f_qB)
 F_qC:Fun K "_law_value" "_law_value" Yc a.f_qC a.d_qC
 b_qC:Binds K a.d_qC ["_law_told", "_law_names"] []
 g_qC:mg "_law_value" = some (.ref a.f_qC)
 F_qD:Fun K "_law_heard" "_law_heard" Yb a.f_qD a.d_qD
 b_qD:Binds K a.d_qD ["_law_hands_here", "_law_lines_here", "_law_program_here", "_law_worths", "_law_turn"] []
 g_qD:mg "_law_heard" = some (.ref a.f_qD)
 F_qE:Fun K "_law_behind" "_law_behind" Ya a.f_qE a.d_qE
 b_qE:Binds K a.d_qE ["_law_hands_here", "_law_lines_here", "_law_program_here", "_law_worths", "_law_turn", "_law_heard_here"] []
 g_qE:mg "_law_behind" = some (.ref a.f_qE)
 F_qF:Fun K "_law_run" "_law_run" Z9 a.f_qF a.d_qF
 b_qF:Binds K a.d_qF ["_law_pieces_here", "_law_program_here"] []
 g_qF:mg "_law_run" = some (.ref a.f_qF)
 F_qG:Fun K "_law_part" "_law_part" uS a.f_qG a.d_qG
 b_qG:Binds K a.d_qG ["_law_xs", "_law_hands_here"] []
 g_qG:mg "_law_part" = some (.ref a.f_qG)
 F_qH:Fun K "_law_pieces" "_law_pieces" Z8 a.f_qH a.d_qH
 b_qH:Binds K a.d_qH ["_law_script", "_law_at", "_law_most"] []
 g_qH:mg "_law_pieces" = some (.ref a.f_qH)
 F_qI:Fun K "law" "law" uR a.f_qI a.d_qI
 b_qI:Binds K a.d_qI ["_law_script"] []
 b0_qI:∀ (s:Shared) (u:Value),BindsTo s a.d_qI ⟨[u],[]⟩ [("_law_script",u)]
 g_qI:mg "law" = some (.ref a.f_qI)
 F_qJ:Fun K "__init__" "Num.__init__" Z7 a.f_qJ a.d_qJ
 b_qJ:Binds K a.d_qJ ["self", "value"] []
 F_qK:Fun K "reckon" "Num.reckon" Z6 a.f_qK a.d_qK
 b_qK:Binds K a.d_qK ["self", "worths"] []
 mt_qK:Meth K a.c_Num "reckon" a.f_qK
 F_qL:Fun K "words" "Num.words" Z5 a.f_qL a.d_qL
 b_qL:Binds K a.d_qL ["self"] []
 mt_qL:Meth K a.c_Num "words" a.f_qL
 F_qM:Fun K "__init__" "Name.__init__" Z4 a.f_qM a.d_qM
 b_qM:Binds K a.d_qM ["self", "word"] []
 F_qN:Fun K "reckon" "Name.reckon" Z3 a.f_qN a.d_qN
 b_qN:Binds K a.d_qN ["self", "worths"] []
 mt_qN:Meth K a.c_Name "reckon" a.f_qN
 F_qO:Fun K "words" "Name.words" Z2 a.f_qO a.d_qO
 b_qO:Binds K a.d_qO ["self"] []
 mt_qO:Meth K a.c_Name "words" a.f_qO
 F_qP:Fun K "__init__" "Two.__init__" Z1 a.f_qP a.d_qP
 b_qP:Binds K a.d_qP ["self", "word", "one", "other"] []
 F_qQ:Fun K "reckon" "Two.reckon" Z0 a.f_qQ a.d_qQ
 b_qQ:Binds K a.d_qQ ["self", "worths"] []
 mt_qQ:Meth K a.c_Two "reckon" a.f_qQ
 F_qR:Fun K "words" "Two.words" ZZ a.f_qR a.d_qR
 b_qR:Binds K a.d_qR ["self"] []
 mt_qR:Meth K a.c_Two "words" a.f_qR
 F_qS:Fun K "__init__" "Mod.__init__" ZY a.f_qS a.d_qS
 b_qS:Binds K a.d_qS ["self", "inner", "number"] []
 F_qT:Fun K "reckon" "Mod.reckon" ZX a.f_qT a.d_qT
 b_qT:Binds K a.d_qT ["self", "worths"] []
 mt_qT:Meth K a.c_Mod "reckon" a.f_qT
 F_qU:Fun K "words" "Mod.words" ZW a.f_qU a.d_qU
 b_qU:Binds K a.d_qU ["self"] []
 mt_qU:Meth K a.c_Mod "words" a.f_qU
 F_qV:Fun K "__init__" "Less.__init__" ZV a.f_qV a.d_qV
 b_qV:Binds K a.d_qV ["self", "one", "other", "third", "fourth"] []
 F_qW:Fun K "reckon" "Less.reckon" ZU a.f_qW a.d_qW
 b_qW:Binds K a.d_qW ["self", "worths"] []
 mt_qW:Meth K a.c_Less "reckon" a.f_qW
 F_qX:Fun K "words" "Less.words" ZT a.f_qX a.d_qX
 b_qX:Binds K a.d_qX ["self"] []
 mt_qX:Meth K a.c_Less "words" a.f_qX
 F_qY:Fun K "__init__" "Program.__init__" ZS a.f_qY a.d_qY
 b_qY:Binds K a.d_qY ["self", "start", "send", "when", "renew"] []
 F_qZ:Fun K "first_worth" "Program.first_worth" uQ a.f_qZ a.d_qZ
 b_qZ:Binds K a.d_qZ ["self", "hand", "lines"] []
 mt_qZ:Meth K a.c_Program "first_worth" a.f_qZ
 F_qa0:Fun K "word_to" "Program.word_to" xF a.f_qa0 a.d_qa0
 b_qa0:Binds K a.d_qa0 ["self", "worth", "hand", "turn", "lines", "other"] []
 mt_qa0:Meth K a.c_Program "word_to" a.f_qa0
 F_qa1:Fun K "next_worth" "Program.next_worth" wf a.f_qa1 a.d_qa1
 b_qa1:Binds K a.d_qa1 ["self", "worth", "hand", "turn", "lines", "heard"] []
 mt_qa1:Meth K a.c_Program "next_worth" a.f_qa1
 F_qa2:Fun K "__init__" "Web.__init__" vc a.f_qa2 a.d_qa2
 b_qa2:Binds K a.d_qa2 ["self", "hands", "lines"] []
 F_qa3:Fun K "hands" "Web.hands" vb a.f_qa3 a.d_qa3
 b_qa3:Binds K a.d_qa3 ["self"] []
 mt_qa3:Meth K a.c_Web "hands" a.f_qa3
 F_qa4:Fun K "lines" "Web.lines" uj a.f_qa4 a.d_qa4
 b_qa4:Binds K a.d_qa4 ["self"] []
 mt_qa4:Meth K a.c_Web "lines" a.f_qa4
 F_qa5:Fun K "has_hand" "Web.has_hand" va a.f_qa5 a.d_qa5
 b_qa5:Binds K a.d_qa5 ["self", "hand"] []
 mt_qa5:Meth K a.c_Web "has_hand" a.f_qa5
 F_qa6:Fun K "neighbours" "Web.neighbours" w8 a.f_qa6 a.d_qa6
 b_qa6:Binds K a.d_qa6 ["self", "hand"] []
 mt_qa6:Meth K a.c_Web "neighbours" a.f_qa6
 g_Num:mg "Num" = some (.ref a.c_Num)
 cl_Num:Cls K a.c_Num
 mk_Num:Mk K a.c_Num a.f_qJ
 ty_Num:∀ (H:Hp) (p dx:Addr) (fs:List (Str×V)),H p=some (.ins a.c_Num dx fs)→TyOf K H (.ref p) (.ref a.c_Num)
 na_Num_value:NoAttr K a.c_Num "value"
 g_Name:mg "Name" = some (.ref a.c_Name)
 cl_Name:Cls K a.c_Name
 mk_Name:Mk K a.c_Name a.f_qM
 ty_Name:∀ (H:Hp) (p dx:Addr) (fs:List (Str×V)),H p=some (.ins a.c_Name dx fs)→TyOf K H (.ref p) (.ref a.c_Name)
 na_Name_word:NoAttr K a.c_Name "word"
 g_Two:mg "Two" = some (.ref a.c_Two)
 cl_Two:Cls K a.c_Two
 mk_Two:Mk K a.c_Two a.f_qP
 ty_Two:∀ (H:Hp) (p dx:Addr) (fs:List (Str×V)),H p=some (.ins a.c_Two dx fs)→TyOf K H (.ref p) (.ref a.c_Two)
 na_Two_word:NoAttr K a.c_Two "word"
 na_Two_one:NoAttr K a.c_Two "one"
 na_Two_other:NoAttr K a.c_Two "other"
 g_Mod:mg "Mod" = some (.ref a.c_Mod)
 cl_Mod:Cls K a.c_Mod
 mk_Mod:Mk K a.c_Mod a.f_qS
 ty_Mod:∀ (H:Hp) (p dx:Addr) (fs:List (Str×V)),H p=some (.ins a.c_Mod dx fs)→TyOf K H (.ref p) (.ref a.c_Mod)
 na_Mod_inner:NoAttr K a.c_Mod "inner"
 na_Mod_number:NoAttr K a.c_Mod "number"
 g_Less:mg "Less" = some (.ref a.c_Less)
 cl_Less:Cls K a.c_Less
 mk_Less:Mk K a.c_Less a.f_qV
 ty_Less:∀ (H:Hp) (p dx:Addr) (fs:List (Str×V)),H p=some (.ins a.c_Less dx fs)→TyOf K H (.ref p) (.ref a.c_Less)
 na_Less_one:NoAttr K a.c_Less "one"
 na_Less_other:NoAttr K a.c_Less "other"
 na_Less_third:NoAttr K a.c_Less "third"
 na_Less_fourth:NoAttr K a.c_Less "fourth"
 g_Program:mg "Program" = some (.ref a.c_Program)
 cl_Program:Cls K a.c_Program
 mk_Program:Mk K a.c_Program a.f_qY
 ty_Program:∀ (H:Hp) (p dx:Addr) (fs:List (Str×V)),H p=some (.ins a.c_Program dx fs)→TyOf K H (.ref p) (.ref a.c_Program)
 na_Program_start:NoAttr K a.c_Program "start"
 na_Program_send:NoAttr K a.c_Program "send"
 na_Program_when:NoAttr K a.c_Program "when"
 na_Program_renew:NoAttr K a.c_Program "renew"
 g_Web:mg "Web" = some (.ref a.c_Web)
 cl_Web:Cls K a.c_Web
 mk_Web:Mk K a.c_Web a.f_qa2
 ty_Web:∀ (H:Hp) (p dx:Addr) (fs:List (Str×V)),H p=some (.ins a.c_Web dx fs)→TyOf K H (.ref p) (.ref a.c_Web)
 na_Web_own_hands:NoAttr K a.c_Web "own_hands"
 na_Web_own_lines:NoAttr K a.c_Web "own_lines"
 na_Web_near:NoAttr K a.c_Web "near"
 k_Num_Num:PySem.W.kitOne K (.ref a.c_Num) (.ref a.c_Num)=some true
 k_Name_Num:PySem.W.kitOne K (.ref a.c_Name) (.ref a.c_Num)=some false
 k_Name_Name:PySem.W.kitOne K (.ref a.c_Name) (.ref a.c_Name)=some true
 k_Two_Num:PySem.W.kitOne K (.ref a.c_Two) (.ref a.c_Num)=some false
 k_Two_Name:PySem.W.kitOne K (.ref a.c_Two) (.ref a.c_Name)=some false
 k_Two_Two:PySem.W.kitOne K (.ref a.c_Two) (.ref a.c_Two)=some true
 k_Mod_Num:PySem.W.kitOne K (.ref a.c_Mod) (.ref a.c_Num)=some false
 k_Mod_Name:PySem.W.kitOne K (.ref a.c_Mod) (.ref a.c_Name)=some false
 k_Mod_Two:PySem.W.kitOne K (.ref a.c_Mod) (.ref a.c_Two)=some false
 k_Mod_Mod:PySem.W.kitOne K (.ref a.c_Mod) (.ref a.c_Mod)=some true
 k_Less_Num:PySem.W.kitOne K (.ref a.c_Less) (.ref a.c_Num)=some false
 k_Less_Name:PySem.W.kitOne K (.ref a.c_Less) (.ref a.c_Name)=some false
 k_Less_Two:PySem.W.kitOne K (.ref a.c_Less) (.ref a.c_Two)=some false
 k_Less_Mod:PySem.W.kitOne K (.ref a.c_Less) (.ref a.c_Mod)=some false
 k_Less_Less:PySem.W.kitOne K (.ref a.c_Less) (.ref a.c_Less)=some true
 k_tint_tint:PySem.W.kitOne K (.type "int") (.type "int")=some true
 k_tint_tbool:PySem.W.kitOne K (.type "int") (.type "bool")=some false
 k_tstr_tstr:PySem.W.kitOne K (.type "str") (.type "str")=some true
 k_ttuple_ttuple:PySem.W.kitOne K (.type "tuple") (.type "tuple")=some true
 k_tint_ttuple:PySem.W.kitOne K (.type "int") (.type "tuple")=some false
 k_tstr_ttuple:PySem.W.kitOne K (.type "str") (.type "tuple")=some false
 k_tint_tstr:PySem.W.kitOne K (.type "int") (.type "str")=some false
 k_tstr_tint:PySem.W.kitOne K (.type "str") (.type "int")=some false
 k_tstr_tbool:PySem.W.kitOne K (.type "str") (.type "bool")=some false
 k_Program_Program:PySem.W.kitOne K (.ref a.c_Program) (.ref a.c_Program)=some true
 k_tNoneType_tbool:PySem.W.kitOne K (.type "NoneType") (.type "bool")=some false
 k_tlist_tlist:PySem.W.kitOne K (.type "list") (.type "list")=some true
 g_START_NAMES:mg "START_NAMES" = some (.ref a.t_START_NAMES)
 s_START_NAMES:∀ H:Hp,SqT K H a.t_START_NAMES [V.str "me",V.str "lines"]
 g_SEND_NAMES:mg "SEND_NAMES" = some (.ref a.t_SEND_NAMES)
 s_SEND_NAMES:∀ H:Hp,SqT K H a.t_SEND_NAMES [V.str "worth",V.str "me",V.str "round",V.str "lines",V.str "to"]
 g_RENEW_NAMES:mg "RENEW_NAMES" = some (.ref a.t_RENEW_NAMES)
 s_RENEW_NAMES:∀ H:Hp,SqT K H a.t_RENEW_NAMES [V.str "worth",V.str "me",V.str "round",V.str "lines",V.str "sum",V.str "least",V.str "most",V.str "count"]
 g_TWO_WORDS:mg "TWO_WORDS" = some (.ref a.t_TWO_WORDS)
 s_TWO_WORDS:∀ H:Hp,SqT K H a.t_TWO_WORDS [V.str "add",V.str "sub",V.str "min",V.str "max"]
 g_MOST_WORDS:mg "MOST_WORDS" = some (.int 60 a.t_MOST_WORDS)
 g_MOST_DEEP:mg "MOST_DEEP" = some (.int 8 a.t_MOST_DEEP)
 g_MOST_HANDS:mg "MOST_HANDS" = some (.int 12 a.t_MOST_HANDS)
 g_LAST_HAND:mg "LAST_HAND" = some (.int 99 a.t_LAST_HAND)
noncomputable def Made (a:Ad) (H:Hp):Ex→V→Prop
 |.num i,v=>∃ p dx,v=.ref p∧H p=some (.ins a.c_Num dx [("value",.int i)])
 |.name x,v=>∃ p dx,v=.ref p∧H p=some (.ins a.c_Name dx [("word",.str x)])
 |.two w e f,v=>∃ p dx u1 u2,v=.ref p∧H p=some (.ins a.c_Two dx [("word",.str w),("one",u1),("other",u2)])∧Made a H e u1∧Made a H f u2
 |.mod e n,v=>∃ p dx u1,v=.ref p∧H p=some (.ins a.c_Mod dx [("inner",u1),("number",.int n)])∧Made a H e u1
 |.less e f g h,v=>∃ p dx u1 u2 u3 u4,v=.ref p∧H p=some (.ins a.c_Less dx [("one",u1),("other",u2),("third",u3),("fourth",u4)])∧Made a H e u1∧Made a H f u2∧Made a H g u3∧Made a H h u4
theorem Made.mono {a:Ad}{H H':Hp}(k:∀ b C dx fs,H b=some (.ins C dx fs)→H' b=some (.ins C dx fs)):∀ {e:Ex}{v:V},Made a H e v→Made a H' e v
 |.num _,_,⟨p,dx,e,h⟩=>⟨p,dx,e,k _ _ _ _ h⟩
 |.name _,_,⟨p,dx,e,h⟩=>⟨p,dx,e,k _ _ _ _ h⟩
 |.two _ _ _,_,⟨p,dx,u1,u2,e,h,t1,t2⟩=>⟨p,dx,u1,u2,e,k _ _ _ _ h,t1.mono k,t2.mono k⟩
 |.mod _ _,_,⟨p,dx,u1,e,h,t1⟩=>⟨p,dx,u1,e,k _ _ _ _ h,t1.mono k⟩
 |.less _ _ _ _,_,⟨p,dx,u1,u2,u3,u4,e,h,t1,t2,t3,t4⟩=>⟨p,dx,u1,u2,u3,u4,e,k _ _ _ _ h,t1.mono k,t2.mono k,t3.mono k,t4.mono k⟩
theorem Made.same {a:Ad}{H H':Hp}(k:Same H H'){e:Ex}{v:V}(t:Made a H e v):Made a H' e v:=t.mono fun b C dx fs h=>k b _ h
section
variable {P:Program}{w:World}{K:PySem.W.Frag}{mg:Str→Option Value}{base:Heap}{a:Ad}
def zif (C:Addr) (x:Str):Sp:=fun vs H Q _=>∃ (p dx:Addr) (v:V),vs=[.ref p,v]∧H p=some (.ins C dx [])∧Q .non (upd H p (.ins C dx [(x,v)]))
def zuj (C:Addr) (x y:Str):Sp:=fun vs H Q _=>∃ (p dx:Addr) (v u:V),vs=[.ref p,v,u]∧H p=some (.ins C dx [])∧Q .non (upd H p (.ins C dx [(x,v),(y,u)]))
def zui (C:Addr) (x y z:Str):Sp:=fun vs H Q _=>∃ (p dx:Addr) (v u t:V),vs=[.ref p,v,u,t]∧H p=some (.ins C dx [])∧Q .non (upd H p (.ins C dx [(x,v),(y,u),(z,t)]))
def zuh (C:Addr) (x y z o:Str):Sp:=fun vs H Q _=>∃ (p dx:Addr) (v u t r:V),vs=[.ref p,v,u,t,r]∧H p=some (.ins C dx [])∧Q .non (upd H p (.ins C dx [(x,v),(y,u),(z,t),(o,r)]))
theorem vV (T:Txt w K mg a):FnOk P w K mg base CX0 1 a.f_qJ a.d_qJ ["self", "value"] (zif a.c_Num "value"):=by
 refine T.F_qJ.ok zmp (fun vs H Q E h=>?_) (fun cdv A outer s H vs Q E hr h=>?_)
 ·obtain⟨p,dx,v,rfl,_⟩:=h
  rfl
 ·obtain⟨p,dx,v,rfl,hp,k⟩:=h
  refine zy (w_pss_one (zK (w_pv 0) (w_pv 1) rfl)) ?_
  refine⟨_,rfl,_,rfl,p,a.c_Num,dx,_,rfl,hp,T.cl_Num,T.na_Num_value,(by show 0<1000;decide),?_⟩
  exact k
theorem vo (T:Txt w K mg a):FnOk P w K mg base CX0 1 a.f_qM a.d_qM ["self", "word"] (zif a.c_Name "word"):=by
 refine T.F_qM.ok zmm (fun vs H Q E h=>?_) (fun cdv A outer s H vs Q E hr h=>?_)
 ·obtain⟨p,dx,v,rfl,_⟩:=h
  rfl
 ·obtain⟨p,dx,v,rfl,hp,k⟩:=h
  refine zy (w_pss_one (zK (w_pv 0) (w_pv 1) rfl)) ?_
  refine⟨_,rfl,_,rfl,p,a.c_Name,dx,_,rfl,hp,T.cl_Name,T.na_Name_word,(by show 0<1000;decide),?_⟩
  exact k
theorem vU (T:Txt w K mg a):FnOk P w K mg base CX0 1 a.f_qP a.d_qP ["self", "word", "one", "other"] (zui a.c_Two "word" "one" "other"):=by
 refine T.F_qP.ok zmj (fun vs H Q E h=>?_) (fun cdv A outer s H vs Q E hr h=>?_)
 ·obtain⟨p,dx,v,u,t,rfl,_⟩:=h
  rfl
 ·obtain⟨p,dx,v,u,t,rfl,hp,k⟩:=h
  refine zy (w_pss_cons (zK (w_pv 0) (w_pv 1) rfl)
   (w_pss_cons (zK (w_pv 0) (w_pv 2) rfl)
   (w_pss_one (zK (w_pv 0) (w_pv 3) rfl)))) ?_
  refine⟨_,rfl,_,rfl,p,a.c_Two,dx,_,rfl,hp,T.cl_Two,T.na_Two_word,(by show 0<1000;decide),?_⟩
  refine⟨_,rfl,_,rfl,p,a.c_Two,dx,_,rfl,zd,T.cl_Two,T.na_Two_one,(by show 1<1000;decide),?_⟩
  refine⟨_,rfl,_,rfl,p,a.c_Two,dx,_,rfl,zd,T.cl_Two,T.na_Two_other,(by show 2<1000;decide),?_⟩
  rw[yo,yo]
  exact k
theorem vW (T:Txt w K mg a):FnOk P w K mg base CX0 1 a.f_qS a.d_qS ["self", "inner", "number"] (zuj a.c_Mod "inner" "number"):=by
 refine T.F_qS.ok zmh (fun vs H Q E h=>?_) (fun cdv A outer s H vs Q E hr h=>?_)
 ·obtain⟨p,dx,v,u,rfl,_⟩:=h
  rfl
 ·obtain⟨p,dx,v,u,rfl,hp,k⟩:=h
  refine zy (w_pss_cons (zK (w_pv 0) (w_pv 1) rfl)
   (w_pss_one (zK (w_pv 0) (w_pv 2) rfl))) ?_
  refine⟨_,rfl,_,rfl,p,a.c_Mod,dx,_,rfl,hp,T.cl_Mod,T.na_Mod_inner,(by show 0<1000;decide),?_⟩
  refine⟨_,rfl,_,rfl,p,a.c_Mod,dx,_,rfl,zd,T.cl_Mod,T.na_Mod_number,(by show 1<1000;decide),?_⟩
  rw[yo]
  exact k
theorem vq (T:Txt w K mg a):FnOk P w K mg base CX0 1 a.f_qV a.d_qV ["self", "one", "other", "third", "fourth"] (zuh a.c_Less "one" "other" "third" "fourth"):=by
 refine T.F_qV.ok zme (fun vs H Q E h=>?_) (fun cdv A outer s H vs Q E hr h=>?_)
 ·obtain⟨p,dx,v,u,t,r,rfl,_⟩:=h
  rfl
 ·obtain⟨p,dx,v,u,t,r,rfl,hp,k⟩:=h
  refine zy (w_pss_cons (zK (w_pv 0) (w_pv 1) rfl)
   (w_pss_cons (zK (w_pv 0) (w_pv 2) rfl)
   (w_pss_cons (zK (w_pv 0) (w_pv 3) rfl)
   (w_pss_one (zK (w_pv 0) (w_pv 4) rfl))))) ?_
  refine⟨_,rfl,_,rfl,p,a.c_Less,dx,_,rfl,hp,T.cl_Less,T.na_Less_one,(by show 0<1000;decide),?_⟩
  refine⟨_,rfl,_,rfl,p,a.c_Less,dx,_,rfl,zd,T.cl_Less,T.na_Less_other,(by show 1<1000;decide),?_⟩
  refine⟨_,rfl,_,rfl,p,a.c_Less,dx,_,rfl,zd,T.cl_Less,T.na_Less_third,(by show 2<1000;decide),?_⟩
  refine⟨_,rfl,_,rfl,p,a.c_Less,dx,_,rfl,zd,T.cl_Less,T.na_Less_fourth,(by show 3<1000;decide),?_⟩
  rw[yo,yo,yo]
  exact k
end
end K04

namespace K04
open PySem L2
section
variable {P:Program}{w:World}{K:PySem.W.Frag}{mg:Str→Option Value}{base:Heap}{a:Ad}
def zW (a:Ad) (n:Nat) (Kd:Ex→Prop):Sp:=fun vs H Q _=>∃ (e:Ex) (r:V) (d:Addr) (kvs:List (Key×V)) (names:List Str),vs=[r,.ref d]∧Kd e∧Made a H e r∧e.dep≤n∧e.ok names∧H d=some (.dK kvs)∧Has names kvs∧Q (.int (e.val (rho kvs))) H
abbrev Wp (e:Ex):Prop:=∃ i,e=.num i
abbrev uC (e:Ex):Prop:=∃ x,e=.name x
abbrev Wn (e:Ex):Prop:=∃ w e1 e2,e=.two w e1 e2
abbrev Wq (e:Ex):Prop:=∃ e1 n,e=.mod e1 n
abbrev uD (e:Ex):Prop:=∃ e1 e2 e3 e4,e=.less e1 e2 e3 e4
structure Reckons (P:Program) (w:World) (K:PySem.W.Frag) (mg:Str→Option Value) (base:Heap) (a:Ad) (n:Nat):Prop where
 num:FnOk P w K mg base CX0 (n+1) a.f_qK a.d_qK ["self", "worths"] (zW a n Wp)
 name:FnOk P w K mg base CX0 (n+1) a.f_qN a.d_qN ["self", "worths"] (zW a n uC)
 two:FnOk P w K mg base CX0 (n+1) a.f_qQ a.d_qQ ["self", "worths"] (zW a n Wn)
 mod:FnOk P w K mg base CX0 (n+1) a.f_qT a.d_qT ["self", "worths"] (zW a n Wq)
 less:FnOk P w K mg base CX0 (n+1) a.f_qW a.d_qW ["self", "worths"] (zW a n uD)
theorem Reckons.call {n:Nat}(R:Reckons P w K mg base a n) (T:Txt w K mg a){A:Around}(hr:Room (n+1) A){H:Hp}{e:Ex}{x:V}{d:Addr}{kvs:List (Key×V)}{names:List Str}(hM:Made a H e x) (hd:e.dep≤n) (ho:e.ok names) (h1:H d=some (.dK kvs)) (h2:Has names kvs) :
  ∃ (p C dx:Addr) (fs:List (Str×V)) (f:Addr) (fd:FuncData) (ps:List Str) (k:Nat) (sp:Sp),x=.ref p∧H p=some (.ins C dx fs)∧fs.lookup ("reckon" : Str)=none∧Cls K C∧Meth K C "reckon" f∧FnOk P w K mg base CX0 k f fd ps sp∧Room k A∧Binds K fd ps [] ∧
   ∀ Q:VK,Q (.int (e.val (rho kvs))) H→sp (x::([.ref d]++[])) H Q E0:=by
 cases e with
 |num i =>
  obtain⟨p,dx,rfl,hp⟩:=id hM
  exact⟨p,_,dx,_,_,_,_,_,_,rfl,hp,rfl,T.cl_Num,T.mt_qK,R.num,hr,T.b_qK,fun Q q=>⟨_,_,_,_,_,rfl,⟨_,rfl⟩,hM,hd,ho,h1,h2,q⟩⟩
 |name i =>
  obtain⟨p,dx,rfl,hp⟩:=id hM
  exact⟨p,_,dx,_,_,_,_,_,_,rfl,hp,rfl,T.cl_Name,T.mt_qN,R.name,hr,T.b_qN,fun Q q=>⟨_,_,_,_,_,rfl,⟨_,rfl⟩,hM,hd,ho,h1,h2,q⟩⟩
 |two i e1 e2 =>
  obtain⟨p,dx,u1,u2,rfl,hp,_⟩:=id hM
  exact⟨p,_,dx,_,_,_,_,_,_,rfl,hp,rfl,T.cl_Two,T.mt_qQ,R.two,hr,T.b_qQ,fun Q q=>⟨_,_,_,_,_,rfl,⟨_,_,_,rfl⟩,hM,hd,ho,h1,h2,q⟩⟩
 |mod e1 i =>
  obtain⟨p,dx,u1,rfl,hp,_⟩:=id hM
  exact⟨p,_,dx,_,_,_,_,_,_,rfl,hp,rfl,T.cl_Mod,T.mt_qT,R.mod,hr,T.b_qT,fun Q q=>⟨_,_,_,_,_,rfl,⟨_,_,rfl⟩,hM,hd,ho,h1,h2,q⟩⟩
 |less e1 e2 e3 e4 =>
  obtain⟨p,dx,u1,u2,u3,u4,rfl,hp,_⟩:=id hM
  exact⟨p,_,dx,_,_,_,_,_,_,rfl,hp,rfl,T.cl_Less,T.mt_qW,R.less,hr,T.b_qW,fun Q q=>⟨_,_,_,_,_,rfl,⟨_,_,_,_,rfl⟩,hM,hd,ho,h1,h2,q⟩⟩
theorem wJ (T:Txt w K mg a) (n:Nat):FnOk P w K mg base CX0 (n+1) a.f_qK a.d_qK ["self", "worths"] (zW a n Wp):=by
 refine T.F_qK.ok zmo (fun vs H Q E h=>?_) (fun cdv A outer s H vs Q E hr h=>?_)
 ·obtain⟨e,r,d,kvs,names,rfl,_⟩:=h
  rfl
 ·obtain⟨e,r,d,kvs,names,rfl,⟨i,rfl⟩,⟨p,dx,rfl,hp⟩,_,_,_,_,k⟩:=h
  refine zy (w_pss_one (zf (w_pe_fld (w_pv 0) rfl))) ?_
  exact⟨_,rfl,p,_,dx,_,_,rfl,hp,T.cl_Num,T.na_Num_value,rfl,k⟩
theorem x9 (T:Txt w K mg a) (n:Nat):FnOk P w K mg base CX0 (n+1) a.f_qN a.d_qN ["self", "worths"] (zW a n uC):=by
 refine T.F_qN.ok zml (fun vs H Q E h=>?_) (fun cdv A outer s H vs Q E hr h=>?_)
 ·obtain⟨e,r,d,kvs,names,rfl,_⟩:=h
  rfl
 ·obtain⟨e,r,d,kvs,names,rfl,⟨x,rfl⟩,⟨p,dx,rfl,hp⟩,_,ho,hd,hh,k⟩:=h
  have hu:=yH hr
  refine zy (w_pss_one (zf (zP hu (w_pv 1) (w_pe_fld (w_pv 0) rfl) (fun _ _=>rfl)))) ?_
  refine⟨_,rfl,_,rfl,p,_,dx,_,_,rfl,hp,T.cl_Name,T.na_Name_word,rfl,d,_,rfl,?_,k⟩
  have:=hh.at (show x∈names from ho)
  exact this ▸ DGet.k (k:=Sum.inr x) hd
theorem wI (T:Txt w K mg a){n:Nat}(R:Reckons P w K mg base a n):FnOk P w K mg base CX0 (n+2) a.f_qQ a.d_qQ ["self", "worths"] (zW a (n+1) Wn):=by
 refine T.F_qQ.ok sc_qQ (fun vs H Q E h=>?_) (fun cdv A outer s H vs Q E hr h=>?_)
 ·obtain⟨e,r,d,kvs,names,rfl,_⟩:=h
  rfl
 ·obtain⟨e,r,d,kvs,names,rfl,⟨wd,e1,e2,rfl⟩,⟨p,dx,u1,u2,rfl,hp,m1,m2⟩,hdep,⟨hw,o1,o2⟩,hd,hh,k⟩:=h
  have d1:e1.dep≤n:=by have:=Nat.le_max_left e1.dep e2.dep;have:max e1.dep e2.dep+1≤n+1:=hdep;omega
  have d2:e2.dep≤n:=by have:=Nat.le_max_right e1.dep e2.dep;have:max e1.dep e2.dep+1≤n+1:=hdep;omega
  refine zy (w_pss_cons (w_ps_set (i:=2) sc_qQ.nd rfl (Or.inl rfl) (w_pe_methD (w_pe_fld (w_pv 0) rfl) (w_pa_N (w_pv 1) w_pa_nil)))
   (w_pss_cons (w_ps_set (i:=3) sc_qQ.nd rfl (Or.inl rfl) (w_pe_methD (w_pe_fld (w_pv 0) rfl) (w_pa_N (w_pv 1) w_pa_nil)))
   (w_pss_cons (w_ps_if (w_pt_cmpR yd (w_pe_fld (w_pv 0) rfl) w_pe_str (zo _))
    (w_pss_one (zf (zg ye (w_pv 2) (w_pv 3))))
    zi)
   (w_pss_cons (w_ps_if (w_pt_cmpR yd (w_pe_fld (w_pv 0) rfl) w_pe_str (zo _))
    (w_pss_one (zf (zg yg (w_pv 2) (w_pv 3))))
    zi)
   (w_pss_cons (w_ps_if (w_pt_cmpR yd (w_pe_fld (w_pv 0) rfl) w_pe_str (zo _))
    (w_pss_one (zf (w_pe_callB (vC rfl) (by rfl) T.n_min bt_min (w_pa_N (w_pv 2) (w_pa_N (w_pv 3) w_pa_nil)))))
    zi)
   (w_pss_one (zf (w_pe_callB (vD rfl) (by rfl) T.n_max bt_max (w_pa_N (w_pv 2) (w_pa_N (w_pv 3) w_pa_nil)))))))))) ?_
  -- one=self.one.reckon(worths)
  refine⟨_,rfl,p,_,dx,_,_,rfl,hp,T.cl_Two,T.na_Two_one,rfl,?_⟩
  obtain⟨p1,c1,x1,f1,f2,f3,f4,f5,f6,q1,q2,q3,q4,q5,q6,q7,q8,q9⟩:=R.call T hr m1 d1 o1 hd hh
  refine⟨p1,c1,x1,f1,f2,f3,f4,f5,f6,q1,q2,q3,q4,q5,q6,q7,q8,_,rfl,q9 _ ?_⟩
  -- other=self.other.reckon(worths)
  refine⟨_,rfl,p,_,dx,_,_,rfl,hp,T.cl_Two,T.na_Two_other,rfl,?_⟩
  obtain⟨p1,c1,x1,f1,f2,f3,f4,f5,f6,q1,q2,q3,q4,q5,q6,q7,q8,q9⟩:=R.call T hr m2 d2 o2 hd hh
  refine⟨p1,c1,x1,f1,f2,f3,f4,f5,f6,q1,q2,q3,q4,q5,q6,q7,q8,_,rfl,q9 _ ?_⟩
  have k':Q (.int (if wd = "add" then e1.val (rho kvs)+e2.val (rho kvs) else if wd = "sub" then e1.val (rho kvs)-e2.val (rho kvs) else if wd = "min" then(if e2.val (rho kvs)<e1.val (rho kvs) then e2.val (rho kvs) else e1.val (rho kvs)) else(if e2.val (rho kvs)>e1.val (rho kvs) then e2.val (rho kvs) else e1.val (rho kvs)))) H:=k
  generalize e1.val (rho kvs)=x1 at k' ⊢
  generalize e2.val (rho kvs)=x2 at k' ⊢
  -- if self.word == 'add':
  refine⟨_,rfl,p,_,dx,_,_,rfl,hp,T.cl_Two,T.na_Two_word,rfl,rfl,_,rfl,?_⟩
  refine ite2 (fun q=>?_) (fun q=>?_)
  ·have q':wd = "add" := by simpa using q
   rw[if_pos q'] at k'
   exact⟨_,rfl,_,rfl,_,_,rfl,rfl,k'⟩
  have q':¬ wd = "add" := by simpa using q
  rw[if_neg q'] at k'
  refine⟨_,rfl,p,_,dx,_,_,rfl,hp,T.cl_Two,T.na_Two_word,rfl,rfl,_,rfl,?_⟩
  refine ite2 (fun q=>?_) (fun q=>?_)
  ·have q':wd = "sub" := by simpa using q
   rw[if_pos q'] at k'
   exact⟨_,rfl,_,rfl,_,_,rfl,rfl,k'⟩
  have q':¬ wd = "sub" := by simpa using q
  rw[if_neg q'] at k'
  refine⟨_,rfl,p,_,dx,_,_,rfl,hp,T.cl_Two,T.na_Two_word,rfl,rfl,_,rfl,?_⟩
  refine ite2 (fun q=>?_) (fun q=>?_)
  ·have q':wd = "min" := by simpa using q
   rw[if_pos q'] at k'
   exact⟨_,rfl,_,rfl,_,_,rfl,k'⟩
  have q':¬ wd = "min" := by simpa using q
  rw[if_neg q'] at k'
  exact⟨_,rfl,_,rfl,_,_,rfl,k'⟩
theorem wL (T:Txt w K mg a){n:Nat}(R:Reckons P w K mg base a n):FnOk P w K mg base CX0 (n+2) a.f_qT a.d_qT ["self", "worths"] (zW a (n+1) Wq):=by
 refine T.F_qT.ok zmg (fun vs H Q E h=>?_) (fun cdv A outer s H vs Q E hr h=>?_)
 ·obtain⟨e,r,d,kvs,names,rfl,_⟩:=h
  rfl
 ·obtain⟨e,r,d,kvs,names,rfl,⟨e1,i,rfl⟩,⟨p,dx,u1,rfl,hp,m1⟩,hdep,⟨⟨hi,_⟩,o1⟩,hd,hh,k⟩:=h
  have d1:e1.dep≤n:=by have:e1.dep+1≤n+1:=hdep;omega
  refine zy (w_pss_one (zf (zg yM (w_pe_methD (w_pe_fld (w_pv 0) rfl) (w_pa_N (w_pv 1) w_pa_nil)) (w_pe_fld (w_pv 0) rfl)))) ?_
  refine⟨_,rfl,p,_,dx,_,_,rfl,hp,T.cl_Mod,T.na_Mod_inner,rfl,?_⟩
  obtain⟨p1,c1,x1,f1,f2,f3,f4,f5,f6,q1,q2,q3,q4,q5,q6,q7,q8,q9⟩:=R.call T hr m1 d1 o1 hd hh
  refine⟨p1,c1,x1,f1,f2,f3,f4,f5,f6,q1,q2,q3,q4,q5,q6,q7,q8,_,rfl,q9 _ ?_⟩
  exact⟨_,rfl,p,_,dx,_,_,rfl,hp,T.cl_Mod,T.na_Mod_number,rfl,_,_,rfl,rfl,(by omega),k⟩
theorem wa (T:Txt w K mg a){n:Nat}(R:Reckons P w K mg base a n):FnOk P w K mg base CX0 (n+2) a.f_qW a.d_qW ["self", "worths"] (zW a (n+1) uD):=by
 refine T.F_qW.ok zmd (fun vs H Q E h=>?_) (fun cdv A outer s H vs Q E hr h=>?_)
 ·obtain⟨e,r,d,kvs,names,rfl,_⟩:=h
  rfl
 ·obtain⟨e,r,d,kvs,names,rfl,⟨e1,e2,e3,e4,rfl⟩,⟨p,dx,u1,u2,u3,u4,rfl,hp,m1,m2,m3,m4⟩,hdep,⟨o1,o2,o3,o4⟩,hd,hh,k⟩:=h
  have hdep:max (max e1.dep e2.dep) (max e3.dep e4.dep)+1≤n+1:=hdep
  have d1:e1.dep≤n:=by omega
  have d2:e2.dep≤n:=by omega
  have d3:e3.dep≤n:=by omega
  have d4:e4.dep≤n:=by omega
  refine zy (w_pss_cons (w_ps_if (w_pt_cmpR xJ (w_pe_methD (w_pe_fld (w_pv 0) rfl) (w_pa_N (w_pv 1) w_pa_nil)) (w_pe_methD (w_pe_fld (w_pv 0) rfl) (w_pa_N (w_pv 1) w_pa_nil)) (zo _))
    (w_pss_one (zf (w_pe_methD (w_pe_fld (w_pv 0) rfl) (w_pa_N (w_pv 1) w_pa_nil))))
    zi)
   (w_pss_one (zf (w_pe_methD (w_pe_fld (w_pv 0) rfl) (w_pa_N (w_pv 1) w_pa_nil))))) ?_
  refine⟨_,rfl,p,_,dx,_,_,rfl,hp,T.cl_Less,T.na_Less_one,rfl,?_⟩
  obtain⟨p1,c1,x1,f1,f2,f3,f4,f5,f6,q1,q2,q3,q4,q5,q6,q7,q8,q9⟩:=R.call T hr m1 d1 o1 hd hh
  refine⟨p1,c1,x1,f1,f2,f3,f4,f5,f6,q1,q2,q3,q4,q5,q6,q7,q8,_,rfl,q9 _ ?_⟩
  refine⟨_,rfl,p,_,dx,_,_,rfl,hp,T.cl_Less,T.na_Less_other,rfl,?_⟩
  obtain⟨p1,c1,x1,f1,f2,f3,f4,f5,f6,q1,q2,q3,q4,q5,q6,q7,q8,q9⟩:=R.call T hr m2 d2 o2 hd hh
  refine⟨p1,c1,x1,f1,f2,f3,f4,f5,f6,q1,q2,q3,q4,q5,q6,q7,q8,_,rfl,q9 _ ?_⟩
  have k':Q (.int (if e1.val (rho kvs)<e2.val (rho kvs) then e3.val (rho kvs) else e4.val (rho kvs))) H:=k
  refine⟨_,_,rfl,rfl,_,rfl,?_⟩
  refine ite2 (fun q=>?_) (fun q=>?_)
  ·have q':e1.val (rho kvs)<e2.val (rho kvs):=of_decide_eq_true q
   rw[if_pos q'] at k'
   refine⟨_,rfl,p,_,dx,_,_,rfl,hp,T.cl_Less,T.na_Less_third,rfl,?_⟩
   obtain⟨p1,c1,x1,f1,f2,f3,f4,f5,f6,q1,q2,q3,q4,q5,q6,q7,q8,q9⟩:=R.call T hr m3 d3 o3 hd hh
   exact⟨p1,c1,x1,f1,f2,f3,f4,f5,f6,q1,q2,q3,q4,q5,q6,q7,q8,_,rfl,q9 _ k'⟩
  ·have q':¬ e1.val (rho kvs)<e2.val (rho kvs):=fun z=>q (decide_eq_true z)
   rw[if_neg q'] at k'
   refine⟨_,rfl,p,_,dx,_,_,rfl,hp,T.cl_Less,T.na_Less_fourth,rfl,?_⟩
   obtain⟨p1,c1,x1,f1,f2,f3,f4,f5,f6,q1,q2,q3,q4,q5,q6,q7,q8,q9⟩:=R.call T hr m4 d4 o4 hd hh
   exact⟨p1,c1,x1,f1,f2,f3,f4,f5,f6,q1,q2,q3,q4,q5,q6,q7,q8,_,rfl,q9 _ k'⟩
theorem vt {f:Addr}{fd:FuncData}{ps:List Str}{Kd:Ex→Prop}{k:Nat}(hl:ps.length=2):FnOk P w K mg base CX0 k f fd ps (zW a 0 Kd) :=
 ⟨fun vs H Q E h=>by
  obtain⟨e,r,d,kvs,names,rfl,_⟩:=h
  exact hl.symm,fun A outer s H args us vs Q E _ _ _ _ h=>by
  obtain⟨e,r,d,kvs,names,_,_,_,hd,_⟩:=h
  have:=e.dep_pos
  omega⟩
theorem xi (T:Txt w K mg a):∀ n,Reckons P w K mg base a n
 |0=>⟨vt rfl,vt rfl,vt rfl,vt rfl,vt rfl⟩
 |n+1=>⟨wJ T (n+1),x9 T (n+1),wI T (xi T n),wL T (xi T n),wa T (xi T n)⟩
end
end K04

namespace K04
open PySem L2
section
variable {P:Program}{w:World}{K:PySem.W.Frag}{mg:Str→Option Value}{base:Heap}{a:Ad}
def Ve (K:PySem.W.Frag) (f:V→Bool):Sp:=fun vs H Q _=>∃ v,vs=[v]∧Lf K H v∧Q (.bl (f v)) H
theorem xL (T:Txt w K mg a):FnOk P w K mg base CX0 1 a.f_qg a.d_qg ["value"] (Ve K whole):=by
 refine T.F_qg.ok zfw (fun vs H Q E h=>?_) (fun cdv A outer s H vs Q E hr h=>?_)
 ·obtain⟨v,rfl,_⟩:=h
  rfl
 ·obtain⟨v,rfl,⟨t,ty,k1,k2,_⟩,k⟩:=h
  refine zy (w_pss_one (zf (ym (w_pe_callB zQ (by rfl) T.n_isinstance zv (w_pa_N (w_pv 0) (w_pa_N (wv T.n_int uJ) w_pa_nil))) (yi (XB (w_pe_callB zQ (by rfl) T.n_isinstance zv (w_pa_N (w_pv 0) (w_pa_N (wv T.n_bool Xf) w_pa_nil)))))))) ?_
  rw[Xx] at k
  refine⟨_,rfl,_,_,_,_,_,rfl,rfl,ty,k1,_,rfl,?_⟩
  by_cases q:znA v=true
  ·rw[q] at k
   exact iteB q ⟨_,rfl,_,_,_,_,_,rfl,rfl,ty,k2,_,rfl,k⟩
  ·have q:=Bool.eq_false_iff.mpr q
   rw[q] at k
   exact zZ q k
theorem vT (T:Txt w K mg a):FnOk P w K mg base CX0 2 a.f_qh a.d_qh ["value"] (Ve K um):=by
 have c_qg:Callee P w K mg base "is_whole" a.f_qg a.d_qg ["value"] 1 (Ve K whole):=⟨xL T,T.g_qg,T.F_qg.kp,T.b_qg⟩
 refine T.F_qh.ok zl6 (fun vs H Q E h=>?_) (fun cdv A outer s H vs Q E hr h=>?_)
 ·obtain⟨v,rfl,_⟩:=h
  rfl
 ·obtain⟨v,rfl,lf,k⟩:=h
  refine zy (w_pss_one (zf (ym (w_pe_c c_qg (hr.mono (by omega)) (w_pa_N (w_pv 0) w_pa_nil)) (yi (zG xJ (w_pe_callB WA (by rfl) T.n_abs zia (w_pa_N (w_pv 0) w_pa_nil)) (zg yY ze ze) (zo _)))))) ?_
  refine⟨_,rfl,v,rfl,lf,_,rfl,?_⟩
  by_cases q:whole v=true
  ·obtain⟨i,rfl⟩:=wT q
   refine iteB q ⟨_,rfl,i,rfl,_,_,rfl,rfl,⟨by decide,by decide,by decide⟩,_,_,rfl,rfl,?_⟩
   rw[zmv]
   exact k
  ·have q:=Bool.eq_false_iff.mpr q
   refine zZ q ?_
   have e:um v=false:=by cases v<;>first | rfl | simp[whole] at q
   rw[e] at k
   exact k
theorem wH (T:Txt w K mg a):FnOk P w K mg base CX0 2 a.f_qj a.d_qj ["number"] (Ve K zap):=by
 have c_qg:Callee P w K mg base "is_whole" a.f_qg a.d_qg ["value"] 1 (Ve K whole):=⟨xL T,T.g_qg,T.F_qg.kp,T.b_qg⟩
 refine T.F_qj.ok zl4 (fun vs H Q E h=>?_) (fun cdv A outer s H vs Q E hr h=>?_)
 ·obtain⟨v,rfl,_⟩:=h
  rfl
 ·obtain⟨v,rfl,lf,k⟩:=h
  refine zy (w_pss_one (zf (ym (w_pe_c c_qg (hr.mono (by omega)) (w_pa_N (w_pv 0) w_pa_nil)) (ym (zG VG (w_pv 0) ze (zo _)) (yi (zG zfZ (w_pv 0) (zg yY ze ze) (zo _))))))) ?_
  refine⟨_,rfl,v,rfl,lf,_,rfl,?_⟩
  by_cases q:whole v=true
  ·obtain⟨i,rfl⟩:=wT q
   have k':Q (.bl (decide (1≤i)&&decide (i≤1000000000))) H:=k
   refine iteB q ⟨_,rfl,_,_,rfl,rfl,_,rfl,?_⟩
   by_cases q1:(1:Int)≤i
   ·refine iteB (decide_eq_true q1) ⟨_,rfl,_,_,rfl,rfl,⟨by decide,by decide,by decide⟩,_,_,rfl,rfl,?_⟩
    rw[decide_eq_true q1,Bool.true_and] at k'
    rw[zwD]
    exact k'
   ·refine zZ (decide_eq_false q1) ?_
    rw[decide_eq_false q1,Bool.false_and] at k'
    exact k'
  ·have q:=Bool.eq_false_iff.mpr q
   refine zZ q ?_
   have e:zap v=false:=by cases v<;>first | rfl | simp[whole] at q
   rw[e] at k
   exact k
def WJ (K:PySem.W.Frag):Sp:=fun vs H Q _=>∃ (v:V) (p:Addr) (ws:List Str),vs=[v,.ref p]∧Lf K H v∧SqT K H p (ws.map V.str)∧Q (.bl (wc ws v)) H
theorem uX (T:Txt w K mg a):FnOk P w K mg base CX0 1 a.f_qi a.d_qi ["word", "words"] (WJ K):=by
 refine T.F_qi.ok zl5 (fun vs H Q E h=>?_) (fun cdv A outer s H vs Q E hr h=>?_)
 ·obtain⟨v,p,ws,rfl,_⟩:=h
  rfl
 ·obtain⟨v,p,ws,rfl,⟨t,ty,_,_,k3⟩,hp,k⟩:=h
  refine zy (w_pss_one (zf (ym (w_pe_callB zQ (by rfl) T.n_isinstance zv (w_pa_N (w_pv 0) (w_pa_N (wv T.n_str Xe) w_pa_nil))) (yi (zG xK (w_pv 0) (w_pv 1) (by with_unfolding_all rfl)))))) ?_
  refine⟨_,rfl,_,_,_,_,_,rfl,rfl,ty,k3,_,rfl,?_⟩
  by_cases q:zhY v=true
  ·obtain⟨x,rfl⟩:=Wo q
   exact iteB q ⟨_,rfl,_,rfl,p,_,rfl,.inr hp,rfl,flat_strs ws,k⟩
  ·have q:=Bool.eq_false_iff.mpr q
   refine zZ q ?_
   have e:wc ws v=false:=by cases v<;>first | rfl | simp[zhY] at q
   rw[e] at k
   exact k
end
end K04

namespace K04
open PySem L2
theorem TyOf.same {K:PySem.W.Frag}{H H':Hp}{v:V}{t:Value}(s:Same H H') (h:TyOf K H v t):TyOf K H' v t:=by
 cases h with
 |non=>exact .non
 |bl x=>exact .bl x
 |int i=>exact .int i
 |str x=>exact .str x
 |flt x=>exact .flt x
 |lst e=>exact .lst (s _ _ e)
 |frz e=>exact .frz (s _ _ e)
 |tup e=>exact .tup (s _ _ e)
 |dK e=>exact .dK (s _ _ e)
 |dT e=>exact .dT (s _ _ e)
 |ins e cl ha hn htk hm=>exact .ins (s _ _ e) cl ha hn htk hm
theorem Lf.same {K:PySem.W.Frag}{H H':Hp}{v:V}(s:Same H H') (h:Lf K H v):Lf K H' v:=by
 obtain⟨t,ty,k⟩:=h
 exact⟨t,TyOf.same s ty,k⟩
section
variable {P:Program}{w:World}{K:PySem.W.Frag}{mg:Str→Option Value}{base:Heap}{a:Ad}
noncomputable def GMade (K:PySem.W.Frag) (a:Ad) (H:Hp):Gx→V→Prop
 |.num v,r=>∃ p dx,r=.ref p∧H p=some (.ins a.c_Num dx [("value",v)])∧Lf K H v
 |.name v,r=>∃ p dx,r=.ref p∧H p=some (.ins a.c_Name dx [("word",v)])∧Lf K H v
 |.two wd e f,r=>∃ p dx u1 u2,r=.ref p∧H p=some (.ins a.c_Two dx [("word",wd),("one",u1),("other",u2)])∧Lf K H wd∧GMade K a H e u1∧GMade K a H f u2
 |.mod e n,r=>∃ p dx u1,r=.ref p∧H p=some (.ins a.c_Mod dx [("inner",u1),("number",n)])∧Lf K H n∧GMade K a H e u1
 |.less e f g h,r=>∃ p dx u1 u2 u3 u4,r=.ref p∧H p=some (.ins a.c_Less dx [("one",u1),("other",u2),("third",u3),("fourth",u4)])∧GMade K a H e u1∧GMade K a H f u2∧GMade K a H g u3∧GMade K a H h u4
 |.oth v,r=>r=v∧∃ t,TyOf K H v t∧PySem.W.kitOne K t (.ref a.c_Num)=some false∧PySem.W.kitOne K t (.ref a.c_Name)=some false∧PySem.W.kitOne K t (.ref a.c_Two)=some false∧PySem.W.kitOne K t (.ref a.c_Mod)=some false∧PySem.W.kitOne K t (.ref a.c_Less)=some false
theorem GMade.same {H H':Hp}(s:Same H H'):∀ {g:Gx}{r:V},GMade K a H g r→GMade K a H' g r
 |.num _,_,⟨p,dx,e,h,l⟩=>⟨p,dx,e,s _ _ h,l.same s⟩
 |.name _,_,⟨p,dx,e,h,l⟩=>⟨p,dx,e,s _ _ h,l.same s⟩
 |.two _ _ _,_,⟨p,dx,u1,u2,e,h,l,t1,t2⟩=>⟨p,dx,u1,u2,e,s _ _ h,l.same s,t1.same s,t2.same s⟩
 |.mod _ _,_,⟨p,dx,u1,e,h,l,t1⟩=>⟨p,dx,u1,e,s _ _ h,l.same s,t1.same s⟩
 |.less _ _ _ _,_,⟨p,dx,u1,u2,u3,u4,e,h,t1,t2,t3,t4⟩=>⟨p,dx,u1,u2,u3,u4,e,s _ _ h,t1.same s,t2.same s,t3.same s,t4.same s⟩
 |.oth _,_,⟨e,t,ty,k⟩=>⟨e,t,TyOf.same s ty,k⟩
theorem W5 (T:Txt w K mg a){H:Hp}(i:Int):Lf K H (.int i):=⟨_,.int i,T.k_tint_tint,T.k_tint_tbool,T.k_tint_tstr⟩
theorem W4 (T:Txt w K mg a){H:Hp}(x:Str):Lf K H (.str x):=⟨_,.str x,T.k_tstr_tint,T.k_tstr_tbool,T.k_tstr_tstr⟩
theorem Made.gx (T:Txt w K mg a){H:Hp}:∀ {e:Ex}{r:V},Made a H e r→GMade K a H e.gx r
 |.num i,_,⟨p,dx,e,h⟩=>⟨p,dx,e,h,W5 T i⟩
 |.name x,_,⟨p,dx,e,h⟩=>⟨p,dx,e,h,W4 T x⟩
 |.two w _ _,_,⟨p,dx,u1,u2,e,h,t1,t2⟩=>⟨p,dx,u1,u2,e,h,W4 T w,t1.gx T,t2.gx T⟩
 |.mod _ n,_,⟨p,dx,u1,e,h,t1⟩=>⟨p,dx,u1,e,h,W5 T n,t1.gx T⟩
 |.less _ _ _ _,_,⟨p,dx,u1,u2,u3,u4,e,h,t1,t2,t3,t4⟩=>⟨p,dx,u1,u2,u3,u4,e,h,t1.gx T,t2.gx T,t3.gx T,t4.gx T⟩
def GMs (K:PySem.W.Frag) (a:Ad) (H:Hp) (rs:List V) (gs:List Gx):Prop:=rs.length=gs.length∧∀ (i:Nat) r,rs[i]?=some r→∃ g,gs[i]?=some g∧GMade K a H g r
def yy (K:PySem.W.Frag) (a:Ad) (n:Nat):Sp:=fun vs H Q _=>∃ (g:Gx) (r:V) (nm:Addr) (names:List Str) (d:Int),vs=[r,.ref nm,.int d]∧GMade K a H g r∧(∀ H,SqT K H nm (names.map V.str))∧0≤d∧d<n∧∀ H',Same H H'→Q (.bl (g.sound names d.toNat)) H'
def Vg (K:PySem.W.Frag) (a:Ad) (n:Nat):Sp:=fun vs H Q _=>∃ (l:Addr) (rs:List V) (gs:List Gx) (nm:Addr) (names:List Str) (d:Int),vs=[.ref l,.ref nm,.int d]∧H l=some (.lst rs)∧GMs K a H rs gs∧(∀ H,SqT K H nm (names.map V.str))∧0≤d∧d<n∧∀ H',Same H H'→Q (.bl (gs.all (Gx.sound names d.toNat))) H'
theorem WX (T:Txt w K mg a){n:Nat}(I:FnOk P w K mg base CX0 (2*n+1) a.f_ql a.d_ql ["expr", "names", "deep"] (yy K a n)):FnOk P w K mg base CX0 (2*n+2) a.f_qk a.d_qk ["parts", "names", "deep"] (Vg K a n):=by
 have c_ql:Callee P w K mg base "is_sound" a.f_ql a.d_ql ["expr", "names", "deep"] (2*n+1) (yy K a n):=⟨I,T.g_ql,T.F_ql.kp,T.b_ql⟩
 refine T.F_qk.ok sc_qk (fun vs H Q E h=>?_) (fun cdv A outer s H vs Q E hr h=>?_)
 ·obtain⟨l,rs,gs,nm,names,d,rfl,_⟩:=h
  rfl
 ·obtain⟨l,rs,gs,nm,names,d,rfl,hl,⟨hlen,hgm⟩,hn,d0,d1,k⟩:=h
  refine zy (w_pss_cons (zB PassesOwn.never rfl (zt (w_pv 0)) (zh (i:=3) sc_qk.nd rfl (Or.inl rfl))
    (w_pss_one (w_ps_if (yT (zT (w_pe_c c_ql (hr.mono (by omega)) (w_pa_N (w_pv 3) (w_pa_N (w_pv 1) (w_pa_N (w_pv 2) w_pa_nil))))))
     (w_pss_one (zf xg))
     zi)))
   (w_pss_one (zf xg))) ?_
  refine⟨_,rfl,l,rfl,⟨_,SqL.of hl⟩,?_⟩
  refine zI (K:=K) (a:=l) (xs:=rs) (fun i σ H'=>∃ o,σ=[some (.ref l),some (.ref nm),some (.int d),o]∧Same H H'∧(gs.take i).all (Gx.sound names d.toNat)=true) ?_ ?_ ?_ ?_
  ·exact⟨none,rfl,Same.refl H,by simp⟩
  ·rintro i σ H' _ ⟨o,_,sm,_⟩
   exact SqL.of (sm _ _ hl)
  ·rintro i x σ H' hi ⟨o,rfl,sm,ha⟩
   obtain⟨g,hg,gm⟩:=hgm i x hi
   refine⟨_,rfl,_,rfl,_,rfl,g,x,nm,names,d,rfl,gm.same sm,hn,d0,d1,fun H1 s1=>⟨_,rfl,?_⟩⟩
   have hi':i<gs.length:=(List.getElem?_eq_some_iff.mp hg).1
   by_cases q:g.sound names d.toNat=true
   ·refine zZ (by rw[q];rfl) ?_
    refine⟨_,rfl,sm.trans s1,?_⟩
    rw[List.take_add_one,hg,List.all_append,ha]
    simp[q]
   ·have q:=Bool.eq_false_iff.mpr q
    refine iteB (by rw[q];rfl) ?_
    have e:gs.all (Gx.sound names d.toNat)=false:=by
     rw[List.all_eq_false]
     exact⟨g,List.mem_of_getElem? hg,by rw[q];simp⟩
    have:=k H1 (sm.trans s1)
    rw[e] at this
    exact this
  ·rintro σ H' ⟨o,rfl,sm,ha⟩
   rw[hlen,List.take_length] at ha
   have:=k H' sm
   rw[ha] at this
   exact this
theorem zv2 {H:Hp}{u1 u2:V}{g1 g2:Gx}(h1:GMade K a H g1 u1) (h2:GMade K a H g2 u2):GMs K a H [u1,u2] [g1,g2]:=⟨rfl,fun i r e=>by
 match i,e with
 |0,e=>cases e;exact⟨_,rfl,h1⟩
 |1,e=>cases e;exact⟨_,rfl,h2⟩
 |_+2,e=>simp at e⟩
theorem zw5 {H:Hp}{u1 u2 u3 u4:V}{g1 g2 g3 g4:Gx}(h1:GMade K a H g1 u1) (h2:GMade K a H g2 u2) (h3:GMade K a H g3 u3) (h4:GMade K a H g4 u4):GMs K a H [u1,u2,u3,u4] [g1,g2,g3,g4]:=⟨rfl,fun i r e=>by
 match i,e with
 |0,e=>cases e;exact⟨_,rfl,h1⟩
 |1,e=>cases e;exact⟨_,rfl,h2⟩
 |2,e=>cases e;exact⟨_,rfl,h3⟩
 |3,e=>cases e;exact⟨_,rfl,h4⟩
 |_+4,e=>simp at e⟩
theorem vS (T:Txt w K mg a){n:Nat}(I:FnOk P w K mg base CX0 (2*n+1) a.f_ql a.d_ql ["expr", "names", "deep"] (yy K a n)):FnOk P w K mg base CX0 (2*n+3) a.f_ql a.d_ql ["expr", "names", "deep"] (yy K a (n+1)):=by
 have c_ql:Callee P w K mg base "is_sound" a.f_ql a.d_ql ["expr", "names", "deep"] (2*n+1) (yy K a n):=⟨I,T.g_ql,T.F_ql.kp,T.b_ql⟩
 have c_qk:Callee P w K mg base "are_sound" a.f_qk a.d_qk ["parts", "names", "deep"] (2*n+2) (Vg K a n):=⟨WX T I,T.g_qk,T.F_qk.kp,T.b_qk⟩
 have c_qh:Callee P w K mg base "is_short_number" a.f_qh a.d_qh ["value"] 2 (Ve K um):=⟨vT T,T.g_qh,T.F_qh.kp,T.b_qh⟩
 have c_qj:Callee P w K mg base "is_divisor" a.f_qj a.d_qj ["number"] 2 (Ve K zap):=⟨wH T,T.g_qj,T.F_qj.kp,T.b_qj⟩
 have c_qi:Callee P w K mg base "is_word_of" a.f_qi a.d_qi ["word", "words"] 1 (WJ K):=⟨uX T,T.g_qi,T.F_qi.kp,T.b_qi⟩
 refine T.F_ql.ok zl3 (fun vs H Q E h=>?_) (fun cdv A outer s H vs Q E hr h=>?_)
 ·obtain⟨g,r,nm,names,d,rfl,_⟩:=h
  rfl
 ·obtain⟨g,r,nm,names,d,rfl,gm,hn,d0,d1,k⟩:=h
  refine zy (w_pss_cons (w_ps_if (w_pt_cmpR yd (w_pv 2) ze (zo _))
    (w_pss_one (zf xg))
    zi)
   (w_pss_cons (w_ps_if (zT (w_pe_callB zQ (by rfl) T.n_isinstance zv (w_pa_N (w_pv 0) (w_pa_N (yV T.g_Num) w_pa_nil))))
    (w_pss_one (zf (w_pe_c c_qh (hr.mono (by omega)) (w_pa_cons (w_pe_fld (w_pv 0) rfl) w_pa_nil))))
    zi)
   (w_pss_cons (w_ps_if (zT (w_pe_callB zQ (by rfl) T.n_isinstance zv (w_pa_N (w_pv 0) (w_pa_N (yV T.g_Name) w_pa_nil))))
    (w_pss_one (zf (w_pe_c c_qi (hr.mono (by omega)) (w_pa_cons (w_pe_fld (w_pv 0) rfl) (w_pa_N (w_pv 1) w_pa_nil)))))
    zi)
   (w_pss_cons (w_ps_if (zT (w_pe_callB zQ (by rfl) T.n_isinstance zv (w_pa_N (w_pv 0) (w_pa_N (yV T.g_Two) w_pa_nil))))
    (w_pss_one (zf (ym (w_pe_c c_qi (hr.mono (by omega)) (w_pa_cons (w_pe_fld (w_pv 0) rfl) (w_pa_N (yb (v:=.ref a.t_TWO_WORDS) rfl T.g_TWO_WORDS rfl) w_pa_nil))) (yi (w_pe_c c_qk (hr.mono (by omega)) (w_pa_cons (zq (w_pa_cons (w_pe_fld (w_pv 0) rfl) (w_pa_cons (w_pe_fld (w_pv 0) rfl) w_pa_nil))) (w_pa_N (w_pv 1) (yc (zg yg (w_pv 2) ze) w_pa_nil))))))))
    zi)
   (w_pss_cons (w_ps_if (zT (w_pe_callB zQ (by rfl) T.n_isinstance zv (w_pa_N (w_pv 0) (w_pa_N (yV T.g_Mod) w_pa_nil))))
    (w_pss_one (zf (ym (w_pe_c c_qj (hr.mono (by omega)) (w_pa_cons (w_pe_fld (w_pv 0) rfl) w_pa_nil)) (yi (w_pe_c c_ql (hr.mono (by omega)) (w_pa_cons (w_pe_fld (w_pv 0) rfl) (w_pa_N (w_pv 1) (yc (zg yg (w_pv 2) ze) w_pa_nil))))))))
    zi)
   (w_pss_cons (w_ps_if (zT (w_pe_callB zQ (by rfl) T.n_isinstance zv (w_pa_N (w_pv 0) (w_pa_N (yV T.g_Less) w_pa_nil))))
    (w_pss_one (zf (w_pe_c c_qk (hr.mono (by omega)) (w_pa_cons (zq (w_pa_cons (w_pe_fld (w_pv 0) rfl) (w_pa_cons (w_pe_fld (w_pv 0) rfl) (w_pa_cons (w_pe_fld (w_pv 0) rfl) (w_pa_cons (w_pe_fld (w_pv 0) rfl) w_pa_nil))))) (w_pa_N (w_pv 1) (yc (zg yg (w_pv 2) ze) w_pa_nil))))))
    zi)
   (w_pss_one (zf xg)))))))) ?_
  refine⟨_,rfl,rfl,_,rfl,?_⟩
  refine ite2 (fun q=>?_) (fun q=>?_)
  ·have e:d=0:=by simpa using q
   subst e
   exact k H (Same.refl H)
  have hd:d≠0:=fun e=>q (by subst e;rfl)
  have e1:d.toNat=(d-1).toNat+1:=by omega
  rw[e1] at k
  have b0:0≤d-1:=by omega
  have b1:d-1<n:=by omega
  cases g with
  |num v =>
   obtain⟨p,dx,rfl,hp,lf⟩:=gm
   refine⟨_,rfl,_,_,_,_,_,rfl,rfl,T.ty_Num H p dx _ hp,T.k_Num_Num,_,rfl,Xw ?_⟩
   exact⟨_,rfl,p,_,dx,_,_,rfl,hp,T.cl_Num,T.na_Num_value,rfl,v,rfl,lf,k H (Same.refl H)⟩
  |name v =>
   obtain⟨p,dx,rfl,hp,lf⟩:=gm
   refine⟨_,rfl,_,_,_,_,_,rfl,rfl,T.ty_Name H p dx _ hp,T.k_Name_Num,_,rfl,vI ?_⟩
   refine⟨_,rfl,_,_,_,_,_,rfl,rfl,T.ty_Name H p dx _ hp,T.k_Name_Name,_,rfl,Xw ?_⟩
   exact⟨_,rfl,p,_,dx,_,_,rfl,hp,T.cl_Name,T.na_Name_word,rfl,_,rfl,v,nm,names,rfl,lf,hn H,k H (Same.refl H)⟩
  |two wd g1 g2 =>
   obtain⟨p,dx,u1,u2,rfl,hp,lf,m1,m2⟩:=gm
   refine⟨_,rfl,_,_,_,_,_,rfl,rfl,T.ty_Two H p dx _ hp,T.k_Two_Num,_,rfl,vI ?_⟩
   refine⟨_,rfl,_,_,_,_,_,rfl,rfl,T.ty_Two H p dx _ hp,T.k_Two_Name,_,rfl,vI ?_⟩
   refine⟨_,rfl,_,_,_,_,_,rfl,rfl,T.ty_Two H p dx _ hp,T.k_Two_Two,_,rfl,Xw ?_⟩
   refine⟨_,rfl,p,_,dx,_,_,rfl,hp,T.cl_Two,T.na_Two_word,rfl,wd,_,twoWs,rfl,lf,T.s_TWO_WORDS H,_,rfl,?_⟩
   have k':∀ H',Same H H'→Q (.bl (wc twoWs wd&&([g1,g2].all (Gx.sound names (d-1).toNat)))) H':=k
   by_cases qw:wc twoWs wd=true
   ·rw[qw] at k'
    refine iteB qw ?_
    refine⟨_,rfl,p,_,dx,_,_,rfl,hp,T.cl_Two,T.na_Two_one,rfl,_,rfl,p,_,dx,_,_,rfl,hp,T.cl_Two,T.na_Two_other,rfl,(by show 2≤sizeLine;decide),fun lp hlp=>?_⟩
    have s1:=Same.new (o:=HO.lst [u1,u2]) hlp
    exact⟨_,rfl,_,rfl,_,_,rfl,rfl,lp,_,_,nm,names,d-1,rfl,zd,zv2 (m1.same s1) (m2.same s1),hn,b0,b1,fun H2 s2=>k' H2 (s1.trans s2)⟩
   ·have qw:=Bool.eq_false_iff.mpr qw
    rw[qw] at k'
    exact zZ qw (k' H (Same.refl H))
  |mod g1 v =>
   obtain⟨p,dx,u1,rfl,hp,lf,m1⟩:=gm
   refine⟨_,rfl,_,_,_,_,_,rfl,rfl,T.ty_Mod H p dx _ hp,T.k_Mod_Num,_,rfl,vI ?_⟩
   refine⟨_,rfl,_,_,_,_,_,rfl,rfl,T.ty_Mod H p dx _ hp,T.k_Mod_Name,_,rfl,vI ?_⟩
   refine⟨_,rfl,_,_,_,_,_,rfl,rfl,T.ty_Mod H p dx _ hp,T.k_Mod_Two,_,rfl,vI ?_⟩
   refine⟨_,rfl,_,_,_,_,_,rfl,rfl,T.ty_Mod H p dx _ hp,T.k_Mod_Mod,_,rfl,Xw ?_⟩
   refine⟨_,rfl,p,_,dx,_,_,rfl,hp,T.cl_Mod,T.na_Mod_number,rfl,v,rfl,lf,_,rfl,?_⟩
   have k':∀ H',Same H H'→Q (.bl (zap v&&g1.sound names (d-1).toNat)) H':=k
   by_cases qw:zap v=true
   ·rw[qw] at k'
    refine iteB qw ?_
    exact⟨_,rfl,p,_,dx,_,_,rfl,hp,T.cl_Mod,T.na_Mod_inner,rfl,_,rfl,_,rfl,_,_,rfl,rfl,g1,u1,nm,names,d-1,rfl,m1,hn,b0,b1,k'⟩
   ·have qw:=Bool.eq_false_iff.mpr qw
    rw[qw] at k'
    exact zZ qw (k' H (Same.refl H))
  |less g1 g2 g3 g4 =>
   obtain⟨p,dx,u1,u2,u3,u4,rfl,hp,m1,m2,m3,m4⟩:=gm
   refine⟨_,rfl,_,_,_,_,_,rfl,rfl,T.ty_Less H p dx _ hp,T.k_Less_Num,_,rfl,vI ?_⟩
   refine⟨_,rfl,_,_,_,_,_,rfl,rfl,T.ty_Less H p dx _ hp,T.k_Less_Name,_,rfl,vI ?_⟩
   refine⟨_,rfl,_,_,_,_,_,rfl,rfl,T.ty_Less H p dx _ hp,T.k_Less_Two,_,rfl,vI ?_⟩
   refine⟨_,rfl,_,_,_,_,_,rfl,rfl,T.ty_Less H p dx _ hp,T.k_Less_Mod,_,rfl,vI ?_⟩
   refine⟨_,rfl,_,_,_,_,_,rfl,rfl,T.ty_Less H p dx _ hp,T.k_Less_Less,_,rfl,Xw ?_⟩
   refine⟨_,rfl,p,_,dx,_,_,rfl,hp,T.cl_Less,T.na_Less_one,rfl,_,rfl,p,_,dx,_,_,rfl,hp,T.cl_Less,T.na_Less_other,rfl,_,rfl,p,_,dx,_,_,rfl,hp,T.cl_Less,T.na_Less_third,rfl,_,rfl,p,_,dx,_,_,rfl,hp,T.cl_Less,T.na_Less_fourth,rfl,(by show 4≤sizeLine;decide),fun lp hlp=>?_⟩
   have s1:=Same.new (o:=HO.lst [u1,u2,u3,u4]) hlp
   exact⟨_,rfl,_,rfl,_,_,rfl,rfl,lp,_,_,nm,names,d-1,rfl,zd,zw5 (m1.same s1) (m2.same s1) (m3.same s1) (m4.same s1),hn,b0,b1,fun H2 s2=>k H2 (s1.trans s2)⟩
  |oth v =>
   obtain⟨rfl,t,ty,n1,n2,n3,n4,n5⟩:=gm
   refine⟨_,rfl,_,_,_,_,_,rfl,rfl,ty,n1,_,rfl,vI ?_⟩
   refine⟨_,rfl,_,_,_,_,_,rfl,rfl,ty,n2,_,rfl,vI ?_⟩
   refine⟨_,rfl,_,_,_,_,_,rfl,rfl,ty,n3,_,rfl,vI ?_⟩
   refine⟨_,rfl,_,_,_,_,_,rfl,rfl,ty,n4,_,rfl,vI ?_⟩
   refine⟨_,rfl,_,_,_,_,_,rfl,rfl,ty,n5,_,rfl,vI ?_⟩
   exact k H (Same.refl H)
theorem zfv {k:Nat}:FnOk P w K mg base CX0 k a.f_ql a.d_ql ["expr", "names", "deep"] (yy K a 0) :=
 ⟨fun vs H Q E h=>by
  obtain⟨g,r,nm,names,d,rfl,_⟩:=h
  rfl,fun A outer s H args us vs Q E _ _ _ _ h=>by
  obtain⟨g,r,nm,names,d,_,_,_,d0,d1,_⟩:=h
  exact absurd d1 (by simp;omega)⟩
theorem Yl (T:Txt w K mg a):∀ n,FnOk P w K mg base CX0 (2*n+1) a.f_ql a.d_ql ["expr", "names", "deep"] (yy K a n)
 |0=>zfv
 |n+1=>vS T (Yl T n)
end
end K04

namespace K04
open PySem L2
theorem YS {i:Int}(h : -100000000000000000000<i∧i<100000000000000000000):i.natAbs.log2<1920:=by
 by_cases h0:i.natAbs=0
 ·rw[h0];decide
 ·have:=(Nat.log2_lt h0 (k:=67)).mpr (Nat.lt_of_le_of_lt (show i.natAbs≤100000000000000000000 by omega) (by decide))
  omega
section
variable {P:Program}{w:World}{K:PySem.W.Frag}{mg:Str→Option Value}{base:Heap}{a:Ad}
def yk (a:Ad) (n:Nat) (Kd:Ex→Prop):Sp:=fun vs H Q _=>∃ (e:Ex) (r:V) (names:List Str),vs=[r]∧Kd e∧Made a H e r∧e.ok names∧e.dep≤n∧e.size≤sizeLine∧∀ p H',H' p=some (.lst (e.words.map V.str))→Same H H'→Q (.ref p) H'
structure Wordss (P:Program) (w:World) (K:PySem.W.Frag) (mg:Str→Option Value) (base:Heap) (a:Ad) (n:Nat):Prop where
 num:FnOk P w K mg base CX0 (n+1) a.f_qL a.d_qL ["self"] (yk a n Wp)
 name:FnOk P w K mg base CX0 (n+1) a.f_qO a.d_qO ["self"] (yk a n uC)
 two:FnOk P w K mg base CX0 (n+1) a.f_qR a.d_qR ["self"] (yk a n Wn)
 mod:FnOk P w K mg base CX0 (n+1) a.f_qU a.d_qU ["self"] (yk a n Wq)
 less:FnOk P w K mg base CX0 (n+1) a.f_qX a.d_qX ["self"] (yk a n uD)
theorem Wordss.call {n:Nat}(R:Wordss P w K mg base a n) (T:Txt w K mg a){A:Around}(hr:Room (n+1) A){H:Hp}{e:Ex}{x:V}{names:List Str}(hM:Made a H e x) (ho:e.ok names) (hd:e.dep≤n) (hs:e.size≤sizeLine) :
  ∃ (p C dx:Addr) (fs:List (Str×V)) (f:Addr) (fd:FuncData) (ps:List Str) (k:Nat) (sp:Sp),x=.ref p∧H p=some (.ins C dx fs)∧fs.lookup ("words" : Str)=none∧Cls K C∧Meth K C "words" f∧FnOk P w K mg base CX0 k f fd ps sp∧Room k A∧Binds K fd ps [] ∧
   ∀ Q:VK,(∀ p H',H' p=some (.lst (e.words.map V.str))→Same H H'→Q (.ref p) H')→sp (x::([]++[])) H Q E0:=by
 cases e with
 |num i =>
  obtain⟨p,dx,rfl,hp⟩:=id hM
  exact⟨p,_,dx,_,_,_,_,_,_,rfl,hp,rfl,T.cl_Num,T.mt_qL,R.num,hr,T.b_qL,fun Q q=>⟨_,_,names,rfl,⟨_,rfl⟩,hM,ho,hd,hs,q⟩⟩
 |name i =>
  obtain⟨p,dx,rfl,hp⟩:=id hM
  exact⟨p,_,dx,_,_,_,_,_,_,rfl,hp,rfl,T.cl_Name,T.mt_qO,R.name,hr,T.b_qO,fun Q q=>⟨_,_,names,rfl,⟨_,rfl⟩,hM,ho,hd,hs,q⟩⟩
 |two i e1 e2 =>
  obtain⟨p,dx,u1,u2,rfl,hp,_⟩:=id hM
  exact⟨p,_,dx,_,_,_,_,_,_,rfl,hp,rfl,T.cl_Two,T.mt_qR,R.two,hr,T.b_qR,fun Q q=>⟨_,_,names,rfl,⟨_,_,_,rfl⟩,hM,ho,hd,hs,q⟩⟩
 |mod e1 i =>
  obtain⟨p,dx,u1,rfl,hp,_⟩:=id hM
  exact⟨p,_,dx,_,_,_,_,_,_,rfl,hp,rfl,T.cl_Mod,T.mt_qU,R.mod,hr,T.b_qU,fun Q q=>⟨_,_,names,rfl,⟨_,_,rfl⟩,hM,ho,hd,hs,q⟩⟩
 |less e1 e2 e3 e4 =>
  obtain⟨p,dx,u1,u2,u3,u4,rfl,hp,_⟩:=id hM
  exact⟨p,_,dx,_,_,_,_,_,_,rfl,hp,rfl,T.cl_Less,T.mt_qX,R.less,hr,T.b_qX,fun Q q=>⟨_,_,names,rfl,⟨_,_,_,_,rfl⟩,hM,ho,hd,hs,q⟩⟩
theorem vn (T:Txt w K mg a) (n:Nat):FnOk P w K mg base CX0 (n+1) a.f_qL a.d_qL ["self"] (yk a n Wp):=by
 refine T.F_qL.ok zmn (fun vs H Q E h=>?_) (fun cdv A outer s H vs Q E hr h=>?_)
 ·obtain⟨e,r,names,rfl,_⟩:=h
  rfl
 ·obtain⟨e,r,names,rfl,⟨i,rfl⟩,⟨p,dx,rfl,hp⟩,ho,_,_,k⟩:=h
  refine zy (w_pss_one (zf (zq (zu (zA xo (by rfl) T.n_str Xe (w_pa_cons (w_pe_fld (w_pv 0) rfl) w_pa_nil)) w_pa_nil)))) ?_
  refine⟨_,rfl,p,_,dx,_,_,rfl,hp,T.cl_Num,T.na_Num_value,rfl,i,rfl,YS ho,(by show 1≤sizeLine;decide),fun q hq=>?_⟩
  exact k _ _ zd (Same.new hq)
theorem wK (T:Txt w K mg a) (n:Nat):FnOk P w K mg base CX0 (n+1) a.f_qO a.d_qO ["self"] (yk a n uC):=by
 refine T.F_qO.ok zmk (fun vs H Q E h=>?_) (fun cdv A outer s H vs Q E hr h=>?_)
 ·obtain⟨e,r,names,rfl,_⟩:=h
  rfl
 ·obtain⟨e,r,names,rfl,⟨i,rfl⟩,⟨p,dx,rfl,hp⟩,ho,_,_,k⟩:=h
  refine zy (w_pss_one (zf (zq (w_pa_cons (w_pe_fld (w_pv 0) rfl) w_pa_nil)))) ?_
  refine⟨_,rfl,p,_,dx,_,_,rfl,hp,T.cl_Name,T.na_Name_word,rfl,(by show 1≤sizeLine;decide),fun q hq=>?_⟩
  exact k _ _ zd (Same.new hq)
theorem vm (T:Txt w K mg a){n:Nat}(R:Wordss P w K mg base a n):FnOk P w K mg base CX0 (n+2) a.f_qR a.d_qR ["self"] (yk a (n+1) Wn):=by
 refine T.F_qR.ok zmi (fun vs H Q E h=>?_) (fun cdv A outer s H vs Q E hr h=>?_)
 ·obtain⟨e,r,names,rfl,_⟩:=h
  rfl
 ·obtain⟨e,r,names,rfl,⟨wd,e1,e2,rfl⟩,⟨p,dx,u1,u2,rfl,hp,m1,m2⟩,⟨_,o1,o2⟩,hdep,hz,k⟩:=h
  have hdep:max e1.dep e2.dep+1≤n+1:=hdep
  have hz:1+e1.size+e2.size≤sizeLine:=hz
  have l1:=e1.words_len
  have l2:=e2.words_len
  refine zy (w_pss_one (zf (zg yA (zg yA (zq (w_pa_cons (w_pe_fld (w_pv 0) rfl) w_pa_nil)) (zz (w_pe_fld (w_pv 0) rfl))) (zz (w_pe_fld (w_pv 0) rfl))))) ?_
  refine⟨_,rfl,p,_,dx,_,_,rfl,hp,T.cl_Two,T.na_Two_word,rfl,(by show 1≤sizeLine;decide),fun q0 hq0=>?_⟩
  have s0:=Same.new (o:=HO.lst [V.str wd]) hq0
  refine⟨_,rfl,p,_,dx,_,_,rfl,s0 _ _ hp,T.cl_Two,T.na_Two_one,rfl,?_⟩
  obtain⟨p1,c1,x1,f1,f2,f3,f4,f5,f6,q1,q2,q3,q4,q5,q6,q7,q8,q9⟩:=R.call T hr (m1.same s0) o1 (by omega) (by omega)
  refine⟨p1,c1,x1,f1,f2,f3,f4,f5,f6,q1,q2,q3,q4,q5,q6,q7,q8,q9 _ fun w1 H1 t1 s1=>?_⟩
  refine⟨q0,w1,_,_,rfl,rfl,s1 _ _ zd,t1,(by simp[l1];omega),fun q2 hq2=>?_⟩
  have s2:=s0.trans (s1.trans (Same.new (o:=HO.lst ([V.str wd]++e1.words.map V.str)) hq2))
  refine⟨_,rfl,p,_,dx,_,_,rfl,s2 _ _ hp,T.cl_Two,T.na_Two_other,rfl,?_⟩
  obtain⟨p1,c1,x1,f1,f2,f3,f4,f5,f6,z1,z2,z3,z4,z5,z6,z7,z8,z9⟩:=R.call T hr (m2.same s2) o2 (by omega) (by omega)
  refine⟨p1,c1,x1,f1,f2,f3,f4,f5,f6,z1,z2,z3,z4,z5,z6,z7,z8,z9 _ fun w2 H2 t2 s3=>?_⟩
  refine⟨q2,w2,_,_,rfl,rfl,s3 _ _ zd,t2,(by simp[l1,l2];omega),fun q4 hq4=>?_⟩
  refine k _ _ ?_ (s2.trans (s3.trans (Same.new hq4)))
  rw[zd]
  simp[Ex.words]
theorem vp (T:Txt w K mg a){n:Nat}(R:Wordss P w K mg base a n):FnOk P w K mg base CX0 (n+2) a.f_qU a.d_qU ["self"] (yk a (n+1) Wq):=by
 refine T.F_qU.ok zmf (fun vs H Q E h=>?_) (fun cdv A outer s H vs Q E hr h=>?_)
 ·obtain⟨e,r,names,rfl,_⟩:=h
  rfl
 ·obtain⟨e,r,names,rfl,⟨e1,i,rfl⟩,⟨p,dx,u1,rfl,hp,m1⟩,⟨⟨i1,i2⟩,o1⟩,hdep,hz,k⟩:=h
  have hdep:e1.dep+1≤n+1:=hdep
  have hz:2+e1.size≤sizeLine:=hz
  have l1:=e1.words_len
  refine zy (w_pss_one (zf (zg yA (zg yA (zq (zm w_pe_str w_pa_nil)) (zz (w_pe_fld (w_pv 0) rfl))) (zq (zu (zA xo (by rfl) T.n_str Xe (w_pa_cons (w_pe_fld (w_pv 0) rfl) w_pa_nil)) w_pa_nil))))) ?_
  refine⟨by show 1≤sizeLine;decide,fun q0 hq0=>?_⟩
  have s0:=Same.new (o:=HO.lst [V.str "mod"]) hq0
  refine⟨_,rfl,p,_,dx,_,_,rfl,s0 _ _ hp,T.cl_Mod,T.na_Mod_inner,rfl,?_⟩
  obtain⟨p1,c1,x1,f1,f2,f3,f4,f5,f6,q1,q2,q3,q4,q5,q6,q7,q8,q9⟩:=R.call T hr (m1.same s0) o1 (by omega) (by omega)
  refine⟨p1,c1,x1,f1,f2,f3,f4,f5,f6,q1,q2,q3,q4,q5,q6,q7,q8,q9 _ fun w1 H1 t1 s1=>?_⟩
  refine⟨q0,w1,_,_,rfl,rfl,s1 _ _ zd,t1,(by simp[l1];omega),fun q2 hq2=>?_⟩
  have s2:=s0.trans (s1.trans (Same.new (o:=HO.lst ([V.str "mod"]++e1.words.map V.str)) hq2))
  refine⟨_,rfl,p,_,dx,_,_,rfl,s2 _ _ hp,T.cl_Mod,T.na_Mod_number,rfl,i,rfl,YS (by omega),(by show 1≤sizeLine;decide),fun q3 hq3=>?_⟩
  refine⟨q2,q3,_,_,rfl,rfl,(Same.new hq3) _ _ zd,zd,(by simp[l1];omega),fun q4 hq4=>?_⟩
  refine k _ _ ?_ (s2.trans ((Same.new hq3).trans (Same.new hq4)))
  rw[zd]
  simp[Ex.words]
theorem wM (T:Txt w K mg a){n:Nat}(R:Wordss P w K mg base a n):FnOk P w K mg base CX0 (n+2) a.f_qX a.d_qX ["self"] (yk a (n+1) uD):=by
 refine T.F_qX.ok zmc (fun vs H Q E h=>?_) (fun cdv A outer s H vs Q E hr h=>?_)
 ·obtain⟨e,r,names,rfl,_⟩:=h
  rfl
 ·obtain⟨e,r,names,rfl,⟨e1,e2,e3,e4,rfl⟩,⟨p,dx,u1,u2,u3,u4,rfl,hp,m1,m2,m3,m4⟩,⟨o1,o2,o3,o4⟩,hdep,hz,k⟩:=h
  have hdep:max (max e1.dep e2.dep) (max e3.dep e4.dep)+1≤n+1:=hdep
  have hz:1+e1.size+e2.size+e3.size+e4.size≤sizeLine:=hz
  have l1:=e1.words_len
  have l2:=e2.words_len
  have l3:=e3.words_len
  have l4:=e4.words_len
  refine zy (w_pss_one (zf (zg yA (zg yA (zg yA (zg yA (zq (zm w_pe_str w_pa_nil)) (zz (w_pe_fld (w_pv 0) rfl))) (zz (w_pe_fld (w_pv 0) rfl))) (zz (w_pe_fld (w_pv 0) rfl))) (zz (w_pe_fld (w_pv 0) rfl))))) ?_
  refine⟨by show 1≤sizeLine;decide,fun q0 hq0=>?_⟩
  have s0:=Same.new (o:=HO.lst [V.str "less"]) hq0
  refine⟨_,rfl,p,_,dx,_,_,rfl,s0 _ _ hp,T.cl_Less,T.na_Less_one,rfl,?_⟩
  obtain⟨p1,c1,x1,f1,f2,f3,f4,f5,f6,z1,z2,z3,z4,z5,z6,z7,z8,z9⟩:=R.call T hr (m1.same s0) o1 (by omega) (by omega)
  refine⟨p1,c1,x1,f1,f2,f3,f4,f5,f6,z1,z2,z3,z4,z5,z6,z7,z8,z9 _ fun w1 H1 t1 y1=>?_⟩
  refine⟨q0,w1,_,_,rfl,rfl,y1 _ _ zd,t1,(by simp[l1,l2,l3,l4];omega),fun q1 hq1=>?_⟩
  have s1:=s0.trans (y1.trans (Same.new (o:=HO.lst ([V.str "less"]++e1.words.map V.str)) hq1))
  refine⟨_,rfl,p,_,dx,_,_,rfl,s1 _ _ hp,T.cl_Less,T.na_Less_other,rfl,?_⟩
  obtain⟨p1,c1,x1,f1,f2,f3,f4,f5,f6,z1,z2,z3,z4,z5,z6,z7,z8,z9⟩:=R.call T hr (m2.same s1) o2 (by omega) (by omega)
  refine⟨p1,c1,x1,f1,f2,f3,f4,f5,f6,z1,z2,z3,z4,z5,z6,z7,z8,z9 _ fun w2 H2 t2 y2=>?_⟩
  refine⟨q1,w2,_,_,rfl,rfl,y2 _ _ zd,t2,(by simp[l1,l2,l3,l4];omega),fun q2 hq2=>?_⟩
  have s2:=s1.trans (y2.trans (Same.new (o:=HO.lst (([V.str "less"]++e1.words.map V.str)++e2.words.map V.str)) hq2))
  refine⟨_,rfl,p,_,dx,_,_,rfl,s2 _ _ hp,T.cl_Less,T.na_Less_third,rfl,?_⟩
  obtain⟨p1,c1,x1,f1,f2,f3,f4,f5,f6,z1,z2,z3,z4,z5,z6,z7,z8,z9⟩:=R.call T hr (m3.same s2) o3 (by omega) (by omega)
  refine⟨p1,c1,x1,f1,f2,f3,f4,f5,f6,z1,z2,z3,z4,z5,z6,z7,z8,z9 _ fun w3 H3 t3 y3=>?_⟩
  refine⟨q2,w3,_,_,rfl,rfl,y3 _ _ zd,t3,(by simp[l1,l2,l3,l4];omega),fun q3 hq3=>?_⟩
  have s3:=s2.trans (y3.trans (Same.new (o:=HO.lst ((([V.str "less"]++e1.words.map V.str)++e2.words.map V.str)++e3.words.map V.str)) hq3))
  refine⟨_,rfl,p,_,dx,_,_,rfl,s3 _ _ hp,T.cl_Less,T.na_Less_fourth,rfl,?_⟩
  obtain⟨p1,c1,x1,f1,f2,f3,f4,f5,f6,z1,z2,z3,z4,z5,z6,z7,z8,z9⟩:=R.call T hr (m4.same s3) o4 (by omega) (by omega)
  refine⟨p1,c1,x1,f1,f2,f3,f4,f5,f6,z1,z2,z3,z4,z5,z6,z7,z8,z9 _ fun w4 H4 t4 y4=>?_⟩
  refine⟨q3,w4,_,_,rfl,rfl,y4 _ _ zd,t4,(by simp[l1,l2,l3,l4];omega),fun q4 hq4=>?_⟩
  refine k _ _ ?_ (s3.trans (y4.trans (Same.new hq4)))
  rw[zd]
  simp[Ex.words]
theorem xM {f:Addr}{fd:FuncData}{ps:List Str}{Kd:Ex→Prop}{k:Nat}(hl:ps.length=1):FnOk P w K mg base CX0 k f fd ps (yk a 0 Kd) :=
 ⟨fun vs H Q E h=>by
  obtain⟨e,r,names,rfl,_⟩:=h
  exact hl.symm,fun A outer s H args us vs Q E _ _ _ _ h=>by
  obtain⟨e,r,names,_,_,_,_,hd,_⟩:=h
  have:=e.dep_pos
  omega⟩
theorem ud (T:Txt w K mg a):∀ n,Wordss P w K mg base a n
 |0=>⟨xM rfl,xM rfl,xM rfl,xM rfl,xM rfl⟩
 |n+1=>⟨vn T (n+1),wK T (n+1),vm T (ud T n),vp T (ud T n),wM T (ud T n)⟩
end
end K04

namespace K04
open PySem L2
section
variable {P:Program}{w:World}{K:PySem.W.Frag}{mg:Str→Option Value}{base:Heap}{a:Ad}
def zaa (a:Ad) (H:Hp) (n:Nat) (rs:List V) (es:List Ex):Prop:=rs.length=es.length∧∀ (i:Nat) r,rs[i]?=some r→∃ e names,es[i]?=some e∧Made a H e r∧e.ok names∧e.dep≤n∧e.size≤sizeLine
noncomputable def xZ (es:List Ex):List Int:=es.map fun e=>(e.size:Int)
def Yj (a:Ad) (n:Nat):Sp:=fun vs H Q _=>∃ (l:Addr) (rs:List V) (es:List Ex),vs=[.ref l]∧H l=some (.lst rs)∧rs.length≤1000∧zaa a H n rs es∧∀ H',Same H H'→Q (.int (xZ es).sum) H'
theorem XZ (T:Txt w K mg a) (n:Nat):FnOk P w K mg base CX0 (n+2) a.f_qm a.d_qm ["exprs"] (Yj a n):=by
 have WW:Wordss P w K mg base a n:=ud T n
 refine T.F_qm.ok zl2 (fun vs H Q E h=>?_) (fun cdv A outer s H vs Q E hr h=>?_)
 ·obtain⟨l,rs,es,rfl,_⟩:=h
  rfl
 ·obtain⟨l,rs,es,rfl,hl,hz,⟨hlen,hm⟩,k⟩:=h
  refine zy (w_pss_one (zf (w_pe_callB (call_sumI rfl) (by rfl) T.n_sum Xd (w_pa_cons (zV rfl (N':=["expr"]) (t:=1) (caps:=[]) ⟨rfl,rfl,rfl⟩ (zt (w_pv 0)) (fun _=>(zh (i:=0) (show(["expr"]:List Str).Nodup by decide +kernel) rfl (Or.inl rfl))) (fun _=>zO) (fun _=>(w_pe_callB zl (by rfl) T.n_len zN (zu (zz (w_pv 0)) w_pa_nil)))) w_pa_nil)))) ?_
  refine⟨_,rfl,l,rfl,⟨_,SqL.of hl⟩,fun D hD _=>?_⟩
  refine zJ (K:=K) (a:=l) (xs:=rs) (fun i zs τ H'=>∃ o,τ=[o]∧i≤rs.length∧zs=((xZ es).take i).map V.int∧H' D=some (.lst zs)∧Same H H') ?_ ?_ ?_ ?_
  ·exact⟨none,rfl,Nat.zero_le _,by simp,zd,Same.new hD⟩
  ·rintro i zs τ H' ⟨o,_,_,_,_,sm⟩
   exact SqL.of (sm _ _ hl)
  ·rintro i x zs τ H' hi ⟨o,rfl,_,rfl,hD',sm⟩
   obtain⟨e,names,he,m,ok,dd,sz⟩:=hm i x hi
   have hi':i<rs.length:=(List.getElem?_eq_some_iff.mp hi).1
   refine gn_if ?_
   refine⟨_,rfl,?_⟩
   obtain⟨p1,c1,x1,f1,f2,f3,f4,f5,f6,z1,z2,z3,z4,z5,z6,z7,z8,z9⟩:=WW.call T (A:=A.deeper (PyProof.Rows.envOfC "count_words" (defScope uP) s.heap.objs.size a.f_qm cdv)) hr (m.same sm) ok dd sz
   refine⟨p1,c1,x1,f1,f2,f3,f4,f5,f6,z1,z2,z3,z4,z5,z6,z7,z8,z9 _ fun p H1 t1 s1=>?_⟩
   have ez:(xZ es)[i]?=some ((e.size:Nat):Int):=by unfold xZ;rw[List.getElem?_map,he];rfl
   refine⟨p,_,rfl,.inl (SqL.of t1),s1 _ _ hD',?_,some x,rfl,hi',?_,zd,?_⟩
   ·rw[List.length_map]
    exact zj (Nat.le_trans (List.length_take_le _ _) (by omega))
   ·rw[List.take_add_one,ez,List.map_append,List.length_map,e.words_len]
    rfl
   ·have s2:=sm.trans s1
    intro b o e
    have hb:b≠D:=ne_of_none e hD
    rw[upd_ne hb]
    exact s2 b o e
  ·rintro zs τ H' ⟨o,rfl,_,rfl,hD',sm⟩
   have el:(xZ es).take rs.length=xZ es:=List.take_of_length_le (by unfold xZ;rw[List.length_map,hlen];exact Nat.le_refl _)
   rw[el] at hD'
   exact⟨D,xZ es,rfl,SqL.of hD',k H' sm⟩
abbrev yO:List Str:=["me", "lines"]
abbrev yt:List Str:=["worth", "me", "round", "lines", "to"]
abbrev yP:List Str:=["worth", "me", "round", "lines", "sum", "least", "most", "count"]
noncomputable def zv4 (a:Ad) (H:Hp) (e1 e2 e3 e4:Ex) (r1 r2 r3 r4:V):Prop :=
 (Made a H e1 r1∧e1.ok yO∧e1.dep≤8)∧(Made a H e2 r2∧e2.ok yt∧e2.dep≤8)∧(Made a H e3 r3∧e3.ok yt∧e3.dep≤8)∧(Made a H e4 r4∧e4.ok yP∧e4.dep≤8)∧e1.size+e2.size+e3.size+e4.size≤60
def WK (a:Ad):Sp:=fun vs H Q _=>∃ (p dx:Addr) (r1 r2 r3 r4:V) (e1 e2 e3 e4:Ex),vs=[.ref p,r1,r2,r3,r4]∧H p=some (.ins a.c_Program dx [])∧zv4 a H e1 e2 e3 e4 r1 r2 r3 r4 ∧
 ∀ H',Same H H'→Q .non (upd H' p (.ins a.c_Program dx [("start",r1),("send",r2),("when",r3),("renew",r4)]))
theorem VI (T:Txt w K mg a):FnOk P w K mg base CX0 22 a.f_qY a.d_qY ["self", "start", "send", "when", "renew"] (WK a):=by
 have c_ql:Callee P w K mg base "is_sound" a.f_ql a.d_ql ["expr", "names", "deep"] 19 (yy K a 9):=⟨Yl T 9,T.g_ql,T.F_ql.kp,T.b_ql⟩
 have c_qk:Callee P w K mg base "are_sound" a.f_qk a.d_qk ["parts", "names", "deep"] 20 (Vg K a 9):=⟨WX T (Yl T 9),T.g_qk,T.F_qk.kp,T.b_qk⟩
 have c_qm:Callee P w K mg base "count_words" a.f_qm a.d_qm ["exprs"] 10 (Yj a 8):=⟨XZ T 8,T.g_qm,T.F_qm.kp,T.b_qm⟩
 refine T.F_qY.ok zmb (fun vs H Q E h=>?_) (fun cdv A outer s H vs Q E hr h=>?_)
 ·obtain⟨p,dx,r1,r2,r3,r4,e1,e2,e3,e4,rfl,_⟩:=h
  rfl
 ·obtain⟨p,dx,r1,r2,r3,r4,e1,e2,e3,e4,rfl,hp,⟨⟨m1,o1,d1⟩,⟨m2,o2,d2⟩,⟨m3,o3,d3⟩,⟨m4,o4,d4⟩,hz⟩,k⟩:=h
  have q1:e1.gx.sound yO (8:Int).toNat=true:=Ex.sound o1 d1
  have q2:e2.gx.sound yt (8:Int).toNat=true:=Ex.sound o2 d2
  have q3:e3.gx.sound yt (8:Int).toNat=true:=Ex.sound o3 d3
  have q4:e4.gx.sound yP (8:Int).toNat=true:=Ex.sound o4 d4
  refine zy (w_pss_cons (w_ps_if (yT (zT (w_pe_c c_ql (hr.mono (by omega)) (w_pa_N (w_pv 1) (w_pa_N (yb (v:=.ref a.t_START_NAMES) rfl T.g_START_NAMES rfl) (w_pa_N (yb (v:=.int 8) rfl T.g_MOST_DEEP ⟨_,rfl⟩) w_pa_nil))))))
    (w_pss_one yp)
    zi)
   (w_pss_cons (w_ps_if (yT (zT (w_pe_c c_qk (hr.mono (by omega)) (w_pa_cons (zq (w_pa_N (w_pv 2) (w_pa_N (w_pv 3) w_pa_nil))) (w_pa_N (yb (v:=.ref a.t_SEND_NAMES) rfl T.g_SEND_NAMES rfl) (w_pa_N (yb (v:=.int 8) rfl T.g_MOST_DEEP ⟨_,rfl⟩) w_pa_nil))))))
    (w_pss_one yp)
    zi)
   (w_pss_cons (w_ps_if (yT (zT (w_pe_c c_ql (hr.mono (by omega)) (w_pa_N (w_pv 4) (w_pa_N (yb (v:=.ref a.t_RENEW_NAMES) rfl T.g_RENEW_NAMES rfl) (w_pa_N (yb (v:=.int 8) rfl T.g_MOST_DEEP ⟨_,rfl⟩) w_pa_nil))))))
    (w_pss_one yp)
    zi)
   (w_pss_cons (w_ps_if (w_pt_cmpR op_gt (w_pe_c c_qm (hr.mono (by omega)) (w_pa_cons (zq (w_pa_N (w_pv 1) (w_pa_N (w_pv 2) (w_pa_N (w_pv 3) (w_pa_N (w_pv 4) w_pa_nil))))) w_pa_nil)) (yb (v:=.int 60) rfl T.g_MOST_WORDS ⟨_,rfl⟩) (zo _))
    (w_pss_one yp)
    zi)
   (w_pss_cons (zK (w_pv 0) (w_pv 1) rfl)
   (w_pss_cons (zK (w_pv 0) (w_pv 2) rfl)
   (w_pss_cons (zK (w_pv 0) (w_pv 3) rfl)
   (w_pss_one (zK (w_pv 0) (w_pv 4) rfl))))))))) ?_
  refine⟨_,rfl,e1.gx,r1,_,yO,8,rfl,m1.gx T,T.s_START_NAMES,by decide,by decide,fun H1 s1=>⟨_,rfl,zZ (by rw[q1];rfl) ?_⟩⟩
  refine⟨_,rfl,_,rfl,(by show 2≤sizeLine;decide),fun lp hlp=>?_⟩
  have s2:=s1.trans (Same.new (o:=HO.lst [r2,r3]) hlp)
  refine⟨lp,_,_,_,yt,8,rfl,zd,zv2 ((m2.same s2).gx T) ((m3.same s2).gx T),T.s_SEND_NAMES,by decide,by decide,fun H3 s3=>⟨_,rfl,zZ (by rw[List.all_cons,List.all_cons,q2,q3];rfl) ?_⟩⟩
  have s3:=s2.trans s3
  refine⟨_,rfl,e4.gx,r4,_,yP,8,rfl,(m4.same s3).gx T,T.s_RENEW_NAMES,by decide,by decide,fun H4 s4=>⟨_,rfl,zZ (by rw[q4];rfl) ?_⟩⟩
  have s4:=s3.trans s4
  refine⟨_,rfl,_,rfl,_,rfl,_,rfl,(by show 4≤sizeLine;decide),fun lq hlq=>?_⟩
  have s5:=s4.trans (Same.new (o:=HO.lst [r1,r2,r3,r4]) hlq)
  have big:60≤sizeLine:=by decide
  refine⟨lq,_,[e1,e2,e3,e4],rfl,zd,by simp,⟨rfl,fun i r hi=>?_⟩,fun H6 s6=>⟨_,_,rfl,rfl,_,rfl,zZ ?_ ?_⟩⟩
  ·match i,hi with
   |0,hi=>cases hi;exact⟨e1,_,rfl,m1.same s5,o1,d1,by omega⟩
   |1,hi=>cases hi;exact⟨e2,_,rfl,m2.same s5,o2,d2,by omega⟩
   |2,hi=>cases hi;exact⟨e3,_,rfl,m3.same s5,o3,d3,by omega⟩
   |3,hi=>cases hi;exact⟨e4,_,rfl,m4.same s5,o4,d4,by omega⟩
   |_+4,hi=>simp at hi
  ·refine decide_eq_false ?_
   show ¬ ((xZ [e1,e2,e3,e4]).sum>60)
   simp[xZ]
   omega
  ·have s6:=s5.trans s6
   refine⟨_,rfl,_,rfl,p,a.c_Program,dx,_,rfl,s6 _ _ hp,T.cl_Program,T.na_Program_start,(by show 0<1000;decide),?_⟩
   refine⟨_,rfl,_,rfl,p,a.c_Program,dx,_,rfl,zd,T.cl_Program,T.na_Program_send,(by show 1<1000;decide),?_⟩
   refine⟨_,rfl,_,rfl,p,a.c_Program,dx,_,rfl,zd,T.cl_Program,T.na_Program_when,(by show 2<1000;decide),?_⟩
   refine⟨_,rfl,_,rfl,p,a.c_Program,dx,_,rfl,zd,T.cl_Program,T.na_Program_renew,(by show 3<1000;decide),?_⟩
   rw[yo,yo,yo]
   exact k H6 s6
end
end K04

namespace K04
open PySem L2
section
variable {P:Program}{w:World}{K:PySem.W.Frag}{mg:Str→Option Value}{base:Heap}{a:Ad}
def Yf (a:Ad) (n:Nat):Sp:=fun vs H Q _=>∃ (e:Ex) (v:V) (names:List Str),vs=[v]∧Told H e v∧e.dep≤n∧e.ok names∧∀ r H',Made a H' e r→Same H H'→Q r H'
theorem YA (T:Txt w K mg a):∀ n,FnOk P w K mg base CX0 (n+2) a.f_qA a.d_qA ["_law_told"] (Yf a n)
 |0=>⟨fun vs H Q E h=>by
   obtain⟨e,v,names,rfl,_⟩:=h
   rfl,fun A outer s H args us vs Q E _ _ _ _ h=>by
   obtain⟨e,v,names,_,_,hd,_⟩:=h
   have:=e.dep_pos
   omega⟩
 |n+1=>by
  have c_qA:Callee P w K mg base "_law_made" a.f_qA a.d_qA ["_law_told"] (n+2) (Yf a n):=⟨YA T n,T.g_qA,T.F_qA.kp,T.b_qA⟩
  have m_Num:Maker P w K mg base "Num" a.c_Num a.f_qJ a.d_qJ ["self", "value"] 1 (zif a.c_Num "value"):=⟨vV T,T.g_Num,T.mk_Num,T.b_qJ⟩
  have m_Name:Maker P w K mg base "Name" a.c_Name a.f_qM a.d_qM ["self", "word"] 1 (zif a.c_Name "word"):=⟨vo T,T.g_Name,T.mk_Name,T.b_qM⟩
  have m_Two:Maker P w K mg base "Two" a.c_Two a.f_qP a.d_qP ["self", "word", "one", "other"] 1 (zui a.c_Two "word" "one" "other"):=⟨vU T,T.g_Two,T.mk_Two,T.b_qP⟩
  have m_Mod:Maker P w K mg base "Mod" a.c_Mod a.f_qS a.d_qS ["self", "inner", "number"] 1 (zuj a.c_Mod "inner" "number"):=⟨vW T,T.g_Mod,T.mk_Mod,T.b_qS⟩
  have m_Less:Maker P w K mg base "Less" a.c_Less a.f_qV a.d_qV ["self", "one", "other", "third", "fourth"] 1 (zuh a.c_Less "one" "other" "third" "fourth"):=⟨vq T,T.g_Less,T.mk_Less,T.b_qV⟩
  refine T.F_qA.ok zmr (fun vs H Q E h=>?_) (fun cdv A outer s H vs Q E hr h=>?_)
  ·obtain⟨e,v,names,rfl,_⟩:=h
   rfl
  ·obtain⟨e,v,names,rfl,ht,hdep,ho,k⟩:=h
   refine zy (w_pss_cons (w_ps_if (w_pt_cmpR yd (zk zw (w_pv 0) ze (fun _ _=>rfl)) w_pe_str (zo _))
    (w_pss_one (zf (xD m_Num (hr.mono (by omega)) (w_pa_cons (zk zw (w_pv 0) ze (fun _ _=>rfl)) w_pa_nil))))
    zi)
   (w_pss_cons (w_ps_if (w_pt_cmpR yd (zk zw (w_pv 0) ze (fun _ _=>rfl)) w_pe_str (zo _))
    (w_pss_one (zf (xD m_Name (hr.mono (by omega)) (w_pa_cons (zk zw (w_pv 0) ze (fun _ _=>rfl)) w_pa_nil))))
    zi)
   (w_pss_cons (w_ps_if (w_pt_cmpR yd (zk zw (w_pv 0) ze (fun _ _=>rfl)) w_pe_str (zo _))
    (w_pss_one (zf (xD m_Mod (hr.mono (by omega)) (zu (w_pe_c c_qA (hr.mono (by omega)) (w_pa_cons (zk zw (w_pv 0) ze (fun _ _=>rfl)) w_pa_nil)) (w_pa_cons (zk zw (w_pv 0) ze (fun _ _=>rfl)) w_pa_nil)))))
    zi)
   (w_pss_cons (w_ps_if (w_pt_cmpR yd (zk zw (w_pv 0) ze (fun _ _=>rfl)) w_pe_str (zo _))
    (w_pss_one (zf (xD m_Less (hr.mono (by omega)) (zu (w_pe_c c_qA (hr.mono (by omega)) (w_pa_cons (zk zw (w_pv 0) ze (fun _ _=>rfl)) w_pa_nil)) (zu (w_pe_c c_qA (hr.mono (by omega)) (w_pa_cons (zk zw (w_pv 0) ze (fun _ _=>rfl)) w_pa_nil)) (zu (w_pe_c c_qA (hr.mono (by omega)) (w_pa_cons (zk zw (w_pv 0) ze (fun _ _=>rfl)) w_pa_nil)) (zu (w_pe_c c_qA (hr.mono (by omega)) (w_pa_cons (zk zw (w_pv 0) ze (fun _ _=>rfl)) w_pa_nil)) w_pa_nil)))))))
    zi)
   (w_pss_one (zf (xD m_Two (hr.mono (by omega)) (w_pa_cons (zk zw (w_pv 0) ze (fun _ _=>rfl)) (zu (w_pe_c c_qA (hr.mono (by omega)) (w_pa_cons (zk zw (w_pv 0) ze (fun _ _=>rfl)) w_pa_nil)) (zu (w_pe_c c_qA (hr.mono (by omega)) (w_pa_cons (zk zw (w_pv 0) ze (fun _ _=>rfl)) w_pa_nil)) w_pa_nil)))))))))) ?_
   cases e with
   |num i =>
    obtain⟨p,rfl,hp⟩:=ht
    refine⟨_,rfl,p,_,0,_,rfl,rfl,SqT.of hp,rfl,rfl,_,rfl,iteB (by decide +kernel) ?_⟩
    refine⟨_,rfl,p,_,1,_,rfl,rfl,SqT.of hp,rfl,fun x dx nx ndx nex=>⟨x,dx,_,rfl,zd,rfl,?_⟩⟩
    exact k _ _ ⟨x,dx,rfl,zd⟩ (Same.made nx ndx)
   |name i =>
    obtain⟨p,rfl,hp⟩:=ht
    refine⟨_,rfl,p,_,0,_,rfl,rfl,SqT.of hp,rfl,rfl,_,rfl,zZ (by decide +kernel) ?_⟩
    refine⟨_,rfl,p,_,0,_,rfl,rfl,SqT.of hp,rfl,rfl,_,rfl,iteB (by decide +kernel) ?_⟩
    refine⟨_,rfl,p,_,1,_,rfl,rfl,SqT.of hp,rfl,fun x dx nx ndx nex=>⟨x,dx,_,rfl,zd,rfl,?_⟩⟩
    exact k _ _ ⟨x,dx,rfl,zd⟩ (Same.made nx ndx)
   |mod e1 i =>
    obtain⟨p,u1,rfl,hp,t1⟩:=ht
    obtain⟨_,o1⟩:=ho
    have hdep:e1.dep+1≤n+1:=hdep
    refine⟨_,rfl,p,_,0,_,rfl,rfl,SqT.of hp,rfl,rfl,_,rfl,zZ (by decide +kernel) ?_⟩
    refine⟨_,rfl,p,_,0,_,rfl,rfl,SqT.of hp,rfl,rfl,_,rfl,zZ (by decide +kernel) ?_⟩
    refine⟨_,rfl,p,_,0,_,rfl,rfl,SqT.of hp,rfl,rfl,_,rfl,iteB (by decide +kernel) ?_⟩
    refine⟨_,rfl,p,_,1,_,rfl,rfl,SqT.of hp,rfl,e1,_,names,rfl,t1,by omega,o1,fun r1 H1 m1 s1=>?_⟩
    refine⟨_,rfl,p,_,2,_,rfl,rfl,SqT.of (s1 _ _ hp),rfl,fun x dx nx ndx nex=>⟨x,dx,_,_,rfl,zd,rfl,?_⟩⟩
    exact k _ _ ⟨x,dx,r1,rfl,zd,m1.same (Same.made nx ndx)⟩ (s1.trans (Same.made nx ndx))
   |less e1 e2 e3 e4 =>
    obtain⟨p,u1,u2,u3,u4,rfl,hp,t1,t2,t3,t4⟩:=ht
    obtain⟨o1,o2,o3,o4⟩:=ho
    have hdep:max (max e1.dep e2.dep) (max e3.dep e4.dep)+1≤n+1:=hdep
    refine⟨_,rfl,p,_,0,_,rfl,rfl,SqT.of hp,rfl,rfl,_,rfl,zZ (by decide +kernel) ?_⟩
    refine⟨_,rfl,p,_,0,_,rfl,rfl,SqT.of hp,rfl,rfl,_,rfl,zZ (by decide +kernel) ?_⟩
    refine⟨_,rfl,p,_,0,_,rfl,rfl,SqT.of hp,rfl,rfl,_,rfl,zZ (by decide +kernel) ?_⟩
    refine⟨_,rfl,p,_,0,_,rfl,rfl,SqT.of hp,rfl,rfl,_,rfl,iteB (by decide +kernel) ?_⟩
    refine⟨_,rfl,p,_,1,_,rfl,rfl,SqT.of hp,rfl,e1,_,names,rfl,t1,by omega,o1,fun r1 H1 m1 s1=>?_⟩
    refine⟨_,rfl,p,_,2,_,rfl,rfl,SqT.of (s1 _ _ hp),rfl,e2,_,names,rfl,t2.same s1,by omega,o2,fun r2 H2 m2 s2=>?_⟩
    have s12:=s1.trans s2
    refine⟨_,rfl,p,_,3,_,rfl,rfl,SqT.of (s12 _ _ hp),rfl,e3,_,names,rfl,t3.same s12,by omega,o3,fun r3 H3 m3 s3=>?_⟩
    have s123:=s12.trans s3
    refine⟨_,rfl,p,_,4,_,rfl,rfl,SqT.of (s123 _ _ hp),rfl,e4,_,names,rfl,t4.same s123,by omega,o4,fun r4 H4 m4 s4=>?_⟩
    refine fun x dx nx ndx nex=>⟨x,dx,_,_,_,_,rfl,zd,rfl,?_⟩
    have s5:Same H4 _:=Same.made (C:=a.c_Less) (fs:=[("one",r1),("other",r2),("third",r3),("fourth",r4)]) (fs':=[]) nx ndx
    exact k _ _ ⟨x,dx,r1,r2,r3,r4,rfl,zd,m1.same (s2.trans (s3.trans (s4.trans s5))),m2.same (s3.trans (s4.trans s5)),m3.same (s4.trans s5),m4.same s5⟩ (s123.trans (s4.trans s5))
   |two wd e1 e2 =>
    obtain⟨p,u1,u2,rfl,hp,t1,t2⟩:=ht
    obtain⟨hw,o1,o2⟩:=ho
    have hdep:max e1.dep e2.dep+1≤n+1:=hdep
    obtain⟨w1,w2,w3,w4⟩:=WE hw
    refine⟨_,rfl,p,_,0,_,rfl,rfl,SqT.of hp,rfl,rfl,_,rfl,zZ w1 ?_⟩
    refine⟨_,rfl,p,_,0,_,rfl,rfl,SqT.of hp,rfl,rfl,_,rfl,zZ w2 ?_⟩
    refine⟨_,rfl,p,_,0,_,rfl,rfl,SqT.of hp,rfl,rfl,_,rfl,zZ w3 ?_⟩
    refine⟨_,rfl,p,_,0,_,rfl,rfl,SqT.of hp,rfl,rfl,_,rfl,zZ w4 ?_⟩
    refine⟨_,rfl,p,_,0,_,rfl,rfl,SqT.of hp,rfl,?_⟩
    refine⟨_,rfl,p,_,1,_,rfl,rfl,SqT.of hp,rfl,e1,_,names,rfl,t1,by omega,o1,fun r1 H1 m1 s1=>?_⟩
    refine⟨_,rfl,p,_,2,_,rfl,rfl,SqT.of (s1 _ _ hp),rfl,e2,_,names,rfl,t2.same s1,by omega,o2,fun r2 H2 m2 s2=>?_⟩
    refine fun x dx nx ndx nex=>⟨x,dx,_,_,_,rfl,zd,rfl,?_⟩
    have s5:Same H2 _:=Same.made (C:=a.c_Two) (fs:=[("word",V.str wd),("one",r1),("other",r2)]) (fs':=[]) nx ndx
    exact k _ _ ⟨x,dx,r1,r2,rfl,zd,m1.same (s2.trans s5),m2.same s5⟩ ((s1.trans s2).trans s5)
end
end K04

namespace K04
open PySem L2
abbrev ky (x:Str):Key:=Sum.inr x
abbrev kvF (hand lines:Int):List (Key×V):=[(ky "me",.int hand),(ky "lines",.int lines)]
abbrev kvS (worth hand turn lines other:Int):List (Key×V):=[(ky "worth",.int worth),(ky "me",.int hand),(ky "round",.int turn),(ky "lines",.int lines),(ky "to",.int other)]
abbrev kvR (worth hand turn lines sum mn mx ct:Int):List (Key×V):=[(ky "worth",.int worth),(ky "me",.int hand),(ky "round",.int turn),(ky "lines",.int lines),(ky "sum",.int sum),(ky "least",.int mn),(ky "most",.int mx),(ky "count",.int ct)]
theorem zv1 {h l:Int}:Has yO (kvF h l):=fun x hx=>by
 simp only[List.mem_cons,List.not_mem_nil,or_false] at hx
 rcases hx with rfl | rfl
 ·exact⟨h,rfl⟩
 ·exact⟨l,rfl⟩
theorem zk6 {q h t l o:Int}:Has yt (kvS q h t l o):=fun x hx=>by
 simp only[List.mem_cons,List.not_mem_nil,or_false] at hx
 rcases hx with rfl | rfl | rfl | rfl | rfl
 ·exact⟨q,rfl⟩
 ·exact⟨h,rfl⟩
 ·exact⟨t,rfl⟩
 ·exact⟨l,rfl⟩
 ·exact⟨o,rfl⟩
theorem zv0 {q h t l s mn mx c:Int}:Has yP (kvR q h t l s mn mx c):=fun x hx=>by
 simp only[List.mem_cons,List.not_mem_nil,or_false] at hx
 rcases hx with rfl | rfl | rfl | rfl | rfl | rfl | rfl | rfl
 ·exact⟨q,rfl⟩
 ·exact⟨h,rfl⟩
 ·exact⟨t,rfl⟩
 ·exact⟨l,rfl⟩
 ·exact⟨s,rfl⟩
 ·exact⟨mn,rfl⟩
 ·exact⟨mx,rfl⟩
 ·exact⟨c,rfl⟩
def LstN (ns:List Int) (m:Int):Prop:=(ns=[]∧m=0)∨(m∈ns∧∀ y∈ns,m≤y)
def MstN (ns:List Int) (m:Int):Prop:=(ns=[]∧m=0)∨(m∈ns∧∀ y∈ns,y≤m)
section
variable {P:Program}{w:World}{K:PySem.W.Frag}{mg:Str→Option Value}{base:Heap}{a:Ad}
theorem Reckons.call2 {n:Nat}(R:Reckons P w K mg base a n) (T:Txt w K mg a){A:Around}(hr:Room (n+1) A){H:Hp}{e:Ex}{x:V}{names:List Str}(hM:Made a H e x) (hd:e.dep≤n) (ho:e.ok names) :
  ∃ (p C dx:Addr) (fs:List (Str×V)) (f:Addr) (fd:FuncData) (ps:List Str) (k:Nat) (sp:Sp),x=.ref p∧H p=some (.ins C dx fs)∧fs.lookup ("reckon" : Str)=none∧Cls K C∧Meth K C "reckon" f∧FnOk P w K mg base CX0 k f fd ps sp∧Room k A∧Binds K fd ps [] ∧
   ∀ (H1:Hp) (d:Addr) (kvs:List (Key×V)),Same H H1→H1 d=some (.dK kvs)→Has names kvs→∀ Q:VK,Q (.int (e.val (rho kvs))) H1→sp (x::([.ref d]++[])) H1 Q E0:=by
 cases e with
 |num i =>
  obtain⟨p,dx,rfl,hp⟩:=id hM
  exact⟨p,_,dx,_,_,_,_,_,_,rfl,hp,rfl,T.cl_Num,T.mt_qK,R.num,hr,T.b_qK,fun H1 d kvs sm h1 h2 Q q=>⟨_,_,_,_,_,rfl,⟨_,rfl⟩,hM.same sm,hd,ho,h1,h2,q⟩⟩
 |name i =>
  obtain⟨p,dx,rfl,hp⟩:=id hM
  exact⟨p,_,dx,_,_,_,_,_,_,rfl,hp,rfl,T.cl_Name,T.mt_qN,R.name,hr,T.b_qN,fun H1 d kvs sm h1 h2 Q q=>⟨_,_,_,_,_,rfl,⟨_,rfl⟩,hM.same sm,hd,ho,h1,h2,q⟩⟩
 |two i e1 e2 =>
  obtain⟨p,dx,u1,u2,rfl,hp,_⟩:=id hM
  exact⟨p,_,dx,_,_,_,_,_,_,rfl,hp,rfl,T.cl_Two,T.mt_qQ,R.two,hr,T.b_qQ,fun H1 d kvs sm h1 h2 Q q=>⟨_,_,_,_,_,rfl,⟨_,_,_,rfl⟩,hM.same sm,hd,ho,h1,h2,q⟩⟩
 |mod e1 i =>
  obtain⟨p,dx,u1,rfl,hp,_⟩:=id hM
  exact⟨p,_,dx,_,_,_,_,_,_,rfl,hp,rfl,T.cl_Mod,T.mt_qT,R.mod,hr,T.b_qT,fun H1 d kvs sm h1 h2 Q q=>⟨_,_,_,_,_,rfl,⟨_,_,rfl⟩,hM.same sm,hd,ho,h1,h2,q⟩⟩
 |less e1 e2 e3 e4 =>
  obtain⟨p,dx,u1,u2,u3,u4,rfl,hp,_⟩:=id hM
  exact⟨p,_,dx,_,_,_,_,_,_,rfl,hp,rfl,T.cl_Less,T.mt_qW,R.less,hr,T.b_qW,fun H1 d kvs sm h1 h2 Q q=>⟨_,_,_,_,_,rfl,⟨_,_,_,_,rfl⟩,hM.same sm,hd,ho,h1,h2,q⟩⟩
def ProgAt (a:Ad) (H:Hp) (e1 e2 e3 e4:Ex) (r:V):Prop:=∃ (p dx:Addr) (r1 r2 r3 r4:V),r=.ref p∧H p=some (.ins a.c_Program dx [("start",r1),("send",r2),("when",r3),("renew",r4)])∧zv4 a H e1 e2 e3 e4 r1 r2 r3 r4
def Vf (a:Ad):Sp:=fun vs H Q _=>∃ (r:V) (e1 e2 e3 e4:Ex) (hand lines:Int),vs=[r,.int hand,.int lines]∧ProgAt a H e1 e2 e3 e4 r∧∀ H',Same H H'→Q (.int (e1.val (rho (kvF hand lines)))) H'
def XG (a:Ad):Sp:=fun vs H Q _=>∃ (r:V) (e1 e2 e3 e4:Ex) (worth hand turn lines other:Int),vs=[r,.int worth,.int hand,.int turn,.int lines,.int other]∧ProgAt a H e1 e2 e3 e4 r ∧
 ∀ H',Same H H'→Q (if e3.val (rho (kvS worth hand turn lines other))>0 then .int (e2.val (rho (kvS worth hand turn lines other))) else .non) H'
def zft (a:Ad):Sp:=fun vs H Q _=>∃ (r:V) (e1 e2 e3 e4:Ex) (worth hand turn lines:Int) (hl:Addr) (ns:List Int),vs=[r,.int worth,.int hand,.int turn,.int lines,.ref hl]∧ProgAt a H e1 e2 e3 e4 r∧H hl=some (.lst (ns.map V.int)) ∧
 ∀ H' mn mx,Same H H'→LstN ns mn→MstN ns mx→Q (.int (e4.val (rho (kvR worth hand turn lines ns.sum mn mx ns.length)))) H'
theorem XY (T:Txt w K mg a):FnOk P w K mg base CX0 10 a.f_qZ a.d_qZ ["self", "hand", "lines"] (Vf a):=by
 have RR:Reckons P w K mg base a 8:=xi T 8
 refine T.F_qZ.ok zma (fun vs H Q E h=>?_) (fun cdv A outer s H vs Q E hr h=>?_)
 ·obtain⟨r,e1,e2,e3,e4,hand,lines,rfl,_⟩:=h
  rfl
 ·obtain⟨r,e1,e2,e3,e4,hand,lines,rfl,⟨p,dx,r1,r2,r3,r4,rfl,hp,⟨m1,o1,d1⟩,_⟩,k⟩:=h
  refine zy (w_pss_one (zf (w_pe_methD (w_pe_fld (w_pv 0) rfl) (w_pa_cons (w_pe_disp (w_pps_cons w_pe_str (w_pv 1) (w_pps_cons w_pe_str (w_pv 2) yj)) rfl rfl (by intro z;cases z) (by decide)) w_pa_nil)))) ?_
  refine⟨_,rfl,p,_,dx,_,_,rfl,hp,T.cl_Program,T.na_Program_start,rfl,?_⟩
  obtain⟨p1,c1,x1,f1,f2,f3,f4,f5,f6,q1,q2,q3,q4,q5,q6,q7,q8,q9⟩:=RR.call2 T (A:=A.deeper (PyProof.Rows.envOfC "Program.first_worth" (defScope uQ) s.heap.objs.size a.f_qZ cdv)) hr m1 d1 o1
  refine⟨p1,c1,x1,f1,f2,f3,f4,f5,f6,q1,q2,q3,q4,q5,q6,q7,q8,fun pd hpd=>⟨_,rfl,_,rfl,zd,kvF hand lines,rfl,(by show 2≤15;decide),?_⟩⟩
  have sm:Same H (upd (upd H pd (.dK [])) pd (.dK (mergeK [] (kvF hand lines)))):=fun b o e=>by
   have hb:=ne_of_none e hpd
   rw[upd_ne hb,upd_ne hb]
   exact e
  exact q9 _ pd (kvF hand lines) sm zd zv1 _ (k _ sm)
theorem uW (T:Txt w K mg a):FnOk P w K mg base CX0 10 a.f_qa0 a.d_qa0 ["self", "worth", "hand", "turn", "lines", "other"] (XG a):=by
 have RR:Reckons P w K mg base a 8:=xi T 8
 refine T.F_qa0.ok sc_qa0 (fun vs H Q E h=>?_) (fun cdv A outer s H vs Q E hr h=>?_)
 ·obtain⟨r,e1,e2,e3,e4,worth,hand,turn,lines,other,rfl,_⟩:=h
  rfl
 ·obtain⟨r,e1,e2,e3,e4,worth,hand,turn,lines,other,rfl,⟨p,dx,r1,r2,r3,r4,rfl,hp,_,⟨m2,o2,d2⟩,⟨m3,o3,d3⟩,_⟩,k⟩:=h
  refine zy (w_pss_cons (w_ps_set (i:=6) sc_qa0.nd rfl (Or.inl rfl) (w_pe_disp (w_pps_cons w_pe_str (w_pv 1) (w_pps_cons w_pe_str (w_pv 2) (w_pps_cons w_pe_str (w_pv 3) (w_pps_cons w_pe_str (w_pv 4) (w_pps_cons w_pe_str (w_pv 5) yj))))) rfl rfl (by intro z;cases z) (by decide)))
   (w_pss_cons (w_ps_if (w_pt_cmpR op_gt (w_pe_methD (w_pe_fld (w_pv 0) rfl) (w_pa_N (w_pv 6) w_pa_nil)) ze (zo _))
    (w_pss_one (zf (w_pe_methD (w_pe_fld (w_pv 0) rfl) (w_pa_N (w_pv 6) w_pa_nil))))
    zi)
   (w_pss_one (zf uf)))) ?_
  refine fun pd hpd=>⟨_,rfl,_,rfl,_,rfl,_,rfl,_,rfl,zd,kvS worth hand turn lines other,rfl,(by show 5≤15;decide),?_⟩
  have sm:Same H (upd (upd H pd (.dK [])) pd (.dK (mergeK [] (kvS worth hand turn lines other)))):=fun b o e=>by
   have hb:=ne_of_none e hpd
   rw[upd_ne hb,upd_ne hb]
   exact e
  have hdd:upd (upd H pd (.dK [])) pd (.dK (mergeK [] (kvS worth hand turn lines other))) pd=some (.dK (kvS worth hand turn lines other)):=zd
  generalize upd (upd H pd (.dK [])) pd (.dK (mergeK [] (kvS worth hand turn lines other)))=H1 at sm hdd ⊢
  refine⟨_,rfl,p,_,dx,_,_,rfl,sm _ _ hp,T.cl_Program,T.na_Program_when,rfl,?_⟩
  obtain⟨p1,c1,x1,f1,f2,f3,f4,f5,f6,q1,q2,q3,q4,q5,q6,q7,q8,q9⟩:=RR.call2 T (A:=A.deeper (PyProof.Rows.envOfC "Program.word_to" (defScope xF) s.heap.objs.size a.f_qa0 cdv)) hr (m3.same sm) d3 o3
  refine⟨p1,c1,x1,f1,f2,f3,f4,f5,f6,q1,q2,q3,q4,q5,q6,q7,q8,_,rfl,q9 H1 pd _ (Same.refl H1) hdd zk6 _ ?_⟩
  refine⟨_,_,rfl,rfl,_,rfl,?_⟩
  have k':=k H1 sm
  refine ite2 (fun q=>?_) (fun q=>?_)
  ·have q':e3.val (rho (kvS worth hand turn lines other))>0:=of_decide_eq_true q
   rw[if_pos q'] at k'
   refine⟨_,rfl,p,_,dx,_,_,rfl,sm _ _ hp,T.cl_Program,T.na_Program_send,rfl,?_⟩
   obtain⟨p1,c1,x1,f1,f2,f3,f4,f5,f6,q1,q2,q3,q4,q5,q6,q7,q8,q9⟩:=RR.call2 T (A:=A.deeper (PyProof.Rows.envOfC "Program.word_to" (defScope xF) s.heap.objs.size a.f_qa0 cdv)) hr (m2.same sm) d2 o2
   exact⟨p1,c1,x1,f1,f2,f3,f4,f5,f6,q1,q2,q3,q4,q5,q6,q7,q8,_,rfl,q9 H1 pd _ (Same.refl H1) hdd zk6 _ k'⟩
  ·have q':¬ e3.val (rho (kvS worth hand turn lines other))>0:=fun z=>q (decide_eq_true z)
   rw[if_neg q'] at k'
   exact k'
theorem VL (T:Txt w K mg a):FnOk P w K mg base CX0 10 a.f_qa1 a.d_qa1 ["self", "worth", "hand", "turn", "lines", "heard"] (zft a):=by
 have RR:Reckons P w K mg base a 8:=xi T 8
 refine T.F_qa1.ok sc_qa1 (fun vs H Q E h=>?_) (fun cdv A outer s H vs Q E hr h=>?_)
 ·obtain⟨r,e1,e2,e3,e4,worth,hand,turn,lines,hl,ns,rfl,_⟩:=h
  rfl
 ·obtain⟨r,e1,e2,e3,e4,worth,hand,turn,lines,hl,ns,rfl,⟨p,dx,r1,r2,r3,r4,rfl,hp,_,_,_,⟨m4,o4,d4⟩,_⟩,hh,k⟩:=h
  have hu:=yH hr
  refine zy (w_pss_cons (w_ps_set (i:=6) sc_qa1.nd rfl (Or.inl rfl) (w_pe_disp (w_pps_cons w_pe_str (w_pv 1) (w_pps_cons w_pe_str (w_pv 2) (w_pps_cons w_pe_str (w_pv 3) (w_pps_cons w_pe_str (w_pv 4) yj)))) rfl rfl (by intro z;cases z) (by decide)))
   (w_pss_cons (w_ps_dput hu (w_pv 6) w_pe_str (w_pe_callB (call_sumI rfl) (by rfl) T.n_sum Xd (w_pa_N (w_pv 5) w_pa_nil)) rfl)
   (w_pss_cons (w_ps_dput hu (w_pv 6) w_pe_str (wU rfl (by rfl) T.n_min (w_pa_N (w_pv 5) w_pa_nil) ze) rfl)
   (w_pss_cons (w_ps_dput hu (w_pv 6) w_pe_str (wV rfl (by rfl) T.n_max (w_pa_N (w_pv 5) w_pa_nil) ze) rfl)
   (w_pss_cons (w_ps_dput hu (w_pv 6) w_pe_str (w_pe_callB zl (by rfl) T.n_len zN (w_pa_N (w_pv 5) w_pa_nil)) rfl)
   (w_pss_one (zf (w_pe_methD (w_pe_fld (w_pv 0) rfl) (w_pa_N (w_pv 6) w_pa_nil))))))))) ?_
  refine fun pd hpd=>⟨_,rfl,_,rfl,_,rfl,_,rfl,zd,[(ky "worth",.int worth),(ky "me",.int hand),(ky "round",.int turn),(ky "lines",.int lines)],rfl,(by show 4≤15;decide),?_⟩
  have hne:hl≠pd:=ne_of_none hh hpd
  have up:∀ {Hx:Hp}{o:HO},Hx hl=some (.lst (ns.map V.int))→upd Hx pd o hl=some (.lst (ns.map V.int)):=fun h=>by rw[upd_ne hne];exact h
  have h1:=up (o:=.dK (mergeK [] [(ky "worth",.int worth),(ky "me",.int hand),(ky "round",.int turn),(ky "lines",.int lines)])) (up (o:=.dK []) hh)
  refine⟨_,rfl,hl,ns,rfl,SqL.of h1,_,rfl,pd,_,rfl,DPut.k (k:=ky "sum") zd (zj (by show 4≤1000;decide)),?_⟩
  refine⟨_,rfl,hl,ns,0,rfl,rfl,SqL.of (up h1),fun mn hmn=>⟨_,rfl,pd,_,rfl,DPut.k (k:=ky "least") zd (zj (by show 5≤1000;decide)),?_⟩⟩
  refine⟨_,rfl,hl,ns,0,rfl,rfl,SqL.of (up (up h1)),fun mx hmx=>⟨_,rfl,pd,_,rfl,DPut.k (k:=ky "most") zd (zj (by show 6≤1000;decide)),?_⟩⟩
  refine⟨_,rfl,hl,_,rfl,.inl (SqL.of (up (up (up h1)))),_,rfl,pd,_,rfl,DPut.k (k:=ky "count") zd (zj (by show 7≤1000;decide)),?_⟩
  rw[List.length_map]
  simp only[yo]
  have hdd:upd H pd (.dK (putK (putK (putK (putK (mergeK [] [(ky "worth",.int worth),(ky "me",.int hand),(ky "round",.int turn),(ky "lines",.int lines)]) (ky "sum") (.int ns.sum)) (ky "least") (.int mn)) (ky "most") (.int mx)) (ky "count") (.int ns.length))) pd=some (.dK (kvR worth hand turn lines ns.sum mn mx ns.length)):=zd
  have sm:=Same.new (o:=.dK (putK (putK (putK (putK (mergeK [] [(ky "worth",.int worth),(ky "me",.int hand),(ky "round",.int turn),(ky "lines",.int lines)]) (ky "sum") (.int ns.sum)) (ky "least") (.int mn)) (ky "most") (.int mx)) (ky "count") (.int ns.length))) hpd
  generalize upd H pd (.dK (putK (putK (putK (putK (mergeK [] [(ky "worth",.int worth),(ky "me",.int hand),(ky "round",.int turn),(ky "lines",.int lines)]) (ky "sum") (.int ns.sum)) (ky "least") (.int mn)) (ky "most") (.int mx)) (ky "count") (.int ns.length)))=H1 at sm hdd ⊢
  refine⟨_,rfl,p,_,dx,_,_,rfl,sm _ _ hp,T.cl_Program,T.na_Program_renew,rfl,?_⟩
  obtain⟨p1,c1,x1,f1,f2,f3,f4,f5,f6,q1,q2,q3,q4,q5,q6,q7,q8,q9⟩:=RR.call2 T (A:=A.deeper (PyProof.Rows.envOfC "Program.next_worth" (defScope wf) s.heap.objs.size a.f_qa1 cdv)) hr (m4.same sm) d4 o4
  exact⟨p1,c1,x1,f1,f2,f3,f4,f5,f6,q1,q2,q3,q4,q5,q6,q7,q8,_,rfl,q9 H1 pd _ (Same.refl H1) hdd zv0 _ (k H1 mn mx sm hmn hmx)⟩
end
end K04

namespace K04
open PySem L2
def LnAt (H:Hp) (rs:List V) (ls:List (Int×Int)):Prop:=rs.length=ls.length∧∀ (i:Nat) r p,rs[i]?=some r→ls[i]?=some p→∃ q,r=.ref q∧H q=some (.tup [.int p.1,.int p.2])
theorem LnAt.same {H H':Hp}{rs:List V}{ls:List (Int×Int)}(h:LnAt H rs ls) (s:Same H H'):LnAt H' rs ls:=⟨h.1,fun i r p h1 h2=>by
 obtain⟨q,e,t⟩:=h.2 i r p h1 h2
 exact⟨q,e,s _ _ t⟩⟩
theorem LnAt.get {H:Hp}{rs:List V}{ls:List (Int×Int)}(h:LnAt H rs ls){i:Nat}{r:V}(e:rs[i]?=some r):∃ p q,ls[i]?=some p∧r=.ref q∧H q=some (.tup [.int p.1,.int p.2]):=by
 have hi:i<ls.length:=by rw[← h.1];exact(List.getElem?_eq_some_iff.mp e).1
 have hp:ls[i]?=some ls[i]:=by simp[hi]
 obtain⟨q,e1,e2⟩:=h.2 i r _ e hp
 exact⟨_,q,hp,e1,e2⟩
theorem v6 {x:Int}:∀ {ns:List Int},inV (.int x) (ns.map V.int)=decide (x∈ns)
 |[]=>by simp[inV]
 |n::ns=>by
  have ih:=v6 (x:=x) (ns:=ns)
  unfold inV at ih ⊢
  rw[List.map_cons,List.any_cons,ih]
  show((n == x)||decide (x∈ns))=decide (x∈n::ns)
  by_cases e:n=x
  ·simp[e]
  ·have e':¬ x=n:=fun z=>e z.symm
   simp[e,e']
theorem vz (ns:List Int):(ns.map V.int).all yR=true:=by
 rw[List.all_eq_true]
 intro v hv
 obtain⟨x,_,rfl⟩:=List.mem_map.mp hv
 rfl
section
variable {P:Program}{w:World}{K:PySem.W.Frag}{mg:Str→Option Value}{base:Heap}{a:Ad}
def wy:Sp:=fun vs H Q _=>∃ i:Int,vs=[.int i]∧Q (.bl true) H
theorem wG (T:Txt w K mg a):FnOk P w K mg base CX0 1 a.f_qg a.d_qg ["value"] wy:=by
 refine T.F_qg.ok zfw (fun vs H Q E h=>?_) (fun cdv A outer s H vs Q E hr h=>?_)
 ·obtain⟨i,rfl,_⟩:=h
  rfl
 ·obtain⟨i,rfl,k⟩:=h
  refine⟨_,(zL (yu (uv (zY zQ (by rfl) T.n_isinstance zv (xn (pv 0) (xn (wj T.n_int uJ) zR))) (Yt (WP (zY zQ (by rfl) T.n_isinstance zv (xn (pv 0) (xn (wj T.n_bool Xf) zR)))))))),?_⟩
  refine⟨_,rfl,_,_,_,_,_,rfl,rfl,.int i,T.k_tint_tint,_,rfl,Xw ?_⟩
  exact⟨_,rfl,_,_,_,_,_,rfl,rfl,.int i,T.k_tint_tbool,_,rfl,k⟩
def Yh:Sp:=fun vs H Q _=>∃ (h:Addr) (hs:List Int),vs=[.ref h]∧H h=some (.lst (hs.map V.int))∧Hs hs∧Q (.bl true) H
theorem XX (T:Txt w K mg a):FnOk P w K mg base CX0 2 a.f_qn a.d_qn ["hands"] Yh:=by
 have c_qg:Callee P w K mg base "is_whole" a.f_qg a.d_qg ["value"] 1 wy:=⟨wG T,T.g_qg,T.F_qg.kp,T.b_qg⟩
 refine T.F_qn.ok sc_qn (fun vs H Q E h=>?_) (fun cdv A outer s H vs Q E hr h=>?_)
 ·obtain⟨h,hs,rfl,_⟩:=h
  rfl
 ·obtain⟨h,hs,rfl,hh,W,k⟩:=h
  have w1:=W.l1
  have w12:=W.l12
  refine⟨_,(zC (wC (PW.pt (vg (yJ (yI (zY zQ (by rfl) T.n_isinstance zv (xn (pv 0) (xn (wj T.n_list xV) zR))))) (vg (xj xJ (zY zl (by rfl) T.n_len zN (xn (pv 0) zR)) yL (zo _)) (wg (xj op_gt (zY zl (by rfl) T.n_len zN (xn (pv 0) zR)) (wE (v:=.int 12) rfl T.g_MOST_HANDS ⟨_,rfl⟩) (zo _))))))
    (zL (yu x8))
    yq)
   (zC (vh (i:=1) sc_qn.nd rfl (Or.inl rfl) (zfP we yL))
   (zC (vi PassesOwn.never rfl (xI (pv 0)) (xk (i:=2) sc_qn.nd rfl (Or.inl rfl))
    (zC (wC (PW.pt (vg (yJ (yI (WR c_qg (hr.mono (by omega)) (xn (pv 2) zR)))) (vg (xj zfZ (pv 2) (pv 1) (zo _)) (wg (xj op_gt (pv 2) (wE (v:=.int 99) rfl T.g_LAST_HAND ⟨_,rfl⟩) (zo _))))))
     (zL (yu x8))
     yq)
    (zL (vh (i:=1) sc_qn.nd rfl (Or.inl rfl) (pv 2)))))
   (zL (yu x8))))),?_⟩
  refine⟨_,rfl,_,_,_,_,_,rfl,rfl,.lst hh,T.k_tlist_tlist,_,rfl,zZ rfl ?_⟩
  refine⟨_,rfl,h,_,rfl,.inl (SqL.of hh),_,_,rfl,rfl,_,rfl,zZ (decide_eq_false (by rw[List.length_map];omega)) ?_⟩
  refine⟨_,rfl,h,_,rfl,.inl (SqL.of hh),_,_,rfl,rfl,_,rfl,zZ (decide_eq_false (by rw[List.length_map];omega)) ?_⟩
  refine⟨1,rfl,_,rfl,h,rfl,⟨_,SqL.of hh⟩,?_⟩
  refine zI (K:=K) (a:=h) (xs:=hs.map V.int) (fun i σ H'=>H'=H∧∃ (m:Int) (o:Option V),σ=[some (.ref h),some (.int m),o]∧-1≤m∧∀ j x,i≤j→hs[j]?=some x→m<x) ?_ ?_ ?_ ?_
  ·refine⟨rfl,-1,none,rfl,Int.le_refl _,fun j x _ hx=>?_⟩
   have:=W.lo x (List.mem_of_getElem? hx)
   omega
  ·rintro i σ H' _ ⟨rfl,_⟩
   exact SqL.of hh
  ·rintro i x σ H' hi ⟨rfl,m,o,rfl,hm,hall⟩
   rw[List.getElem?_map] at hi
   obtain⟨y,hy,rfl⟩:=Option.map_eq_some_iff.mp hi
   have y1:=hall i y (Nat.le_refl _) hy
   have y2:=W.hi y (List.mem_of_getElem? hy)
   refine⟨_,rfl,y,rfl,_,rfl,zZ rfl ?_⟩
   refine⟨_,rfl,_,rfl,_,_,rfl,rfl,_,rfl,zZ (decide_eq_false (by omega)) ?_⟩
   refine⟨_,rfl,_,_,rfl,rfl,_,rfl,zZ (decide_eq_false (by omega)) ?_⟩
   refine⟨_,rfl,rfl,y,_,rfl,by omega,fun j z hj hz=>?_⟩
   have hlt:i<j:=by omega
   obtain⟨b1,e1⟩:=List.getElem?_eq_some_iff.mp hy
   obtain⟨b2,e2⟩:=List.getElem?_eq_some_iff.mp hz
   rw[← e1,← e2]
   exact List.pairwise_iff_getElem.mp W.up i j b1 b2 hlt
  ·rintro σ H' ⟨rfl,_⟩
   exact k
def spLine:Sp:=fun vs H Q _=>∃ (q h:Addr) (hs:List Int) (p:Int×Int),vs=[.ref q,.ref h]∧H q=some (.tup [.int p.1,.int p.2])∧H h=some (.lst (hs.map V.int))∧(p.1∈hs∧p.2∈hs∧p.1<p.2)∧Q (.bl true) H
theorem VP (T:Txt w K mg a):FnOk P w K mg base CX0 2 a.f_qo a.d_qo ["line", "hands"] spLine:=by
 have c_qg:Callee P w K mg base "is_whole" a.f_qg a.d_qg ["value"] 1 wy:=⟨wG T,T.g_qg,T.F_qg.kp,T.b_qg⟩
 refine T.F_qo.ok zl1 (fun vs H Q E h=>?_) (fun cdv A outer s H vs Q E hr h=>?_)
 ·obtain⟨q,h,hs,p,rfl,_⟩:=h
  rfl
 ·obtain⟨q,h,hs,⟨x,y⟩,rfl,hq,hh,⟨h1,h2,h3⟩,k⟩:=h
  dsimp only at hq h1 h2 h3
  refine⟨_,(zC (wC (PW.pt (vg (yJ (yI (zY zQ (by rfl) T.n_isinstance zv (xn (pv 0) (xn (wj T.n_tuple uI) zR))))) (wg (xj zfY (zY zl (by rfl) T.n_len zN (xn (pv 0) zR)) yL (zo _)))))
    (zL (yu x8))
    yq)
   (zC (wC (PW.pt (vg (yJ (yI (WR c_qg (hr.mono (by omega)) (yz (vQ zw (pv 0) yL (fun _ _=>rfl)) zR)))) (wg (yJ (yI (WR c_qg (hr.mono (by omega)) (yz (vQ zw (pv 0) yL (fun _ _=>rfl)) zR)))))))
    (zL (yu x8))
    yq)
   (zL (yu (uv (wF xK (vQ zw (pv 0) yL (fun _ _=>rfl)) (pv 1) (by with_unfolding_all rfl)) (uv (wF xK (vQ zw (pv 0) yL (fun _ _=>rfl)) (pv 1) (by with_unfolding_all rfl)) (Yt (wF xJ (vQ zw (pv 0) yL (fun _ _=>rfl)) (vQ zw (pv 0) yL (fun _ _=>rfl)) (zo _))))))))),?_⟩
  refine⟨_,rfl,_,_,_,_,_,rfl,rfl,.tup hq,T.k_ttuple_ttuple,_,rfl,zZ rfl ?_⟩
  refine⟨_,rfl,q,_,rfl,.inr (SqT.of hq),rfl,_,rfl,zZ rfl ?_⟩
  refine⟨_,rfl,q,_,0,_,rfl,rfl,SqT.of hq,rfl,x,rfl,_,rfl,zZ rfl ?_⟩
  refine⟨_,rfl,q,_,1,_,rfl,rfl,SqT.of hq,rfl,y,rfl,_,rfl,zZ rfl ?_⟩
  refine⟨_,rfl,q,_,0,_,rfl,rfl,SqT.of hq,rfl,_,rfl,h,_,rfl,.inl (SqL.of hh),rfl,vz hs,_,rfl,iteB (by show inV (.int x) _=true;rw[v6];exact decide_eq_true h1) ?_⟩
  refine⟨_,rfl,q,_,1,_,rfl,rfl,SqT.of hq,rfl,_,rfl,h,_,rfl,.inl (SqL.of hh),rfl,vz hs,_,rfl,iteB (by show inV (.int y) _=true;rw[v6];exact decide_eq_true h2) ?_⟩
  refine⟨_,rfl,q,_,0,_,rfl,rfl,SqT.of hq,rfl,_,rfl,q,_,1,_,rfl,rfl,SqT.of hq,rfl,_,_,rfl,rfl,?_⟩
  show Q (.bl (decide (x<y))) H
  rw[decide_eq_true h3]
  exact k
end
end K04

namespace K04
open PySem L2
section
variable {κ:Type} [DecidableEq κ]
theorem wZ {kvs:List (κ×V)}{k:κ}:(xu kvs k).isSome=decide (k∈kvs.map (·.1)):=by
 rw[← xt]
 by_cases h:k∈kvs.map (·.1)
 ·rw[decide_eq_true h,List.any_eq_true]
  obtain⟨p,hp,rfl⟩:=List.mem_map.mp h
  exact⟨p,hp,decide_eq_true rfl⟩
 ·rw[decide_eq_false h,List.any_eq_false]
  intro p hp e
  exact h (List.mem_map.mpr ⟨p,hp,of_decide_eq_true e⟩)
theorem valV_no {kvs:List (κ×V)}{k:κ}(h:k∉kvs.map (·.1)):(xu kvs k).isSome=false:=by rw[wZ];exact decide_eq_false h
theorem putK_new {kvs:List (κ×V)}{k:κ}{v:V}(h:k∉kvs.map (·.1)):putK kvs k v=kvs++[(k,v)]:=by
 unfold putK
 rw[if_neg]
 rw[xt,wZ,decide_eq_true_iff]
 exact h
end
theorem _root_.L2.Same.updF {p:Addr}{H H':Hp}{o:HO}(x:Same H H') (h:H p=none):Same H (L2.upd H' p o):=fun b u e=>by
 rw[upd_ne (ne_of_none e h)];exact x b u e
abbrev U3 (p:Int×Int):List Key:=[Sum.inl p.1,Sum.inl p.2]
theorem Wm {p q:Int×Int}(h:U3 p=U3 q):p=q:=by
 obtain⟨a,b⟩:=p
 obtain⟨c,d⟩:=q
 simp[U3] at h
 rw[h.1,h.2]
theorem yr {α:Type}{xs:List α}{i:Nat}{x:α}(h:xs.Nodup) (e:xs[i]?=some x):x∉xs.take i:=by
 intro m
 obtain⟨j,hj,ej⟩:=List.getElem_of_mem m
 obtain⟨hi,ei⟩:=List.getElem?_eq_some_iff.mp e
 rw[List.getElem_take] at ej
 rw[List.length_take] at hj
 have:=(List.nodup_iff_pairwise_ne.mp h)
 exact List.pairwise_iff_getElem.mp this j i (by omega) hi (by omega) (ej.trans ei.symm)
section
variable {P:Program}{w:World}{K:PySem.W.Frag}{mg:Str→Option Value}{base:Heap}{a:Ad}
def Yg:Sp:=fun vs H Q _=>∃ (l h:Addr) (rs:List V) (hs:List Int) (ls:List (Int×Int)),vs=[.ref l,.ref h]∧H l=some (.lst rs)∧LnAt H rs ls∧H h=some (.lst (hs.map V.int))∧Ls hs ls∧∀ H',Same H H'→Q (.bl true) H'
theorem XW (T:Txt w K mg a):FnOk P w K mg base CX0 3 a.f_qp a.d_qp ["lines", "hands"] Yg:=by
 have c_qo:Callee P w K mg base "is_line" a.f_qo a.d_qo ["line", "hands"] 2 spLine:=⟨VP T,T.g_qo,T.F_qo.kp,T.b_qo⟩
 refine T.F_qp.ok sc_qp (fun vs H Q E h=>?_) (fun cdv A outer s H vs Q E hr h=>?_)
 ·obtain⟨l,h,rs,hs,ls,rfl,_⟩:=h
  rfl
 ·obtain⟨l,h,rs,hs,ls,rfl,hl,hrs,hh,L,k⟩:=h
  have l66:=L.le
  have hu:=yH hr
  refine⟨_,(zC (wC (yJ (yI (zY zQ (by rfl) T.n_isinstance zv (xn (pv 0) (xn (wj T.n_list xV) zR)))))
    (zL (yu x8))
    yq)
   (zC (vh (i:=2) sc_qp.nd rfl (Or.inl rfl) XS)
   (zC (vi PassesOwn.never rfl (xI (pv 0)) (xk (i:=3) sc_qp.nd rfl (Or.inl rfl))
    (zC (wC (PW.pt (vg (yJ (yI (WR c_qo (hr.mono (by omega)) (xn (pv 3) (xn (pv 1) zR))))) (wg (zfJ (WS hu (pv 3) (pv 2))))))
     (zL (yu x8))
     yq)
    (zL (vP hu (pv 2) (pv 3) x8 rfl))))
   (zL (yu x8))))),?_⟩
  refine⟨_,rfl,_,_,_,_,_,rfl,rfl,.lst hl,T.k_tlist_tlist,_,rfl,zZ rfl ?_⟩
  refine fun d hd=>?_
  refine⟨_,rfl,l,rfl,⟨_,SqL.of (Same.new hd _ _ hl)⟩,?_⟩
  refine zI (K:=K) (a:=l) (xs:=rs) (fun i σ H'=>∃ (kvs:List (List Key×V)) (o:Option V),σ=[some (.ref l),some (.ref h),some (.ref d),o]∧H' d=some (.dT kvs)∧kvs.map (·.1)=(ls.take i).map U3∧Same H H') ?_ ?_ ?_ ?_
  ·exact⟨[],none,rfl,zd,by simp,Same.new hd⟩
  ·rintro i σ H' _ ⟨kvs,o,_,_,_,sm⟩
   exact SqL.of (sm _ _ hl)
  ·rintro i x σ H' hi ⟨kvs,o,rfl,hd',hk,sm⟩
   obtain⟨p,q,hp,rfl,hq⟩:=(hrs.same sm).get hi
   have hm:p∈ls:=List.mem_of_getElem? hp
   refine⟨_,rfl,_,rfl,q,h,hs,p,rfl,hq,sm _ _ hh,L.ok p hm,_,rfl,zZ rfl ?_⟩
   have hnew:U3 p∉kvs.map (·.1):=by
    rw[hk]
    intro z
    obtain⟨p',m',e'⟩:=List.mem_map.mp z
    rw[Wm e'] at m'
    exact yr L.nd hp m'
   have hz:kvs.length≤1000:=by
    have:=congrArg List.length hk
    rw[List.length_map,List.length_map,List.length_take] at this
    omega
   refine⟨_,rfl,_,rfl,d,_,rfl,DGet.t (k:=U3 p) hd' hq,_,rfl,zZ ?_ ?_⟩
   ·exact valV_no hnew
   ·refine⟨_,rfl,_,rfl,d,_,rfl,DPut.t (k:=U3 p) hd' hq (zj hz),?_⟩
    refine⟨_,_,rfl,zd,?_,sm.updF hd⟩
    rw[putK_new hnew,List.map_append,hk,List.take_add_one,hp,List.map_append]
    rfl
  ·rintro σ H' ⟨kvs,o,_,_,_,sm⟩
   exact k H' sm
end
end K04

namespace K04
open PySem L2
noncomputable def tab (ad:Int→Addr) (us:List Int):List (Key×V):=us.map fun h=>(Sum.inl h,V.ref (ad h))
theorem ww {ad:Int→Addr}{us:List Int}:(tab ad us).map (·.1)=us.map Sum.inl:=by
 unfold tab;rw[List.map_map];rfl
theorem Zk {ad:Int→Addr}{x:Int}:∀ {us:List Int},x∈us→xu (tab ad us) (Sum.inl x:Key)=some (V.ref (ad x))
 |u::us,h=>by
  show xu ((Sum.inl u,V.ref (ad u))::tab ad us) _=_
  by_cases e:u=x
  ·subst e;rw[xq rfl]
  ·rw[xr (fun z=>e (by injection z)),Zk]
   rcases List.mem_cons.mp h with z | z
   ·exact absurd z.symm e
   ·exact z
theorem yx {H:Hp}{d:Addr}{ad:Int→Addr}{us:List Int}{x:Int}(e:H d=some (.dK (tab ad us))) (h:x∈us):DGet H d (V.int x) (some (V.ref (ad x))):=by
 have:=DGet.k (k:=Sum.inl x) e
 rw[Zk h] at this
 exact this
theorem wQ {x:Int}{us:List Int}:(Sum.inl x:Key)∈us.map (Sum.inl:Int→Key)↔x∈us:=by
 rw[List.mem_map]
 exact⟨fun⟨y,h,e⟩=>by injection e with e;exact e ▸ h,fun h=>⟨x,h,rfl⟩⟩
noncomputable def zae (ad:Int→Addr) (y:Int) (p:Addr):Int→Addr:=fun x=>if x=y then p else ad x
theorem putA_at {ad:Int→Addr}{x y:Int}{p:Addr}(e:x=y):zae ad y p x=p:=if_pos e
theorem putA_ne {ad:Int→Addr}{x y:Int}{p:Addr}(e:¬ x=y):zae ad y p x=ad x:=if_neg e
structure Near (H:Hp) (d:Addr) (hs:List Int) (ls:List (Int×Int)) (ad:Int→Addr):Prop where
 d:H d=some (.dK (tab ad hs))
 nb:∀ h∈hs,H (ad h)=some (.lst ((nbs ls h).map V.int))
theorem Near.same {H H':Hp}{d:Addr}{hs:List Int}{ls:List (Int×Int)}{ad:Int→Addr}(n:Near H d hs ls ad) (s:Same H H'):Near H' d hs ls ad:=⟨s _ _ n.d,fun h m=>s _ _ (n.nb h m)⟩
section
variable {P:Program}{w:World}{K:PySem.W.Frag}{mg:Str→Option Value}{base:Heap}{a:Ad}
def WM:Sp:=fun vs H Q _=>∃ (h l:Addr) (rs:List V) (hs:List Int) (ls:List (Int×Int)),vs=[.ref h,.ref l]∧H h=some (.lst (hs.map V.int))∧H l=some (.lst rs)∧LnAt H rs ls∧Hs hs∧Ls hs ls ∧
 ∀ (d:Addr) (ad:Int→Addr) H',Same H H'→H d=none→(∀ x∈hs,H (ad x)=none)→Near H' d hs ls ad→Q (.ref d) H'
theorem VM (T:Txt w K mg a):FnOk P w K mg base CX0 1 a.f_qq a.d_qq ["hands", "lines"] WM:=by
 refine T.F_qq.ok sc_qq (fun vs H Q E h=>?_) (fun cdv A outer s H vs Q E hr h=>?_)
 ·obtain⟨h,l,rs,hs,ls,rfl,_⟩:=h
  rfl
 ·obtain⟨h,l,rs,hs,ls,rfl,hh,hl,hrs,W,L,k⟩:=h
  have l66:=L.le
  have l12:=W.l12
  have hu:=yH hr
  refine⟨_,(zC (vh (i:=2) sc_qq.nd rfl (Or.inl rfl) uu)
   (zC (vi PassesOwn.never rfl (xI (pv 0)) (xk (i:=3) sc_qq.nd rfl (Or.inl rfl))
    (zL (vP hu (pv 2) (pv 3) (WQ zR) rfl)))
   (zC (vi PassesOwn.never rfl (xI (pv 1)) (WO rfl (wD (xk (i:=4) sc_qq.nd rfl (Or.inl rfl)) (wD (xk (i:=5) sc_qq.nd rfl (Or.inl rfl)) Ys)))
    (zC (vN (VD PySem.F.plainAttrs_list PySem.F.slot_list_append PySem.F.type_list_append zH (vR hu (pv 2) (pv 4) (fun _ _=>rfl)) (xn (pv 5) zR)))
    (zL (vN (VD PySem.F.plainAttrs_list PySem.F.slot_list_append PySem.F.type_list_append zH (vR hu (pv 2) (pv 5) (fun _ _=>rfl)) (xn (pv 4) zR))))))
   (zL (yu (pv 2)))))),?_⟩
  refine fun d hd=>?_
  refine⟨_,rfl,h,rfl,⟨_,SqL.of (Same.new hd _ _ hh)⟩,?_⟩
  refine zI (K:=K) (a:=h) (xs:=hs.map V.int) (fun i σ H'=>∃ (ad:Int→Addr) (o:Option V),σ=[some (.ref h),some (.ref l),some (.ref d),o,none,none]∧H' d=some (.dK (tab ad (hs.take i))) ∧
   (∀ x∈hs.take i,H' (ad x)=some (.lst [])∧H (ad x)=none)∧(∀ x∈hs.take i,∀ y∈hs.take i,ad x=ad y→x=y)∧Same H H') ?_ ?_ ?_ ?_
  ·exact⟨fun _=>0,none,rfl,zd,fun x hx=>by simp at hx,fun x hx=>by simp at hx,Same.new hd⟩
  ·rintro i σ H' _ ⟨ad,o,_,_,_,_,sm⟩
   exact SqL.of (sm _ _ hh)
  ·rintro i x σ H' hi ⟨ad,o,rfl,hd',hat,hinj,sm⟩
   rw[List.getElem?_map] at hi
   obtain⟨y,hy,rfl⟩:=Option.map_eq_some_iff.mp hi
   have hnew:y∉hs.take i:=yr (XE W.up) hy
   refine⟨(by show 0≤sizeLine;decide),fun p hp=>?_⟩
   have hpd:p≠d:=fun z=>by rw[z,hd'] at hp;cases hp
   have hd2:(upd H' p (.lst [])) d=some (.dK (tab ad (hs.take i))):=by rw[upd_ne hpd.symm];exact hd'
   refine⟨_,rfl,_,rfl,d,_,rfl,DPut.k (k:=Sum.inl y) hd2 (zj ?_),?_⟩
   ·unfold tab
    rw[List.length_map,List.length_take];omega
   ·have et:hs.take (i+1)=hs.take i++[y]:=by rw[List.take_add_one,hy];rfl
    have hp0:H p=none:=sm.free hp
    have hne:∀ x∈hs.take i,ad x≠p:=fun x hx z=>by
     have:=(hat x hx).1
     rw[z,hp] at this;cases this
    have had:∀ x∈hs.take i,ad x≠d:=fun x hx z=>by
     have:=(hat x hx).1
     rw[z,hd'] at this;cases this
    refine⟨zae ad y p,_,rfl,?_,?_,?_,(sm.updF hp0).updF hd⟩
    ·rw[zd,K04.putK_new (by rw[ww,wQ];exact hnew),et]
     unfold tab
     rw[List.map_append]
     congr 3
     ·refine List.map_congr_left fun x hx=>?_
      rw[putA_ne (fun z=>hnew (by rw[← z];exact hx))]
     ·show _=[(Sum.inl y,V.ref (zae ad y p y))]
      rw[putA_at rfl]
    ·intro x hx
     rw[et,List.mem_append,List.mem_singleton] at hx
     by_cases e:x=y
     ·rw[putA_at e,upd_ne hpd,zd]
      exact⟨rfl,hp0⟩
     ·rw[putA_ne e]
      have hx:=hx.resolve_right e
      rw[upd_ne (had x hx),upd_ne (hne x hx)]
      exact hat x hx
    ·intro x hx z hz
     rw[et,List.mem_append,List.mem_singleton] at hx hz
     by_cases e1:x=y
     ·by_cases e2:z=y
      ·intro _;rw[e1,e2]
      ·rw[putA_at e1,putA_ne e2]
       intro q;exact absurd q.symm (hne z (hz.resolve_right e2))
     ·by_cases e2:z=y
      ·rw[putA_ne e1,putA_at e2]
       intro q;exact absurd q (hne x (hx.resolve_right e1))
      ·rw[putA_ne e1,putA_ne e2]
       exact hinj x (hx.resolve_right e1) z (hz.resolve_right e2)
  ·rintro σ H1 ⟨ad,o,rfl,hd',hat,hinj,sm⟩
   rw[List.length_map,List.take_length] at hd' hat hinj
   refine⟨_,rfl,l,rfl,⟨_,SqL.of (sm _ _ hl)⟩,?_⟩
   refine zI (K:=K) (a:=l) (xs:=rs) (fun i σ H'=>∃ (o1 o2:Option V),σ=[some (.ref h),some (.ref l),some (.ref d),o,o1,o2]∧Near H' d hs (ls.take i) ad∧Same H H') ?_ ?_ ?_ ?_
   ·exact⟨none,none,rfl,⟨hd',fun x hx=>by rw[List.take_zero];exact(hat x hx).1⟩,sm⟩
   ·rintro i σ H' _ ⟨o1,o2,_,_,sm'⟩
    exact SqL.of (sm' _ _ hl)
   ·rintro i x σ H' hi ⟨o1,o2,rfl,N,sm'⟩
    obtain⟨⟨x,y⟩,q,hp,rfl,hq⟩:=(hrs.same sm').get hi
    obtain⟨hx,hy,hxy⟩:=L.ok _ (List.mem_of_getElem? hp)
    dsimp only at hq hx hy hxy
    refine⟨q,_,rfl,SqT.of hq,rfl,_,_,rfl,_,_,rfl,rfl,?_⟩
    have len:∀ z,((nbs (ls.take i) z).map V.int).length<sizeLine:=fun z=>by
     rw[List.length_map]
     have:=YL (h:=z) (ls:=ls.take i)
     rw[List.length_take] at this
     exact zj (by omega)
    have hdx:ad x≠d:=fun z=>by
     have:=N.nb x hx
     rw[z,N.d] at this;cases this
    have hdy:ad y≠d:=fun z=>by
     have:=N.nb y hy
     rw[z,N.d] at this;cases this
    have hne:ad y≠ad x:=fun z=>by have:=hinj y hy x hx z;omega
    refine⟨_,rfl,_,rfl,d,V.ref (ad x),rfl,yx N.d hx,.inl ⟨rfl,_,SqL.of (N.nb x hx)⟩,_,rfl,_,_,_,rfl,rfl,N.nb x hx,len x,?_⟩
    have nd2:(upd H' (ad x) (.lst ((nbs (ls.take i) x).map V.int++[V.int y]))) d=some (.dK (tab ad hs)):=by rw[upd_ne hdx.symm];exact N.d
    have ny2:(upd H' (ad x) (.lst ((nbs (ls.take i) x).map V.int++[V.int y]))) (ad y)=some (.lst ((nbs (ls.take i) y).map V.int)):=by rw[upd_ne hne];exact N.nb y hy
    refine⟨_,rfl,_,rfl,d,V.ref (ad y),rfl,yx nd2 hy,.inl ⟨rfl,_,SqL.of ny2⟩,_,rfl,_,_,_,rfl,rfl,ny2,len y,?_⟩
    refine⟨_,_,rfl,⟨?_,fun z hz=>?_⟩,(sm'.updF (hat x hx).2).updF (hat y hy).2⟩
    ·rw[upd_ne hdy.symm];exact nd2
    ·rw[Wa hp]
     by_cases e2:z=y
     ·subst e2
      rw[zd,if_neg (by show ¬ x=z;omega),if_pos rfl,List.map_append]
      rfl
     ·rw[upd_ne (fun q=>e2 (hinj z hz y hy q))]
      by_cases e1:z=x
      ·subst e1
       rw[zd,if_pos rfl,if_neg (by show ¬ y=z;omega),List.map_append]
       rfl
      ·rw[upd_ne (fun q=>e1 (hinj z hz x hx q)),if_neg (fun q=>e1 q.symm),if_neg (fun q=>e2 q.symm),List.append_nil,List.append_nil]
       exact N.nb z hz
   ·rintro σ H' ⟨o1,o2,rfl,N,sm'⟩
    rw[hrs.1,List.take_length] at N
    exact⟨_,rfl,k d ad H' sm' hd (fun x hx=>(hat x hx).2) N⟩
end
end K04

namespace K04
open PySem L2
open L2.Srt (wp)
theorem Near.ext {H H':Hp}{d p dx C:Addr}{fs:List (Str×V)}{hs:List Int}{ls:List (Int×Int)}{ad:Int→Addr}(n:Near H d hs ls ad) (hp:H p=some (.ins C dx fs)) (s:Ext p H H'):Near H' d hs ls ad :=
 ⟨s _ _ n.d (fun z=>by rw[← z,n.d] at hp;cases hp),fun h m=>s _ _ (n.nb h m) (fun z=>by rw[← z,n.nb h m] at hp;cases hp)⟩
theorem LnAt.ext {H H':Hp}{p dx C:Addr}{fs:List (Str×V)}{rs:List V}{ls:List (Int×Int)}(h:LnAt H rs ls) (hp:H p=some (.ins C dx fs)) (s:Ext p H H'):LnAt H' rs ls:=⟨h.1,fun i r q h1 h2=>by
 obtain⟨t,e,ht⟩:=h.2 i r q h1 h2
 exact⟨t,e,s _ _ ht fun z=>by rw[← z,ht] at hp;cases hp⟩⟩
theorem LnAt.mem {H:Hp}{rs:List V}{ls:List (Int×Int)}(h:LnAt H rs ls){y:V}(hy:y∈rs):∃ q i j,y=.ref q∧H q=some (.tup [.int i,.int j]):=by
 obtain⟨i,hi,e⟩:=List.getElem_of_mem hy
 obtain⟨p,q,_,e1,e2⟩:=h.get (i:=i) (r:=y) (by rw[List.getElem?_eq_getElem hi,e])
 exact⟨q,_,_,e1,e2⟩
theorem Ext.free {l p:Addr}{H H':Hp}(k:Ext l H H') (n:p≠l) (h:H' p=none):H p=none:=by
 cases e:H p with
 |none=>rfl
 |some o=>have:=k _ _ e n;rw[h] at this;cases this
section
variable {P:Program}{w:World}{K:PySem.W.Frag}{mg:Str→Option Value}{base:Heap}{a:Ad}
structure WebAt (a:Ad) (H:Hp) (p:Addr) (hs:List Int) (ls:List (Int×Int)) (dx oh ol d:Addr) (ad:Int→Addr):Prop where
 p:H p=some (.ins a.c_Web dx [("own_hands",.ref oh),("own_lines",.ref ol),("near",.ref d)])
 oh:H oh=some (.lst (hs.map V.int))
 nr:Near H d hs ls ad
theorem WebAt.same {H H':Hp}{p dx oh ol d:Addr}{hs:List Int}{ls:List (Int×Int)}{ad:Int→Addr}(w:WebAt a H p hs ls dx oh ol d ad) (s:Same H H'):WebAt a H' p hs ls dx oh ol d ad:=⟨s _ _ w.p,s _ _ w.oh,w.nr.same s⟩
def zfq (a:Ad):Sp:=fun vs H Q _=>∃ (p dx h l:Addr) (rs:List V) (hs:List Int) (ls:List (Int×Int)),vs=[.ref p,.ref h,.ref l]∧H p=some (.ins a.c_Web dx [])∧H h=some (.lst (hs.map V.int))∧H l=some (.lst rs)∧LnAt H rs ls∧Hs hs∧Ls hs ls ∧
 ∀ (oh ol d:Addr) (ad:Int→Addr) H',H oh=none→H d=none→(∀ x∈hs,H (ad x)=none)→Ext p H H'→WebAt a H' p hs ls dx oh ol d ad→Q .non H'
theorem zf0 (T:Txt w K mg a):FnOk P w K mg base CX0 4 a.f_qa2 a.d_qa2 ["self", "hands", "lines"] (zfq a):=by
 have c_qn:Callee P w K mg base "are_hands" a.f_qn a.d_qn ["hands"] 2 Yh:=⟨XX T,T.g_qn,T.F_qn.kp,T.b_qn⟩
 have c_qp:Callee P w K mg base "are_lines" a.f_qp a.d_qp ["lines", "hands"] 3 Yg:=⟨XW T,T.g_qp,T.F_qp.kp,T.b_qp⟩
 have c_qq:Callee P w K mg base "near_by_hand" a.f_qq a.d_qq ["hands", "lines"] 1 WM:=⟨VM T,T.g_qq,T.F_qq.kp,T.b_qq⟩
 refine T.F_qa2.ok zfA (fun vs H Q E h=>?_) (fun cdv A outer s H vs Q E hr h=>?_)
 ·obtain⟨p,dx,h,l,rs,hs,ls,rfl,_⟩:=h
  rfl
 ·obtain⟨p,dx,h,l,rs,hs,ls,rfl,hp,hh,hl,hrs,W,L,k⟩:=h
  have l66:=L.le
  have np:∀ {b:Addr}{xs:List V},H b=some (.lst xs)→b≠p:=fun e z=>by rw[z,hp] at e;cases e
  refine⟨_,(zC (wC (yJ (yI (WR c_qn (hr.mono (by omega)) (xn (pv 1) zR))))
    (zL wB)
    yq)
   (zC (wC (yJ (yI (WR c_qp (hr.mono (by omega)) (xn (pv 2) (xn (pv 1) zR)))))
    (zL wB)
    yq)
   (zC (ur (pv 0) (vk yC (by rfl) T.n_list xV (xn (pv 1) zR)) rfl)
   (zC (ur (pv 0) (zY wp (by rfl) T.n_sorted xU (xn (pv 2) zR)) rfl)
   (zL (ur (pv 0) (WR c_qq (hr.mono (by omega)) (xn (pv 1) (xn (pv 2) zR))) rfl)))))),?_⟩
  refine⟨_,rfl,h,hs,rfl,hh,W,_,rfl,zZ rfl ?_⟩
  refine⟨_,rfl,_,rfl,l,h,rs,hs,ls,rfl,hl,hrs,hh,L,fun H1 s1=>⟨_,rfl,zZ rfl ?_⟩⟩
  refine⟨_,rfl,h,_,rfl,.inl (SqL.of (s1 _ _ hh)),fun oh hoh=>?_⟩
  have ohp:oh≠p:=fun z=>by rw[z,s1 _ _ hp] at hoh;cases hoh
  refine⟨_,rfl,p,a.c_Web,dx,_,rfl,(upd_ne ohp.symm).trans (s1 _ _ hp),T.cl_Web,T.na_Web_own_hands,(by show 0<1000;decide),?_⟩
  have x3:=((Ext.same (l:=p) s1).trans (Ext.new (l:=p) (o:=.lst (hs.map V.int)) hoh)).trans (Ext.at (l:=p) (o:=.ins a.c_Web dx [("own_hands",.ref oh)]))
  refine⟨_,rfl,l,rs,rfl,SqL.of (x3 _ _ hl (np hl)),by rw[hrs.1];exact l66,fun y hy=>(hrs.ext hp x3).mem hy,fun ol zs hol z1 z2=>?_⟩
  have olp:ol≠p:=fun z=>by rw[z,zd] at hol;cases hol
  refine⟨_,rfl,p,a.c_Web,dx,_,rfl,(upd_ne olp.symm).trans zd,T.cl_Web,T.na_Web_own_lines,(by show 1<1000;decide),?_⟩
  have x35:=(Ext.new (l:=p) (o:=.lst zs) hol).trans (Ext.at (l:=p) (o:=.ins a.c_Web dx [("own_hands",.ref oh),("own_lines",.ref ol)]))
  have x5:=x3.trans x35
  refine⟨_,rfl,_,rfl,h,l,rs,hs,ls,rfl,x5 _ _ hh (np hh),x5 _ _ hl (np hl),hrs.ext hp x5,W,L,fun d ad H6 s6 hd had N=>?_⟩
  have hp6:=s6 _ _ (zd (a:=p))
  refine⟨_,rfl,p,a.c_Web,dx,_,rfl,hp6,T.cl_Web,T.na_Web_near,(by show 2<1000;decide),?_⟩
  have nfr:∀ b,(upd (upd (upd (upd H1 oh (.lst (hs.map V.int))) p (.ins a.c_Web dx [("own_hands",.ref oh)])) ol (.lst zs)) p (.ins a.c_Web dx [("own_hands",.ref oh),("own_lines",.ref ol)])) b=none→H b=none:=fun b e=>x5.free (fun z=>by rw[z,zd] at e;cases e) e
  refine k oh ol d ad _ (s1.free hoh) (nfr d hd) (fun x hx=>nfr _ (had x hx)) ((x5.trans (Ext.same s6)).trans Ext.at) ⟨zd,?_,N.ext hp6 Ext.at⟩
  rw[upd_ne ohp]
  exact s6 _ _ (x35 _ _ ((upd_ne ohp).trans zd) ohp)
end
end K04

namespace K04
open PySem L2
theorem YK {x:Int}:∀ {ls:List (Int×Int)},ls.Nodup→(∀ p∈ls,p.1<p.2)→(nbs ls x).Nodup
 |[],_,_=>List.nodup_nil
 |p::ls,nd,ok=>by
  obtain⟨n1,n2⟩:=List.nodup_cons.mp nd
  have ih:=YK (x:=x) n2 fun q hq=>ok q (List.mem_cons_of_mem _ hq)
  have lt:=ok p (List.mem_cons_self ..)
  have e:nbs (p::ls) x=((if p.1=x then[p.2] else[])++if p.2=x then[p.1] else[])++nbs ls x:=by unfold nbs;rw[List.flatMap_cons]
  have no:∀ y,Adj ls x y→y∉((if p.1=x then[p.2] else[])++if p.2=x then[p.1] else[]):=by
   intro y hy hm
   have key:∀ q∈ls,q≠p:=fun q hq z=>n1 (z ▸ hq)
   rcases List.mem_append.mp hm with h | h
   ·by_cases c:p.1=x
    ·rw[if_pos c] at h
     have ey:y=p.2:=List.mem_singleton.mp h
     rcases hy with z | z
     ·exact key _ z (by rw[ey,← c])
     ·have:=ok _ (List.mem_cons_of_mem _ z)
      simp at this
      omega
    ·rw[if_neg c] at h;cases h
   ·by_cases c:p.2=x
    ·rw[if_pos c] at h
     have ey:y=p.1:=List.mem_singleton.mp h
     rcases hy with z | z
     ·have:=ok _ (List.mem_cons_of_mem _ z)
      simp at this
      omega
     ·exact key _ z (by rw[ey,← c])
    ·rw[if_neg c] at h;cases h
  rw[e,List.nodup_append]
  refine⟨?_,ih,fun a ha b hb z=>no b (mem_nbs.mp hb) (z ▸ ha)⟩
  by_cases c1:p.1=x
  ·have c2:¬ p.2=x:=by omega
   rw[if_pos c1,if_neg c2]
   simp
  ·rw[if_neg c1]
   by_cases c2:p.2=x
   ·rw[if_pos c2];simp
   ·rw[if_neg c2];simp
theorem YM {hs:List Int}{ls:List (Int×Int)}{x:Int}(W:Hs hs) (L:Ls hs ls):(nbs ls x).length≤12:=by
 have nd:=YK (x:=x) L.nd fun p hp=>(L.ok p hp).2.2
 have sub:∀ y∈nbs ls x,y∈hs:=fun y hy=>by
  rcases mem_nbs.mp hy with z | z
  ·exact(L.ok _ z).2.1
  ·exact(L.ok _ z).1
 have:=zhR nd sub
 have:=W.l12
 omega
theorem WC:∀ {as bs:List Int},as.Pairwise (· < ·)→bs.Pairwise (· < ·)→(∀ x,x∈as↔x∈bs)→as=bs
 |[],[],_,_,_=>rfl
 |[],b::bs,_,_,h=>by have:=(h b).mpr (List.mem_cons_self ..);cases this
 |a::as,[],_,_,h=>by have:=(h a).mp (List.mem_cons_self ..);cases this
 |a::as,b::bs,ha,hb,h=>by
  obtain⟨a1,a2⟩:=List.pairwise_cons.mp ha
  obtain⟨b1,b2⟩:=List.pairwise_cons.mp hb
  have e:a=b:=by
   rcases List.mem_cons.mp ((h a).mp (List.mem_cons_self ..)) with e | e
   ·exact e
   ·rcases List.mem_cons.mp ((h b).mpr (List.mem_cons_self ..)) with e' | e'
    ·exact e'.symm
    ·have:=b1 a e
     have:=a1 b e'
     omega
  subst e
  rw[WC a2 b2 fun x=>⟨fun hx=>by
   rcases List.mem_cons.mp ((h x).mp (List.mem_cons_of_mem _ hx)) with e | e
   ·have:=a1 x hx;omega
   ·exact e,fun hx=>by
   rcases List.mem_cons.mp ((h x).mpr (List.mem_cons_of_mem _ hx)) with e | e
   ·have:=b1 x hx;omega
   ·exact e⟩]
noncomputable def adB (ls:List (Int×Int)) (x y:Int):Bool:=decide ((x,y)∈ls)||decide ((y,x)∈ls)
theorem U9 {ls:List (Int×Int)}{x y:Int}:decide (y∈nbs ls x)=adB ls x y:=by
 unfold adB
 rw[Bool.eq_iff_iff,Bool.or_eq_true,decide_eq_true_eq,decide_eq_true_eq,decide_eq_true_eq]
 exact mem_nbs
theorem ul {hs:List Int}{ls:List (Int×Int)}{x:Int}{ms:List Int}(W:Hs hs) (L:Ls hs ls) (pm:ms.Perm (nbs ls x)) (sd:ms.Pairwise (· ≤ ·)):ms=hs.filter (adB ls x):=by
 have nd:ms.Nodup:=pm.nodup_iff.mpr (YK L.nd fun p hp=>(L.ok p hp).2.2)
 have up:ms.Pairwise (· < ·):=(sd.and (List.nodup_iff_pairwise_ne.mp nd)).imp fun h=>by
  have h1:=h.1
  have h2:=h.2
  omega
 refine WC up (W.up.filter _) fun y=>?_
 rw[pm.mem_iff,List.mem_filter,← U9,decide_eq_true_eq]
 refine⟨fun h=>⟨?_,h⟩,fun h=>h.2⟩
 rcases mem_nbs.mp h with z | z
 ·exact(L.ok _ z).2.1
 ·exact(L.ok _ z).1
section
variable {P:Program}{w:World}{K:PySem.W.Frag}{mg:Str→Option Value}{base:Heap}{a:Ad}
def zlX (a:Ad):Sp:=fun vs H Q _=>∃ (p:Addr) (x:Int) (hs:List Int) (ls:List (Int×Int)) (dx oh ol d:Addr) (ad:Int→Addr),vs=[.ref p,.int x]∧WebAt a H p hs ls dx oh ol d ad∧x∈hs∧Q (.bl true) H
theorem zf5 (T:Txt w K mg a):FnOk P w K mg base CX0 2 a.f_qa5 a.d_qa5 ["self", "hand"] (zlX a):=by
 have c_qg:Callee P w K mg base "is_whole" a.f_qg a.d_qg ["value"] 1 wy:=⟨wG T,T.g_qg,T.F_qg.kp,T.b_qg⟩
 refine T.F_qa5.ok zfy (fun vs H Q E h=>?_) (fun cdv A outer s H vs Q E hr h=>?_)
 ·obtain⟨p,x,hs,ls,dx,oh,ol,d,ad,rfl,_⟩:=h
  rfl
 ·obtain⟨p,x,hs,ls,dx,oh,ol,d,ad,rfl,W,hx,k⟩:=h
  have hu:=yH hr
  refine zy (w_pss_one (zf (ym (w_pe_c c_qg (hr.mono (by omega)) (w_pa_N (w_pv 1) w_pa_nil)) (yi (XC (XD hu (w_pv 1) (w_pe_fld (w_pv 0) rfl))))))) ?_
  refine⟨_,rfl,x,rfl,_,rfl,Xw ?_⟩
  exact⟨_,rfl,_,rfl,p,_,dx,_,_,rfl,W.p,T.cl_Web,T.na_Web_near,rfl,d,some (V.ref (ad x)),rfl,yx W.nr.d hx,k⟩
def XH (a:Ad):Sp:=fun vs H Q _=>∃ (p:Addr) (hs:List Int) (ls:List (Int×Int)) (dx oh ol d:Addr) (ad:Int→Addr),vs=[.ref p]∧WebAt a H p hs ls dx oh ol d ad∧∀ q,H q=none→Q (.ref q) (upd H q (.lst (hs.map V.int)))
theorem yZ (T:Txt w K mg a):FnOk P w K mg base CX0 1 a.f_qa3 a.d_qa3 ["self"] (XH a):=by
 refine T.F_qa3.ok zfz (fun vs H Q E h=>?_) (fun cdv A outer s H vs Q E hr h=>?_)
 ·obtain⟨p,hs,ls,dx,oh,ol,d,ad,rfl,_⟩:=h
  rfl
 ·obtain⟨p,hs,ls,dx,oh,ol,d,ad,rfl,W,k⟩:=h
  refine zy (w_pss_one (zf (zA yC (by rfl) T.n_list xV (w_pa_cons (w_pe_fld (w_pv 0) rfl) w_pa_nil)))) ?_
  exact⟨_,rfl,p,_,dx,_,_,rfl,W.p,T.cl_Web,T.na_Web_own_hands,rfl,oh,_,rfl,.inl (SqL.of W.oh),k⟩
def zwu (a:Ad):Sp:=fun vs H Q _=>∃ (p:Addr) (x:Int) (hs:List Int) (ls:List (Int×Int)) (dx oh ol d:Addr) (ad:Int→Addr),vs=[.ref p,.int x]∧WebAt a H p hs ls dx oh ol d ad∧Hs hs∧Ls hs ls∧x∈hs ∧
 ∀ (q:Addr),H q=none→Q (.ref q) (upd H q (.lst ((hs.filter (adB ls x)).map V.int)))
theorem VN (T:Txt w K mg a):FnOk P w K mg base CX0 3 a.f_qa6 a.d_qa6 ["self", "hand"] (zwu a):=by
 refine T.F_qa6.ok zfx (fun vs H Q E h=>?_) (fun cdv A outer s H vs Q E hr h=>?_)
 ·obtain⟨p,x,hs,ls,dx,oh,ol,d,ad,rfl,_⟩:=h
  rfl
 ·obtain⟨p,x,hs,ls,dx,oh,ol,d,ad,rfl,W,wh,wl,hx,k⟩:=h
  have hu:=yH hr
  refine zy (w_pss_cons (w_ps_if (yT (zT (w_pe_methD (w_pv 0) (w_pa_N (w_pv 1) w_pa_nil))))
    (w_pss_one yp)
    zi)
   (w_pss_one (zf (w_pe_callB wq (by rfl) T.n_sorted xU (w_pa_cons (zP hu (w_pe_fld (w_pv 0) rfl) (w_pv 1) (fun _ _=>rfl)) w_pa_nil))))) ?_
  refine⟨_,rfl,p,_,dx,_,_,_,_,_,_,rfl,W.p,rfl,T.cl_Web,T.mt_qa5,zf5 (P:=P) (w:=w) T,hr.mono (by omega),T.b_qa5,_,rfl,p,x,hs,ls,dx,oh,ol,d,ad,rfl,W,hx,_,rfl,zZ rfl ?_⟩
  have few:=YM (x:=x) wh wl
  exact⟨_,rfl,p,_,dx,_,_,rfl,W.p,T.cl_Web,T.na_Web_near,rfl,_,rfl,d,V.ref (ad x),rfl,yx W.nr.d hx,ad x,_,rfl,SqL.of (W.nr.nb x hx),by omega,fun q ms hq pm sd=>by rw[ul wh wl pm sd];exact k q hq⟩
end
end K04

namespace K04
open PySem L2
theorem merge_app:∀ {kvs acc:List (Key×V)},((acc++kvs).map (·.1)).Nodup→mergeK acc kvs=acc++kvs
 |[],acc,_=>by simp[mergeK]
 |kv::kvs,acc,h=>by
  have hn:kv.1∉acc.map (·.1):=by
   rw[List.map_append,List.nodup_append] at h
   intro z
   exact h.2.2 _ z _ (by simp) rfl
  show mergeK (putK acc kv.1 kv.2) kvs=_
  rw[putK_new hn,merge_app (by simpa using h)]
  simp
theorem wN {kvs:List (Key×V)}(h:(kvs.map (·.1)).Nodup):mergeK [] kvs=kvs:=by
 have:=merge_app (kvs:=kvs) (acc:=[]) (by simpa using h)
 simpa using this
noncomputable def tabI (f:Int→Int) (us:List Int):List (Key×V):=us.map fun h=>(Sum.inl h,V.int (f h))
theorem yW {f:Int→Int}{us:List Int}:(tabI f us).map (·.1)=us.map Sum.inl:=by
 unfold tabI
 rw[List.map_map]
 rfl
theorem Y1 {us:List Int}(h:us.Nodup):(us.map (Sum.inl:Int→Key)).Nodup:=by
 rw[List.nodup_iff_pairwise_ne,List.pairwise_map]
 exact(List.nodup_iff_pairwise_ne.mp h).imp fun {a b} n z=>n (by injection z)
theorem vL {f:Int→Int}{x:Int}:∀ {us:List Int},x∈us→xu (tabI f us) (Sum.inl x:Key)=some (V.int (f x))
 |u::us,h=>by
  unfold tabI xu
  rw[List.map_cons,List.find?_cons]
  by_cases e:u=x
  ·subst e;simp
  ·have:¬ ((Sum.inl u:Key)=Sum.inl x):=fun z=>e (by injection z)
   simp only[decide_eq_false this]
   have:=vL (f:=f) ((List.mem_cons.mp h).resolve_left fun z=>e z.symm)
   unfold tabI xu at this
   exact this
theorem xv {H:Hp}{d:Addr}{f:Int→Int}{us:List Int}{x:Int}(e:H d=some (.dK (tabI f us))) (h:x∈us):DGet H d (V.int x) (some (V.int (f x))):=by
 have:=DGet.k (k:=.inl x) e
 rw[vL h] at this
 exact this
theorem wb {hs:List Int}(W:Hs hs):hs.Nodup:=List.nodup_iff_pairwise_ne.mpr (W.up.imp fun {a b} h=>by omega)
theorem ProgAt.same {a:Ad}{H H':Hp}{e1 e2 e3 e4:Ex}{r:V}(s:Same H H') (h:ProgAt a H e1 e2 e3 e4 r):ProgAt a H' e1 e2 e3 e4 r:=by
 obtain⟨p,dx,r1,r2,r3,r4,e,hp,⟨⟨a1,b1⟩,⟨a2,b2⟩,⟨a3,b3⟩,⟨a4,b4⟩,z⟩⟩:=h
 exact⟨p,dx,r1,r2,r3,r4,e,s _ _ hp,⟨⟨a1.same s,b1⟩,⟨a2.same s,b2⟩,⟨a3.same s,b3⟩,⟨a4.same s,b4⟩,z⟩⟩
noncomputable def deg (hs:List Int) (ls:List (Int×Int)) (x:Int):Int:=(((hs.filter (adB ls x)).map V.int).length:Int)
noncomputable def w0 (hs:List Int) (ls:List (Int×Int)) (e1:Ex) (x:Int):Int:=e1.val (rho (kvF x (deg hs ls x)))
section
variable {P:Program}{w:World}{K:PySem.W.Frag}{mg:Str→Option Value}{base:Heap}{a:Ad}
structure WbP (a:Ad) (H:Hp) (p:Addr) (hs:List Int) (ls:List (Int×Int)):Prop where
 wh:Hs hs
 wl:Ls hs ls
 at_:∃ dx oh ol d ad,WebAt a H p hs ls dx oh ol d ad
theorem WbP.same {H H':Hp}{p:Addr}{hs:List Int}{ls:List (Int×Int)}(h:WbP a H p hs ls) (s:Same H H'):WbP a H' p hs ls:=⟨h.wh,h.wl,let ⟨dx,oh,ol,d,ad,W⟩:=h.at_;⟨dx,oh,ol,d,ad,W.same s⟩⟩
def zun (a:Ad):Sp:=fun vs H Q _=>∃ (p:Addr) (hs:List Int) (ls:List (Int×Int)) (r:V) (e1 e2 e3 e4:Ex),vs=[.ref p,r]∧WbP a H p hs ls∧ProgAt a H e1 e2 e3 e4 r ∧
 ∀ q H',H q=none→Same H H'→H' q=some (.dK (tabI (w0 hs ls e1) hs))→Q (.ref q) H'
theorem zmJ (T:Txt w K mg a):FnOk P w K mg base CX0 11 a.f_qa a.d_qa ["web", "program"] (zun a):=by
 refine T.F_qa.ok zl9 (fun vs H Q E h=>?_) (fun cdv A outer s H vs Q E hr h=>?_)
 ·obtain⟨p,hs,ls,r,e1,e2,e3,e4,rfl,_⟩:=h
  rfl
 ·obtain⟨p,hs,ls,r,e1,e2,e3,e4,rfl,W,hP,k⟩:=h
  have hu:=yH hr
  refine zy (w_pss_one (zf (zA (xm rfl) (by rfl) T.n_dict xW (w_pa_cons (zV rfl (N':=["hand", "program", "web"]) (t:=1) (caps:=[1,0]) ⟨rfl,rfl,rfl⟩ (zt (zz (w_pv 0))) (fun _=>(zh (i:=0) (show(["hand", "program", "web"]:List Str).Nodup by decide +kernel) rfl (Or.inl rfl))) (fun _=>zO) (fun _=>(zF (w_pa_N (w_pv 0) (zu (w_pe_methD (w_pv 1) (w_pa_N (w_pv 0) (zu (w_pe_callB zl (by rfl) T.n_len zN (zu (w_pe_methD (w_pv 2) (w_pa_N (w_pv 0) w_pa_nil)) w_pa_nil)) w_pa_nil))) w_pa_nil))))) w_pa_nil)))) ?_
  obtain⟨dx,oh,ol,d,ad,Wb⟩:=W.at_
  refine⟨_,rfl,p,_,dx,_,_,_,_,_,_,rfl,Wb.p,rfl,T.cl_Web,T.mt_qa3,yZ (P:=P) (w:=w) T,hr.mono (by omega),T.b_qa3,p,hs,ls,dx,oh,ol,d,ad,rfl,Wb,fun ph hph=>?_⟩
  have s1:=Same.new (o:=HO.lst (hs.map V.int)) hph
  refine⟨ph,rfl,⟨_,SqL.of zd⟩,fun D hD _=>?_⟩
  generalize hH1:upd H ph (HO.lst (hs.map V.int))=H1 at *
  have hph1:H1 ph=some (.lst (hs.map V.int)):=by rw[← hH1];exact zd
  have l12:=W.wh.l12
  refine zJ (K:=K) (a:=ph) (xs:=hs.map V.int) (fun i zs τ H'=>∃ (o:Option V) (qs:List Addr),τ=[o,some r,some (.ref p)]∧zs=qs.map V.ref∧qs.length=i∧(∀ (j:Nat) (q:Addr) (x:Int),qs[j]?=some q→hs[j]?=some x→H' q=some (.tup [.int x,.int (w0 hs ls e1 x)]))∧H' D=some (.lst zs)∧Same H1 H') ?_ ?_ ?_ ?_
  ·exact⟨none,[],rfl,rfl,rfl,fun j q x h=>by simp at h,zd,Same.new hD⟩
  ·rintro i zs τ H' ⟨o,qs,_,_,_,_,_,sm⟩
   exact SqL.of (sm _ _ hph1)
  ·rintro i v zs τ H' hi ⟨o,qs,rfl,rfl,lq,hq,hD',sm⟩
   obtain⟨x,hx,rfl⟩:∃ x,hs[i]?=some x∧v=.int x:=by
    rw[List.getElem?_map] at hi
    obtain⟨x,h1,h2⟩:=Option.map_eq_some_iff.mp hi
    exact⟨x,h1,h2.symm⟩
   have hxm:=List.mem_of_getElem? hx
   have hil:i<hs.length:=(List.getElem?_eq_some_iff.mp hx).1
   have sH:=s1.trans sm
   have Wb':=Wb.same sH
   have hP':=ProgAt.same sH hP
   obtain⟨pp,pdx,r1,r2,r3,r4,hre,hpp,hF⟩:=id hP'
   refine gn_if ?_
   refine⟨_,rfl,_,rfl,pp,_,pdx,_,_,_,_,_,_,hre,hpp,rfl,T.cl_Program,T.mt_qZ,XY (P:=P) (w:=w) T,hr.mono (by omega),T.b_qZ,_,rfl,_,rfl,p,_,dx,_,_,_,_,_,_,rfl,Wb'.p,rfl,T.cl_Web,T.mt_qa6,VN (P:=P) (w:=w) T,hr.mono (by omega),T.b_qa6,_,rfl,p,x,hs,ls,dx,oh,ol,d,ad,rfl,Wb',W.wh,W.wl,hxm,fun q1 hq1=>?_⟩
   have n1:=Same.new (o:=HO.lst ((hs.filter (adB ls x)).map V.int)) hq1
   refine⟨q1,_,rfl,.inl (SqL.of zd),r,e1,e2,e3,e4,x,_,rfl,ProgAt.same n1 hP',fun H2 s2=>⟨(by show 2≤sizeLine;decide),fun pt hpt=>?_⟩⟩
   have n2:=n1.trans (s2.trans (Same.new (o:=HO.tup [V.int x,V.int (w0 hs ls e1 x)]) hpt))
   refine⟨n2 _ _ hD',by rw[List.length_map,lq];exact zj (by omega),some (.int x),qs++[pt],rfl,by simp,by simp[lq],fun j q y hj hy=>?_,zd,Same.updF (sm.trans n2) hD⟩
   have old:∀ b o,H' b=some o→b≠D→upd (upd H2 pt (HO.tup [V.int x,V.int (w0 hs ls e1 x)])) D (HO.lst (qs.map V.ref++[V.ref pt])) b=some o:=fun b o e nb=>by
    rw[upd_ne nb]
    exact n2 _ _ e
   by_cases hji:j<i
   ·rw[List.getElem?_append_left (by omega)] at hj
    have h1:=hq j q y hj hy
    exact old q _ h1 (fun z=>by rw[z,hD'] at h1;cases h1)
   ·rw[List.getElem?_append_right (by omega)] at hj
    have:j=i:=by
     have:=(List.getElem?_eq_some_iff.mp hj).1
     simp at this
     omega
    subst this
    rw[lq,Nat.sub_self] at hj
    cases hj
    rw[hx] at hy
    cases hy
    rw[upd_ne (fun z=>by rw[z] at hpt;rw[s2 _ _ (n1 _ _ hD')] at hpt;cases hpt)]
    exact zd
  ·rintro zs τ H2 ⟨o,qs,rfl,rfl,lq,hq,hD2,sm⟩
   rw[List.length_map] at lq
   refine⟨D,qs,tabI (w0 hs ls e1) hs,rfl,hD2,by rw[lq];unfold tabI;rw[List.length_map],by unfold tabI;rw[List.length_map];omega,fun i q kv h1 h2=>?_,fun pd hpd=>?_⟩
   ·unfold tabI at h2
    rw[List.getElem?_map] at h2
    obtain⟨x,h3,h4⟩:=Option.map_eq_some_iff.mp h2
    subst h4
    exact hq i q x h1 h3
   ·rw[wN (by rw[yW];exact Y1 (wb W.wh))]
    have sE:=s1.trans sm
    exact k pd _ (sE.free hpd) (sE.trans (Same.new hpd)) zd
end
end K04

namespace K04
open PySem L2
structure HrAt (H:Hp) (q:Addr) (ad:Int→Addr) (hs:List Int) (g:Int→List (Int×Int)):Prop where
 q:H q=some (.dK (tab ad hs))
 inj:∀ x∈hs,∀ y∈hs,ad x=ad y→x=y
 at_:∀ x∈hs,∃ rs,H (ad x)=some (.lst rs)∧LnAt H rs (g x)∧rs.length≤100
theorem LnAt.mono {H H':Hp}{rs:List V}{ls:List (Int×Int)}(k:∀ b xs,H b=some (.tup xs)→H' b=some (.tup xs)) (h:LnAt H rs ls):LnAt H' rs ls:=⟨h.1,fun i r p h1 h2=>by
 obtain⟨q,e,hq⟩:=h.2 i r p h1 h2
 exact⟨q,e,k _ _ hq⟩⟩
theorem LnAt.snoc {H:Hp}{rs:List V}{ls:List (Int×Int)}{q:Addr}{p:Int×Int}(h:LnAt H rs ls) (hq:H q=some (.tup [.int p.1,.int p.2])):LnAt H (rs++[.ref q]) (ls++[p]):=by
 refine⟨by simp[h.1],fun i r p' h1 h2=>?_⟩
 have l:=h.1
 by_cases hi:i<rs.length
 ·rw[List.getElem?_append_left hi] at h1
  rw[List.getElem?_append_left (by omega)] at h2
  exact h.2 i r p' h1 h2
 ·rw[List.getElem?_append_right (by omega)] at h1
  rw[List.getElem?_append_right (by omega),← l] at h2
  obtain⟨n,hn⟩:∃ n,n=i-rs.length:=⟨_,rfl⟩
  rw[← hn] at h1 h2
  cases n with
  |zero=>cases h1;cases h2;exact⟨q,rfl,hq⟩
  |succ n=>simp at h1
theorem HrAt.same {H H':Hp}{q:Addr}{ad:Int→Addr}{hs:List Int}{g:Int→List (Int×Int)}(h:HrAt H q ad hs g) (s:Same H H'):HrAt H' q ad hs g:=⟨s _ _ h.q,h.inj,fun x hx=>by
 obtain⟨rs,h1,h2,h3⟩:=h.at_ x hx
 exact⟨rs,s _ _ h1,h2.same s,h3⟩⟩
theorem HrAt.app {H:Hp}{q pt:Addr}{ad:Int→Addr}{hs:List Int}{g g':Int→List (Int×Int)}{x:Int}{rs:List V}{p:Int×Int}(h:HrAt H q ad hs g) (hx:x∈hs) (hr:H (ad x)=some (.lst rs)) (hl:LnAt H rs (g x)) (h3:rs.length<100) (hp:H pt=some (.tup [.int p.1,.int p.2]))
  (e1:g' x=g x++[p]) (e2:∀ y∈hs,y≠x→g' y=g y):HrAt (upd H (ad x) (.lst (rs++[.ref pt]))) q ad hs g':=by
 have mt:∀ b xs,H b=some (.tup xs)→upd H (ad x) (.lst (rs++[.ref pt])) b=some (.tup xs):=fun b xs e=>by
  rw[upd_ne (ne_of e hr (by intro z;cases z))]
  exact e
 refine⟨by rw[upd_ne (ne_of h.q hr (by intro z;cases z))];exact h.q,h.inj,fun y hy=>?_⟩
 by_cases e:y=x
 ·subst e
  refine⟨_,zd,?_,by simp;omega⟩
  rw[e1]
  exact(hl.mono mt).snoc (mt _ _ hp)
 ·obtain⟨rs',h1,h2,h4⟩:=h.at_ y hy
  refine⟨rs',?_,?_,h4⟩
  ·rw[upd_ne (fun z=>e (h.inj y hy x hx z))]
   exact h1
  ·rw[e2 y hy e]
   exact h2.mono mt
noncomputable def msg (hs:List Int) (ls:List (Int×Int)) (e2 e3:Ex) (f:Int→Int) (t:Int) (s x:Int):Option (Int×Int) :=
 if e3.val (rho (kvS (f s) s t (deg hs ls s) x))>0 then some (s,e2.val (rho (kvS (f s) s t (deg hs ls s) x))) else none
noncomputable def v7 (hs:List Int) (ls:List (Int×Int)) (e2 e3:Ex) (f:Int→Int) (t:Int) (S:List Int) (x:Int):List (Int×Int):=S.filterMap fun s=>if adB ls s x=true then msg hs ls e2 e3 f t s x else none
theorem uE {hs:List Int}{ls:List (Int×Int)}{e2 e3:Ex}{f:Int→Int}{t:Int}{S:List Int}{x:Int}:(v7 hs ls e2 e3 f t S x).length≤S.length:=List.length_filterMap_le _ _
theorem vy {hs:List Int}{ls:List (Int×Int)}{e2 e3:Ex}{f:Int→Int}{t:Int}{S:List Int}{s x:Int}:v7 hs ls e2 e3 f t (S++[s]) x=v7 hs ls e2 e3 f t S x++(if adB ls s x=true then(msg hs ls e2 e3 f t s x).toList else[]):=by
 unfold v7
 rw[List.filterMap_append]
 congr 1
 by_cases h:adB ls s x=true
 ·rw[if_pos h]
  simp only[List.filterMap_cons,if_pos h,List.filterMap_nil]
  cases msg hs ls e2 e3 f t s x<;>rfl
 ·rw[if_neg h]
  simp only[List.filterMap_cons,if_neg h,List.filterMap_nil]
theorem HrAt.congr {H:Hp}{q:Addr}{ad:Int→Addr}{hs:List Int}{g g':Int→List (Int×Int)}(h:HrAt H q ad hs g) (e:∀ x∈hs,g' x=g x):HrAt H q ad hs g':=⟨h.q,h.inj,fun x hx=>by rw[e x hx];exact h.at_ x hx⟩
section
variable {P:Program}{w:World}{K:PySem.W.Frag}{mg:Str→Option Value}{base:Heap}{a:Ad}
def zum (a:Ad):Sp:=fun vs H Q _=>∃ (p:Addr) (hs:List Int) (ls:List (Int×Int)) (r:V) (e1 e2 e3 e4:Ex) (dw:Addr) (us:List Int) (f:Int→Int) (t:Int),vs=[.ref p,r,.ref dw,.int t]∧WbP a H p hs ls∧ProgAt a H e1 e2 e3 e4 r∧H dw=some (.dK (tabI f us))∧(∀ x∈hs,x∈us) ∧
 ∀ q ad H',H q=none→(∀ x∈hs,H (ad x)=none)→Same H H'→HrAt H' q ad hs (v7 hs ls e2 e3 f t hs)→Q (.ref q) H'
theorem zmH (T:Txt w K mg a):FnOk P w K mg base CX0 11 a.f_qb a.d_qb ["web", "program", "worths", "turn"] (zum a):=by
 refine T.F_qb.ok sc_qb (fun vs H Q E h=>?_) (fun cdv A outer s H vs Q E hr h=>?_)
 ·obtain⟨p,hs,ls,r,e1,e2,e3,e4,dw,us,f,t,rfl,_⟩:=h
  rfl
 ·obtain⟨p,hs,ls,r,e1,e2,e3,e4,dw,us,f,t,rfl,W,hP,hdw,hus,k⟩:=h
  have hu:=yH hr
  refine zy (w_pss_cons (w_ps_set (i:=4) sc_qb.nd rfl (Or.inl rfl) (zA (xm rfl) (by rfl) T.n_dict xW (w_pa_cons (zV rfl (N':=["hand"]) (t:=1) (caps:=[]) ⟨rfl,rfl,rfl⟩ (zt (zz (w_pv 0))) (fun _=>(zh (i:=0) (show(["hand"]:List Str).Nodup by decide +kernel) rfl (Or.inl rfl))) (fun _=>zO) (fun _=>(zF (w_pa_N (w_pv 0) (w_pa_cons (zq w_pa_nil) w_pa_nil))))) w_pa_nil)))
   (w_pss_cons (zB PassesOwn.never rfl (zt (zz (w_pv 0))) (zh (i:=5) sc_qb.nd rfl (Or.inl rfl))
    (w_pss_cons (w_ps_set (i:=6) sc_qb.nd rfl (Or.inl rfl) (w_pe_methD (w_pv 0) (w_pa_N (w_pv 5) w_pa_nil)))
    (w_pss_one (zB PassesOwn.never rfl (zt (w_pv 6)) (zh (i:=7) sc_qb.nd rfl (Or.inl rfl))
     (w_pss_cons (w_ps_set (i:=8) sc_qb.nd rfl (Or.inl rfl) (w_pe_methD (w_pv 1) (w_pa_cons (zP hu (w_pv 2) (w_pv 5) (fun _ _=>rfl)) (w_pa_N (w_pv 5) (w_pa_N (w_pv 3) (zu (w_pe_callB zl (by rfl) T.n_len zN (w_pa_N (w_pv 6) w_pa_nil)) (w_pa_N (w_pv 7) w_pa_nil)))))))
     (w_pss_one (w_ps_if (w_pt_cmpR VF (w_pv 8) uf (zo _))
      (w_pss_one (w_ps_expr (yf PySem.F.plainAttrs_list PySem.F.slot_list_append PySem.F.type_list_append zH (zP hu (w_pv 4) (w_pv 7) (fun _ _=>rfl)) (wW (zF (w_pa_N (w_pv 5) (w_pa_N (w_pv 8) w_pa_nil))) w_pa_nil))))
      zi)))))))
   (w_pss_one (zf (w_pv 4))))) ?_
  obtain⟨dx,oh,ol,d,ad0,Wb⟩:=W.at_
  have l12:=W.wh.l12
  have nd:=wb W.wh
  refine⟨_,rfl,p,_,dx,_,_,_,_,_,_,rfl,Wb.p,rfl,T.cl_Web,T.mt_qa3,yZ (P:=P) (w:=w) T,hr.mono (by omega),T.b_qa3,p,hs,ls,dx,oh,ol,d,ad0,rfl,Wb,fun ph hph=>?_⟩
  have s1:=Same.new (o:=HO.lst (hs.map V.int)) hph
  refine⟨ph,rfl,⟨_,SqL.of zd⟩,fun D hD _=>?_⟩
  generalize hH1:upd H ph (HO.lst (hs.map V.int))=H1 at *
  have hph1:H1 ph=some (.lst (hs.map V.int)):=by rw[← hH1];exact zd
  refine zJ (K:=K) (a:=ph) (xs:=hs.map V.int) (fun i zs τ H'=>∃ (o:Option V) (qs:List Addr) (ad:Int→Addr),τ=[o]∧zs=qs.map V.ref∧qs.length=i∧(∀ (j:Nat) (q:Addr) (x:Int),qs[j]?=some q→hs[j]?=some x→H' q=some (.tup [.int x,.ref (ad x)]))∧(∀ x∈hs.take i,H1 (ad x)=none∧ad x≠D∧H' (ad x)=some (.lst []))∧(∀ x∈hs.take i,∀ y∈hs.take i,ad x=ad y→x=y)∧H' D=some (.lst zs)∧Same H1 H') ?_ ?_ ?_ ?_
  ·exact⟨none,[],fun _=>0,rfl,rfl,rfl,fun j q x h=>by simp at h,fun x hx=>by simp at hx,fun x hx=>by simp at hx,zd,Same.new hD⟩
  ·rintro i zs τ H' ⟨o,qs,ad,_,_,_,_,_,_,_,sm⟩
   exact SqL.of (sm _ _ hph1)
  ·rintro i v zs τ H' hi ⟨o,qs,ad,rfl,rfl,lq,hq,had,hinj,hD',sm⟩
   obtain⟨x,hx,rfl⟩:∃ x,hs[i]?=some x∧v=.int x:=by
    rw[List.getElem?_map] at hi
    obtain⟨x,h1,h2⟩:=Option.map_eq_some_iff.mp hi
    exact⟨x,h1,h2.symm⟩
   have hil:i<hs.length:=(List.getElem?_eq_some_iff.mp hx).1
   have hnx:x∉hs.take i:=yr nd hx
   refine gn_if ?_
   refine⟨_,rfl,(by show 0≤sizeLine;decide),fun pe hpe=>?_⟩
   have n1:=Same.new (o:=HO.lst []) hpe
   refine⟨(by show 2≤sizeLine;decide),fun pt hpt=>?_⟩
   have n2:=Same.new (o:=HO.tup [V.int x,V.ref pe]) hpt
   have n12:=n1.trans n2
   have npe:pe≠D:=fun z=>by rw[z,hD'] at hpe;cases hpe
   have npt:pt≠D:=fun z=>by rw[z,n1 _ _ hD'] at hpt;cases hpt
   have old:∀ b o,H' b=some o→b≠D→upd (upd (upd H' pe (HO.lst [])) pt (HO.tup [V.int x,V.ref pe])) D (HO.lst (qs.map V.ref++[V.ref pt])) b=some o:=fun b o e nb=>by
    rw[upd_ne nb]
    exact n12 _ _ e
   have hpe2:upd (upd (upd H' pe (HO.lst [])) pt (HO.tup [V.int x,V.ref pe])) D (HO.lst (qs.map V.ref++[V.ref pt])) pe=some (.lst []):=by
    rw[upd_ne npe]
    exact n2 _ _ zd
   have tk:hs.take (i+1)=hs.take i++[x]:=by rw[List.take_add_one,hx];rfl
   refine⟨n12 _ _ hD',by rw[List.length_map,lq];exact zj (by omega),some (.int x),qs++[pt],zae ad x pe,rfl,by simp,by simp[lq],fun j q y hj hy=>?_,fun y hy=>?_,fun y hy z hz e=>?_,zd,Same.updF (sm.trans n12) hD⟩
   ·by_cases hji:j<i
    ·rw[List.getElem?_append_left (by omega)] at hj
     have h1:=hq j q y hj hy
     have hyx:¬ y=x:=fun e=>hnx (by rw[← e];exact List.mem_of_getElem? (by rw[List.getElem?_take_of_lt hji];exact hy))
     rw[putA_ne hyx]
     exact old q _ h1 (fun z=>by rw[z,hD'] at h1;cases h1)
    ·rw[List.getElem?_append_right (by omega)] at hj
     have:j=i:=by
      have:=(List.getElem?_eq_some_iff.mp hj).1
      simp at this
      omega
     subst this
     rw[lq,Nat.sub_self] at hj
     cases hj
     rw[hx] at hy
     cases hy
     rw[putA_at rfl,upd_ne npt]
     exact zd
   ·rw[tk] at hy
    by_cases e:y=x
    ·rw[putA_at e]
     exact⟨sm.free hpe,npe,hpe2⟩
    ·rw[putA_ne e]
     obtain⟨a1,a2,a3⟩:=had y ((List.mem_append.mp hy).resolve_right fun z=>e (List.mem_singleton.mp z))
     exact⟨a1,a2,old _ _ a3 a2⟩
   ·rw[tk] at hy hz
    have fr:∀ u∈hs.take i,ad u≠pe:=fun u hu z=>by rw[← z,(had u hu).2.2] at hpe;cases hpe
    by_cases ey:y=x
    ·by_cases ez:z=x
     ·rw[ey,ez]
     ·rw[putA_at ey,putA_ne ez] at e
      exact absurd e.symm (fr z ((List.mem_append.mp hz).resolve_right fun w=>ez (List.mem_singleton.mp w)))
    ·have hy':=(List.mem_append.mp hy).resolve_right fun w=>ey (List.mem_singleton.mp w)
     by_cases ez:z=x
     ·rw[putA_ne ey,putA_at ez] at e
      exact absurd e (fr y hy')
     ·rw[putA_ne ey,putA_ne ez] at e
      exact hinj y hy' z ((List.mem_append.mp hz).resolve_right fun w=>ez (List.mem_singleton.mp w)) e
  ·rintro zs τ H2 ⟨o,qs,ad,rfl,rfl,lq,hq,had,hinj,hD2,sm⟩
   rw[List.length_map] at lq
   have had:∀ x∈hs,H1 (ad x)=none∧ad x≠D∧H2 (ad x)=some (.lst []):=fun x hx=>had x (by rw[List.length_map,List.take_length];exact hx)
   have hinj:∀ x∈hs,∀ y∈hs,ad x=ad y→x=y:=fun x hx y hy=>hinj x (by rw[List.length_map,List.take_length];exact hx) y (by rw[List.length_map,List.take_length];exact hy)
   refine⟨D,qs,tab ad hs,rfl,hD2,by rw[lq];unfold tab;rw[List.length_map],by unfold tab;rw[List.length_map];omega,fun i q kv h1 h2=>?_,fun pd hpd=>?_⟩
   ·unfold tab at h2
    rw[List.getElem?_map] at h2
    obtain⟨x,h3,h4⟩:=Option.map_eq_some_iff.mp h2
    subst h4
    exact hq i q x h1 h3
   rw[wN (by rw[ww];exact Y1 nd)]
   have sE:=s1.trans sm
   have n3:=Same.new (o:=HO.dK (tab ad hs)) hpd
   have hpd0:H pd=none:=sE.free hpd
   have had0:∀ x∈hs,H (ad x)=none:=fun x hx=>s1.free (had x hx).1
   have h0:HrAt (upd H2 pd (HO.dK (tab ad hs))) pd ad hs (v7 hs ls e2 e3 f t []):=⟨zd,hinj,fun x hx=>⟨[],n3 _ _ (had x hx).2.2,⟨rfl,fun i r p h=>by simp at h⟩,by simp⟩⟩
   have s3:=sE.trans n3
   generalize hH3:upd H2 pd (HO.dK (tab ad hs))=H3 at *
   have Wb3:=Wb.same s3
   refine⟨_,rfl,p,_,dx,_,_,_,_,_,_,rfl,Wb3.p,rfl,T.cl_Web,T.mt_qa3,yZ (P:=P) (w:=w) T,hr.mono (by omega),T.b_qa3,p,hs,ls,dx,oh,ol,d,ad0,rfl,Wb3,fun ph2 hph2=>?_⟩
   have n4:=Same.new (o:=HO.lst (hs.map V.int)) hph2
   have h04:=h0.same n4
   have s4:=s3.trans n4
   have nph:∀ x∈hs,ph2≠ad x:=fun x hx z=>by
    obtain⟨rs,h1,_⟩:=h0.at_ x hx
    rw[← z,hph2] at h1
    cases h1
   refine⟨ph2,rfl,⟨_,SqL.of zd⟩,?_⟩
   have hph2':(upd H3 ph2 (HO.lst (hs.map V.int))) ph2=some (.lst (hs.map V.int)):=zd
   generalize hH4:upd H3 ph2 (HO.lst (hs.map V.int))=H4 at *
   refine zI (xs:=hs.map V.int) (fun i σ H'=>∃ o5 o6 o7 o8,σ=[some (.ref p),some r,some (.ref dw),some (.int t),some (.ref pd),o5,o6,o7,o8]∧HrAt H' pd ad hs (v7 hs ls e2 e3 f t (hs.take i))∧Same H H'∧H' ph2=some (.lst (hs.map V.int))) ?_ ?_ ?_ ?_
   ·exact⟨_,_,_,_,rfl,h04,s4,hph2'⟩
   ·rintro i σ H' hi ⟨o5,o6,o7,o8,_,_,_,hp⟩
    exact SqL.of hp
   ·rintro i v σ H5 hi ⟨o5,o6,o7,o8,rfl,hr5,s5,hp5⟩
    obtain⟨sd,hsd,rfl⟩:∃ x,hs[i]?=some x∧v=.int x:=by
     rw[List.getElem?_map] at hi
     obtain⟨x,h1,h2⟩:=Option.map_eq_some_iff.mp hi
     exact⟨x,h1,h2.symm⟩
    have hsm:=List.mem_of_getElem? hsd
    have hil:i<hs.length:=(List.getElem?_eq_some_iff.mp hsd).1
    have Wb5:=Wb.same s5
    refine⟨_,rfl,p,_,dx,_,_,_,_,_,_,rfl,Wb5.p,rfl,T.cl_Web,T.mt_qa6,VN (P:=P) (w:=w) T,hr.mono (by omega),T.b_qa6,_,rfl,p,sd,hs,ls,dx,oh,ol,d,ad0,rfl,Wb5,W.wh,W.wl,hsm,fun pn hpn=>?_⟩
    have n5:=Same.new (o:=HO.lst ((hs.filter (adB ls sd)).map V.int)) hpn
    have npn:∀ x∈hs,pn≠ad x:=fun x hx z=>by
     obtain⟨rs,h1,_⟩:=hr5.at_ x hx
     rw[← z,hpn] at h1
     cases h1
    have hpn6:(upd H5 pn (HO.lst ((hs.filter (adB ls sd)).map V.int))) pn=some (.lst ((hs.filter (adB ls sd)).map V.int)):=zd
    refine⟨_,rfl,pn,rfl,⟨_,SqL.of zd⟩,?_⟩
    have hr6:=hr5.same n5
    have s6:=s5.trans n5
    have hp6:=n5 _ _ hp5
    generalize hH6:upd H5 pn (HO.lst ((hs.filter (adB ls sd)).map V.int))=H6 at *
    have near_nd:(hs.filter (adB ls sd)).Nodup:=nd.filter _
    refine zI (xs:=(hs.filter (adB ls sd)).map V.int) (fun j σ H'=>∃ o7 o8,σ=[some (.ref p),some r,some (.ref dw),some (.int t),some (.ref pd),some (.int sd),some (.ref pn),o7,o8]∧HrAt H' pd ad hs (fun x=>v7 hs ls e2 e3 f t (hs.take i) x++(if x∈(hs.filter (adB ls sd)).take j then(msg hs ls e2 e3 f t sd x).toList else[]))∧Same H H'∧H' ph2=some (.lst (hs.map V.int))∧H' pn=some (.lst ((hs.filter (adB ls sd)).map V.int))) ?_ ?_ ?_ ?_
    ·exact⟨_,_,rfl,hr6.congr fun x _=>by simp,s6,hp6,hpn6⟩
    ·rintro j σ H' hj ⟨o7,o8,_,_,_,_,hp⟩
     exact SqL.of hp
    ·rintro j v σ H7 hj ⟨o7,o8,rfl,hr7,s7,hp7,hpn7⟩
     obtain⟨y,hy,rfl⟩:∃ x,(hs.filter (adB ls sd))[j]?=some x∧v=.int x:=by
      rw[List.getElem?_map] at hj
      obtain⟨x,h1,h2⟩:=Option.map_eq_some_iff.mp hj
      exact⟨x,h1,h2.symm⟩
     have hym:=(List.mem_filter.mp (List.mem_of_getElem? hy)).1
     have hyn:y∉(hs.filter (adB ls sd)).take j:=yr near_nd hy
     have tk:(hs.filter (adB ls sd)).take (j+1)=(hs.filter (adB ls sd)).take j++[y]:=by rw[List.take_add_one,hy];rfl
     have hP7:=ProgAt.same s7 hP
     obtain⟨pp,pdx,r1,r2,r3,r4,hre,hpp,hF⟩:=id hP7
     refine⟨_,rfl,pp,_,pdx,_,_,_,_,_,_,hre,hpp,rfl,T.cl_Program,T.mt_qa0,uW (P:=P) (w:=w) T,hr.mono (by omega),T.b_qa0,_,rfl,_,rfl,dw,_,rfl,xv (s7 _ _ hdw) (hus _ hsm),_,rfl,_,rfl,_,rfl,pn,_,rfl,.inl (SqL.of hpn7),_,rfl,r,e1,e2,e3,e4,f sd,sd,t,_,y,rfl,hP7,fun H8 s8=>?_⟩
     have hr8:=hr7.same s8
     have mdef:msg hs ls e2 e3 f t sd y=if e3.val (rho (kvS (f sd) sd t (deg hs ls sd) y))>0 then some (sd,e2.val (rho (kvS (f sd) sd t (deg hs ls sd) y))) else none:=rfl
     by_cases c:e3.val (rho (kvS (f sd) sd t (deg hs ls sd) y))>0
     ·rw[if_pos c] at mdef
      have cc:e3.val (rho (kvS (f sd) sd t (((hs.filter (adB ls sd)).map V.int).length:Int) y))>0:=c
      rw[if_pos cc]
      refine⟨_,rfl,rfl,_,rfl,iteB rfl ?_⟩
      obtain⟨rs,hrs,hln,hlen⟩:=hr8.at_ y hym
      have lg:=hln.1
      have lh:=uE (hs:=hs) (ls:=ls) (e2:=e2) (e3:=e3) (f:=f) (t:=t) (S:=hs.take i) (x:=y)
      rw[if_neg hyn,List.append_nil] at lg hln
      rw[List.length_take] at lh
      refine⟨_,rfl,_,rfl,pd,V.ref (ad y),rfl,yx hr8.q hym,.inl ⟨rfl,_,SqL.of hrs⟩,_,rfl,_,rfl,(by show 2≤sizeLine;decide),fun pt hpt=>?_⟩
      have n9:=Same.new (o:=HO.tup [V.int sd,V.int (e2.val (rho (kvS (f sd) sd t (deg hs ls sd) y)))]) hpt
      refine⟨ad y,rs,_,rfl,rfl,n9 _ _ hrs,(by exact zj (by omega)),?_⟩
      refine⟨_,_,rfl,(hr8.same n9).app (p:=(sd,e2.val (rho (kvS (f sd) sd t (deg hs ls sd) y)))) hym (n9 _ _ hrs) (by rw[if_neg hyn,List.append_nil];exact hln.same n9) (by omega) zd ?_ ?_,fun b o e=>?_,?_,?_⟩
      ·rw[if_neg hyn,List.append_nil,tk,if_pos (by simp),mdef]
       rfl
      ·intro x hx hne
       rw[tk]
       have:x∈(hs.filter (adB ls sd)).take j++[y]↔x∈(hs.filter (adB ls sd)).take j:=by simp[hne]
       simp only[this]
      ·rw[upd_ne (ne_of_none e (had0 y hym))]
       exact n9 _ _ (s8 _ _ (s7 _ _ e))
      ·rw[upd_ne (nph y hym)]
       exact n9 _ _ (s8 _ _ hp7)
      ·rw[upd_ne (npn y hym)]
       exact n9 _ _ (s8 _ _ hpn7)
     ·rw[if_neg c] at mdef
      have cc:¬ e3.val (rho (kvS (f sd) sd t (((hs.filter (adB ls sd)).map V.int).length:Int) y))>0:=c
      rw[if_neg cc]
      refine⟨_,rfl,rfl,_,rfl,zZ rfl ?_⟩
      refine⟨_,_,rfl,hr8.congr fun x hx=>?_,s7.trans s8,s8 _ _ hp7,s8 _ _ hpn7⟩
      rw[tk]
      by_cases hxy:x=y
      ·subst hxy
       rw[if_pos (by simp),if_neg hyn,mdef]
       rfl
      ·have:x∈(hs.filter (adB ls sd)).take j++[y]↔x∈(hs.filter (adB ls sd)).take j:=by simp[hxy]
       simp only[this]
    ·rintro σ H7 ⟨o7,o8,rfl,hr7,s7,hp7,hpn7⟩
     refine⟨_,_,_,_,rfl,hr7.congr fun x hx=>?_,s7,hp7⟩
     rw[List.length_map,List.take_length,List.take_add_one,hsd]
     show v7 hs ls e2 e3 f t (hs.take i++[sd]) x=_
     rw[vy]
     congr 1
     by_cases h:adB ls sd x=true
     ·rw[if_pos h,if_pos (List.mem_filter.mpr ⟨hx,h⟩)]
     ·rw[if_neg h,if_neg (fun z=>h (List.mem_filter.mp z).2)]
   ·rintro σ H5 ⟨o5,o6,o7,o8,rfl,hr5,s5,hp5⟩
    rw[List.length_map,List.take_length] at hr5
    exact⟨_,rfl,k pd ad H5 hpd0 had0 s5 hr5⟩
end
end K04

namespace K04
open PySem L2
theorem LstN.uniq {ns:List Int}{m m':Int}(h:LstN ns m) (h':LstN ns m'):m=m':=by
 rcases h with⟨e,rfl⟩ | ⟨h1,h2⟩
 ·rcases h' with⟨_,rfl⟩ | ⟨h1,_⟩
  ·rfl
  ·rw[e] at h1;cases h1
 ·rcases h' with⟨e,_⟩ | ⟨h1',h2'⟩
  ·rw[e] at h1;cases h1
  ·have:=h2 _ h1'
   have:=h2' _ h1
   omega
theorem MstN.uniq {ns:List Int}{m m':Int}(h:MstN ns m) (h':MstN ns m'):m=m':=by
 rcases h with⟨e,rfl⟩ | ⟨h1,h2⟩
 ·rcases h' with⟨_,rfl⟩ | ⟨h1,_⟩
  ·rfl
  ·rw[e] at h1;cases h1
 ·rcases h' with⟨e,_⟩ | ⟨h1',h2'⟩
  ·rw[e] at h1;cases h1
  ·have:=h2 _ h1'
   have:=h2' _ h1
   omega
noncomputable def lstF (ns:List Int):Int:=(ns.min?).getD 0
noncomputable def mstF (ns:List Int):Int:=(ns.max?).getD 0
theorem YQ {ns:List Int}{m:Int}(h:LstN ns m):m=lstF ns:=by
 refine LstN.uniq h ?_
 unfold lstF
 cases e:ns.min? with
 |none=>exact .inl ⟨List.min?_eq_none_iff.mp e,rfl⟩
 |some x =>
  obtain⟨h1,h2⟩:=(List.min?_eq_some_iff).mp e
  exact .inr ⟨h1,h2⟩
theorem YN {ns:List Int}{m:Int}(h:MstN ns m):m=mstF ns:=by
 refine MstN.uniq h ?_
 unfold mstF
 cases e:ns.max? with
 |none=>exact .inl ⟨List.max?_eq_none_iff.mp e,rfl⟩
 |some x =>
  obtain⟨h1,h2⟩:=(List.max?_eq_some_iff).mp e
  exact .inr ⟨h1,h2⟩
noncomputable def nxt (hs:List Int) (ls:List (Int×Int)) (e4:Ex) (f:Int→Int) (t:Int) (g:Int→List (Int×Int)) (x:Int):Int :=
 e4.val (rho (kvR (f x) x t (deg hs ls x) ((g x).map (·.2)).sum (lstF ((g x).map (·.2))) (mstF ((g x).map (·.2))) ((g x).map (·.2)).length))
section
variable {P:Program}{w:World}{K:PySem.W.Frag}{mg:Str→Option Value}{base:Heap}{a:Ad}
def zub (a:Ad):Sp:=fun vs H Q _=>∃ (p:Addr) (hs:List Int) (ls:List (Int×Int)) (r:V) (e1 e2 e3 e4:Ex) (dw hd:Addr) (us:List Int) (f:Int→Int) (t:Int) (ad:Int→Addr) (g:Int→List (Int×Int)),vs=[.ref p,r,.ref dw,.int t,.ref hd]∧WbP a H p hs ls∧ProgAt a H e1 e2 e3 e4 r∧H dw=some (.dK (tabI f us))∧(∀ x∈hs,x∈us)∧HrAt H hd ad hs g ∧
 ∀ q H',H q=none→Same H H'→H' q=some (.dK (tabI (nxt hs ls e4 f t g) hs))→Q (.ref q) H'
theorem zmA (T:Txt w K mg a):FnOk P w K mg base CX0 11 a.f_qc a.d_qc ["web", "program", "worths", "turn", "heard"] (zub a):=by
 refine T.F_qc.ok sc_qc (fun vs H Q E h=>?_) (fun cdv A outer s H vs Q E hr h=>?_)
 ·obtain⟨p,hs,ls,r,e1,e2,e3,e4,dw,hd,us,f,t,ad,g,rfl,_⟩:=h
  rfl
 ·obtain⟨p,hs,ls,r,e1,e2,e3,e4,dw,hd,us,f,t,ad,g,rfl,W,hP,hdw,hus,hH,k⟩:=h
  have hu:=yH hr
  refine zy (w_pss_cons (w_ps_set (i:=5) sc_qc.nd rfl (Or.inl rfl) xf)
   (w_pss_cons (zB PassesOwn.never rfl (zt (zz (w_pv 0))) (zh (i:=6) sc_qc.nd rfl (Or.inl rfl))
    (w_pss_cons (w_ps_set (i:=7) sc_qc.nd rfl (Or.inl rfl) (w_pe_callB zl (by rfl) T.n_len zN (zu (w_pe_methD (w_pv 0) (w_pa_N (w_pv 6) w_pa_nil)) w_pa_nil)))
    (w_pss_cons (ya (i:=8) rfl sc_qc.nd rfl (Or.inl rfl) (N':=["pair"]) (t:=1) (caps:=[]) ⟨rfl,rfl,rfl⟩ (zt (zP hu (w_pv 4) (w_pv 6) (fun _ _=>rfl))) (fun _=>(zh (i:=0) (show(["pair"]:List Str).Nodup by decide +kernel) rfl (Or.inl rfl))) (fun _=>zO) (fun _=>(zk zw (w_pv 0) ze (fun _ _=>rfl))))
    (w_pss_one (w_ps_dput hu (w_pv 5) (w_pv 6) (w_pe_methD (w_pv 1) (w_pa_cons (zP hu (w_pv 2) (w_pv 6) (fun _ _=>rfl)) (w_pa_N (w_pv 6) (w_pa_N (w_pv 3) (w_pa_N (w_pv 7) (w_pa_N (w_pv 8) w_pa_nil)))))) rfl)))))
   (w_pss_one (zf (w_pv 5))))) ?_
  obtain⟨dx,oh,ol,d,ad0,Wb⟩:=W.at_
  have l12:=W.wh.l12
  have nd:=wb W.wh
  refine fun pd hpd=>?_
  have s1:=Same.new (o:=HO.dK []) hpd
  have Wb1:=Wb.same s1
  refine⟨_,rfl,p,_,dx,_,_,_,_,_,_,rfl,Wb1.p,rfl,T.cl_Web,T.mt_qa3,yZ (P:=P) (w:=w) T,hr.mono (by omega),T.b_qa3,p,hs,ls,dx,oh,ol,d,ad0,rfl,Wb1,fun ph hph=>?_⟩
  have n2:=Same.new (o:=HO.lst (hs.map V.int)) hph
  have s2:=s1.trans n2
  refine⟨ph,rfl,⟨_,SqL.of zd⟩,?_⟩
  have hph2:(upd (upd H pd (HO.dK [])) ph (HO.lst (hs.map V.int))) ph=some (.lst (hs.map V.int)):=zd
  have hpd2:=n2 _ _ (zd (H:=H) (a:=pd) (o:=HO.dK []))
  have npp:ph≠pd:=fun z=>by rw[z,zd] at hph;cases hph
  generalize hH2:upd (upd H pd (HO.dK [])) ph (HO.lst (hs.map V.int))=H2 at *
  refine zI (xs:=hs.map V.int) (fun i σ H'=>∃ o6 o7 o8,σ=[some (.ref p),some r,some (.ref dw),some (.int t),some (.ref hd),some (.ref pd),o6,o7,o8]∧H' pd=some (.dK (tabI (nxt hs ls e4 f t g) (hs.take i)))∧Same H H'∧H' ph=some (.lst (hs.map V.int))) ?_ ?_ ?_ ?_
  ·exact⟨_,_,_,rfl,hpd2,s2,hph2⟩
  ·rintro i σ H' hi ⟨o6,o7,o8,_,_,_,hp⟩
   exact SqL.of hp
  ·rintro i v σ H3 hi ⟨o6,o7,o8,rfl,hpd3,s3,hp3⟩
   obtain⟨x,hx,rfl⟩:∃ x,hs[i]?=some x∧v=.int x:=by
    rw[List.getElem?_map] at hi
    obtain⟨x,h1,h2⟩:=Option.map_eq_some_iff.mp hi
    exact⟨x,h1,h2.symm⟩
   have hxm:=List.mem_of_getElem? hx
   have hil:i<hs.length:=(List.getElem?_eq_some_iff.mp hx).1
   have Wb3:=Wb.same s3
   refine⟨_,rfl,p,_,dx,_,_,_,_,_,_,rfl,Wb3.p,rfl,T.cl_Web,T.mt_qa6,VN (P:=P) (w:=w) T,hr.mono (by omega),T.b_qa6,_,rfl,p,x,hs,ls,dx,oh,ol,d,ad0,rfl,Wb3,W.wh,W.wl,hxm,fun pn hpn=>?_⟩
   have n4:=Same.new (o:=HO.lst ((hs.filter (adB ls x)).map V.int)) hpn
   refine⟨pn,_,rfl,.inl (SqL.of zd),?_⟩
   have s4:=s3.trans n4
   have hpd4:=n4 _ _ hpd3
   have hp4:=n4 _ _ hp3
   generalize hH4:upd H3 pn (HO.lst ((hs.filter (adB ls x)).map V.int))=H4 at *
   have hH4':=hH.same s4
   obtain⟨rs,hrs,hln,hlen⟩:=hH4'.at_ x hxm
   refine⟨_,rfl,_,rfl,hd,V.ref (ad x),rfl,yx hH4'.q hxm,ad x,rfl,⟨_,SqL.of hrs⟩,fun D hD _=>?_⟩
   refine zJ (K:=K) (a:=ad x) (xs:=rs) (fun j zs τ H'=>∃ o,τ=[o]∧zs=(((g x).take j).map (·.2)).map V.int∧H' D=some (.lst zs)∧Same H4 H') ?_ ?_ ?_ ?_
   ·exact⟨none,rfl,by simp,zd,Same.new hD⟩
   ·rintro j zs τ H' ⟨o,_,_,_,sm⟩
    exact SqL.of (sm _ _ hrs)
   ·rintro j v zs τ H' hj ⟨o,rfl,rfl,hD',sm⟩
    obtain⟨pr,q,hpr,rfl,hq⟩:=hln.get hj
    have hjl:j<(g x).length:=(List.getElem?_eq_some_iff.mp hpr).1
    have lg:=hln.1
    refine gn_if ?_
    refine⟨_,rfl,q,_,1,_,rfl,rfl,SqT.of (sm _ _ hq),rfl,hD',by simp;exact zj (by omega),some (.ref q),rfl,?_,zd,Same.updF sm hD⟩
    rw[List.take_add_one,hpr]
    simp
   ·rintro zs τ H5 ⟨o,rfl,rfl,hD5,sm⟩
    rw[hln.1,List.take_length] at hD5
    have s5:=s4.trans sm
    have hpd5:=sm _ _ hpd4
    have hP5:=ProgAt.same s5 hP
    obtain⟨pp,pdx,r1,r2,r3,r4,hre,hpp,hF⟩:=id hP5
    refine⟨_,rfl,pp,_,pdx,_,_,_,_,_,_,hre,hpp,rfl,T.cl_Program,T.mt_qa1,VL (P:=P) (w:=w) T,hr.mono (by omega),T.b_qa1,_,rfl,_,rfl,dw,_,rfl,xv (s5 _ _ hdw) (hus _ hxm),_,rfl,_,rfl,_,rfl,_,rfl,r,e1,e2,e3,e4,f x,x,t,_,D,(g x).map (·.2),rfl,hP5,hD5,fun H6 mn mx s6 hmn hmx=>?_⟩
    rw[YQ hmn,YN hmx]
    have hpd6:=s6 _ _ hpd5
    refine⟨_,rfl,_,rfl,pd,_,rfl,DPut.k (k:=.inl x) hpd6 (by unfold tabI;rw[List.length_map,List.length_take];exact zj (by omega)),?_⟩
    have s56:=s5.trans s6
    refine⟨_,_,_,rfl,?_,Same.updF s56 hpd,by rw[upd_ne npp];exact s6 _ _ (sm _ _ hp4)⟩
    rw[zd,putK_new (by rw[yW,wQ];exact yr nd hx),List.take_add_one,hx]
    unfold tabI
    rw[List.map_append]
    rfl
  ·rintro σ H3 ⟨o6,o7,o8,rfl,hpd3,s3,hp3⟩
   rw[List.length_map,List.take_length] at hpd3
   exact⟨_,rfl,k pd H3 hpd s3 hpd3⟩
end
end K04

namespace K04
open PySem L2
theorem at0 {x:V}{xs:List V}:atI (x::xs) 0=some x:=by
 unfold atI ixN
 simp
noncomputable def hide (st:List Addr) (H:Hp):Hp:=fun b=>if b∈st then none else H b
theorem zX {st:List Addr}{b:Addr}{H:Hp}{o:HO}(n:b∉st) (h:H b=some o):hide st H b=some o:=by unfold hide;rw[if_neg n];exact h
theorem wR {st:List Addr}{b:Addr}{H:Hp}{o:HO}(e:hide st H b=some o):b∉st∧H b=some o:=by
 unfold hide at e
 split at e
 ·cases e
 ·exact⟨‹_›,e⟩
theorem hide_sub {st:List Addr}{H:Hp}:Same (hide st H) H:=fun b o e=>(wR e).2
theorem yl {st:List Addr}{H H':Hp}(x:Same H H'):Same (hide st H) (hide st H'):=fun b o e=>by
 obtain⟨n,e'⟩:=wR e
 exact zX n (x b o e')
theorem yn {st:List Addr}{p:Addr}{H:Hp}{o:HO}(m:p∈st):Same (hide st H) (hide st (upd H p o)):=fun b o' e=>by
 obtain⟨n,e'⟩:=wR e
 exact zX n (by rw[upd_ne (fun z=>n (by rw[z];exact m))];exact e')
theorem HrAt.hide {st:List Addr}{H:Hp}{q:Addr}{ad:Int→Addr}{hs:List Int}{g:Int→List (Int×Int)}(h:HrAt H q ad hs g) (nq:q∉st) (na:∀ x∈hs,ad x∉st) (nt:∀ b∈st,∀ xs,H b≠some (.tup xs)):HrAt (hide st H) q ad hs g :=
 ⟨zX nq h.q,h.inj,fun x hx=>by
  obtain⟨rs,h1,h2,h3⟩:=h.at_ x hx
  exact⟨rs,zX (na x hx) h1,h2.mono fun b xs e=>zX (fun z=>nt b z xs e) e,h3⟩⟩
theorem XM {f:Int→Int}{us:List Int}{x v:Int}(hx:x∈us):putK (tabI f us) (.inl x) (.int v)=tabI (fun y=>if y=x then v else f y) us:=by
 unfold putK
 rw[if_pos]
 ·unfold tabI
  rw[List.map_map]
  refine List.map_congr_left fun y _=>?_
  by_cases e:y=x
  ·subst e;simp
  ·have:¬ ((Sum.inl y:Key)=Sum.inl x):=fun z=>e (by injection z)
   simp[e]
 ·rw[List.any_eq_true]
  exact⟨(.inl x,.int (f x)),List.mem_map.mpr ⟨x,hx,rfl⟩,by simp⟩
theorem xN {us:List Int}{f':Int→Int}:∀ {vs:List Int}{f:Int→Int},(∀ x∈vs,x∈us)→vs.Nodup→mergeK (tabI f us) (tabI f' vs)=tabI (fun y=>if y∈vs then f' y else f y) us
 |[],f,_,_=>by
  show tabI f us=_
  congr 1
 |x::vs,f,h,nd=>by
  show mergeK (putK (tabI f us) (.inl x) (.int (f' x))) (tabI f' vs)=_
  obtain⟨n1,n2⟩:=List.nodup_cons.mp nd
  rw[XM (h x (by simp)),xN (fun y hy=>h y (by simp[hy])) n2]
  congr 1
  funext y
  by_cases e:y=x
  ·subst e
   simp[n1]
  ·simp[e]
abbrev Rd:=List Int×List (Int×Int)
section
variable (e2 e3 e4:Ex)
noncomputable def hrd (r:Rd) (f:Int→Int) (t:Nat):Int→List (Int×Int):=v7 r.1 r.2 e2 e3 f (t:Int) r.1
noncomputable def wrd (r:Rd) (f:Int→Int) (t:Nat):Int→Int:=nxt r.1 r.2 e4 f (t:Int) (hrd e2 e3 r f t)
noncomputable def stp (r:Rd) (f:Int→Int) (t:Nat):Int→Int:=fun y=>if y∈r.1 then wrd e2 e3 e4 r f t y else f y
noncomputable def La (f0:Int→Int) (rds:List Rd):Nat→Int→Int
 |0=>f0
 |k+1=>match rds[k]? with
  |some r=>stp e2 e3 e4 r (La f0 rds k) (k+1)
  |none=>La f0 rds k
end
theorem WB {e2 e3 e4:Ex}{f0:Int→Int}{rds rds':List Rd}:∀ k,(∀ i,i<k→rds[i]?=rds'[i]?)→La e2 e3 e4 f0 rds k=La e2 e3 e4 f0 rds' k
 |0,_=>rfl
 |k+1,h=>by
  unfold La
  rw[h k (by omega),WB k fun i hi=>h i (by omega)]
theorem zic {e2 e3 e4:Ex}{f0:Int→Int}{rds:List Rd}{k:Nat}{r:Rd}(h:rds[k]?=some r):La e2 e3 e4 f0 rds (k+1)=stp e2 e3 e4 r (La e2 e3 e4 f0 rds k) (k+1):=by
 show(match rds[k]? with | some r=>_ | none=>_)=_
 rw[h]
theorem wu {e2 e3 e4:Ex}{f0:Int→Int}{rds:List Rd}{r:Rd}{k:Nat}(h:k≤rds.length):La e2 e3 e4 f0 (rds++[r]) k=La e2 e3 e4 f0 rds k:=WB k fun i hi=>List.getElem?_append_left (by omega)
structure RnP (H:Hp) (e2 e3 e4:Ex) (f0:Int→Int) (hs0:List Int) (rds:List Rd) (ws gs:List Addr):Prop where
 lw:ws.length=rds.length+1
 lg:gs.length=rds.length
 z:∀ q,ws[0]?=some q→H q=some (.dK (tabI f0 hs0))
 w:∀ (k:Nat) (q:Addr) (r:Rd),ws[k+1]?=some q→rds[k]?=some r→H q=some (.dK (tabI (wrd e2 e3 e4 r (La e2 e3 e4 f0 rds k) (k+1)) r.1))
 g:∀ (k:Nat) (q:Addr) (r:Rd),gs[k]?=some q→rds[k]?=some r→∃ ad,HrAt H q ad r.1 (hrd e2 e3 r (La e2 e3 e4 f0 rds k) (k+1))
theorem RnP.same {H H':Hp}{e2 e3 e4:Ex}{f0:Int→Int}{hs0:List Int}{rds:List Rd}{ws gs:List Addr}(h:RnP H e2 e3 e4 f0 hs0 rds ws gs) (s:Same H H'):RnP H' e2 e3 e4 f0 hs0 rds ws gs :=
 ⟨h.lw,h.lg,fun q e=>s _ _ (h.z q e),fun k q r e e'=>s _ _ (h.w k q r e e'),fun k q r e e'=>by
  obtain⟨ad,x⟩:=h.g k q r e e'
  exact⟨ad,x.same s⟩⟩
theorem RnP.snoc {H:Hp}{e2 e3 e4:Ex}{f0:Int→Int}{hs0:List Int}{rds:List Rd}{ws gs:List Addr}{r:Rd}{q g:Addr}{ad:Int→Addr}(h:RnP H e2 e3 e4 f0 hs0 rds ws gs)
  (hg:HrAt H g ad r.1 (hrd e2 e3 r (La e2 e3 e4 f0 rds rds.length) (rds.length+1))) (hq:H q=some (.dK (tabI (wrd e2 e3 e4 r (La e2 e3 e4 f0 rds rds.length) (rds.length+1)) r.1))):RnP H e2 e3 e4 f0 hs0 (rds++[r]) (ws++[q]) (gs++[g]):=by
 have lw:=h.lw
 have lg:=h.lg
 have one:∀ {k:Nat}{r':Rd},(rds++[r])[k]?=some r'→¬ k<rds.length→k=rds.length∧r'=r:=fun {k r'} e n=>by
  rw[List.getElem?_append_right (by omega)] at e
  have:=(List.getElem?_eq_some_iff.mp e).1
  rw[List.length_singleton] at this
  have e0:k-rds.length=0:=by omega
  rw[e0] at e
  cases e
  exact⟨by omega,rfl⟩
 refine⟨by simp[lw],by simp[lg],fun b hb=>h.z b ?_,fun k b r' hb hr=>?_,fun k b r' hb hr=>?_⟩
 ·rw[List.getElem?_append_left (by omega)] at hb
  exact hb
 ·by_cases c:k<rds.length
  ·rw[List.getElem?_append_left (by omega)] at hb hr
   rw[wu (by omega)]
   exact h.w k b r' hb hr
  ·obtain⟨rfl,rfl⟩:=one hr c
   rw[List.getElem?_append_right (by omega),lw,Nat.sub_self] at hb
   cases hb
   rw[wu (Nat.le_refl _)]
   exact hq
 ·by_cases c:k<rds.length
  ·rw[List.getElem?_append_left (by omega)] at hb hr
   rw[wu (by omega)]
   exact h.g k b r' hb hr
  ·obtain⟨rfl,rfl⟩:=one hr c
   rw[List.getElem?_append_right (by omega),lg,Nat.sub_self] at hb
   cases hb
   rw[wu (Nat.le_refl _)]
   exact⟨ad,hg⟩
theorem xX {xs:List V}{v:V}:atI (xs++[v]) (-1)=some v:=by
 unfold atI ixN
 rw[if_neg (by decide),if_pos (by simp;omega)]
 simp
 have:((-1:Int)+((xs.length:Int)+1)).toNat=xs.length:=by omega
 rw[this]
 simp
structure RnS (H H':Hp) (e2 e3 e4:Ex) (f0:Int→Int) (hs0:List Int) (dl pw pg:Addr) (rds:List Rd) (ws gs:List Addr):Prop where
 hdl:H' dl=some (.dK (tabI (La e2 e3 e4 f0 rds rds.length) hs0))
 hpw:H' pw=some (.lst (ws.map V.ref))
 hpg:H' pg=some (.lst (gs.map V.ref))
 rn:RnP (hide [dl,pw,pg] H') e2 e3 e4 f0 hs0 rds ws gs
 sm:Same H H'
 fw:∀ q∈ws,H q=none
 fg:∀ q∈gs,H q=none
structure Pc where
 hs:List Int
 ls:List (Int×Int)
 m:Nat
noncomputable def rdsOf (ps:List Pc):List Rd:=ps.flatMap fun pc=>List.replicate pc.m (pc.hs,pc.ls)
def PcAt (a:Ad) (H:Hp) (vs:List V) (ps:List Pc):Prop:=vs.length=ps.length∧∀ (i:Nat) v pc,vs[i]?=some v→ps[i]?=some pc→∃ pt p,v=.ref pt∧H pt=some (.tup [.ref p,.int (pc.m:Int)])∧WbP a H p pc.hs pc.ls
theorem PcAt.same {a:Ad}{H H':Hp}{vs:List V}{ps:List Pc}(h:PcAt a H vs ps) (s:Same H H'):PcAt a H' vs ps:=⟨h.1,fun i v pc e1 e2=>by
 obtain⟨pt,p,e,h1,h2⟩:=h.2 i v pc e1 e2
 exact⟨pt,p,e,s _ _ h1,h2.same s⟩⟩
theorem uo {ps:List Pc}{i:Nat}{pc:Pc}(h:ps[i]?=some pc):rdsOf (ps.take (i+1))=rdsOf (ps.take i)++List.replicate pc.m (pc.hs,pc.ls):=by
 unfold rdsOf
 rw[List.take_add_one,h,List.flatMap_append]
 simp
theorem WN {ps:List Pc}{i:Nat}:(rdsOf (ps.take i)).length≤(rdsOf ps).length:=by
 have:rdsOf ps=rdsOf (ps.take i)++rdsOf (ps.drop i):=by
  unfold rdsOf
  rw[← List.flatMap_append,List.take_append_drop]
 rw[this,List.length_append]
 omega
section
variable {P:Program}{w:World}{K:PySem.W.Frag}{mg:Str→Option Value}{base:Heap}{a:Ad}
def zlW (a:Ad):Sp:=fun vs H Q _=>∃ (lp:Addr) (pvs:List V) (pc:Pc) (ps:List Pc) (r:V) (e1 e2 e3 e4:Ex),vs=[.ref lp,r]∧H lp=some (.lst pvs)∧PcAt a H pvs (pc::ps)∧ProgAt a H e1 e2 e3 e4 r∧(∀ c∈pc::ps,∀ x∈c.hs,x∈pc.hs)∧(rdsOf (pc::ps)).length≤100 ∧
 ∀ q pw pg ws gs H',H q=none→H pw=none→H pg=none→(∀ q∈ws,H q=none)→(∀ q∈gs,H q=none)→Same H H'→H' q=some (.tup [.ref pw,.ref pg])→H' pw=some (.lst (ws.map V.ref))→H' pg=some (.lst (gs.map V.ref))→RnP H' e2 e3 e4 (w0 pc.hs pc.ls e1) pc.hs (rdsOf (pc::ps)) ws gs→Q (.ref q) H'
theorem zf3 (T:Txt w K mg a):FnOk P w K mg base CX0 12 a.f_qd a.d_qd ["pieces", "program"] (zlW a):=by
 have c_qa:Callee P w K mg base "first_worths" a.f_qa a.d_qa ["web", "program"] 11 (zun a):=⟨zmJ T,T.g_qa,T.F_qa.kp,T.b_qa⟩
 have c_qb:Callee P w K mg base "heard_in" a.f_qb a.d_qb ["web", "program", "worths", "turn"] 11 (zum a):=⟨zmH T,T.g_qb,T.F_qb.kp,T.b_qb⟩
 have c_qc:Callee P w K mg base "worths_behind" a.f_qc a.d_qc ["web", "program", "worths", "turn", "heard"] 11 (zub a):=⟨zmA T,T.g_qc,T.F_qc.kp,T.b_qc⟩
 refine T.F_qd.ok sc_qd (fun vs H Q E h=>?_) (fun cdv A outer s H vs Q E hr h=>?_)
 ·obtain⟨lp,pvs,pc,ps,r,e1,e2,e3,e4,rfl,_⟩:=h
  rfl
 ·obtain⟨lp,pvs,pc,ps,r,e1,e2,e3,e4,rfl,hlp,hPc,hP,hsub,hn,k⟩:=h
  have hu:=yH hr
  refine zy (w_pss_cons (w_ps_set (i:=2) sc_qd.nd rfl (Or.inl rfl) (w_pe_c c_qa (hr.mono (by omega)) (w_pa_cons (zk zw (zk zD (w_pv 0) ze (fun _ _=>rfl)) ze (fun _ _=>rfl)) (w_pa_N (w_pv 1) w_pa_nil))))
   (w_pss_cons (w_ps_set (i:=3) sc_qd.nd rfl (Or.inl rfl) (zq (zu (zA wt (by rfl) T.n_dict xW (w_pa_N (w_pv 2) w_pa_nil)) w_pa_nil)))
   (w_pss_cons (w_ps_set (i:=4) sc_qd.nd rfl (Or.inl rfl) (zq w_pa_nil))
   (w_pss_cons (zB PassesOwn.never rfl (zt (w_pv 0)) (yh rfl (zr (zh (i:=5) sc_qd.nd rfl (Or.inl rfl)) (zr (zh (i:=6) sc_qd.nd rfl (Or.inl rfl)) zU)))
    (w_pss_cons (w_ps_set (i:=7) sc_qd.nd rfl (Or.inl rfl) (w_pe_callB zl (by rfl) T.n_len zN (w_pa_N (w_pv 3) w_pa_nil)))
    (w_pss_one (zB PassesOwn.never rfl (vJ rfl T.n_range (w_pa_N (w_pv 7) (yc (zg ye (w_pv 7) (w_pv 6)) w_pa_nil))) (zh (i:=8) sc_qd.nd rfl (Or.inl rfl))
     (w_pss_cons (w_ps_expr (yf PySem.F.plainAttrs_list PySem.F.slot_list_append PySem.F.type_list_append zH (w_pv 4) (zu (w_pe_c c_qb (hr.mono (by omega)) (w_pa_N (w_pv 5) (w_pa_N (w_pv 1) (w_pa_N (w_pv 2) (w_pa_N (w_pv 8) w_pa_nil))))) w_pa_nil)))
     (w_pss_cons (w_ps_expr (yf PySem.F.plainAttrs_list PySem.F.slot_list_append PySem.F.type_list_append zH (w_pv 3) (zu (w_pe_c c_qc (hr.mono (by omega)) (w_pa_N (w_pv 5) (w_pa_N (w_pv 1) (w_pa_N (w_pv 2) (w_pa_N (w_pv 8) (w_pa_cons (zk zD (w_pv 4) (xC we ze) (fun _ _=>rfl)) w_pa_nil)))))) w_pa_nil)))
     (w_pss_one (w_ps_expr (w_pe_dupd (w_pv 2) (zk zD (w_pv 3) (xC we ze) (fun _ _=>rfl)) ⟨rfl,rfl,rfl,rfl⟩)))))))))
   (w_pss_one (zf (zF (w_pa_N (w_pv 3) (w_pa_N (w_pv 4) w_pa_nil))))))))) ?_
  have lpv:0<pvs.length:=by rw[hPc.1];exact Nat.zero_lt_succ _
  have gp0:=List.getElem?_eq_getElem lpv
  obtain⟨pt,p,ept,hpt,W⟩:=hPc.2 0 _ pc gp0 rfl
  rw[ept] at gp0
  have l12:=W.wh.l12
  have nd:=wb W.wh
  refine⟨_,rfl,lp,_,0,_,rfl,rfl,SqL.of hlp,xY (j:=0) gp0,pt,_,0,_,rfl,rfl,SqT.of hpt,at0,_,rfl,p,pc.hs,pc.ls,r,e1,e2,e3,e4,rfl,W,hP,fun dl H1 hdl0 s1 hdl1=>?_⟩
  generalize hf0:w0 pc.hs pc.ls e1=f0 at *
  refine⟨_,rfl,dl,_,rfl,hdl1,fun q0 hq0=>⟨(by show 1≤sizeLine;decide),fun pw hpw=>?_⟩⟩
  have n2:=Same.new (o:=HO.dK (tabI f0 pc.hs)) hq0
  have n3:=Same.new (o:=HO.lst [V.ref q0]) hpw
  refine⟨(by show 0≤sizeLine;decide),fun pg hpg=>?_⟩
  have n4:=Same.new (o:=HO.lst []) hpg
  have n34:=n3.trans n4
  have n24:=n2.trans n34
  have hdl2:=n24 _ _ hdl1
  have hq2:=n34 _ _ (zd (H:=H1) (a:=q0) (o:=HO.dK (tabI f0 pc.hs)))
  have hpw2:=n4 _ _ (zd (H:=upd H1 q0 (HO.dK (tabI f0 pc.hs))) (a:=pw) (o:=HO.lst [V.ref q0]))
  have hpg2:(upd (upd (upd H1 q0 (HO.dK (tabI f0 pc.hs))) pw (HO.lst [V.ref q0])) pg (HO.lst [])) pg=some (.lst []):=zd
  have s2:=s1.trans n24
  have ndw:dl≠pw:=fun z=>by rw[← z,n2 _ _ hdl1] at hpw;cases hpw
  have ndg:dl≠pg:=fun z=>by rw[← z,n3 _ _ (n2 _ _ hdl1)] at hpg;cases hpg
  have nwg:pw≠pg:=fun z=>by rw[← z,zd] at hpg;cases hpg
  have fpw:H pw=none:=(s1.trans n2).free hpw
  have fpg:H pg=none:=(s1.trans (n2.trans n3)).free hpg
  have nq0:q0∉[dl,pw,pg]:=fun z=>by
   simp only[List.mem_cons,List.not_mem_nil,or_false] at z
   rcases z with z | z | z
   ·rw[z,hdl1] at hq0;cases hq0
   ·rw[← z,zd] at hpw;cases hpw
   ·rw[← z,n3 _ _ zd] at hpg;cases hpg
  generalize hH2:upd (upd (upd H1 q0 (HO.dK (tabI f0 pc.hs))) pw (HO.lst [V.ref q0])) pg (HO.lst [])=H2 at *
  have R0:RnS H H2 e2 e3 e4 f0 pc.hs dl pw pg [] [q0] []:=⟨hdl2,hpw2,hpg2,⟨rfl,rfl,fun q h=>by cases h;exact zX nq0 hq2,fun k q r h=>by simp at h,fun k q r h=>by simp at h⟩,s2,fun q hq=>by rw[List.mem_singleton.mp hq];exact s1.free hq0,fun q hq=>nomatch hq⟩
  refine⟨_,rfl,lp,rfl,⟨_,SqL.of (s2 _ _ hlp)⟩,?_⟩
  refine zI (xs:=pvs) (fun i σ H'=>∃ o5 o6 o7 o8 ws gs,σ=[some (.ref lp),some r,some (.ref dl),some (.ref pw),some (.ref pg),o5,o6,o7,o8]∧RnS H H' e2 e3 e4 f0 pc.hs dl pw pg (rdsOf ((pc::ps).take i)) ws gs) ?_ ?_ ?_ ?_
  ·exact⟨_,_,_,_,[q0],[],rfl,R0⟩
  ·rintro i σ H' hi ⟨o5,o6,o7,o8,ws,gs,_,R⟩
   exact SqL.of (R.sm _ _ hlp)
  ·rintro i v σ H' hi ⟨o5,o6,o7,o8,ws,gs,rfl,R⟩
   have hil:i<(pc::ps).length:=by rw[← hPc.1];exact(List.getElem?_eq_some_iff.mp hi).1
   have gpi:=List.getElem?_eq_getElem hil
   generalize (pc::ps)[i]=ci at gpi
   obtain⟨pt,p,rfl,hpt,W⟩:=hPc.2 i v ci hi gpi
   have hci:=hsub ci (List.mem_of_getElem? gpi)
   have rt:=uo gpi
   have rle:=WN (ps:=pc::ps) (i:=i+1)
   rw[rt,List.length_append,List.length_replicate] at rle
   generalize rdsOf ((pc::ps).take i)=rds at *
   have lw:=R.rn.lw
   refine⟨pt,_,rfl,SqT.of (R.sm _ _ hpt),rfl,_,_,rfl,_,_,rfl,rfl,?_⟩
   refine⟨_,rfl,pw,_,rfl,.inl (SqL.of R.hpw),?_⟩
   rw[List.length_map,lw]
   refine⟨_,rfl,_,rfl,_,rfl,_,_,rfl,rfl,((rds.length+1:Nat):Int),((rds.length+1:Nat):Int)+(ci.m:Int),rfl,⟨by omega,by omega,by omega,by omega⟩,?_⟩
   rw[show(((rds.length+1:Nat):Int)+(ci.m:Int)-((rds.length+1:Nat):Int)).toNat=ci.m by omega]
   refine for_range (lo:=((rds.length+1:Nat):Int)) (fun j σ H'=>∃ o8 ws gs,σ=[some (.ref lp),some r,some (.ref dl),some (.ref pw),some (.ref pg),some (.ref p),some (.int (ci.m:Int)),some (.int ((rds.length+1:Nat):Int)),o8]∧RnS H H' e2 e3 e4 f0 pc.hs dl pw pg (rds++List.replicate j (ci.hs,ci.ls)) ws gs) ?_ ?_ ?_
   ·exact⟨_,ws,gs,rfl,by simpa using R⟩
   ·rintro j σ H3 hj ⟨o8,ws,gs,rfl,R⟩
    have er:rds++List.replicate (j+1) (ci.hs,ci.ls)=(rds++List.replicate j (ci.hs,ci.ls))++[(ci.hs,ci.ls)]:=by rw[List.replicate_succ',List.append_assoc]
    have et:(((rds.length+1:Nat):Int)+(j:Int))=(((rds++List.replicate j (ci.hs,ci.ls)).length+1:Nat):Int):=by simp;omega
    have lj:(rds++List.replicate j (ci.hs,ci.ls)).length≤100:=by simp;omega
    rw[er]
    generalize rds++List.replicate j (ci.hs,ci.ls)=rd at *
    have lw:=R.rn.lw
    have lg:=R.rn.lg
    have Fdef:∀ F:Int→Int,F=La e2 e3 e4 f0 rd rd.length→F=La e2 e3 e4 f0 rd rd.length:=fun _ h=>h
    refine⟨_,rfl,.inl ⟨rfl,_,SqL.of R.hpg⟩,_,rfl,_,rfl,_,rfl,_,rfl,p,ci.hs,ci.ls,r,e1,e2,e3,e4,dl,pc.hs,La e2 e3 e4 f0 rd rd.length,_,rfl,W.same R.sm,ProgAt.same R.sm hP,R.hdl,hci,fun g ad H4 hg0 had0 s4 hHr=>?_⟩
    rw[et] at hHr
    have hHr:HrAt H4 g ad ci.hs (hrd e2 e3 (ci.hs,ci.ls) (La e2 e3 e4 f0 rd rd.length) (rd.length+1)):=hHr
    refine⟨pg,_,_,rfl,rfl,s4 _ _ R.hpg,(by rw[List.length_map];exact zj (by omega)),?_⟩
    have occ:∀ b∈[dl,pw,pg],∃ o,H3 b=some o∧∀ xs,o≠.tup xs:=fun b hb=>by
     simp only[List.mem_cons,List.not_mem_nil,or_false] at hb
     rcases hb with rfl | rfl | rfl
     ·exact⟨_,R.hdl,fun xs z=>by cases z⟩
     ·exact⟨_,R.hpw,fun xs z=>by cases z⟩
     ·exact⟨_,R.hpg,fun xs z=>by cases z⟩
    have out:∀ b,H3 b=none→b∉[dl,pw,pg]:=fun b e hb=>by
     obtain⟨o,h1,_⟩:=occ b hb
     rw[h1] at e
     cases e
    have hHr4:=HrAt.hide (st:=[dl,pw,pg]) hHr (out g hg0) (fun x hx=>out _ (had0 x hx)) fun b hb xs e=>by
     obtain⟨o,h1,h2⟩:=occ b hb
     rw[s4 _ _ h1] at e
     exact h2 xs (by injection e)
    have rn4:=R.rn.same (yl (st:=[dl,pw,pg]) s4)
    have u5:Same (hide [dl,pw,pg] H4) (hide [dl,pw,pg] (upd H4 pg (HO.lst (gs.map V.ref++[V.ref g])))):=yn (by simp)
    have s5:Same H (upd H4 pg (HO.lst (gs.map V.ref++[V.ref g]))):=Same.updF (R.sm.trans s4) fpg
    have hdl5:(upd H4 pg (HO.lst (gs.map V.ref++[V.ref g]))) dl=_:=(upd_ne ndg).trans (s4 _ _ R.hdl)
    have hpw5:(upd H4 pg (HO.lst (gs.map V.ref++[V.ref g]))) pw=_:=(upd_ne nwg).trans (s4 _ _ R.hpw)
    have hpg5:(upd H4 pg (HO.lst (gs.map V.ref++[V.ref g]))) pg=some (.lst (gs.map V.ref++[V.ref g])):=zd
    have hHr5:=hHr4.same u5
    have rn5:=rn4.same u5
    generalize hH5:upd H4 pg (HO.lst (gs.map V.ref++[V.ref g]))=H5 at *
    refine⟨_,rfl,.inl ⟨rfl,_,SqL.of hpw5⟩,_,rfl,_,rfl,_,rfl,_,rfl,_,rfl,_,rfl,pg,_,_,_,rfl,rfl,SqL.of hpg5,xX,p,ci.hs,ci.ls,r,e1,e2,e3,e4,dl,g,pc.hs,La e2 e3 e4 f0 rd rd.length,_,ad,hrd e2 e3 (ci.hs,ci.ls) (La e2 e3 e4 f0 rd rd.length) (rd.length+1),rfl,W.same s5,ProgAt.same s5 hP,hdl5,hci,hHr5.same hide_sub,fun q H6 hq0 s6 hq=>?_⟩
    rw[et] at hq
    have hq:H6 q=some (.dK (tabI (wrd e2 e3 e4 (ci.hs,ci.ls) (La e2 e3 e4 f0 rd rd.length) (rd.length+1)) ci.hs)):=hq
    refine⟨pw,_,_,rfl,rfl,s6 _ _ hpw5,(by rw[List.length_map];exact zj (by omega)),?_⟩
    have nq:q∉[dl,pw,pg]:=fun hb=>by
     simp only[List.mem_cons,List.not_mem_nil,or_false] at hb
     rcases hb with z | z | z
     ·rw[z,hdl5] at hq0;cases hq0
     ·rw[z,hpw5] at hq0;cases hq0
     ·rw[z,hpg5] at hq0;cases hq0
    have nqd:q≠dl:=fun z=>nq (by simp[z])
    have nqw:q≠pw:=fun z=>nq (by simp[z])
    have u6:=yl (st:=[dl,pw,pg]) s6
    have u7:Same (hide [dl,pw,pg] H6) (hide [dl,pw,pg] (upd H6 pw (HO.lst (ws.map V.ref++[V.ref q])))):=yn (by simp)
    have s7:Same H (upd H6 pw (HO.lst (ws.map V.ref++[V.ref q]))):=Same.updF (s5.trans s6) fpw
    have hdl7:(upd H6 pw (HO.lst (ws.map V.ref++[V.ref q]))) dl=_:=(upd_ne ndw).trans (s6 _ _ hdl5)
    have hpg7:(upd H6 pw (HO.lst (ws.map V.ref++[V.ref q]))) pg=_:=(upd_ne nwg.symm).trans (s6 _ _ hpg5)
    have hpw7:(upd H6 pw (HO.lst (ws.map V.ref++[V.ref q]))) pw=some (.lst (ws.map V.ref++[V.ref q])):=zd
    have hq7:(upd H6 pw (HO.lst (ws.map V.ref++[V.ref q]))) q=_:=(upd_ne nqw).trans hq
    have hHr7:=hHr5.same (u6.trans u7)
    have rn7:=rn5.same (u6.trans u7)
    generalize hH7:upd H6 pw (HO.lst (ws.map V.ref++[V.ref q]))=H7 at *
    have lci:=W.wh.l12
    refine⟨_,rfl,dl,rfl,.inl ⟨_,.inl hdl7⟩,_,rfl,_,rfl,pw,_,_,_,rfl,rfl,SqL.of hpw7,xX,q,_,_,rfl,nqd.symm,hdl7,hq7,(by unfold tabI;rw[List.length_map,List.length_map];omega),?_⟩
    rw[xN hci (wb W.wh)]
    have u8:Same (hide [dl,pw,pg] H7) (hide [dl,pw,pg] (upd H7 dl (HO.dK (tabI (fun y=>if y∈ci.hs then wrd e2 e3 e4 (ci.hs,ci.ls) (La e2 e3 e4 f0 rd rd.length) (rd.length+1) y else La e2 e3 e4 f0 rd rd.length y) pc.hs)))):=yn (by simp)
    refine⟨_,ws++[q],gs++[g],rfl,?_,?_,?_,(rn7.same u8).snoc (r:=(ci.hs,ci.ls)) (hHr7.same u8) (u8 _ _ (zX nq hq7)),Same.updF s7 hdl0,fun b hb=>(List.mem_append.mp hb).elim (R.fw b) (fun z=>by rw[List.mem_singleton.mp z];exact s5.free hq0),fun b hb=>(List.mem_append.mp hb).elim (R.fg b) (fun z=>by rw[List.mem_singleton.mp z];exact R.sm.free hg0)⟩
    ·rw[zd,List.length_append,List.length_singleton,zic (r:=(ci.hs,ci.ls)) (by simp),wu (Nat.le_refl _)]
     rfl
    ·rw[upd_ne ndw.symm,hpw7,List.map_append]
     rfl
    ·rw[upd_ne ndg.symm,hpg7,List.map_append]
     rfl
   ·rintro σ H3 ⟨o8,ws,gs,rfl,R⟩
    rw[← rt] at R
    exact⟨_,_,_,_,ws,gs,rfl,R⟩
  ·rintro σ H3 ⟨o5,o6,o7,o8,ws,gs,rfl,R⟩
   rw[hPc.1,List.take_length] at R
   refine⟨_,rfl,_,rfl,(by show 2≤sizeLine;decide),fun q hq=>?_⟩
   have n9:=Same.new (o:=HO.tup [V.ref pw,V.ref pg]) hq
   exact k q pw pg ws gs _ (R.sm.free hq) fpw fpg R.fw R.fg (R.sm.trans n9) zd (n9 _ _ R.hpw) (n9 _ _ R.hpg) ((R.rn.same hide_sub).same n9)
end
end K04

namespace K04
open PySem L2
def XsAt (H:Hp) (l:Addr):Prop:=∃ ns:List Int,H l=some (.lst (ns.map V.int))∧(∀ n∈ns,0≤n)∧ns.length≤150
theorem XsAt.ne {H:Hp}{l p:Addr}(s:XsAt H l) (h:H p=none):p≠l:=fun z=>by
 obtain⟨ns,e,_⟩:=s
 rw[← z,h] at e
 cases e
theorem XsAt.same {H H':Hp}{l:Addr}(s:XsAt H l) (k:Same H H'):XsAt H' l:=by
 obtain⟨ns,e,h⟩:=s
 exact⟨ns,k _ _ e,h⟩
theorem XsAt.new {H:Hp}{l p:Addr}{o:HO}(s:XsAt H l) (h:H p=none):XsAt (upd H p o) l:=s.same (Same.new h)
theorem XsAt.upd {H:Hp}{l p:Addr}{o:HO}(s:XsAt H l) (h:p≠l):XsAt (upd H p o) l:=by
 obtain⟨ns,e,h'⟩:=s
 exact⟨ns,by rw[upd_ne h.symm];exact e,h'⟩
theorem Told.extX {l:Addr}{H H':Hp}(s:XsAt H l) (k:Ext l H H'){e:Ex}{v:V}(t:Told H e v):Told H' e v:=t.mono fun b xs h=>k b _ h fun z=>by
 obtain⟨ns,e,_⟩:=s
 rw[z,e] at h
 cases h
section
variable {P:Program}{w:World}{K:PySem.W.Frag}{mg:Str→Option Value}{base:Heap}{a:Ad}
def Yk (K:PySem.W.Frag):Sp:=fun vs H Q _=>∃ (l:Addr) (ns:List Int) (k:Int),vs=[.ref l,.int k]∧SqL K H l (ns.map V.int)∧0≤k∧∀ i:Int,Q (.int i) H
theorem YC (T:Txt w K mg a):FnOk P w K mg base CX0 1 a.f_qr a.d_qr ["_law_script", "_law_k"] (Yk K):=by
 refine T.F_qr.ok zl0 (fun vs H Q E h=>?_) (fun cdv A outer s H vs Q E hr h=>?_)
 ·obtain⟨l,ns,k,rfl,_⟩:=h
  rfl
 ·obtain⟨l,ns,k,rfl,hl,k0,q⟩:=h
  refine zy (w_pss_cons (w_ps_if (w_pt_cmpR xJ (w_pv 1) (w_pe_callB zl (by rfl) T.n_len zN (w_pa_N (w_pv 0) w_pa_nil)) (zo _))
    (w_pss_one (zf (zk zD (w_pv 0) (w_pv 1) (fun _ _=>rfl))))
    zi)
   (w_pss_one (zf ze))) ?_
  refine⟨_,rfl,_,rfl,l,_,rfl,.inl hl,_,_,rfl,rfl,_,rfl,?_⟩
  rw[List.length_map]
  refine ite2 (fun z=>?_) (fun z=>?_)
  ·have z:k<ns.length:=of_decide_eq_true z
   obtain⟨n,rfl⟩:∃ n:Nat,k=n:=⟨k.toNat,by omega⟩
   have hn:n<ns.length:=by omega
   refine⟨_,rfl,_,rfl,l,_,_,V.int ns[n],rfl,rfl,hl,xY (by simp[hn]),?_⟩
   exact q _
  ·exact q 0
def xH:Sp:=fun vs H Q _=>∃ (l:Addr) (n:Int),vs=[.ref l,.int n]∧XsAt H l∧0<n∧∀ (d:Int) (H':Hp),0≤d→d<n→XsAt H' l→Ext l H H'→Q (.int d) H'
theorem xl (T:Txt w K mg a):FnOk P w K mg base CX0 1 a.f_qt a.d_qt ["_law_xs", "_law_size"] xH:=by
 refine T.F_qt.ok zlZ (fun vs H Q E h=>?_) (fun cdv A outer s H vs Q E hr h=>?_)
 ·obtain⟨l,n,rfl,_⟩:=h
  rfl
 ·obtain⟨l,n,rfl,⟨ns,hl,h0,hlen⟩,hn,k⟩:=h
  have un:∀ n:Nat,n≤3→(A.deeper (PyProof.Rows.envOfC "_law_take" (defScope uN) s.heap.objs.size a.f_qt cdv)).units+n+2<cLine:=fun n hn=>by
   have:=hr.units
   omega
  refine zy (w_pss_cons (w_ps_if (w_pt_cmpR (WV Yz WU) (w_pv 0) (zq w_pa_nil) (zo _))
    (w_pss_one (zf ze))
    zi)
   (w_pss_one (zf (zg yM (yf PySem.F.plainAttrs_list PySem.F.slot_list_pop PySem.F.type_list_pop Wd (w_pv 0) (zm ze w_pa_nil)) (w_pv 1))))) ?_
  refine⟨_,rfl,(by show 0≤sizeLine;decide),fun q hq=>?_⟩
  have hql:q≠l:=fun z=>by rw[z,hl] at hq;cases hq
  have hl1:(L2.upd H q (.lst [])) l=_:=(upd_ne hql.symm).trans hl
  cases ns with
  |nil =>
   refine .inl ⟨l,q,_,_,fun _=>true,0,rfl,rfl,.inl ⟨SqL.of hl1,SqL.of zd⟩,rfl,?_,?_,?_⟩
   ·exact un 0 (by decide)
   ·intro j x y hx
    cases hx
   ·refine⟨_,rfl,iteB rfl ?_⟩
    exact k 0 _ (Int.le_refl _) hn ⟨[],hl1,h0,hlen⟩ (Ext.new hq)
  |cons n0 ns =>
   refine .inr ⟨l,q,_,_,rfl,rfl,SqL.of hl1,SqL.of zd,(by simp),?_,?_⟩
   ·exact Nat.lt_of_le_of_lt (Nat.le_add_right _ 2) (un 0 (by decide))
   ·refine⟨_,rfl,zZ rfl ?_⟩
    refine⟨_,rfl,.inl ⟨rfl,_,SqL.of hl1⟩,l,_,0,0,_,rfl,rfl,hl1,by decide,by decide,(by simp[seqIndex?]),rfl,?_⟩
    refine⟨_,rfl,_,_,rfl,rfl,hn,?_⟩
    refine k _ _ (Int.emod_nonneg _ (Int.ne_of_gt hn)) (Int.emod_lt_of_pos _ hn) ⟨ns,zd,fun x hx=>h0 x (List.mem_cons_of_mem _ hx),?_⟩ ((Ext.new hq).trans Ext.at)
    have:ns.length+1≤150:=hlen
    omega
def vM:Sp:=fun vs H Q _=>∃ (c:Int) (m:Nat),vs=[.int c,.int (m:Int)]∧m≤150∧∀ (q:Addr) (H':Hp),H q=none→XsAt H' q→Same H H'→Q (.ref q) H'
theorem uy (T:Txt w K mg a):FnOk P w K mg base CX0 1 a.f_qs a.d_qs ["_law_cell", "_law_many"] vM:=by
 refine T.F_qs.ok sc_qs (fun vs H Q E h=>?_) (fun cdv A outer s H vs Q E hr h=>?_)
 ·obtain⟨c,m,rfl,_⟩:=h
  rfl
 ·obtain⟨c,m,rfl,hm,k⟩:=h
  refine zy (w_pss_cons (w_ps_set (i:=2) sc_qs.nd rfl (Or.inl rfl) (zq w_pa_nil))
   (w_pss_cons (w_ps_set (i:=3) sc_qs.nd rfl (Or.inl rfl) ze)
   (yU (w_ps_if (w_pt_cmpR VG (w_pv 0) (zg yY ze ze) (zo _))
    (w_pss_one (w_ps_set (i:=3) sc_qs.nd rfl (Or.inl rfl) (zg yg (w_pv 0) (zg yY ze ze))))
    zi)
   (w_pss_cons (uK PassesOwn.never (zk8 (Xy (w_pt_cmpR op_gt (w_pv 3) ze (zo _)) (Zf (w_pt_cmpR xJ (w_pe_callB zl (by rfl) T.n_len zN (w_pa_N (w_pv 2) w_pa_nil)) (w_pv 1) (zo _)))))
    (w_pss_cons (w_ps_expr (yf PySem.F.plainAttrs_list PySem.F.slot_list_append PySem.F.type_list_append zH (w_pv 2) (yc (zg yM (w_pv 3) (zg yY ze ze)) w_pa_nil)))
    (w_pss_one (w_ps_set (i:=3) sc_qs.nd rfl (Or.inl rfl) (zg xw (w_pv 3) (zg yY ze ze))))))
   (w_pss_cons (w_ps_set (i:=4) sc_qs.nd rfl (Or.inl rfl) (zg yM (zg wk (zg ye (zg yM (w_pv 0) ze) ze) ze) ze))
   (w_pss_cons (zB PassesOwn.never rfl (zS rfl T.n_range (yc (zg yg (w_pv 1) (w_pe_callB zl (by rfl) T.n_len zN (w_pa_N (w_pv 2) w_pa_nil))) w_pa_nil)) (zh (i:=5) sc_qs.nd rfl (Or.inl rfl))
    (w_pss_cons (w_ps_set (i:=4) sc_qs.nd rfl (Or.inl rfl) (zg yM (zg wk (zg ye (zg ye (w_pv 4) (zg wk ze (w_pv 5))) ze) ze) ze))
    (w_pss_cons (w_ps_set (i:=6) sc_qs.nd rfl (Or.inl rfl) (zg yM (zg wk (w_pv 4) (zg ye (zg xw (w_pv 4) ze) ze)) ze))
    (w_pss_one (w_ps_expr (yf PySem.F.plainAttrs_list PySem.F.slot_list_append PySem.F.type_list_append zH (w_pv 2) (yc (zg yM (zg wk (w_pv 6) (zg ye (zg xw (w_pv 6) ze) ze)) ze) w_pa_nil)))))))
   (w_pss_one (zf (w_pv 2))))))))) ?_
  refine⟨(by show 0≤sizeLine;decide),fun p hp=>?_⟩
  refine⟨fun σ' H'=>∃ rest:Int,σ'=[some (.int c),some (.int m),some (.ref p),some (.int rest),none,none,none]∧H'=L2.upd H p (.lst []),?_,?_⟩
  ·refine⟨_,rfl,_,_,rfl,rfl,⟨by decide,by decide,by decide⟩,_,_,rfl,rfl,_,rfl,?_⟩
   refine ite2 (fun _=>?_) (fun _=>?_)
   ·exact⟨_,rfl,_,_,rfl,rfl,⟨by decide,by decide,by decide⟩,_,_,rfl,rfl,_,rfl,rfl⟩
   ·exact⟨_,rfl,rfl⟩
  ·rintro σ' H' ⟨rest,rfl,rfl⟩
   refine⟨fun μ σ H'=>∃ (ns:List Int) (rest:Int),μ=m-ns.length∧σ=[some (.int c),some (.int m),some (.ref p),some (.int rest),none,none,none]∧H' p=some (.lst (ns.map V.int))∧Same H H'∧(∀ n∈ns,0≤n)∧ns.length≤m,⟨_,[],rest,rfl,rfl,zd,Same.new hp,(fun n hn=>nomatch hn),Nat.zero_le _⟩,?_⟩
   rintro μ σ H1 ⟨ns,rest,rfl,rfl,hp1,s1,h0,hlen⟩
   refine⟨_,rfl,_,_,rfl,rfl,_,rfl,?_⟩
   refine ite2 (fun _=>⟨_,rfl,p,_,rfl,.inl (SqL.of hp1),_,rfl,_,_,rfl,rfl,_,rfl,?gA⟩) (fun _=>?gB)
   case' gA =>
    rw[List.length_map]
    refine ite2 (fun z=>?gC) (fun z=>?gD)
   case gC =>
    have z:(ns.length:Int)<m:=of_decide_eq_true z
    refine⟨_,fun σ' H' h=>h,?_⟩
    refine⟨_,rfl,.inl ⟨rfl,_,SqL.of hp1⟩,_,rfl,_,_,rfl,rfl,⟨by decide,by decide,by decide⟩,_,_,rfl,rfl,(by show(0:Int)<10 ^ Int.toNat 6;decide),p,_,_,rfl,rfl,hp1,(by rw[List.length_map];exact zj (by omega)),?_⟩
    refine⟨_,rfl,_,_,rfl,rfl,⟨by decide,by decide,by decide⟩,_,_,rfl,rfl,⟨(by show(0:Int)<10 ^ Int.toNat 6;decide),(by show(10 ^ Int.toNat 6:Int).natAbs.log2<9000;decide)⟩,?_⟩
    refine⟨m-(ns.length+1),by omega,ns++[rest%10 ^ Int.toNat 6],_,by simp,rfl,?_,Same.updF s1 hp,?_,by simp;omega⟩
    ·rw[zd,List.map_append]
     rfl
    ·intro n hn
     rcases List.mem_append.mp hn with h | h
     ·exact h0 n h
     ·rw[List.mem_singleton.mp h]
      exact Int.emod_nonneg _ (by decide)
   all_goals
    refine⟨_,rfl,_,_,rfl,rfl,(by show(0:Int)<2147483647;decide),_,_,rfl,rfl,_,_,rfl,rfl,.inr ⟨by decide,by decide⟩,_,_,rfl,rfl,(by show(0:Int)<2147483647;decide),?_⟩
    refine⟨_,rfl,_,rfl,p,_,rfl,.inl (SqL.of hp1),_,_,rfl,rfl,?_⟩
    rw[List.length_map]
    refine⟨(m:Int)-ns.length,rfl,by omega,by omega,?_⟩
    generalize ((c%2147483647+1)*48271%2147483647)=x0
    refine for_range (lo:=0) (fun i σ H'=>∃ (ns':List Int) (x:Int) (o5 o6:Option V),σ=[some (.int c),some (.int m),some (.ref p),some (.int rest),some (.int x),o5,o6]∧H' p=some (.lst (ns'.map V.int))∧Same H H'∧(∀ n∈ns',0≤n)∧ns'.length=ns.length+i) ?_ ?_ ?_
    ·exact⟨ns,_,none,none,rfl,hp1,s1,h0,rfl⟩
    ·rintro i σ H2 hi ⟨ns',x,o5,o6,rfl,hp2,s2,h2,hl2⟩
     refine⟨_,rfl,_,rfl,_,_,rfl,rfl,.inl ⟨by decide,by decide⟩,_,_,rfl,rfl,_,_,rfl,rfl,_,_,rfl,rfl,.inr ⟨by decide,by decide⟩,_,_,rfl,rfl,(by show(0:Int)<2147483647;decide),?_⟩
     generalize hv:(x+7919*(0+(i:Int))+1)*48271%2147483647=v
     have v1:0≤v:=by rw[← hv];exact Int.emod_nonneg _ (by decide)
     have v2:v<2147483647:=by rw[← hv];exact Int.emod_lt_of_pos _ (by decide)
     refine⟨_,rfl,_,rfl,_,_,rfl,rfl,⟨by show(0:Int)<1009;decide,log_1009⟩,_,_,rfl,rfl,_,_,rfl,rfl,.inl ⟨by omega,by omega⟩,_,_,rfl,rfl,(by show(0:Int)<2147483647;decide),?_⟩
     generalize hu:v*(v/1009+65537)%2147483647=u
     have u1:0≤u:=by rw[← hu];exact Int.emod_nonneg _ (by decide)
     have u2:u<2147483647:=by rw[← hu];exact Int.emod_lt_of_pos _ (by decide)
     refine⟨_,rfl,.inl ⟨rfl,_,SqL.of hp2⟩,_,rfl,_,rfl,_,_,rfl,rfl,⟨by show(0:Int)<2003;decide,Wk⟩,_,_,rfl,rfl,_,_,rfl,rfl,.inl ⟨by omega,by omega⟩,_,_,rfl,rfl,(by show(0:Int)<2147483399;decide),p,_,_,rfl,rfl,hp2,(by rw[List.length_map];exact zj (by omega)),?_⟩
     refine⟨ns'++[u*(u/2003+40697)%2147483399],v,some (.int (0+(i:Int))),some (.int u),(by rw[← hu,← hv];rfl),?_,Same.updF s2 hp,?_,by simp;omega⟩
     ·rw[zd,List.map_append,← hu,← hv]
      rfl
     ·intro n hn
      rcases List.mem_append.mp hn with h | h
      ·exact h2 n h
      ·rw[List.mem_singleton.mp h]
       exact Int.emod_nonneg _ (by decide)
    ·rintro σ H2 ⟨ns',x,o5,o6,rfl,hp2,s2,h2,hl2⟩
     exact⟨_,rfl,k p H2 hp ⟨ns',hp2,h2,by omega⟩ s2⟩
def zfr (a:Ad):Sp:=fun vs H Q _=>∃ (lp:Addr) (pvs:List V) (pc:Pc) (ps:List Pc) (r:V) (e1 e2 e3 e4:Ex),vs=[.ref lp,r]∧H lp=some (.lst pvs)∧PcAt a H pvs (pc::ps)∧ProgAt a H e1 e2 e3 e4 r∧(∀ c∈pc::ps,∀ x∈c.hs,x∈pc.hs)∧(rdsOf (pc::ps)).length≤100 ∧
 ∀ pw ws gs H',H pw=none→(∀ q∈ws,H q=none)→Same H H'→H' pw=some (.lst (ws.map V.ref))→RnP H' e2 e3 e4 (w0 pc.hs pc.ls e1) pc.hs (rdsOf (pc::ps)) ws gs→Q (.ref pw) H'
def zfu (a:Ad):Sp:=fun vs H Q _=>∃ (lp:Addr) (pvs:List V) (pc:Pc) (ps:List Pc) (r:V) (e1 e2 e3 e4:Ex),vs=[.ref lp,r]∧H lp=some (.lst pvs)∧PcAt a H pvs (pc::ps)∧ProgAt a H e1 e2 e3 e4 r∧(∀ c∈pc::ps,∀ x∈c.hs,x∈pc.hs)∧(rdsOf (pc::ps)).length≤100 ∧
 ∀ pg ws gs H',H pg=none→(∀ q∈gs,H q=none)→Same H H'→H' pg=some (.lst (gs.map V.ref))→RnP H' e2 e3 e4 (w0 pc.hs pc.ls e1) pc.hs (rdsOf (pc::ps)) ws gs→Q (.ref pg) H'
theorem zf1 (T:Txt w K mg a):FnOk P w K mg base CX0 13 a.f_qe a.d_qe ["pieces", "program"] (zfr a):=by
 have c_qd:Callee P w K mg base "run_pieces" a.f_qd a.d_qd ["pieces", "program"] 12 (zlW a):=⟨zf3 T,T.g_qd,T.F_qd.kp,T.b_qd⟩
 refine T.F_qe.ok zl8 (fun vs H Q E h=>?_) (fun cdv A outer s H vs Q E hr h=>?_)
 ·obtain⟨lp,pvs,pc,ps,r,e1,e2,e3,e4,rfl,_⟩:=h
  rfl
 ·obtain⟨lp,pvs,pc,ps,r,e1,e2,e3,e4,rfl,hlp,hPc,hP,hs,hn,k⟩:=h
  refine zy (w_pss_one (zf (zk zw (w_pe_c c_qd (hr.mono (by omega)) (w_pa_N (w_pv 0) (w_pa_N (w_pv 1) w_pa_nil))) ze (fun _ _=>rfl)))) ?_
  refine⟨_,rfl,_,rfl,lp,pvs,pc,ps,r,e1,e2,e3,e4,rfl,hlp,hPc,hP,hs,hn,fun q pw pg ws gs H' hq fpw fpg fw fg s1 hq1 h1 h2 R=>?_⟩
  exact⟨q,_,0,_,rfl,rfl,SqT.of hq1,rfl,k pw ws gs H' fpw fw s1 h1 R⟩
theorem zf4 (T:Txt w K mg a):FnOk P w K mg base CX0 13 a.f_qf a.d_qf ["pieces", "program"] (zfu a):=by
 have c_qd:Callee P w K mg base "run_pieces" a.f_qd a.d_qd ["pieces", "program"] 12 (zlW a):=⟨zf3 T,T.g_qd,T.F_qd.kp,T.b_qd⟩
 refine T.F_qf.ok zl7 (fun vs H Q E h=>?_) (fun cdv A outer s H vs Q E hr h=>?_)
 ·obtain⟨lp,pvs,pc,ps,r,e1,e2,e3,e4,rfl,_⟩:=h
  rfl
 ·obtain⟨lp,pvs,pc,ps,r,e1,e2,e3,e4,rfl,hlp,hPc,hP,hs,hn,k⟩:=h
  refine zy (w_pss_one (zf (zk zw (w_pe_c c_qd (hr.mono (by omega)) (w_pa_N (w_pv 0) (w_pa_N (w_pv 1) w_pa_nil))) ze (fun _ _=>rfl)))) ?_
  refine⟨_,rfl,_,rfl,lp,pvs,pc,ps,r,e1,e2,e3,e4,rfl,hlp,hPc,hP,hs,hn,fun q pw pg ws gs H' hq fpw fpg fw fg s1 hq1 h1 h2 R=>?_⟩
  exact⟨q,_,1,_,rfl,rfl,SqT.of hq1,rfl,k pg ws gs H' fpg fg s1 h2 R⟩
theorem PcAt.one {H:Hp}{pt p:Addr}{hs:List Int}{ls:List (Int×Int)}{n:Nat}(h:H pt=some (.tup [.ref p,.int (n:Int)])) (W:WbP a H p hs ls):PcAt a H [.ref pt] [⟨hs,ls,n⟩]:=⟨rfl,fun i v pc e1 e2=>by
 cases i with
 |zero=>cases e1;cases e2;exact⟨pt,p,rfl,h,W⟩
 |succ i=>cases e1⟩
end
end K04

namespace K04
open PySem L2
theorem Ex.ok_sub {ns ms:List Str}(h:∀ x∈ns,x∈ms):∀ e:Ex,e.ok ns→e.ok ms
 |.num i,o=>o
 |.name x,o=>h x o
 |.two w e1 e2,o=>⟨o.1,ok_sub h e1 o.2.1,ok_sub h e2 o.2.2⟩
 |.mod e1 i,o=>⟨o.1,ok_sub h e1 o.2⟩
 |.less e1 e2 e3 e4,o=>⟨ok_sub h e1 o.1,ok_sub h e2 o.2.1,ok_sub h e3 o.2.2.1,ok_sub h e4 o.2.2.2⟩
noncomputable def szB:Nat→Nat
 |0=>1
 |d+1=>max 5 (1+2*szB d)
theorem Zs:∀ d,1≤szB d
 |0=>by decide
 |d+1=>by show 1≤max 5 (1+2*szB d);omega
theorem znz {α:Type}{xs:List α}(h:xs.length=4):∃ a b c d,xs=[a,b,c,d]:=by
 cases xs with
 |nil=>cases h
 |cons a xs=>cases xs with
  |nil=>cases h
  |cons b xs=>cases xs with
   |nil=>cases h
   |cons c xs=>cases xs with
    |nil=>cases h
    |cons d xs=>cases xs with
     |nil=>exact⟨a,b,c,d,rfl⟩
     |cons e xs=>simp at h
section
variable {P:Program}{w:World}{K:PySem.W.Frag}{mg:Str→Option Value}{base:Heap}{a:Ad}
def Yi (n:Nat):Sp:=fun vs H Q _=>∃ (l nm:Addr) (names:List Str) (d:Nat),vs=[.ref l,.ref nm,.int (d:Int)]∧XsAt H l∧H nm=some (.lst (names.map V.str))∧nm≠l∧0<names.length∧names.length≤100∧d<n ∧
 ∀ (e:Ex) (v:V) (H':Hp),Told H' e v→e.ok names→e.dep≤d+1→e.size≤szB d→XsAt H' l→Ext l H H'→Q v H'
theorem YB (T:Txt w K mg a):∀ n,FnOk P w K mg base CX0 (n+2) a.f_qx a.d_qx ["_law_xs", "_law_names", "_law_deep"] (Yi n)
 |0=>⟨fun vs H Q E h=>by
   obtain⟨l,nm,names,deep,rfl,_⟩:=h
   rfl,fun A outer s H args us vs Q E _ _ _ _ h=>by
   obtain⟨l,nm,names,deep,_,_,_,_,_,_,h1,_⟩:=h
   omega⟩
 |n+1=>by
  have c_qt:Callee P w K mg base "_law_take" a.f_qt a.d_qt ["_law_xs", "_law_size"] 1 xH:=⟨xl T,T.g_qt,T.F_qt.kp,T.b_qt⟩
  have c_qx:Callee P w K mg base "_law_expr" a.f_qx a.d_qx ["_law_xs", "_law_names", "_law_deep"] (n+2) (Yi n):=⟨YB T n,T.g_qx,T.F_qx.kp,T.b_qx⟩
  refine T.F_qx.ok sc_qx (fun vs H Q E h=>?_) (fun cdv A outer s H vs Q E hr h=>?_)
  ·obtain⟨l,nm,names,deep,rfl,_⟩:=h
   rfl
  ·obtain⟨l,nm,names,d,rfl,hs,hnm,hne,hn0,hn1,hd,k⟩:=h
   refine zy (w_pss_cons (w_ps_set (i:=3) sc_qx.nd rfl (Or.inl rfl) (w_pe_c c_qt (hr.mono (by omega)) (w_pa_N (w_pv 0) (zm ze w_pa_nil))))
   (w_pss_cons (w_ps_if (zk8 (Ze (w_pt_cmpR yd (w_pv 2) ze (zo _)) (ue (w_pt_cmpR xJ (w_pv 3) ze (zo _)))))
    (w_pss_cons (w_ps_if (w_pt_cmpR yd (w_pv 3) ze (zo _))
     (w_pss_one (zf (zF (zm w_pe_str (w_pa_cons (zk zD (zq (yc (zg yg (w_pe_c c_qt (hr.mono (by omega)) (w_pa_N (w_pv 0) (zm ze w_pa_nil))) ze) (yc (zg wk (w_pe_c c_qt (hr.mono (by omega)) (w_pa_N (w_pv 0) (yc (zg yY ze ze) w_pa_nil))) (zg yY ze ze)) w_pa_nil))) (zg xw (w_pe_c c_qt (hr.mono (by omega)) (w_pa_N (w_pv 0) (zm ze w_pa_nil))) ze) (fun _ _=>rfl)) w_pa_nil)))))
     zi)
    (w_pss_one (zf (zF (zm w_pe_str (w_pa_cons (zk zD (w_pv 1) (w_pe_c c_qt (hr.mono (by omega)) (w_pa_N (w_pv 0) (zu (w_pe_callB zl (by rfl) T.n_len zN (w_pa_N (w_pv 1) w_pa_nil)) w_pa_nil))) (fun _ _=>rfl)) w_pa_nil))))))
    zi)
   (w_pss_cons (w_ps_if (w_pt_cmpR xJ (w_pv 3) ze (zo _))
    (w_pss_cons (w_ps_set (i:=4) sc_qx.nd rfl (Or.inl rfl) (zk zD (zq (zm w_pe_str (zm w_pe_str (zm w_pe_str (zm w_pe_str w_pa_nil))))) (zg yg (w_pv 3) ze) (fun _ _=>rfl)))
    (w_pss_one (zf (zF (w_pa_N (w_pv 4) (zu (w_pe_c c_qx (hr.mono (by omega)) (w_pa_N (w_pv 0) (w_pa_N (w_pv 1) (yc (zg yg (w_pv 2) ze) w_pa_nil)))) (zu (w_pe_c c_qx (hr.mono (by omega)) (w_pa_N (w_pv 0) (w_pa_N (w_pv 1) (yc (zg yg (w_pv 2) ze) w_pa_nil)))) w_pa_nil)))))))
    zi)
   (w_pss_cons (w_ps_if (w_pt_cmpR yd (w_pv 3) ze (zo _))
    (w_pss_one (zf (zF (zm w_pe_str (zu (w_pe_c c_qx (hr.mono (by omega)) (w_pa_N (w_pv 0) (w_pa_N (w_pv 1) (yc (zg yg (w_pv 2) ze) w_pa_nil)))) (yc (zg ye ze (w_pe_c c_qt (hr.mono (by omega)) (w_pa_N (w_pv 0) (w_pa_cons (zk zD (zq (zm ze (yc (zg yY ze ze) w_pa_nil))) (w_pe_c c_qt (hr.mono (by omega)) (w_pa_N (w_pv 0) (zm ze w_pa_nil))) (fun _ _=>rfl)) w_pa_nil)))) w_pa_nil))))))
    zi)
   (w_pss_one (zf (zg VH (zF (zm w_pe_str w_pa_nil)) (zA wS (by rfl) T.n_tuple uI (w_pa_cons (zV rfl (N':=["_law_k", "_law_xs", "_law_names"]) (t:=1) (caps:=[0,1]) ⟨rfl,rfl,rfl⟩ (zS rfl T.n_range (zm ze w_pa_nil)) (fun _=>(zh (i:=0) (show(["_law_k", "_law_xs", "_law_names"]:List Str).Nodup by decide +kernel) rfl (Or.inl rfl))) (fun _=>zO) (fun _=>(w_pe_c c_qx (hr.mono (by omega)) (w_pa_N (w_pv 1) (w_pa_N (w_pv 2) (zm ze w_pa_nil)))))) w_pa_nil))))))))) ?_
   refine⟨_,rfl,l,8,rfl,hs,by decide,fun kd H1 k0 k1 s1 x1=>?_⟩
   have hnm1:=x1 _ _ hnm hne
   refine⟨_,rfl,rfl,_,rfl,?_⟩
   have zp:=Zs d
   refine ite2 (fun z=>Xw ?gA) (fun z=>⟨_,rfl,_,_,rfl,rfl,_,rfl,ite2 (fun z2=>?gB) (fun z2=>?gC)⟩)
   case gC =>
    have hl1:¬ d=0:=fun z0=>z (by subst z0;rfl)
    have hl2:¬ kd<2:=fun z0=>z2 (decide_eq_true z0)
    obtain⟨c,rfl⟩:∃ c,d=c+1:=⟨d-1,by omega⟩
    have zc:=Zs c
    have ed:((c+1:Nat):Int)-1=(c:Int):=by omega
    refine⟨_,rfl,_,_,rfl,rfl,_,rfl,?_⟩
    refine ite2 (fun h6=>?_) (fun h6=>?_)
    ·have h6:kd<6:=of_decide_eq_true h6
     refine⟨by show 4≤sizeLine;decide,fun p1 hp1=>?_⟩
     obtain⟨wd,hw,aw⟩:=zfM (d:=kd-2) (by omega) (by omega)
     refine⟨_,rfl,_,_,rfl,rfl,p1,_,_,_,rfl,rfl,SqL.of zd,aw,?_⟩
     have X2:Ext l H _:=x1.trans (Ext.new (l:=l) (o:=HO.lst [V.str "add",V.str "sub",V.str "min",V.str "max"]) hp1)
     refine⟨_,rfl,_,rfl,_,rfl,_,rfl,_,_,rfl,rfl,l,nm,names,c,(by rw[← ed];rfl),s1.new hp1,X2 _ _ hnm hne,hne,hn0,hn1,by omega,fun e1 v1 H3 t1 o1 de1 z1 s3 x3=>?_⟩
     refine⟨_,rfl,_,rfl,_,rfl,_,_,rfl,rfl,l,nm,names,c,(by rw[← ed];rfl),s3,(X2.trans x3) _ _ hnm hne,hne,hn0,hn1,by omega,fun e2 v2 H4 t2 o2 de2 z2 s4 x4=>?_⟩
     refine⟨by show 3≤sizeLine;decide,fun p hp=>?_⟩
     have y5:=Same.new (o:=HO.tup [V.str wd,v1,v2]) hp
     exact k (.two wd e1 e2) _ _ ⟨p,v1,v2,rfl,zd,(t1.extX s3 x4).same y5,t2.same y5⟩ ⟨hw,o1,o2⟩ (by show max e1.dep e2.dep+1≤c+1+1;omega) (by show 1+e1.size+e2.size≤max 5 (1+2*szB c);omega) (s4.new hp) (((X2.trans x3).trans x4).trans (Ext.new hp))
    refine⟨_,rfl,rfl,_,rfl,?_⟩
    refine ite2 (fun _=>?_) (fun h8=>?_)
    ·refine⟨_,rfl,_,rfl,_,rfl,_,_,rfl,rfl,l,nm,names,c,(by rw[← ed];rfl),s1,hnm1,hne,hn0,hn1,by omega,fun e1 v1 H2 t1 o1 de1 z1 s2 x2=>?_⟩
     refine⟨_,rfl,_,_,rfl,rfl,⟨by decide,by decide,by decide⟩,(by show 2≤sizeLine;decide),fun p1 hp1=>?_⟩
     have n1:=s2.ne hp1
     refine⟨_,rfl,l,2,rfl,s2.new hp1,by decide,fun d1 H3 g1 g2 s3 x3=>?_⟩
     obtain⟨v2,a2,b2⟩:=zfN (x:=9) (y:=(10:Int) ^ Int.toNat 6) g1 g2
     have p6:(10:Int) ^ Int.toNat 6=1000000:=by decide
     rw[p6] at b2
     refine⟨p1,_,d1,_,rfl,rfl,SqL.of (x3 _ _ zd n1),a2,l,v2,rfl,s3,by omega,fun d2 H4 g3 g4 s4 x4=>?_⟩
     refine⟨_,_,rfl,rfl,(by show 3≤sizeLine;decide),fun p hp=>?_⟩
     exact k (.mod e1 (1+d2)) _ _ ⟨p,v1,rfl,zd,(((t1.same (Same.new hp1)).extX (s2.new hp1) x3).extX s3 x4).same (Same.new hp)⟩ ⟨⟨by omega,by omega⟩,o1⟩ (by show e1.dep+1≤c+1+1;omega) (by show 2+e1.size≤max 5 (1+2*szB c);omega) (s4.new hp) (((x1.trans x2).trans ((Ext.new hp1).trans x3)).trans (x4.trans (Ext.new hp)))
    refine⟨by show 1≤sizeLine;decide,fun p1 hp1=>?_⟩
    have hp1l:=s1.ne hp1
    have s1':=s1.new (o:=HO.tup [V.str "less"]) hp1
    have x1':Ext l H1 _:=Ext.new (l:=l) (o:=HO.tup [V.str "less"]) hp1
    have hT1:=zd (H:=H1) (a:=p1) (o:=HO.tup [V.str "less"])
    generalize L2.upd H1 p1 (HO.tup [V.str "less"])=H1' at *
    refine⟨4,rfl,by decide,by decide,fun D hD _=>?_⟩
    have hDl:=s1'.ne hD
    refine Zc (lo:=0) (n:=4) (fun i zs τ H'=>∃ o,τ=[o,some (.ref l),some (.ref nm)]∧zs.length=i∧H' D=some (.lst zs)∧XsAt H' l∧Ext l H1' H'∧∀ v∈zs,∃ e,Told H' e v∧e.ok names∧e.dep≤1∧e.size≤1) ?_ ?_ ?_
    ·exact⟨none,rfl,rfl,zd,s1'.new hD,Ext.new hD,fun v hv=>nomatch hv⟩
    ·rintro i zs τ H2 hi ⟨o,rfl,hz,hD2,s2,x2,hv⟩
     refine gn_if ?_
     refine⟨_,rfl,_,rfl,l,nm,names,0,rfl,s2,x2 _ _ (x1' _ _ hnm1 hne) hne,hne,hn0,hn1,by omega,fun e v H6 t6 o6 d6 z6 s6 x6=>⟨x6 _ _ hD2 hDl,zj (by omega),some (V.int (0+i)),rfl,by simp[hz],zd,s6.upd hDl,?_,fun v' hv'=>?_⟩⟩
     ·intro b o e nb
      rw[upd_ne (ne_of_none e hD)]
      exact(x2.trans x6) b o e nb
     ·have hD6:=x6 _ _ hD2 hDl
      rcases List.mem_append.mp hv' with h | h
      ·obtain⟨e',t',o',d',z'⟩:=hv v' h
       exact⟨e',(t'.extX s2 x6).updL hD6,o',d',z'⟩
      ·rw[List.mem_singleton.mp h]
       exact⟨e,t6.updL hD6,o6,d6,z6⟩
    ·rintro zs τ H2 ⟨o,_,hz,hD2,s2,x2,hv⟩
     obtain⟨z1,z2,z3,z4,rfl⟩:=znz hz
     obtain⟨e1,t1,o1,d1,y1⟩:=hv z1 (by simp)
     obtain⟨e2,t2,o2,d2,y2⟩:=hv z2 (by simp)
     obtain⟨e3,t3,o3,d3,y3⟩:=hv z3 (by simp)
     obtain⟨e4,t4,o4,d4,y4⟩:=hv z4 (by simp)
     refine⟨D,_,rfl,.inl ⟨SqL.of hD2,fun p2 hp2=>?_⟩⟩
     have y:=Same.new (o:=HO.tup [z1,z2,z3,z4]) hp2
     refine⟨p1,p2,_,_,rfl,rfl,SqT.of (y _ _ (x2 _ _ hT1 hp1l)),SqT.of zd,(fun z=>by cases z),(by show 1+4≤sizeLine;decide),(fun z=>by cases z),fun _ p hp=>?_⟩
     have y':=y.trans (Same.new (o:=HO.tup [V.str "less",z1,z2,z3,z4]) hp)
     exact k (.less e1 e2 e3 e4) _ _ ⟨p,z1,z2,z3,z4,rfl,zd,t1.same y',t2.same y',t3.same y',t4.same y'⟩ ⟨o1,o2,o3,o4⟩ (by show max (max e1.dep e2.dep) (max e3.dep e4.dep)+1≤c+1+1;omega) (by show 1+e1.size+e2.size+e3.size+e4.size≤max 5 (1+2*szB c);omega) (s2.same y') ((x1.trans x1').trans (x2.trans (Ext.same y')))
   all_goals
    refine⟨_,rfl,rfl,_,rfl,?_⟩
    refine ite2 (fun _=>?_) (fun _=>?_)
    ·refine⟨_,rfl,l,9,rfl,s1,by decide,fun d1 H2 a1 b1 s2 x2=>?_⟩
     refine⟨_,_,rfl,rfl,_,rfl,_,_,rfl,rfl,⟨by decide,by decide,by decide⟩,l,_,rfl,s2,by decide,fun d2 H3 a2 b2 s3 x3=>?_⟩
     refine⟨_,_,rfl,rfl,⟨by decide,by decide,by decide⟩,_,_,rfl,rfl,.inr ⟨by decide,by decide⟩,(by show 2≤sizeLine;decide),fun p1 hp1=>?_⟩
     have n1:=s3.ne hp1
     refine⟨_,rfl,l,4,rfl,s3.new hp1,by decide,fun d3 H4 a3 b3 s4 x4=>?_⟩
     have q3:0≤d3/3:=Int.ediv_nonneg a3 (by decide)
     have q4:d3/3<2:=by omega
     obtain⟨v1,e1,f1⟩:=zfN (x:=d1-4) (y:=d2*10 ^ Int.toNat 13) q3 q4
     refine⟨_,_,rfl,rfl,⟨by show(0:Int)<3;decide,by show(3:Int).natAbs.log2<9000;decide⟩,p1,_,_,_,rfl,rfl,SqL.of (x4 _ _ zd n1),e1,(by show 2≤sizeLine;decide),fun p hp=>?_⟩
     refine k (.num v1) _ _ ⟨p,rfl,zd⟩ ?_ (Nat.le_add_left _ _) zp (s4.new hp) (((x1.trans x2).trans (x3.trans (Ext.new hp1))).trans (x4.trans (Ext.new hp)))
     have p13:(10:Int) ^ Int.toNat 13=10000000000000:=by decide
     have p6:(10:Int) ^ Int.toNat 6=1000000:=by decide
     have b2:d2<(10:Int) ^ Int.toNat 6:=b2
     rw[p6] at b2
     rw[p13] at f1
     show -100000000000000000000<v1∧v1<100000000000000000000
     omega
    ·refine⟨_,rfl,_,rfl,_,rfl,nm,_,rfl,.inl (SqL.of hnm1),l,_,rfl,s1,(by rw[List.length_map];omega),fun d2 H2 g1 g2 s2 x2=>?_⟩
     obtain⟨x,hx,ea⟩:=zmw g1 g2
     refine⟨nm,_,d2,_,rfl,rfl,SqL.of (x2 _ _ hnm1 hne),ea,(by show 2≤sizeLine;decide),fun p hp=>?_⟩
     exact k (.name x) _ _ ⟨p,rfl,zd⟩ hx (Nat.le_add_left _ _) zp (s2.new hp) ((x1.trans x2).trans (Ext.new hp))
noncomputable def heardNs:List Str:=["worth", "me", "round", "lines", "sum", "least", "most", "count", "sum", "most"]
def zuk:Sp:=fun vs H Q _=>vs=[]∧∀ p,H p=none→Q (.ref p) (L2.upd H p (.lst (heardNs.map V.str)))
theorem zmG (T:Txt w K mg a):FnOk P w K mg base CX0 1 a.f_qz a.d_qz [] zuk:=by
 refine T.F_qz.ok zlY (fun vs H Q E h=>?_) (fun cdv A outer s H vs Q E hr h=>?_)
 ·obtain⟨rfl,_⟩:=h
  rfl
 ·obtain⟨rfl,k⟩:=h
  refine zy (w_pss_one (zf (zq (zm w_pe_str (zm w_pe_str (zm w_pe_str (zm w_pe_str (zm w_pe_str (zm w_pe_str (zm w_pe_str (zm w_pe_str (zm w_pe_str (zm w_pe_str w_pa_nil))))))))))))) ?_
  exact⟨by show 10≤sizeLine;decide,fun p hp=>k p hp⟩
def zab (H:Hp) (e1 e2 e3 e4:Ex) (v1 v2 v3 v4:V):Prop:=(Told H e1 v1∧e1.ok yO∧e1.dep≤4∧e1.size≤15)∧(Told H e2 v2∧e2.ok yt∧e2.dep≤4∧e2.size≤15)∧(Told H e3 v3∧e3.ok yt∧e3.dep≤4∧e3.size≤15)∧(Told H e4 v4∧e4.ok yP∧e4.dep≤4∧e4.size≤15)
def zue:Sp:=fun vs H Q _=>∃ c:Int,vs=[.int c]∧∀ (q:Addr) (v1 v2 v3 v4:V) (e1 e2 e3 e4:Ex) (H':Hp),H' q=some (.lst [v1,v2,v3,v4])→zab H' e1 e2 e3 e4 v1 v2 v3 v4→Same H H'→Q (.ref q) H'
theorem zmD (T:Txt w K mg a):FnOk P w K mg base CX0 6 a.f_qy a.d_qy ["_law_cell"] zue:=by
 have c_qt:Callee P w K mg base "_law_take" a.f_qt a.d_qt ["_law_xs", "_law_size"] 1 xH:=⟨xl T,T.g_qt,T.F_qt.kp,T.b_qt⟩
 have c_qs:Callee P w K mg base "_law_draws" a.f_qs a.d_qs ["_law_cell", "_law_many"] 1 vM:=⟨uy T,T.g_qs,T.F_qs.kp,T.b_qs⟩
 have c_qz:Callee P w K mg base "_law_heard_names" a.f_qz a.d_qz [] 1 zuk:=⟨zmG T,T.g_qz,T.F_qz.kp,T.b_qz⟩
 have c_qx:Callee P w K mg base "_law_expr" a.f_qx a.d_qx ["_law_xs", "_law_names", "_law_deep"] 5 (Yi 3):=⟨YB T 3,T.g_qx,T.F_qx.kp,T.b_qx⟩
 refine T.F_qy.ok sc_qy (fun vs H Q E h=>?_) (fun cdv A outer s H vs Q E hr h=>?_)
 ·obtain⟨c,rfl,_⟩:=h
  rfl
 ·obtain⟨c,rfl,k⟩:=h
  refine zy (w_pss_cons (w_ps_set (i:=1) sc_qy.nd rfl (Or.inl rfl) (w_pe_c c_qs (hr.mono (by omega)) (w_pa_N (w_pv 0) (zm ze w_pa_nil))))
   (w_pss_cons (w_ps_set (i:=2) sc_qy.nd rfl (Or.inl rfl) (w_pe_c c_qx (hr.mono (by omega)) (w_pa_N (w_pv 1) (w_pa_cons (zq (zm w_pe_str (zm w_pe_str (zm w_pe_str w_pa_nil)))) (zm ze w_pa_nil)))))
   (w_pss_cons (w_ps_set (i:=3) sc_qy.nd rfl (Or.inl rfl) (w_pe_c c_qx (hr.mono (by omega)) (w_pa_N (w_pv 1) (w_pa_cons (zq (zm w_pe_str (zm w_pe_str (zm w_pe_str (zm w_pe_str (zm w_pe_str (zm w_pe_str w_pa_nil))))))) (zm ze w_pa_nil)))))
   (w_pss_cons (w_ps_set (i:=4) sc_qy.nd rfl (Or.inl rfl) (w_pe_c c_qx (hr.mono (by omega)) (w_pa_N (w_pv 1) (w_pa_cons (zq (zm w_pe_str (zm w_pe_str (zm w_pe_str (zm w_pe_str (zm w_pe_str w_pa_nil)))))) (zm ze w_pa_nil)))))
   (yU (w_ps_if (w_pt_cmpR yd (w_pe_c c_qt (hr.mono (by omega)) (w_pa_N (w_pv 1) (zm ze w_pa_nil))) ze (zo _))
    (w_pss_one (w_ps_set (i:=4) sc_qy.nd rfl (Or.inl rfl) (zF (zm w_pe_str (zm ze w_pa_nil)))))
    zi)
   (w_pss_one (zf (zq (w_pa_N (w_pv 2) (w_pa_N (w_pv 3) (w_pa_N (w_pv 4) (zu (w_pe_c c_qx (hr.mono (by omega)) (w_pa_N (w_pv 1) (zu (uL c_qz.ok (hr.mono (by omega)) (by rfl) c_qz.g c_qz.kp c_qz.b .nil Yv) (zm ze w_pa_nil)))) w_pa_nil)))))))))))) ?_
  refine⟨_,rfl,c,150,rfl,by decide,fun l H1 hl0 s1 y1=>?_⟩
  refine⟨_,rfl,(by show 3≤sizeLine;decide),fun n1 h1=>?_⟩
  refine⟨l,n1,["me", "lines", "me"],2,rfl,s1.new h1,zd,s1.ne h1,by decide,by decide,by decide,fun e1 v1 H2 t1 o1 d1 z1 s2 x2=>?_⟩
  refine⟨_,rfl,(by show 6≤sizeLine;decide),fun n2 h2=>?_⟩
  refine⟨l,n2,["worth", "me", "round", "lines", "to", "worth"],2,rfl,s2.new h2,zd,s2.ne h2,by decide,by decide,by decide,fun e2 v2 H3 t2 o2 d2 z2 s3 x3=>?_⟩
  refine⟨_,rfl,(by show 5≤sizeLine;decide),fun n3 h3=>?_⟩
  refine⟨l,n3,["worth", "me", "round", "lines", "to"],2,rfl,s3.new h3,zd,s3.ne h3,by decide,by decide,by decide,fun e3 v3 H4 t3 o3 d3 z3 s4 x4=>?_⟩
  have X4:Ext l H1 H4:=((Ext.new h1).trans x2).trans (((Ext.new h2).trans x3).trans ((Ext.new h3).trans x4))
  have T1:=((t1.same (Same.new (o:=HO.lst [V.str "worth",V.str "me",V.str "round",V.str "lines",V.str "to",V.str "worth"]) h2)).extX (s2.new h2) x3).same (Same.new (o:=HO.lst [V.str "worth",V.str "me",V.str "round",V.str "lines",V.str "to"]) h3) |>.extX (s3.new h3) x4
  have T2:=(t2.same (Same.new (o:=HO.lst [V.str "worth",V.str "me",V.str "round",V.str "lines",V.str "to"]) h3)).extX (s3.new h3) x4
  refine⟨fun σ' H'=>∃ (e3:Ex) (v3:V),σ'=[some (.int c),some (.ref l),some v1,some v2,some v3]∧XsAt H' l∧Ext l H1 H'∧Told H' e1 v1∧Told H' e2 v2∧Told H' e3 v3∧e3.ok yt∧e3.dep≤4∧e3.size≤15,?_,?_⟩
  ·refine⟨_,rfl,l,3,rfl,s4,by decide,fun dd H5 g1 g2 s5 x5=>?_⟩
   refine⟨rfl,_,rfl,?_⟩
   refine ite2 (fun _=>?_) (fun _=>?_)
   ·refine⟨by show 2≤sizeLine;decide,fun p hp=>?_⟩
    have y:=Same.new (o:=HO.tup [V.str "num",V.int 1]) hp
    exact⟨.num 1,_,rfl,s5.new hp,(X4.trans x5).trans (Ext.new hp),(T1.extX s4 x5).same y,(T2.extX s4 x5).same y,⟨p,rfl,zd⟩,(by show -100000000000000000000<(1:Int)∧(1:Int)<100000000000000000000;decide),(by show 1≤4;decide),(by show 1≤15;decide)⟩
   ·exact⟨e3,v3,rfl,s5,X4.trans x5,T1.extX s4 x5,T2.extX s4 x5,t3.extX s4 x5,o3,by omega,Nat.le_trans z3 (by decide)⟩
  ·rintro σ' H5 ⟨e3,v3,rfl,s5,x5,T1,T2,T3,o3,d3,z3⟩
   refine⟨_,rfl,_,rfl,_,rfl,_,rfl,rfl,fun n4 h4=>?_⟩
   have y4:=Same.new (o:=HO.lst (heardNs.map V.str)) h4
   refine⟨l,n4,heardNs,2,rfl,s5.new h4,zd,s5.ne h4,by decide,by decide,by decide,fun e4 v4 H6 t4 o4 d4 z4 s6 x6=>?_⟩
   refine⟨by show 4≤sizeLine;decide,fun q hq=>?_⟩
   have y6:=Same.new (o:=HO.lst [v1,v2,v3,v4]) hq
   have sub1:∀ x∈(["me", "lines", "me"]:List Str),x∈yO:=by decide
   have sub2:∀ x∈(["worth", "me", "round", "lines", "to", "worth"]:List Str),x∈yt:=by decide
   have sub4:∀ x∈heardNs,x∈yP:=by decide
   refine k q v1 v2 v3 v4 e1 e2 e3 e4 _ zd ⟨⟨((T1.same y4).extX (s5.new h4) x6).same y6,Ex.ok_sub sub1 e1 o1,by omega,Nat.le_trans z1 (by decide)⟩,⟨((T2.same y4).extX (s5.new h4) x6).same y6,Ex.ok_sub sub2 e2 o2,by omega,Nat.le_trans z2 (by decide)⟩,⟨((T3.same y4).extX (s5.new h4) x6).same y6,o3,d3,z3⟩,⟨t4.same y6,Ex.ok_sub sub4 e4 o4,by omega,Nat.le_trans z4 (by decide)⟩⟩ ?_
   have X:=(x5.trans (Ext.same y4)).trans (x6.trans (Ext.same y6))
   exact fun b o e=>X b o (y1 b o e) fun z=>by rw[z,hl0] at e;cases e
def zud (a:Ad):Sp:=fun vs H Q _=>∃ (q:Addr) (v1 v2 v3 v4:V) (e1 e2 e3 e4:Ex),vs=[.ref q]∧H q=some (.lst [v1,v2,v3,v4])∧zab H e1 e2 e3 e4 v1 v2 v3 v4∧∀ r H',ProgAt a H' e1 e2 e3 e4 r→Same H H'→Q r H'
theorem zmC (T:Txt w K mg a):FnOk P w K mg base CX0 24 a.f_qB a.d_qB ["_law_program_here"] (zud a):=by
 have c_qA:Callee P w K mg base "_law_made" a.f_qA a.d_qA ["_law_told"] 6 (Yf a 4):=⟨YA T 4,T.g_qA,T.F_qA.kp,T.b_qA⟩
 have m_Program:Maker P w K mg base "Program" a.c_Program a.f_qY a.d_qY ["self", "start", "send", "when", "renew"] 22 (WK a):=⟨VI T,T.g_Program,T.mk_Program,T.b_qY⟩
 refine T.F_qB.ok zmq (fun vs H Q E h=>?_) (fun cdv A outer s H vs Q E hr h=>?_)
 ·obtain⟨q,v1,v2,v3,v4,e1,e2,e3,e4,rfl,_⟩:=h
  rfl
 ·obtain⟨q,v1,v2,v3,v4,e1,e2,e3,e4,rfl,hq,⟨⟨t1,o1,d1,z1⟩,⟨t2,o2,d2,z2⟩,⟨t3,o3,d3,z3⟩,⟨t4,o4,d4,z4⟩⟩,k⟩:=h
  refine zy (w_pss_one (zf (xD m_Program (hr.mono (by omega)) (zu (w_pe_c c_qA (hr.mono (by omega)) (w_pa_cons (zk zD (w_pv 0) ze (fun _ _=>rfl)) w_pa_nil)) (zu (w_pe_c c_qA (hr.mono (by omega)) (w_pa_cons (zk zD (w_pv 0) ze (fun _ _=>rfl)) w_pa_nil)) (zu (w_pe_c c_qA (hr.mono (by omega)) (w_pa_cons (zk zD (w_pv 0) ze (fun _ _=>rfl)) w_pa_nil)) (zu (w_pe_c c_qA (hr.mono (by omega)) (w_pa_cons (zk zD (w_pv 0) ze (fun _ _=>rfl)) w_pa_nil)) w_pa_nil))))))) ?_
  refine⟨_,rfl,q,_,0,_,rfl,rfl,SqL.of hq,rfl,e1,_,_,rfl,t1,d1,o1,fun r1 H1 m1 s1=>?_⟩
  refine⟨_,rfl,q,_,1,_,rfl,rfl,SqL.of (s1 _ _ hq),rfl,e2,_,_,rfl,t2.same s1,d2,o2,fun r2 H2 m2 s2=>?_⟩
  have s12:=s1.trans s2
  refine⟨_,rfl,q,_,2,_,rfl,rfl,SqL.of (s12 _ _ hq),rfl,e3,_,_,rfl,t3.same s12,d3,o3,fun r3 H3 m3 s3=>?_⟩
  have s123:=s12.trans s3
  refine⟨_,rfl,q,_,3,_,rfl,rfl,SqL.of (s123 _ _ hq),rfl,e4,_,_,rfl,t4.same s123,d4,o4,fun r4 H4 m4 s4=>?_⟩
  refine fun x dx nx ndx nex=>?_
  have sN:Same H4 (L2.upd (L2.upd H4 dx (.own x)) x (.ins a.c_Program dx [])):=fun b o e=>by
   rw[upd_ne (ne_of_none e nx),upd_ne (ne_of_none e ndx)]
   exact e
  have m1:=m1.same ((s2.trans s3).trans s4)
  have m2:=m2.same (s3.trans s4)
  have m3:=m3.same s4
  refine⟨x,dx,r1,r2,r3,r4,e1,e2,e3,e4,rfl,zd,⟨⟨m1.same sN,o1,by omega⟩,⟨m2.same sN,o2,by omega⟩,⟨m3.same sN,o3,by omega⟩,⟨m4.same sN,o4,by omega⟩,by omega⟩,fun H5 s5=>⟨rfl,?_⟩⟩
  have s45:Same H4 (L2.upd H5 x (.ins a.c_Program dx [("start",r1),("send",r2),("when",r3),("renew",r4)])):=Same.updF (sN.trans s5) nx
  exact k _ _ ⟨x,dx,r1,r2,r3,r4,rfl,zd,⟨m1.same s45,o1,by omega⟩,⟨m2.same s45,o2,by omega⟩,⟨m3.same s45,o3,by omega⟩,⟨m4.same s45,o4,by omega⟩,by omega⟩ ((s123.trans s4).trans s45)
end
end K04

namespace K04
open PySem L2
noncomputable def ot1 (ls:List (Int×Int)) (x:Int):List Int:=(ls.filter fun p=>decide (p.1=x)).map (·.2)
noncomputable def ot2 (ls:List (Int×Int)) (x:Int):List Int:=(ls.filter fun p=>decide (p.2=x)).map (·.1)
theorem XV {ls:List (Int×Int)}{p:Int×Int}{x:Int}:ot1 (ls++[p]) x=ot1 ls x++if p.1=x then[p.2] else[]:=by
 unfold ot1
 rw[List.filter_append,List.map_append]
 by_cases c:p.1=x<;>simp[c]
theorem XU {ls:List (Int×Int)}{p:Int×Int}{x:Int}:ot2 (ls++[p]) x=ot2 ls x++if p.2=x then[p.1] else[]:=by
 unfold ot2
 rw[List.filter_append,List.map_append]
 by_cases c:p.2=x<;>simp[c]
theorem Yy {x:Int}:∀ {ls:List (Int×Int)},(ot1 ls x++ot2 ls x).Perm (nbs ls x)
 |[]=>List.Perm.refl _
 |p::ls=>by
  have e:nbs (p::ls) x=((if p.1=x then[p.2] else[])++if p.2=x then[p.1] else[])++nbs ls x:=by unfold nbs;rw[List.flatMap_cons]
  have e1:ot1 (p::ls) x=(if p.1=x then[p.2] else[])++ot1 ls x:=by unfold ot1;by_cases c:p.1=x<;>simp[c]
  have e2:ot2 (p::ls) x=(if p.2=x then[p.1] else[])++ot2 ls x:=by unfold ot2;by_cases c:p.2=x<;>simp[c]
  rw[e,e1,e2]
  refine List.Perm.trans ?_ (List.Perm.append_left _ (Yy (ls:=ls)))
  rw[List.append_assoc,List.append_assoc]
  refine List.Perm.append_left _ ?_
  rw[← List.append_assoc,← List.append_assoc]
  exact List.Perm.append_right _ List.perm_append_comm
theorem WT {ls:List (Int×Int)}{x:Int}:(ot1 ls x).length≤ls.length∧(ot2 ls x).length≤ls.length:=by
 unfold ot1 ot2
 rw[List.length_map,List.length_map]
 exact⟨List.length_filter_le _ _,List.length_filter_le _ _⟩
section
variable {P:Program}{w:World}{K:PySem.W.Frag}{mg:Str→Option Value}{base:Heap}{a:Ad}
def zie:Sp:=fun vs H Q _=>∃ (q:Addr) (x:Int) (rs:List V) (hs:List Int) (ls:List (Int×Int)),vs=[.ref q,.int x]∧H q=some (.lst rs)∧LnAt H rs ls∧Hs hs∧Ls hs ls ∧
 ∀ (p:Addr) (H':Hp),H p=none→Same H H'→H' p=some (.lst ((hs.filter (adB ls x)).map V.int))→Q (.ref p) H'
theorem VO (T:Txt w K mg a):FnOk P w K mg base CX0 1 a.f_qw a.d_qw ["_law_lines_here", "_law_hand"] zie:=by
 refine T.F_qw.ok sc_qw (fun vs H Q E h=>?_) (fun cdv A outer s H vs Q E hr h=>?_)
 ·obtain⟨q,x,rs,hs,ls,rfl,_⟩:=h
  rfl
 ·obtain⟨q,x,rs,hs,ls,rfl,hq,L,wh,wl,k⟩:=h
  have hu:=yH hr
  have l66:=wl.le
  refine zy (w_pss_cons (ya (i:=2) rfl sc_qw.nd rfl (Or.inl rfl) (N':=["_law_one", "_law_other", "_law_hand"]) (t:=2) (caps:=[1]) ⟨rfl,rfl,rfl⟩ (zt (w_pv 0)) (fun _=>(yh rfl (zr (zh (i:=0) (show(["_law_one", "_law_other", "_law_hand"]:List Str).Nodup by decide +kernel) rfl (Or.inl rfl)) (zr (zh (i:=1) (show(["_law_one", "_law_other", "_law_hand"]:List Str).Nodup by decide +kernel) rfl (Or.inl rfl)) zU)))) (fun _=>(xA (w_pt_cmpR yd (w_pv 0) (w_pv 2) (zo _)))) (fun _=>(w_pv 1)))
   (w_pss_one (zf (w_pe_callB wq (by rfl) T.n_sorted xU (yc (zg yA (w_pv 2) (zV rfl (N':=["_law_one", "_law_other", "_law_hand"]) (t:=2) (caps:=[1]) ⟨rfl,rfl,rfl⟩ (zt (w_pv 0)) (fun _=>(yh rfl (zr (zh (i:=0) (show(["_law_one", "_law_other", "_law_hand"]:List Str).Nodup by decide +kernel) rfl (Or.inl rfl)) (zr (zh (i:=1) (show(["_law_one", "_law_other", "_law_hand"]:List Str).Nodup by decide +kernel) rfl (Or.inl rfl)) zU)))) (fun _=>(xA (w_pt_cmpR yd (w_pv 1) (w_pv 2) (zo _)))) (fun _=>(w_pv 0)))) w_pa_nil))))) ?_
  refine⟨_,rfl,q,rfl,⟨_,SqL.of hq⟩,fun D hD _=>?_⟩
  refine zJ (K:=K) (a:=q) (xs:=rs) (fun j zs τ H'=>∃ o1 o2,τ=[o1,o2,some (.int x)]∧zs=(ot1 (ls.take j) x).map V.int∧H' D=some (.lst zs)∧Same H H') ?_ ?_ ?_ ?_
  ·exact⟨none,none,rfl,rfl,zd,Same.new hD⟩
  ·rintro j zs τ H' ⟨o1,o2,_,_,_,sm⟩
   exact SqL.of (sm _ _ hq)
  ·rintro j v zs τ H' hj ⟨o1,o2,rfl,rfl,hD',sm⟩
   obtain⟨pr,r,hpr,rfl,hr'⟩:=L.get hj
   refine⟨r,_,rfl,SqT.of (sm _ _ hr'),rfl,_,_,rfl,_,_,rfl,rfl,?_⟩
   refine⟨_,rfl,_,rfl,rfl,_,rfl,?_⟩
   have st:ot1 (ls.take (j+1)) x=ot1 (ls.take j) x++if pr.1=x then[pr.2] else[]:=by
    rw[List.take_add_one,hpr]
    exact XV
   refine ite2 (fun z=>?_) (fun z=>?_)
   ·have z:pr.1=x:=by
     have:=of_decide_eq_true z
     injection this
    refine⟨_,rfl,hD',?_,_,_,rfl,?_,zd,Same.updF sm hD⟩
    ·rw[List.length_map]
     have:=(WT (ls:=ls.take j) (x:=x)).1
     rw[List.length_take] at this
     exact zj (by omega)
    ·rw[st,if_pos z,List.map_append]
     rfl
   ·have z:¬ pr.1=x:=fun e=>z (by rw[e];exact decide_eq_true rfl)
    refine⟨_,_,rfl,?_,hD',sm⟩
    rw[st,if_neg z,List.append_nil]
  ·rintro zs τ H1 ⟨o1,o2,rfl,rfl,hD1,sm⟩
   rw[L.1,List.take_length] at hD1
   refine⟨_,rfl,_,rfl,q,rfl,⟨_,SqL.of (sm _ _ hq)⟩,fun D2 hD2 _=>?_⟩
   refine zJ (K:=K) (a:=q) (xs:=rs) (fun j zs τ H'=>∃ o1 o2,τ=[o1,o2,some (.int x)]∧zs=(ot2 (ls.take j) x).map V.int∧H' D2=some (.lst zs)∧Same H1 H') ?_ ?_ ?_ ?_
   ·exact⟨none,none,rfl,rfl,zd,Same.new hD2⟩
   ·rintro j zs τ H' ⟨o1,o2,_,_,_,sm2⟩
    exact SqL.of (sm2 _ _ (sm _ _ hq))
   ·rintro j v zs τ H' hj ⟨o1,o2,rfl,rfl,hD',sm2⟩
    obtain⟨pr,r,hpr,rfl,hr'⟩:=L.get hj
    refine⟨r,_,rfl,SqT.of (sm2 _ _ (sm _ _ hr')),rfl,_,_,rfl,_,_,rfl,rfl,?_⟩
    refine⟨_,rfl,_,rfl,rfl,_,rfl,?_⟩
    have st:ot2 (ls.take (j+1)) x=ot2 (ls.take j) x++if pr.2=x then[pr.1] else[]:=by
     rw[List.take_add_one,hpr]
     exact XU
    refine ite2 (fun z=>?_) (fun z=>?_)
    ·have z:pr.2=x:=by
      have:=of_decide_eq_true z
      injection this
     refine⟨_,rfl,hD',?_,_,_,rfl,?_,zd,Same.updF sm2 hD2⟩
     ·rw[List.length_map]
      have:=(WT (ls:=ls.take j) (x:=x)).2
      rw[List.length_take] at this
      exact zj (by omega)
     ·rw[st,if_pos z,List.map_append]
      rfl
    ·have z:¬ pr.2=x:=fun e=>z (by rw[e];exact decide_eq_true rfl)
     refine⟨_,_,rfl,?_,hD',sm2⟩
     rw[st,if_neg z,List.append_nil]
   ·rintro zs τ H2 ⟨o1',o2',rfl,rfl,hD3,sm2⟩
    rw[L.1,List.take_length] at hD3
    have pmx:=Yy (x:=x) (ls:=ls)
    have few:=YM (x:=x) wh wl
    have flen:=pmx.length_eq
    rw[List.length_append] at flen
    refine⟨D,D2,_,_,rfl,rfl,sm2 _ _ hD1,hD3,(by rw[List.length_map,List.length_map];exact Nat.le_of_lt (zj (by omega))),fun p hp=>?_⟩
    have hp':L2.upd H2 p (HO.lst (List.map V.int (ot1 ls x)++List.map V.int (ot2 ls x))) p=some (.lst ((ot1 ls x++ot2 ls x).map V.int)):=by rw[zd,List.map_append]
    have y3:=Same.new (o:=HO.lst (List.map V.int (ot1 ls x)++List.map V.int (ot2 ls x))) hp
    have y123:=(sm.trans sm2).trans y3
    exact⟨p,_,rfl,SqL.of hp',by rw[List.length_append];omega,fun q' ms hq' pm sd=>by
     rw[ul wh wl (pm.trans pmx) sd]
     exact k q' _ (y123.free hq') (y123.trans (Same.new hq')) zd⟩
def zug:Sp:=fun vs H Q _=>∃ (l:Addr),vs=[.ref l,.int 8]∧XsAt H l ∧
 ∀ (h:Addr) (hs:List Int) (H':Hp),H h=none→H' h=some (.lst (hs.map V.int))→Hs hs→XsAt H' l→Ext l H H'→Q (.ref h) H'
theorem zmF (T:Txt w K mg a):FnOk P w K mg base CX0 2 a.f_qu a.d_qu ["_law_xs", "_law_most"] zug:=by
 have c_qt:Callee P w K mg base "_law_take" a.f_qt a.d_qt ["_law_xs", "_law_size"] 1 xH:=⟨xl T,T.g_qt,T.F_qt.kp,T.b_qt⟩
 refine T.F_qu.ok sc_qu (fun vs H Q E h=>?_) (fun cdv A outer s H vs Q E hr h=>?_)
 ·obtain⟨l,rfl,_⟩:=h
  rfl
 ·obtain⟨l,rfl,hs,k⟩:=h
  refine zy (w_pss_cons (w_ps_set (i:=2) sc_qu.nd rfl (Or.inl rfl) (w_pe_c c_qt (hr.mono (by omega)) (w_pa_N (w_pv 0) (zm ze w_pa_nil))))
   (w_pss_cons (w_ps_set (i:=3) sc_qu.nd rfl (Or.inr rfl) (zq (w_pa_N (w_pv 2) w_pa_nil)))
   (w_pss_cons (zB PassesOwn.never rfl (zS rfl T.n_range (zu (w_pe_c c_qt (hr.mono (by omega)) (w_pa_N (w_pv 0) (w_pa_N (w_pv 1) w_pa_nil))) w_pa_nil)) (zh (i:=4) sc_qu.nd rfl (Or.inl rfl))
    (w_pss_cons (w_ps_set (i:=2) sc_qu.nd rfl (Or.inl rfl) (zg ye (zg ye (w_pv 2) ze) (w_pe_c c_qt (hr.mono (by omega)) (w_pa_N (w_pv 0) (zm ze w_pa_nil)))))
    (w_pss_one (w_ps_expr (yf PySem.F.plainAttrs_list PySem.F.slot_list_append PySem.F.type_list_append zH (w_pv 3) (w_pa_N (w_pv 2) w_pa_nil))))))
   (yU (w_ps_if (w_pt_cmpR yd (w_pe_c c_qt (hr.mono (by omega)) (w_pa_N (w_pv 0) (zm ze w_pa_nil))) ze (zo _))
    (w_pss_one (w_ps_set (i:=3) sc_qu.nd rfl (Or.inr rfl) (zV rfl (N':=["_law_one", "_law_found"]) (t:=1) (caps:=[3]) ⟨rfl,rfl,rfl⟩ (zt (w_pv 3)) (fun _=>(zh (i:=0) (show(["_law_one", "_law_found"]:List Str).Nodup by decide +kernel) rfl (Or.inl rfl))) (fun _=>zO) (fun _=>(zg yg (zg ye (w_pv 0) ze) (zk zD (w_pv 1) (xC we ze) (fun _ _=>rfl)))))))
    zi)
   (w_pss_one (zf (w_pv 3))))))) ?_
  refine⟨_,rfl,l,5,rfl,hs,by decide,fun d0 H1 g1 g2 s1 x1=>?_⟩
  refine⟨_,rfl,(by show 1≤sizeLine;decide),fun p hp=>?_⟩
  have npl:=s1.ne hp
  refine⟨_,rfl,_,rfl,l,8,rfl,s1.new hp,by decide,fun m H2 g3 g4 s2 x2=>?_⟩
  refine⟨m,rfl,by omega,by omega,?_⟩
  have hp2:H2 p=some (.lst [V.int d0]):=x2 _ _ zd npl
  have X2:Ext l H1 H2:=(Ext.new hp).trans x2
  refine for_range (lo:=0) (fun i σ H'=>∃ (ns:List Int) (x:Int) (o4:Option V),σ=[some (.ref l),some (.int 8),some (.int x),some (.ref p),o4]∧H' p=some (.lst ((ns++[x]).map V.int))∧ns.length=i∧(ns++[x]).Pairwise (· < ·)∧(∀ y∈ns++[x],0≤y)∧(∀ y∈ns++[x],y≤4+8*(i:Int))∧XsAt H' l∧Ext l H1 H') ?_ ?_ ?_
  ·refine⟨[],d0,none,rfl,hp2,rfl,by simp,?_,?_,s2,X2⟩
   ·intro y hy
    rw[List.mem_singleton.mp hy];exact g1
   ·intro y hy
    rw[List.mem_singleton.mp hy];omega
  ·rintro i σ H3 hi ⟨ns,x,o4,rfl,hp3,hln,up,lo,hi',s3,x3⟩
   refine⟨_,rfl,_,_,rfl,rfl,_,rfl,l,8,rfl,s3,by decide,fun d H4 a1 a2 s4 x4=>?_⟩
   have hp4:=x4 _ _ hp3 npl
   refine⟨_,_,rfl,rfl,_,rfl,.inl ⟨rfl,_,SqL.of hp4⟩,_,rfl,p,_,_,rfl,rfl,hp4,(by rw[List.length_map,List.length_append];exact zj (by simp;omega)),?_⟩
   refine⟨ns++[x],x+1+d,_,rfl,?_,by simp[hln],?_,?_,?_,s4.upd npl,?_⟩
   ·rw[zd,List.map_append (l₂:=[x+1+d])]
    rfl
   ·rw[List.pairwise_append]
    refine⟨up,by simp,fun y hy z hz=>?_⟩
    rw[List.mem_singleton.mp hz]
    rcases List.mem_append.mp hy with h | h
    ·have:=(List.pairwise_append.mp up).2.2 y h x (by simp)
     omega
    ·rw[List.mem_singleton.mp h];omega
   ·intro y hy
    rcases List.mem_append.mp hy with h | h
    ·exact lo y h
    ·rw[List.mem_singleton.mp h]
     have:=lo x (by simp)
     omega
   ·intro y hy
    rcases List.mem_append.mp hy with h | h
    ·have:=hi' y h
     omega
    ·rw[List.mem_singleton.mp h]
     have:=hi' x (by simp)
     omega
   ·intro b o e nb
    rw[upd_ne (ne_of_none e hp)]
    exact(x3.trans x4) b o e nb
  ·rintro σ H3 ⟨ns,x,o4,rfl,hp3,hln,up,lo,hi',s3,x3⟩
   have hp0:H p=none:=by
    cases e:H p with
    |none=>rfl
    |some o=>have:=x1 _ _ e npl;rw[hp] at this;cases this
   have X3:=x1.trans x3
   refine⟨fun σ' H'=>∃ (h:Addr) (hs':List Int),σ'=[some (.ref l),some (.int 8),some (.int x),some (.ref h),o4]∧H h=none∧H' h=some (.lst (hs'.map V.int))∧Hs hs'∧XsAt H' l∧Ext l H H',?_,?_⟩
   ·refine⟨_,rfl,l,4,rfl,s3,by decide,fun d H4 a1 a2 s4 x4=>⟨rfl,_,rfl,?_⟩⟩
    have hp4:=x4 _ _ hp3 npl
    have X4:=X3.trans x4
    have hl:(ns++[x]).length=m.toNat+1:=by rw[List.length_append,hln];rfl
    refine ite2 (fun _=>?_) (fun _=>?_)
    ·refine⟨_,rfl,p,rfl,⟨_,SqL.of hp4⟩,fun D hD _=>?_⟩
     have nDl:=s4.ne hD
     have hD0:H D=none:=by
      cases e:H D with
      |none=>rfl
      |some o=>have:=X4 _ _ e nDl;rw[hD] at this;cases this
     refine zJ (K:=K) (a:=p) (xs:=(ns++[x]).map V.int) (fun j zs τ H'=>∃ o,τ=[o,some (.ref p)]∧zs=(((ns++[x]).take j).map fun y=>y+99-x).map V.int∧H' D=some (.lst zs)∧Same H4 H') ?_ ?_ ?_ ?_
     ·exact⟨none,rfl,by simp,zd,Same.new hD⟩
     ·rintro j zs τ H' ⟨o,_,_,_,sm⟩
      exact SqL.of (sm _ _ hp4)
     ·rintro j v zs τ H' hj ⟨o,rfl,rfl,hD',sm⟩
      rw[List.getElem?_map] at hj
      obtain⟨y,hy,rfl⟩:=Option.map_eq_some_iff.mp hj
      have hjl:=(List.getElem?_eq_some_iff.mp hy).1
      refine gn_if ?_
      refine⟨_,rfl,_,_,rfl,rfl,_,rfl,_,rfl,p,_,_,V.int x,rfl,rfl,SqL.of (sm _ _ hp4),(by rw[List.map_append];exact xX),_,_,rfl,rfl,hD',by simp;exact zj (by omega),some (.int y),rfl,?_,zd,Same.updF sm hD⟩
      rw[List.take_add_one,hy]
      simp
     ·rintro zs τ H5 ⟨o,rfl,rfl,hD5,sm⟩
      rw[List.length_map,List.take_length] at hD5
      refine⟨D,_,rfl,hD0,hD5,⟨?_,?_,?_,?_,?_⟩,s4.same sm,X4.trans (Ext.same sm)⟩
      ·rw[List.length_map,hl];omega
      ·rw[List.length_map,hl];omega
      ·rw[List.pairwise_map]
       exact up.imp fun h=>by omega
      ·intro y hy
       obtain⟨z,hz,rfl⟩:=List.mem_map.mp hy
       have h1:=lo z hz
       have h2:=hi' x (by simp)
       omega
      ·intro y hy
       obtain⟨z,hz,rfl⟩:=List.mem_map.mp hy
       rcases List.mem_append.mp hz with h | h
       ·have:=(List.pairwise_append.mp up).2.2 z h x (by simp)
        omega
       ·rw[List.mem_singleton.mp h];omega
    ·refine⟨p,_,rfl,hp0,hp4,⟨?_,?_,up,lo,fun y hy=>?_⟩,s4,X4⟩
     ·rw[hl];omega
     ·rw[hl];omega
     ·have:=hi' y hy
      omega
   ·rintro σ' H4 ⟨h,hs',rfl,hh0,hh,wh,s4,x4⟩
    exact⟨_,rfl,k h hs' H4 hh0 hh wh s4 x4⟩
end
end K04

namespace K04
open PySem L2
def tri:Nat→Nat
 |0=>0
 |n+1=>tri n+n
theorem Vb:∀ n,n≤12→tri n≤66:=by decide
theorem zau {n j:Nat}(h:j<n):tri j+j≤tri n:=by
 induction n with
 |zero=>omega
 |succ n ih =>
  show tri j+j≤tri n+n
  by_cases c:j=n
  ·subst c;exact Nat.le_refl _
  ·have:=ih (by omega)
   omega
theorem zmx {b1 b2 b3 b4 b5 b6:Bool}{d:Int}(h0:0≤d) (h1:d<6):∃ z,atI [V.bl b1,V.bl b2,V.bl b3,V.bl b4,V.bl b5,V.bl b6] d=some (.bl z):=by
 rcases(by omega:d=0∨d=1∨d=2∨d=3∨d=4∨d=5) with rfl | rfl | rfl | rfl | rfl | rfl
 all_goals exact⟨_,rfl⟩
theorem LnAt.updL {H:Hp}{rs zs:List V}{ls:List (Int×Int)}{p:Addr}{o:HO}(hp:H p=some (.lst zs)) (h:LnAt H rs ls):LnAt (L2.upd H p o) rs ls:=⟨h.1,fun n r pr e1 e2=>by
 obtain⟨q,e,t⟩:=h.2 n r pr e1 e2
 exact⟨q,e,by rw[upd_ne (ne_of t hp (by intro z;cases z))];exact t⟩⟩
theorem LnAt.cut {H:Hp}{rs:List V}{ls:List (Int×Int)}{n:Nat}(h:LnAt H rs ls):LnAt H (rs.drop n++rs.take n) (ls.drop n++ls.take n):=by
 refine⟨by simp[h.1],fun i r p e1 e2=>?_⟩
 by_cases c:i<(ls.drop n).length
 ·rw[List.getElem?_append_left (by simp[h.1];simpa using c)] at e1
  rw[List.getElem?_append_left c] at e2
  rw[List.getElem?_drop] at e1 e2
  exact h.2 _ r p e1 e2
 ·rw[List.getElem?_append_right (by simp[h.1];simpa using c)] at e1
  rw[List.getElem?_append_right (by omega)] at e2
  have e:(rs.drop n).length=(ls.drop n).length:=by simp[h.1]
  rw[e,List.getElem?_take] at e1
  rw[List.getElem?_take] at e2
  split at e1
  ·rw[if_pos ‹_›] at e2
   exact h.2 _ r p e1 e2
  ·cases e1
theorem znF {rs:List V}{n:Nat}(h:n≤rs.length):cutV rs (some (n:Int)) none=rs.drop n:=by
 have h1:HT.sIx rs.length 0 (some (n:Int))=n:=by
  unfold HT.sIx
  show(if (n:Int)<0 then _ else _)=n
  rw[if_neg (by omega)]
  simp
  omega
 have h2:HT.sIx rs.length rs.length none=rs.length:=rfl
 unfold cutV
 rw[h1,h2]
 exact List.take_of_length_le (by rw[List.length_drop];omega)
theorem znE {rs:List V}{n:Nat}(h:n≤rs.length):cutV rs none (some (n:Int))=rs.take n:=by
 have h1:HT.sIx rs.length rs.length (some (n:Int))=n:=by
  unfold HT.sIx
  show(if (n:Int)<0 then _ else _)=n
  rw[if_neg (by omega)]
  simp
  omega
 have h2:HT.sIx rs.length 0 none=0:=rfl
 unfold cutV
 rw[h1,h2]
 simp
theorem zhS {hs:List Int}(nd:hs.Nodup){i j:Nat}{x:Int}(h1:hs[i]?=some x) (h2:hs[j]?=some x):i=j:=by
 obtain⟨a1,b1⟩:=List.getElem?_eq_some_iff.mp h1
 obtain⟨a2,b2⟩:=List.getElem?_eq_some_iff.mp h2
 exact(List.getElem?_inj a1 nd).mp (h1.trans h2.symm)
structure Lfd (hs:List Int) (ls:List (Int×Int)) (j k:Nat):Prop where
 nd:ls.Nodup
 at_:∀ p∈ls,∃ k' j',hs[k']?=some p.1∧hs[j']?=some p.2∧k'<j'∧(j'<j∨(j'=j∧k'<k))
 le:ls.length≤tri j+k
theorem Lfd.skip {hs:List Int}{ls:List (Int×Int)}{j k:Nat}(h:Lfd hs ls j k):Lfd hs ls j (k+1) :=
 ⟨h.nd,fun p hp=>by
  obtain⟨k',j',h1,h2,h3,h4⟩:=h.at_ p hp
  exact⟨k',j',h1,h2,h3,by omega⟩,by have:=h.le;omega⟩
theorem Lfd.row {hs:List Int}{ls:List (Int×Int)}{j:Nat}(h:Lfd hs ls j j):Lfd hs ls (j+1) 0 :=
 ⟨h.nd,fun p hp=>by
  obtain⟨k',j',h1,h2,h3,h4⟩:=h.at_ p hp
  exact⟨k',j',h1,h2,h3,by omega⟩,h.le⟩
theorem Lfd.add {hs:List Int}{ls:List (Int×Int)}{j k:Nat}{x y:Int}(W:Hs hs) (h:Lfd hs ls j k) (kj:k<j) (hx:hs[k]?=some x) (hy:hs[j]?=some y):Lfd hs (ls++[(x,y)]) j (k+1):=by
 have nd:=wb W
 refine⟨?_,fun p hp=>?_,?_⟩
 ·rw[List.nodup_append]
  refine⟨h.nd,by simp,fun a ha b hb z=>?_⟩
  rw[List.mem_singleton.mp hb] at z
  obtain⟨k',j',h1,h2,h3,h4⟩:=h.at_ a ha
  rw[z] at h1 h2
  have:=zhS nd h1 hx
  have:=zhS nd h2 hy
  omega
 ·rcases List.mem_append.mp hp with h' | h'
  ·obtain⟨k',j',h1,h2,h3,h4⟩:=h.at_ p h'
   exact⟨k',j',h1,h2,h3,by omega⟩
  ·rw[List.mem_singleton.mp h']
   exact⟨k,j,hx,hy,kj,.inr ⟨rfl,by omega⟩⟩
 ·rw[List.length_append]
  have:=h.le
  simp
  omega
theorem Lfd.ls {hs:List Int}{ls:List (Int×Int)}{n:Nat}(W:Hs hs) (h:Lfd hs ls hs.length 0):Ls hs (ls.drop n++ls.take n):=by
 have pm:(ls.drop n++ls.take n).Perm ls:=List.perm_append_comm.trans (by rw[List.take_append_drop])
 refine⟨pm.nodup_iff.mpr h.nd,fun p hp=>?_,?_⟩
 ·obtain⟨k',j',h1,h2,h3,_⟩:=h.at_ p (pm.mem_iff.mp hp)
  obtain⟨a1,b1⟩:=List.getElem?_eq_some_iff.mp h1
  obtain⟨a2,b2⟩:=List.getElem?_eq_some_iff.mp h2
  refine⟨b1 ▸ List.getElem_mem a1,b2 ▸ List.getElem_mem a2,?_⟩
  rw[← b1,← b2]
  exact List.pairwise_iff_getElem.mp W.up _ _ a1 a2 h3
 ·rw[pm.length_eq]
  have:=h.le
  have:=Vb hs.length W.l12
  omega
section
variable {P:Program}{w:World}{K:PySem.W.Frag}{mg:Str→Option Value}{base:Heap}{a:Ad}
def zuf:Sp:=fun vs H Q _=>∃ (l h:Addr) (hs:List Int),vs=[.ref l,.ref h]∧XsAt H l∧H h=some (.lst (hs.map V.int))∧h≠l∧Hs hs ∧
 ∀ (q:Addr) (rs:List V) (ls:List (Int×Int)) (H':Hp),H q=none→H' q=some (.lst rs)→LnAt H' rs ls→Ls hs ls→XsAt H' l→Ext l H H'→Q (.ref q) H'
theorem zmE (T:Txt w K mg a):FnOk P w K mg base CX0 2 a.f_qv a.d_qv ["_law_xs", "_law_hands_here"] zuf:=by
 have c_qt:Callee P w K mg base "_law_take" a.f_qt a.d_qt ["_law_xs", "_law_size"] 1 xH:=⟨xl T,T.g_qt,T.F_qt.kp,T.b_qt⟩
 refine T.F_qv.ok sc_qv (fun vs H Q E h=>?_) (fun cdv A outer s H vs Q E hr h=>?_)
 ·obtain⟨l,h,hs,rfl,_⟩:=h
  rfl
 ·obtain⟨l,h,hs,rfl,sl,hh,nhl,wh,k⟩:=h
  have l12:=wh.l12
  refine zy (w_pss_cons (w_ps_set (i:=2) sc_qv.nd rfl (Or.inl rfl) (w_pe_c c_qt (hr.mono (by omega)) (w_pa_N (w_pv 0) (zm ze w_pa_nil))))
   (w_pss_cons (w_ps_set (i:=3) sc_qv.nd rfl (Or.inl rfl) (zq w_pa_nil))
   (w_pss_cons (zB PassesOwn.never rfl (zS rfl T.n_range (zu (w_pe_callB zl (by rfl) T.n_len zN (w_pa_N (w_pv 1) w_pa_nil)) w_pa_nil)) (zh (i:=4) sc_qv.nd rfl (Or.inl rfl))
    (w_pss_one (zB PassesOwn.never rfl (zS rfl T.n_range (w_pa_N (w_pv 4) w_pa_nil)) (zh (i:=5) sc_qv.nd rfl (Or.inl rfl))
     (w_pss_cons (w_ps_set (i:=6) sc_qv.nd rfl (Or.inl rfl) (Zg (zG yd (zg yg (w_pv 4) (w_pv 5)) ze (zo _)) (yi (zG yd (zg yg (w_pv 4) (w_pv 5)) (zg yg (w_pe_callB zl (by rfl) T.n_len zN (w_pa_N (w_pv 1) w_pa_nil)) ze) (zo _)))))
     (w_pss_cons (w_ps_set (i:=7) sc_qv.nd rfl (Or.inl rfl) (w_pe_c c_qt (hr.mono (by omega)) (w_pa_N (w_pv 0) (zm ze w_pa_nil))))
     (w_pss_one (w_ps_if (zT (zk zD (zq (w_pa_N (w_pv 6) (w_pa_cons (zG xJ (w_pv 7) ze (zo _)) (w_pa_cons (zG xJ (w_pv 7) ze (zo _)) (w_pa_cons (zG xJ (w_pv 7) ze (zo _)) (zm xg (w_pa_cons (Zg (zG yd (w_pv 5) (zg yM (w_pv 7) (w_pv 4)) (zo _)) (yi (zG yd (w_pv 7) ze (zo _)))) w_pa_nil))))))) (w_pv 2) (fun _ _=>rfl)))
      (w_pss_one (w_ps_expr (yf PySem.F.plainAttrs_list PySem.F.slot_list_append PySem.F.type_list_append zH (w_pv 3) (wW (zF (w_pa_cons (zk zD (w_pv 1) (w_pv 5) (fun _ _=>rfl)) (w_pa_cons (zk zD (w_pv 1) (w_pv 4) (fun _ _=>rfl)) w_pa_nil))) w_pa_nil))))
      zi)))))))
   (w_pss_cons (w_ps_set (i:=8) sc_qv.nd rfl (Or.inl rfl) (w_pe_c c_qt (hr.mono (by omega)) (w_pa_N (w_pv 0) (yc (zg ye (w_pe_callB zl (by rfl) T.n_len zN (w_pa_N (w_pv 3) w_pa_nil)) ze) w_pa_nil))))
   (w_pss_one (zf (zg yA (yD wA (w_pv 3) (yw (w_pv 8)) xB) (yD wA (w_pv 3) xB (yw (w_pv 8)))))))))) ?_
  refine⟨_,rfl,l,6,rfl,sl,by decide,fun way H1 g1 g2 s1 x1=>?_⟩
  refine⟨(by show 0≤sizeLine;decide),fun p hp=>?_⟩
  have npl:=s1.ne hp
  have hh1:=x1 _ _ hh nhl
  have nhp:h≠p:=fun z=>by rw[z,hp] at hh1;cases hh1
  refine⟨_,rfl,h,_,rfl,.inl (SqL.of ((Same.new hp) _ _ hh1)),_,rfl,?_⟩
  rw[List.length_map]
  refine⟨by omega,by omega,?_⟩
  rw[show((hs.length:Int)).toNat=hs.length by omega]
  have St:∀ {rs:List V}{ls:List (Int×Int)}{H':Hp},LnAt H' rs ls→True:=fun _=>trivial
  refine for_range (lo:=0) (fun j σ H'=>∃ (o4 o5 o6 o7:Option V) (rs:List V) (ls:List (Int×Int)),σ=[some (.ref l),some (.ref h),some (.int way),some (.ref p),o4,o5,o6,o7,none]∧H' p=some (.lst rs)∧LnAt H' rs ls∧Lfd hs ls j 0∧XsAt H' l∧Ext l H1 H') ?_ ?_ ?_
  ·exact⟨none,none,none,none,[],[],rfl,zd,⟨rfl,fun i r q e=>by cases e⟩,⟨List.nodup_nil,(fun q hq=>nomatch hq),Nat.zero_le _⟩,s1.new hp,Ext.new hp⟩
  ·rintro j σ H2 hj ⟨o4,o5,o6,o7,rs,ls,rfl,hp2,L,F,s2,x2⟩
   refine⟨_,rfl,0+(j:Int),rfl,by omega,by omega,?_⟩
   rw[show(0+(j:Int)).toNat=j by omega]
   refine for_range (lo:=0) (fun i σ H'=>∃ (o5 o6 o7:Option V) (rs:List V) (ls:List (Int×Int)),σ=[some (.ref l),some (.ref h),some (.int way),some (.ref p),some (.int (0+(j:Int))),o5,o6,o7,none]∧H' p=some (.lst rs)∧LnAt H' rs ls∧Lfd hs ls j i∧XsAt H' l∧Ext l H1 H') ?_ ?_ ?_
   ·exact⟨o5,o6,o7,rs,ls,rfl,hp2,L,F,s2,x2⟩
   ·rintro i σ H3 hi ⟨o5,o6,o7,rs,ls,rfl,hp3,L,F,s3,x3⟩
    have hj2:hs[j]?=some hs[j]:=by simp[hj]
    have hi2:hs[i]?=some (hs[i]'(by omega)):=by simp
    refine⟨_,rfl,_,rfl,_,_,rfl,rfl,rfl,_,rfl,?_⟩
    have hh3:=x3 _ _ hh1 nhl
    refine ite2 (fun _=>?_) (fun _=>⟨_,rfl,_,rfl,_,_,rfl,rfl,_,rfl,h,_,rfl,.inl (SqL.of hh3),_,_,rfl,rfl,rfl,?_⟩)
    all_goals
     refine⟨_,rfl,l,6,rfl,s3,by decide,fun dr H4 a1 a2 s4 x4=>?_⟩
     refine⟨_,rfl,_,rfl,_,_,rfl,rfl,_,rfl,_,_,rfl,rfl,_,rfl,_,_,rfl,rfl,_,rfl,_,rfl,_,rfl,_,_,rfl,rfl,(by show(0:Int)<0+(j:Int);omega),rfl,_,rfl,?_⟩
     have hp4:=x4 _ _ hp3 npl
     have hh4:=x4 _ _ hh3 nhl
     have L4:LnAt H4 rs ls:=⟨L.1,fun n r pr e1 e2=>by
      obtain⟨q,e,t⟩:=L.2 n r pr e1 e2
      exact⟨q,e,x4 _ _ t fun z=>by
       obtain⟨ns,e3,_⟩:=s3
       rw[z,e3] at t
       cases t⟩⟩
     have X4:=x3.trans x4
     refine ite2 (fun _=>?_) (fun _=>⟨_,rfl,rfl,?_⟩)
     all_goals
      refine⟨by show 6≤sizeLine;decide,fun q6 hq6=>?_⟩
      have y5:∀ o,Same H4 (L2.upd H4 q6 o):=fun o=>Same.new hq6
      have u5:∀ o,L2.upd H4 q6 o q6=some o:=fun o=>zd
      generalize L2.upd H4 q6=f at *
      obtain⟨z,hz⟩:=zmx (b1:=_) (b2:=_) (b3:=_) (b4:=_) (b5:=_) (b6:=_) g1 g2
      refine⟨_,rfl,q6,_,_,_,rfl,rfl,SqL.of (u5 _),hz,_,rfl,?_⟩
      have hp5:=fun o=>y5 o _ _ hp4
      have hh5:=fun o=>y5 o _ _ hh4
      have L5:=fun o=>L4.same (y5 o)
      have s5:=fun o=>s4.same (y5 o)
      have X5:=fun o=>X4.trans (Ext.same (y5 o))
      refine ite2 (fun _=>?_) (fun _=>?_)
      ·refine⟨_,rfl,.inl ⟨rfl,_,SqL.of (hp5 _)⟩,_,rfl,_,rfl,h,_,_,V.int (hs[i]'(by omega)),rfl,rfl,SqL.of (hh5 _),(by rw[Int.zero_add];exact xY (by simp)),_,rfl,_,rfl,h,_,_,V.int hs[j],rfl,rfl,SqL.of (hh5 _),(by rw[Int.zero_add];exact xY (by simp[hj])),(by show 2≤sizeLine;decide),fun qt hqt=>?_⟩
       have y6:=Same.new (o:=HO.tup [V.int (hs[i]'(by omega)),V.int hs[j]]) hqt
       have l66:=F.le
       refine⟨p,_,_,rfl,rfl,y6 _ _ (hp5 _),(by rw[L.1];have:=Vb hs.length l12;have:=zau hj;exact zj (by omega)),?_⟩
       refine⟨_,_,_,_,ls++[(hs[i]'(by omega),hs[j])],rfl,zd,LnAt.updL (y6 _ _ (hp5 _)) (LnAt.snoc (p:=(hs[i]'(by omega),hs[j])) ((L5 _).same y6) (q:=qt) zd),F.add wh hi hi2 hj2,((s5 _).same y6).upd npl.symm.symm,?_⟩
       intro b o e nb
       rw[upd_ne (ne_of_none e hp)]
       exact((X5 _).trans (Ext.same y6)) b o e nb
      ·exact⟨_,_,_,rs,ls,rfl,hp5 _,L5 _,F.skip,s5 _,X5 _⟩
   ·rintro σ H3 ⟨o5,o6,o7,rs,ls,rfl,hp3,L,F,s3,x3⟩
    exact⟨_,_,_,_,rs,ls,rfl,hp3,L,F.row,s3,x3⟩
  ·rintro σ H2 ⟨o4,o5,o6,o7,rs,ls,rfl,hp2,L,F,s2,x2⟩
   refine⟨_,rfl,_,rfl,p,_,rfl,.inl (SqL.of hp2),_,_,rfl,rfl,l,_,rfl,s2,by omega,fun d H3 a1 a2 s3 x3=>?_⟩
   obtain⟨n,rfl⟩:∃ n:Nat,d=n:=⟨d.toNat,by omega⟩
   have hp3:=x3 _ _ hp2 npl
   have L3:LnAt H3 rs ls:=⟨L.1,fun n r pr e1 e2=>by
      obtain⟨q,e,t⟩:=L.2 n r pr e1 e2
      exact⟨q,e,x3 _ _ t fun z=>by
       obtain⟨ns,e3,_⟩:=s2
       rw[z,e3] at t
       cases t⟩⟩
   refine⟨_,rfl,_,rfl,_,rfl,p,_,rfl,SqL.of hp3,fun q1 hq1=>?_⟩
   have y4:=Same.new (o:=HO.lst (cutV rs (some (n:Int)) none)) hq1
   refine⟨_,rfl,_,rfl,_,rfl,p,_,rfl,SqL.of (y4 _ _ hp3),fun q2 hq2=>?_⟩
   have y5:=Same.new (o:=HO.lst (cutV rs none (some (n:Int)))) hq2
   have hnl:n≤rs.length:=by omega
   have l66:=F.le
   have:=Vb hs.length l12
   have l1:=yS rs (some (n:Int)) none
   have l2:=yS rs none (some (n:Int))
   have lL:=L.1
   refine⟨q1,q2,_,_,rfl,rfl,y5 _ _ zd,zd,(Nat.le_of_lt (zj (by omega))),fun q hq=>?_⟩
   have y6:=Same.new (o:=HO.lst (cutV rs (some (n:Int)) none++cutV rs none (some (n:Int)))) hq
   have y456:=(y4.trans y5).trans y6
   refine k q (rs.drop n++rs.take n) (ls.drop n++ls.take n) _ ((((x1.trans x2).trans x3).trans (Ext.same (y4.trans y5))).free ((s3.same (y4.trans y5)).ne hq) hq) (by rw[zd,znF hnl,znE hnl]) (L3.same y456).cut (F.ls wh) (s3.same y456) ?_
   exact(x1.trans x2).trans (x3.trans (Ext.same y456))
end
end K04

namespace K04
open PySem L2
theorem LnAt.extX {l:Addr}{H H':Hp}{rs:List V}{ls:List (Int×Int)}(s:XsAt H l) (k:Ext l H H') (h:LnAt H rs ls):LnAt H' rs ls:=h.mono fun b xs e=>k b _ e fun z=>by
 obtain⟨ns,e3,_⟩:=s
 rw[z,e3] at e
 cases e
theorem Ext.fr {l:Addr}{H H' H2:Hp}(k:Ext l H' H2) (s:Same H H') (h:H l=none):Same H H2:=fun b o e=>k b o (s b o e) (ne_of_none e h)
theorem zh8 {xs:List V}:cutV xs none (some 1)=xs.take 1:=by
 unfold cutV
 rw[show HT.sIx xs.length 0 none=0 from rfl,show HT.sIx xs.length xs.length (some 1)=min 1 xs.length from HT.sIx_nat _ _ 1,List.drop_zero,Nat.sub_zero]
 cases xs<;>simp
theorem Hs.sub {hs ss:List Int}(W:Hs hs) (h:ss.Sublist hs) (h1:1≤ss.length):Hs ss:=⟨h1,Nat.le_trans h.length_le W.l12,W.up.sublist h,fun x hx=>W.lo x (h.subset hx),fun x hx=>W.hi x (h.subset hx)⟩
section
variable {P:Program}{w:World}{K:PySem.W.Frag}{mg:Str→Option Value}{base:Heap}{a:Ad}
def WL:Sp:=fun vs H Q _=>∃ (l h:Addr) (hs:List Int),vs=[.ref l,.ref h]∧XsAt H l∧H h=some (.lst (hs.map V.int))∧h≠l∧Hs hs ∧
 ∀ (p:Addr) (ss:List Int) (H':Hp),H p=none→H' p=some (.lst (ss.map V.int))→Hs ss→(∀ x∈ss,x∈hs)→XsAt H' l→Ext l H H'→Q (.ref p) H'
theorem VJ (T:Txt w K mg a):FnOk P w K mg base CX0 2 a.f_qG a.d_qG ["_law_xs", "_law_hands_here"] WL:=by
 have c_qt:Callee P w K mg base "_law_take" a.f_qt a.d_qt ["_law_xs", "_law_size"] 1 xH:=⟨xl T,T.g_qt,T.F_qt.kp,T.b_qt⟩
 refine T.F_qG.ok sc_qG (fun vs H Q E h=>?_) (fun cdv A outer s H vs Q E hr h=>?_)
 ·obtain⟨l,h,hs,rfl,_⟩:=h
  rfl
 ·obtain⟨l,h,hs,rfl,sl,hh,nhl,wh,k⟩:=h
  have l12:=wh.l12
  have un:∀ n:Nat,n≤3→(A.deeper (PyProof.Rows.envOfC "_law_part" (defScope uS) s.heap.objs.size a.f_qG cdv)).units+n+2<cLine:=fun n hn=>by
   have:=hr.units
   omega
  refine zy (w_pss_cons (ya (i:=2) rfl sc_qG.nd rfl (Or.inl rfl) (N':=["_law_hand", "_law_xs"]) (t:=1) (caps:=[0]) ⟨rfl,rfl,rfl⟩ (zt (w_pv 1)) (fun _=>(zh (i:=0) (show(["_law_hand", "_law_xs"]:List Str).Nodup by decide +kernel) rfl (Or.inl rfl))) (fun _=>(xA (w_pt_cmpR op_gt (w_pe_c c_qt (hr.mono (by omega)) (w_pa_N (w_pv 1) (zm ze w_pa_nil))) ze (zo _)))) (fun _=>(w_pv 0)))
   (yU (w_ps_if (w_pt_cmpR (WV Yz WU) (w_pv 2) (zq w_pa_nil) (zo _))
    (w_pss_one (w_ps_set (i:=2) sc_qG.nd rfl (Or.inl rfl) (yD wA (w_pv 1) xB (yw ze))))
    zi)
   (w_pss_one (zf (w_pv 2))))) ?_
  refine⟨_,rfl,h,rfl,⟨_,SqL.of hh⟩,fun D hD _=>?_⟩
  have nDl:=sl.ne hD
  refine zJ (K:=K) (a:=h) (xs:=hs.map V.int) (fun j zs τ H'=>∃ (o:Option V) (ss:List Int),τ=[o,some (.ref l)]∧zs=ss.map V.int∧ss.Sublist (hs.take j)∧H' D=some (.lst zs)∧XsAt H' l∧Ext l H H') ?_ ?_ ?_ ?_
  ·exact⟨none,[],rfl,rfl,List.nil_sublist _,zd,sl.new hD,Ext.new hD⟩
  ·rintro j zs τ H' ⟨o,ss,_,_,_,_,_,x⟩
   exact SqL.of (x _ _ hh nhl)
  ·rintro j v zs τ H' hj ⟨o,ss,rfl,rfl,hss,hD',s',x'⟩
   rw[List.getElem?_map] at hj
   obtain⟨y,hy,rfl⟩:=Option.map_eq_some_iff.mp hj
   have tk:hs.take (j+1)=hs.take j++[y]:=by rw[List.take_add_one,hy];rfl
   have lss:=hss.length_le
   rw[List.length_take] at lss
   refine⟨_,rfl,l,4,rfl,s',by decide,fun d H2 d0 d1 s2 x2=>?_⟩
   have hD2:=x2 _ _ hD' nDl
   refine⟨_,_,rfl,rfl,_,rfl,?_⟩
   refine ite2 (fun _=>?_) (fun _=>?_)
   ·refine⟨_,rfl,hD2,by rw[List.length_map];exact zj (by omega),_,ss++[y],rfl,by simp,?_,zd,s2.upd nDl,?_⟩
    ·rw[tk]
     exact hss.append (List.Sublist.refl _)
    ·intro b o e nb
     rw[upd_ne (ne_of_none e hD)]
     exact(x'.trans x2) b o e nb
   ·refine⟨_,ss,rfl,rfl,?_,hD2,s2,x'.trans x2⟩
    rw[tk]
    exact hss.trans (List.sublist_append_left _ _)
  ·rintro zs τ H2 ⟨o,ss,rfl,rfl,hss,hD2,s2,x2⟩
   rw[List.length_map,List.take_length] at hss
   refine⟨fun σ' H'=>∃ (p:Addr) (ss:List Int),σ'=[some (.ref l),some (.ref h),some (.ref p)]∧H p=none∧H' p=some (.lst (ss.map V.int))∧Hs ss∧(∀ x∈ss,x∈hs)∧XsAt H' l∧Ext l H H',?_,?_⟩
   ·refine⟨_,rfl,(by show 0≤sizeLine;decide),fun e he=>?_⟩
    have se:=Same.new (o:=HO.lst []) he
    have he3:=zd (H:=H2) (a:=e) (o:=HO.lst [])
    generalize upd H2 e (HO.lst [])=H3 at *
    have x3:=x2.trans (Ext.same se)
    cases ss with
    |nil =>
     refine .inl ⟨D,e,_,_,fun _=>true,0,rfl,rfl,.inl ⟨SqL.of (se _ _ hD2),SqL.of he3⟩,rfl,un 0 (by omega),(fun j x y hx=>by cases hx),_,rfl,Xw ?_⟩
     refine⟨_,rfl,_,rfl,h,_,rfl,SqL.of (x3 _ _ hh nhl),fun p hp=>?_⟩
     have l1:=wh.l1
     have sp:=Same.new (o:=HO.lst (cutV (hs.map V.int) none (some 1))) hp
     have hp0:H p=none:=by
      cases e':H p with
      |none=>rfl
      |some o=>have:=x3 _ _ e' ((s2.same se).ne hp);rw[hp] at this;cases this
     refine⟨p,hs.take 1,rfl,hp0,by rw[zd,zh8,List.map_take],wh.sub (List.take_sublist _ _) (by rw[List.length_take];omega),fun x hx=>List.mem_of_mem_take hx,(s2.same se).same sp,x3.trans (Ext.same sp)⟩
    |cons y ss =>
     refine .inr ⟨D,e,_,_,rfl,rfl,SqL.of (se _ _ hD2),SqL.of he3,(by simp),Nat.lt_of_le_of_lt (Nat.le_add_right _ 2) (un 0 (by omega)),_,rfl,zZ rfl ?_⟩
     exact⟨D,y::ss,rfl,hD,se _ _ hD2,wh.sub hss (by simp),fun x hx=>hss.subset hx,s2.same se,x3⟩
   ·rintro σ' H3 ⟨p,ss,rfl,hp0,hp,ws,hsub,s3,x3⟩
    exact⟨_,rfl,k p ss H3 hp0 hp ws hsub s3 x3⟩
end
end K04

namespace K04
open PySem L2
def DrAt (H:Hp) (vs:List V) (ps:List Pc):Prop:=vs.length=ps.length∧∀ (i:Nat) v pc,vs[i]?=some v→ps[i]?=some pc→∃ pt h q rs,v=.ref pt∧H pt=some (.tup [.ref h,.ref q,.int (pc.m:Int)])∧H h=some (.lst (pc.hs.map V.int))∧H q=some (.lst rs)∧LnAt H rs pc.ls∧Hs pc.hs∧Ls pc.hs pc.ls
theorem DrAt.same {H H':Hp}{vs:List V}{ps:List Pc}(h:DrAt H vs ps) (s:Same H H'):DrAt H' vs ps:=⟨h.1,fun i v pc e1 e2=>by
 obtain⟨pt,h',q,rs,e,h1,h2,h3,h4,h5⟩:=h.2 i v pc e1 e2
 exact⟨pt,h',q,rs,e,s _ _ h1,s _ _ h2,s _ _ h3,h4.same s,h5⟩⟩
theorem DrAt.snoc {H:Hp}{vs:List V}{ps:List Pc}{pt h q:Addr}{rs:List V}{pc:Pc}(d:DrAt H vs ps) (h1:H pt=some (.tup [.ref h,.ref q,.int (pc.m:Int)])) (h2:H h=some (.lst (pc.hs.map V.int))) (h3:H q=some (.lst rs)) (h4:LnAt H rs pc.ls) (h5:Hs pc.hs) (h6:Ls pc.hs pc.ls):DrAt H (vs++[.ref pt]) (ps++[pc]):=by
 refine⟨by simp[d.1],fun i v c e1 e2=>?_⟩
 by_cases z:i<vs.length
 ·rw[List.getElem?_append_left z] at e1
  rw[List.getElem?_append_left (by rw[← d.1];exact z)] at e2
  exact d.2 i v c e1 e2
 ·have dl:=d.1
  rw[List.getElem?_append_right (by omega)] at e1
  rw[List.getElem?_append_right (by omega),← dl] at e2
  have:=(List.getElem?_eq_some_iff.mp e1).1
  rw[List.length_singleton] at this
  have z0:i-vs.length=0:=by omega
  rw[z0] at e1 e2
  cases e1;cases e2
  exact⟨pt,h,q,rs,rfl,h1,h2,h3,h4,h5,h6⟩
theorem U8 {xs:List V}{lo hi:Option Int}{v:V}(h:v∈cutV xs lo hi):v∈xs:=List.mem_of_mem_drop (List.mem_of_mem_take h)
theorem Wx {xs:List V}{k:Int}(h0:0≤k) (h:k<4):(cutV xs (some 2) (some (2+k))).length≤3:=by
 unfold cutV
 obtain⟨n,rfl⟩:∃ n:Nat,k=n:=⟨k.toNat,by omega⟩
 have e1:HT.sIx xs.length 0 (some 2)=min 2 xs.length:=HT.sIx_nat _ _ 2
 have e2:HT.sIx xs.length xs.length (some (2+(n:Int)))=min (2+n) xs.length:=by
  have:=HT.sIx_nat xs.length xs.length (2+n)
  rw[← this]
  congr 2
 rw[e1,e2,List.length_take]
 omega
section
variable {P:Program}{w:World}{K:PySem.W.Frag}{mg:Str→Option Value}{base:Heap}{a:Ad}
def zuc (K:PySem.W.Frag):Sp:=fun vs H Q _=>∃ (sc:Addr) (ns:List Int),vs=[.ref sc,.int 0,.int 8]∧SqL K H sc (ns.map V.int) ∧
 ∀ (q:Addr) (pvs:List V) (pc:Pc) (ps:List Pc) (H':Hp),H' q=some (.lst pvs)→DrAt H' pvs (pc::ps)→(∀ c∈pc::ps,(∀ x∈c.hs,x∈pc.hs)∧c.m≤3)→ps.length≤3→Same H H'→Q (.ref q) H'
theorem zua {K:PySem.W.Frag}{H H':Hp}{a:Addr}{xs:List V}(h:SqL K H a xs) (s:Same H H'):SqL K H' a xs:=by
 rcases h with(h | ⟨o,h⟩) | h
 ·exact .inl (.inl (s _ _ h))
 ·exact .inl (.inr ⟨o,s _ _ h⟩)
 ·exact .inr h
theorem zmB (T:Txt w K mg a):FnOk P w K mg base CX0 3 a.f_qH a.d_qH ["_law_script", "_law_at", "_law_most"] (zuc K):=by
 have c_qr:Callee P w K mg base "_law_cell_at" a.f_qr a.d_qr ["_law_script", "_law_k"] 1 (Yk K):=⟨YC T,T.g_qr,T.F_qr.kp,T.b_qr⟩
 have c_qs:Callee P w K mg base "_law_draws" a.f_qs a.d_qs ["_law_cell", "_law_many"] 1 vM:=⟨uy T,T.g_qs,T.F_qs.kp,T.b_qs⟩
 have c_qu:Callee P w K mg base "_law_hands" a.f_qu a.d_qu ["_law_xs", "_law_most"] 2 zug:=⟨zmF T,T.g_qu,T.F_qu.kp,T.b_qu⟩
 have c_qv:Callee P w K mg base "_law_lines" a.f_qv a.d_qv ["_law_xs", "_law_hands_here"] 2 zuf:=⟨zmE T,T.g_qv,T.F_qv.kp,T.b_qv⟩
 have c_qt:Callee P w K mg base "_law_take" a.f_qt a.d_qt ["_law_xs", "_law_size"] 1 xH:=⟨xl T,T.g_qt,T.F_qt.kp,T.b_qt⟩
 have c_qG:Callee P w K mg base "_law_part" a.f_qG a.d_qG ["_law_xs", "_law_hands_here"] 2 WL:=⟨VJ T,T.g_qG,T.F_qG.kp,T.b_qG⟩
 refine T.F_qH.ok sc_qH (fun vs H Q E h=>?_) (fun cdv A outer s H vs Q E hr h=>?_)
 ·obtain⟨sc,ns,rfl,_⟩:=h
  rfl
 ·obtain⟨sc,ns,rfl,hS,k⟩:=h
  refine zy (w_pss_cons (w_ps_set (i:=3) sc_qH.nd rfl (Or.inl rfl) (w_pe_c c_qs (hr.mono (by omega)) (zu (w_pe_c c_qr (hr.mono (by omega)) (w_pa_N (w_pv 0) (w_pa_N (w_pv 1) w_pa_nil))) (zm ze w_pa_nil))))
   (w_pss_cons (w_ps_set (i:=4) sc_qH.nd rfl (Or.inl rfl) (w_pe_c c_qu (hr.mono (by omega)) (w_pa_N (w_pv 3) (w_pa_N (w_pv 2) w_pa_nil))))
   (w_pss_cons (w_ps_set (i:=5) sc_qH.nd rfl (Or.inl rfl) (zq (wW (zF (w_pa_N (w_pv 4) (zu (w_pe_c c_qv (hr.mono (by omega)) (w_pa_N (w_pv 3) (w_pa_N (w_pv 4) w_pa_nil))) (zu (w_pe_c c_qt (hr.mono (by omega)) (w_pa_N (w_pv 3) (zm ze w_pa_nil))) w_pa_nil)))) w_pa_nil)))
   (w_pss_cons (zB PassesOwn.never rfl (zt (yD wA (w_pv 0) (yw (zg ye (w_pv 1) ze)) (yw (zg ye (zg ye (w_pv 1) ze) (w_pe_c c_qt (hr.mono (by omega)) (w_pa_N (w_pv 3) (zm ze w_pa_nil))))))) (zh (i:=6) sc_qH.nd rfl (Or.inl rfl))
    (w_pss_cons (w_ps_set (i:=7) sc_qH.nd rfl (Or.inl rfl) (w_pe_c c_qs (hr.mono (by omega)) (w_pa_N (w_pv 6) (zm ze w_pa_nil))))
    (w_pss_cons (w_ps_set (i:=8) sc_qH.nd rfl (Or.inl rfl) (w_pe_c c_qG (hr.mono (by omega)) (w_pa_N (w_pv 7) (w_pa_N (w_pv 4) w_pa_nil))))
    (w_pss_one (w_ps_expr (yf PySem.F.plainAttrs_list PySem.F.slot_list_append PySem.F.type_list_append zH (w_pv 5) (wW (zF (w_pa_N (w_pv 8) (zu (w_pe_c c_qv (hr.mono (by omega)) (w_pa_N (w_pv 7) (w_pa_N (w_pv 8) w_pa_nil))) (zu (w_pe_c c_qt (hr.mono (by omega)) (w_pa_N (w_pv 7) (zm ze w_pa_nil))) w_pa_nil)))) w_pa_nil)))))))
   (w_pss_one (zf (w_pv 5))))))) ?_
  refine⟨_,rfl,_,rfl,sc,ns,0,rfl,hS,by decide,fun c0=>?_⟩
  refine⟨c0,70,rfl,by decide,fun l H1 hl0 s1 y1=>?_⟩
  refine⟨_,rfl,_,rfl,l,rfl,s1,fun h hs H2 hh0 hh wh s2 x2=>?_⟩
  have hne:=s1.ne hh0
  refine⟨_,rfl,_,rfl,_,rfl,l,h,hs,rfl,s2,hh,hne,wh,fun q rs ls H3 hq0 hq L wl s3 x3=>?_⟩
  have nql:=s2.ne hq0
  refine⟨_,rfl,l,4,rfl,s3,by decide,fun m H4 m0 m1 s4 x4=>?_⟩
  have hh4:=x4 _ _ (x3 _ _ hh hne) hne
  have hq4:=x4 _ _ hq nql
  have L4:=L.extX s3 x4
  have S4:Same H H4:=(x2.trans (x3.trans x4)).fr y1 hl0
  refine⟨(by show 3≤sizeLine;decide),fun pt hpt=>⟨(by show 1≤sizeLine;decide),fun lp hlp=>?_⟩⟩
  obtain⟨m,rfl⟩:∃ j:Nat,m=j:=⟨m.toNat,by omega⟩
  have n5:=Same.new (o:=HO.tup [V.ref h,V.ref q,V.int (m:Int)]) hpt
  have n6:=Same.new (o:=HO.lst [V.ref pt]) hlp
  have n56:=n5.trans n6
  have npl:=s4.ne hpt
  have nll:=(s4.same n5).ne hlp
  have nhp:lp≠h:=fun z=>by rw[z,n5 _ _ hh4] at hlp;cases hlp
  have nqp:lp≠q:=fun z=>by rw[z,n5 _ _ hq4] at hlp;cases hlp
  have ntp:lp≠pt:=fun z=>by rw[z,zd] at hlp;cases hlp
  have hpt6:=n6 _ _ (zd (H:=H4) (a:=pt) (o:=HO.tup [V.ref h,V.ref q,V.int (m:Int)]))
  have hlp6:(upd (upd H4 pt (HO.tup [V.ref h,V.ref q,V.int (m:Int)])) lp (HO.lst [V.ref pt])) lp=some (.lst [V.ref pt]):=zd
  have flp:H lp=none:=(S4.trans n5).free hlp
  generalize upd (upd H4 pt (HO.tup [V.ref h,V.ref q,V.int (m:Int)])) lp (HO.lst [V.ref pt])=H6 at *
  have s6:=s4.same n56
  refine⟨_,rfl,_,rfl,_,_,rfl,rfl,_,rfl,_,rfl,_,_,rfl,rfl,_,rfl,l,4,rfl,s6,by decide,fun kk H7 k0 k1 s7 x7=>?_⟩
  have S7:Same H H7:=x7.fr (S4.trans n56) hl0
  refine⟨_,_,rfl,rfl,_,rfl,sc,_,rfl,zua hS S7,fun sl hsl=>?_⟩
  rw[show(0:Int)+2=2 from rfl]
  have nsl:sl≠lp:=fun z=>by rw[z,x7 _ _ hlp6 nll] at hsl;cases hsl
  have n8:=Same.new (o:=HO.lst (cutV (ns.map V.int) (some 2) (some (2+kk)))) hsl
  refine⟨sl,rfl,⟨_,SqL.of zd⟩,?_⟩
  have hh8:=n8 _ _ (x7 _ _ (n56 _ _ hh4) hne)
  have hq8:=n8 _ _ (x7 _ _ (n56 _ _ hq4) nql)
  have hpt8:=n8 _ _ (x7 _ _ hpt6 npl)
  have hlp8:=n8 _ _ (x7 _ _ hlp6 nll)
  have L8:=((L4.same n56).extX s6 x7).same n8
  have S8:=S7.trans n8
  have hsl8:=zd (H:=H7) (a:=sl) (o:=HO.lst (cutV (ns.map V.int) (some 2) (some (2+kk))))
  have few:=Wx (xs:=ns.map V.int) k0 k1
  generalize upd H7 sl (HO.lst (cutV (ns.map V.int) (some 2) (some (2+kk))))=H8 at *
  have hL:∀ {G:Hp}{zs:List V}{b:List (Int×Int)}{us:List V},G lp=some (.lst us)→LnAt G zs b→LnAt (hide [lp] G) zs b:=fun e h=>h.mono fun b xs e'=>zX (fun z=>by rw[List.mem_singleton.mp z,e] at e';cases e') e'
  have hide1:∀ {G:Hp}{b:Addr}{o:HO},lp≠b→G b=some o→hide [lp] G b=some o:=fun n e=>zX (fun z=>n (List.mem_singleton.mp z).symm) e
  refine zI (xs:=cutV (ns.map V.int) (some 2) (some (2+kk))) (fun i σ H'=>∃ (o6 o7 o8:Option V) (pvs:List V) (ps:List Pc),σ=[some (.ref sc),some (.int 0),some (.int 8),some (.ref l),some (.ref h),some (.ref lp),o6,o7,o8]∧H' lp=some (.lst pvs)∧DrAt (hide [lp] H') pvs (⟨hs,ls,m⟩::ps)∧(∀ c∈(⟨hs,ls,m⟩:Pc)::ps,(∀ x∈c.hs,x∈hs)∧c.m≤3)∧ps.length=i∧H' h=some (.lst (hs.map V.int))∧H' sl=some (.lst (cutV (ns.map V.int) (some 2) (some (2+kk))))∧Same H H') ?_ ?_ ?_ ?_
  ·refine⟨none,none,none,[.ref pt],[],rfl,hlp8,?_,fun c hc=>?_,rfl,hh8,hsl8,S8⟩
   ·exact DrAt.snoc (vs:=[]) (ps:=[]) (pc:=⟨hs,ls,m⟩) ⟨rfl,fun i v c e=>by cases e⟩ (hide1 ntp hpt8) (hide1 nhp hh8) (hide1 nqp hq8) (hL hlp8 L8) wh wl
   ·rw[List.mem_singleton.mp hc]
    exact⟨fun x hx=>hx,by show m≤3;omega⟩
  ·rintro i σ H' hi ⟨o6,o7,o8,pvs,ps,_,_,_,_,_,_,e,_⟩
   exact SqL.of e
  ·rintro i v σ H' hi ⟨o6,o7,o8,pvs,ps,rfl,hlp',D,hc,lps,hh',hsl',S'⟩
   have hil:=(List.getElem?_eq_some_iff.mp hi).1
   obtain⟨c,_,rfl⟩:=List.mem_map.mp (U8 (List.mem_of_getElem? hi))
   refine⟨_,rfl,c,60,rfl,by decide,fun l2 G1 hl2 t1 y1'=>?_⟩
   have nhl2:h≠l2:=ne_of_none hh' hl2
   have nll2:lp≠l2:=ne_of_none hlp' hl2
   refine⟨_,rfl,_,rfl,l2,h,hs,rfl,t1,y1' _ _ hh',nhl2,wh,fun p ss G2 hp0 hp wss hsub t2 z2=>?_⟩
   have npl2:=t1.ne hp0
   refine⟨_,rfl,.inl ⟨rfl,_,SqL.of (z2 _ _ (y1' _ _ hlp') nll2)⟩,_,rfl,_,rfl,_,rfl,l2,p,ss,rfl,t2,hp,npl2,wss,fun q2 rs2 ls2 G3 hq20 hq2 L2' wl2 t3 z3=>?_⟩
   have nql2:=t2.ne hq20
   refine⟨_,rfl,l2,4,rfl,t3,by decide,fun m2 G4 a0 a1 t4 z4=>?_⟩
   obtain⟨m2,rfl⟩:∃ j:Nat,m2=j:=⟨m2.toNat,by omega⟩
   have SG:Same H' G4:=(z2.trans (z3.trans z4)).fr y1' hl2
   refine⟨(by show 3≤sizeLine;decide),fun pt2 hpt2=>?_⟩
   have n5':=Same.new (o:=HO.tup [V.ref p,V.ref q2,V.int (m2:Int)]) hpt2
   have S5:=SG.trans n5'
   have nlp:lp≠p:=fun z=>by rw[← z,y1' _ _ hlp'] at hp0;cases hp0
   have nlq:lp≠q2:=fun z=>by rw[← z,z2 _ _ (y1' _ _ hlp') nll2] at hq20;cases hq20
   have nlt:lp≠pt2:=fun z=>by rw[← z,SG _ _ hlp'] at hpt2;cases hpt2
   have hp5:=n5' _ _ (z4 _ _ (z3 _ _ hp npl2) npl2)
   have hq5:=n5' _ _ (z4 _ _ hq2 nql2)
   have L5:=(L2'.extX t3 z4).same n5'
   have hpt5:=zd (H:=G4) (a:=pt2) (o:=HO.tup [V.ref p,V.ref q2,V.int (m2:Int)])
   generalize upd G4 pt2 (HO.tup [V.ref p,V.ref q2,V.int (m2:Int)])=G5 at *
   have lpv:=D.1
   rw[List.length_cons] at lpv
   refine⟨lp,_,_,rfl,rfl,S5 _ _ hlp',zj (by omega),?_⟩
   have U:Same (hide [lp] G5) (hide [lp] (upd G5 lp (HO.lst (pvs++[V.ref pt2])))):=yn (by simp)
   refine⟨_,_,_,pvs++[V.ref pt2],ps++[⟨ss,ls2,m2⟩],rfl,zd,?_,fun c' hc'=>?_,by simp[lps],?_,?_,Same.updF (S'.trans S5) flp⟩
   ·exact(((D.same (yl S5)).snoc (pc:=⟨ss,ls2,m2⟩) (hide1 nlt hpt5) (hide1 nlp hp5) (hide1 nlq hq5) (hL (S5 _ _ hlp') L5) wss wl2)).same U
   ·rw[← List.cons_append] at hc'
    rcases List.mem_append.mp hc' with z | z
    ·exact hc c' z
    ·rw[List.mem_singleton.mp z]
     exact⟨hsub,by show m2≤3;omega⟩
   ·rw[upd_ne nhp.symm]
    exact S5 _ _ hh'
   ·rw[upd_ne nsl]
    exact S5 _ _ hsl'
  ·rintro σ H' ⟨o6,o7,o8,pvs,ps,rfl,hlp',D,hc,lps,hh',hsl',S'⟩
   exact⟨_,rfl,k lp pvs ⟨hs,ls,m⟩ ps H' hlp' (D.same hide_sub) hc (by omega) S'⟩
end
end K04

namespace K04
open PySem L2
section
variable {P:Program}{w:World}{K:PySem.W.Frag}{mg:Str→Option Value}{base:Heap}{a:Ad}
def xG (n:Nat):Sp:=fun vs H Q _=>∃ (e:Ex) (v:V) (d:Addr) (kvs:List (Key×V)) (names:List Str),vs=[v,.ref d]∧Told H e v∧e.dep≤n∧e.ok names∧H d=some (.dK kvs)∧Has names kvs∧∀ H',Same H H'→Q (.int (e.val (rho kvs))) H'
theorem xx (T:Txt w K mg a):∀ n,FnOk P w K mg base CX0 (n+1) a.f_qC a.d_qC ["_law_told", "_law_names"] (xG n)
 |0=>⟨fun vs H Q E h=>by
   obtain⟨e,v,d,kvs,names,rfl,_⟩:=h
   rfl,fun A outer s H args us vs Q E _ _ _ _ h=>by
   obtain⟨e,v,d,kvs,names,_,_,hd,_⟩:=h
   have:=e.dep_pos
   omega⟩
 |n+1=>by
  have c_qC:Callee P w K mg base "_law_value" a.f_qC a.d_qC ["_law_told", "_law_names"] (n+1) (xG n):=⟨xx T n,T.g_qC,T.F_qC.kp,T.b_qC⟩
  refine T.F_qC.ok sc_qC (fun vs H Q E h=>?_) (fun cdv A outer s H vs Q E hr h=>?_)
  ·obtain⟨e,v,d,kvs,names,rfl,_⟩:=h
   rfl
  ·obtain⟨e,v,d,kvs,names,rfl,ht,hdep,ho,hd,hh,k⟩:=h
   have hu:=yH hr
   refine zy (w_pss_cons (w_ps_if (w_pt_cmpR yd (zk zw (w_pv 0) ze (fun _ _=>rfl)) w_pe_str (zo _))
    (w_pss_one (zf (zk zw (w_pv 0) ze (fun _ _=>rfl))))
    zi)
   (w_pss_cons (w_ps_if (w_pt_cmpR yd (zk zw (w_pv 0) ze (fun _ _=>rfl)) w_pe_str (zo _))
    (w_pss_one (zf (zP hu (w_pv 1) (zk zw (w_pv 0) ze (fun _ _=>rfl)) (fun _ _=>rfl))))
    zi)
   (w_pss_cons (w_ps_if (w_pt_cmpR yd (zk zw (w_pv 0) ze (fun _ _=>rfl)) w_pe_str (zo _))
    (w_pss_one (zf (zg yM (w_pe_c c_qC (hr.mono (by omega)) (w_pa_cons (zk zw (w_pv 0) ze (fun _ _=>rfl)) (w_pa_N (w_pv 1) w_pa_nil))) (zk zw (w_pv 0) ze (fun _ _=>rfl)))))
    zi)
   (w_pss_cons (Xz (i:=2) (j:=3) rfl sc_qC.nd rfl rfl (by decide) rfl rfl (zu (w_pe_c c_qC (hr.mono (by omega)) (w_pa_cons (zk zw (w_pv 0) ze (fun _ _=>rfl)) (w_pa_N (w_pv 1) w_pa_nil))) (zu (w_pe_c c_qC (hr.mono (by omega)) (w_pa_cons (zk zw (w_pv 0) ze (fun _ _=>rfl)) (w_pa_N (w_pv 1) w_pa_nil))) w_pa_nil)) rfl)
   (w_pss_cons (w_ps_if (w_pt_cmpR yd (zk zw (w_pv 0) ze (fun _ _=>rfl)) w_pe_str (zo _))
    (w_pss_one (zf (w_pe_c c_qC (hr.mono (by omega)) (w_pa_cons (zk zw (w_pv 0) (zg ye ze (zA vE (by rfl) T.n_int uJ (w_pa_cons (zG VG (w_pv 2) (w_pv 3) (zo _)) w_pa_nil))) (fun _ _=>rfl)) (w_pa_N (w_pv 1) w_pa_nil)))))
    zi)
   (w_pss_cons (w_ps_if (w_pt_cmpR yd (zk zw (w_pv 0) ze (fun _ _=>rfl)) w_pe_str (zo _))
    (w_pss_one (zf (zg ye (w_pv 2) (w_pv 3))))
    zi)
   (w_pss_cons (w_ps_if (w_pt_cmpR yd (zk zw (w_pv 0) ze (fun _ _=>rfl)) w_pe_str (zo _))
    (w_pss_one (zf (zg yg (w_pv 2) (w_pv 3))))
    zi)
   (w_pss_one (zf (zk zD (zq (zu (w_pe_callB (vD rfl) (by rfl) T.n_max bt_max (w_pa_N (w_pv 2) (w_pa_N (w_pv 3) w_pa_nil))) (zu (w_pe_callB (vC rfl) (by rfl) T.n_min bt_min (w_pa_N (w_pv 2) (w_pa_N (w_pv 3) w_pa_nil))) w_pa_nil))) (zA vE (by rfl) T.n_int uJ (w_pa_cons (zG yd (zk zw (w_pv 0) ze (fun _ _=>rfl)) w_pe_str (zo _)) w_pa_nil)) (fun _ _=>rfl))))))))))) ?_
   cases e with
   |num i =>
    obtain⟨p,rfl,hp⟩:=ht
    refine⟨_,rfl,p,_,0,_,rfl,rfl,SqT.of hp,rfl,rfl,_,rfl,iteB (by decide +kernel) ?_⟩
    exact⟨_,rfl,p,_,1,_,rfl,rfl,SqT.of hp,rfl,k _ (Same.refl H)⟩
   |name x =>
    obtain⟨p,rfl,hp⟩:=ht
    refine⟨_,rfl,p,_,0,_,rfl,rfl,SqT.of hp,rfl,rfl,_,rfl,zZ (by decide +kernel) ?_⟩
    refine⟨_,rfl,p,_,0,_,rfl,rfl,SqT.of hp,rfl,rfl,_,rfl,iteB (by decide +kernel) ?_⟩
    refine⟨_,rfl,_,rfl,p,_,1,_,rfl,rfl,SqT.of hp,rfl,d,_,rfl,?_,k _ (Same.refl H)⟩
    have:=hh.at (show x∈names from ho)
    exact this ▸ DGet.k (k:=Sum.inr x) hd
   |mod e1 i =>
    obtain⟨p,u1,rfl,hp,t1⟩:=ht
    obtain⟨⟨i1,i2⟩,o1⟩:=ho
    have hdep:e1.dep+1≤n+1:=hdep
    refine⟨_,rfl,p,_,0,_,rfl,rfl,SqT.of hp,rfl,rfl,_,rfl,zZ (by decide +kernel) ?_⟩
    refine⟨_,rfl,p,_,0,_,rfl,rfl,SqT.of hp,rfl,rfl,_,rfl,zZ (by decide +kernel) ?_⟩
    refine⟨_,rfl,p,_,0,_,rfl,rfl,SqT.of hp,rfl,rfl,_,rfl,iteB (by decide +kernel) ?_⟩
    refine⟨_,rfl,p,_,1,_,rfl,rfl,SqT.of hp,rfl,_,rfl,e1,_,d,kvs,names,rfl,t1,by omega,o1,hd,hh,fun H1 s1=>?_⟩
    exact⟨_,rfl,p,_,2,_,rfl,rfl,SqT.of (s1 _ _ hp),rfl,_,_,rfl,rfl,by omega,k _ s1⟩
   |less e1 e2 e3 e4 =>
    obtain⟨p,u1,u2,u3,u4,rfl,hp,t1,t2,t3,t4⟩:=ht
    obtain⟨o1,o2,o3,o4⟩:=ho
    have hdep:max (max e1.dep e2.dep) (max e3.dep e4.dep)+1≤n+1:=hdep
    refine⟨_,rfl,p,_,0,_,rfl,rfl,SqT.of hp,rfl,rfl,_,rfl,zZ (by decide +kernel) ?_⟩
    refine⟨_,rfl,p,_,0,_,rfl,rfl,SqT.of hp,rfl,rfl,_,rfl,zZ (by decide +kernel) ?_⟩
    refine⟨_,rfl,p,_,0,_,rfl,rfl,SqT.of hp,rfl,rfl,_,rfl,zZ (by decide +kernel) ?_⟩
    refine⟨_,rfl,p,_,1,_,rfl,rfl,SqT.of hp,rfl,_,rfl,e1,_,d,kvs,names,rfl,t1,by omega,o1,hd,hh,fun H1 s1=>?_⟩
    refine⟨_,rfl,p,_,2,_,rfl,rfl,SqT.of (s1 _ _ hp),rfl,_,rfl,e2,_,d,kvs,names,rfl,t2.same s1,by omega,o2,s1 _ _ hd,hh,fun H2 s2=>?_⟩
    refine⟨_,_,rfl,?_⟩
    have s3:=s1.trans s2
    refine⟨_,rfl,p,_,0,_,rfl,rfl,SqT.of (s3 _ _ hp),rfl,rfl,_,rfl,iteB (by decide +kernel) ?_⟩
    have k':∀ H',Same H H'→Q (.int (if e1.val (rho kvs)<e2.val (rho kvs) then e3.val (rho kvs) else e4.val (rho kvs))) H':=k
    refine⟨_,rfl,_,rfl,_,rfl,_,_,rfl,rfl,.inr ⟨_,rfl,_,_,rfl,rfl,p,_,_,if e1.val (rho kvs)<e2.val (rho kvs) then u3 else u4,rfl,rfl,SqT.of (s3 _ _ hp),?_,_,rfl,if e1.val (rho kvs)<e2.val (rho kvs) then e3 else e4,_,d,kvs,names,rfl,?_,?_,?_,s3 _ _ hd,hh,fun H4 s4=>?_⟩⟩
    ·by_cases q:e1.val (rho kvs)<e2.val (rho kvs)
     ·have q2:decide (e2.val (rho kvs)≤e1.val (rho kvs))=false:=decide_eq_false (by omega)
      rw[if_pos q,q2]
      rfl
     ·have q2:decide (e2.val (rho kvs)≤e1.val (rho kvs))=true:=decide_eq_true (by omega)
      rw[if_neg q,q2]
      rfl
    ·by_cases q:e1.val (rho kvs)<e2.val (rho kvs)
     ·rw[if_pos q,if_pos q];exact t3.same s3
     ·rw[if_neg q,if_neg q];exact t4.same s3
    ·by_cases q:e1.val (rho kvs)<e2.val (rho kvs)
     ·rw[if_pos q];omega
     ·rw[if_neg q];omega
    ·by_cases q:e1.val (rho kvs)<e2.val (rho kvs)
     ·rw[if_pos q];exact o3
     ·rw[if_neg q];exact o4
    ·have k2:=k' H4 (s3.trans s4)
     by_cases q:e1.val (rho kvs)<e2.val (rho kvs)
     ·rw[if_pos q] at k2 ⊢;exact k2
     ·rw[if_neg q] at k2 ⊢;exact k2
   |two wd e1 e2 =>
    obtain⟨p,u1,u2,rfl,hp,t1,t2⟩:=ht
    obtain⟨hw,o1,o2⟩:=ho
    have hdep:max e1.dep e2.dep+1≤n+1:=hdep
    obtain⟨w1,w2,w3,w4⟩:=WE hw
    refine⟨_,rfl,p,_,0,_,rfl,rfl,SqT.of hp,rfl,rfl,_,rfl,zZ w1 ?_⟩
    refine⟨_,rfl,p,_,0,_,rfl,rfl,SqT.of hp,rfl,rfl,_,rfl,zZ w2 ?_⟩
    refine⟨_,rfl,p,_,0,_,rfl,rfl,SqT.of hp,rfl,rfl,_,rfl,zZ w3 ?_⟩
    refine⟨_,rfl,p,_,1,_,rfl,rfl,SqT.of hp,rfl,_,rfl,e1,_,d,kvs,names,rfl,t1,by omega,o1,hd,hh,fun H1 s1=>?_⟩
    refine⟨_,rfl,p,_,2,_,rfl,rfl,SqT.of (s1 _ _ hp),rfl,_,rfl,e2,_,d,kvs,names,rfl,t2.same s1,by omega,o2,s1 _ _ hd,hh,fun H2 s2=>?_⟩
    have k':∀ H',Same H H'→Q (.int (if wd = "add" then e1.val (rho kvs)+e2.val (rho kvs) else if wd = "sub" then e1.val (rho kvs)-e2.val (rho kvs) else if wd = "min" then(if e2.val (rho kvs)<e1.val (rho kvs) then e2.val (rho kvs) else e1.val (rho kvs)) else(if e2.val (rho kvs)>e1.val (rho kvs) then e2.val (rho kvs) else e1.val (rho kvs)))) H':=k
    generalize e1.val (rho kvs)=x1 at k' ⊢
    generalize e2.val (rho kvs)=x2 at k' ⊢
    refine⟨_,_,rfl,?_⟩
    have s3:=s1.trans s2
    have hp3:=s3 _ _ hp
    refine⟨_,rfl,p,_,0,_,rfl,rfl,SqT.of hp3,rfl,rfl,_,rfl,zZ w4 ?_⟩
    have kk:=k'
    have k':=k' _ s3
    refine⟨_,rfl,p,_,0,_,rfl,rfl,SqT.of hp3,rfl,rfl,_,rfl,?_⟩
    refine ite2 (fun q=>?_) (fun q=>?_)
    ·have q':wd = "add" := by simpa using q
     rw[if_pos q'] at k'
     exact⟨_,rfl,_,rfl,_,_,rfl,rfl,k'⟩
    have q':¬ wd = "add" := by simpa using q
    have q1:=q'
    rw[if_neg q'] at k'
    refine⟨_,rfl,p,_,0,_,rfl,rfl,SqT.of hp3,rfl,rfl,_,rfl,?_⟩
    refine ite2 (fun q=>?_) (fun q=>?_)
    ·have q':wd = "sub" := by simpa using q
     rw[if_pos q'] at k'
     exact⟨_,rfl,_,rfl,_,_,rfl,rfl,k'⟩
    have q':¬ wd = "sub" := by simpa using q
    rw[if_neg q'] at k'
    refine⟨_,rfl,_,rfl,_,_,rfl,_,rfl,_,rfl,_,_,rfl,(by show 2≤sizeLine;decide),fun pe hpe=>?_⟩
    have s4:=s3.trans (Same.new (o:=HO.lst [V.int (if x2>x1 then x2 else x1),V.int (if x2<x1 then x2 else x1)]) hpe)
    have k4:=kk _ s4
    rw[if_neg q1,if_neg q'] at k4
    have hpe4:=zd (H:=H2) (a:=pe) (o:=HO.lst [V.int (if x2>x1 then x2 else x1),V.int (if x2<x1 then x2 else x1)])
    generalize upd H2 pe (HO.lst [V.int (if x2>x1 then x2 else x1),V.int (if x2<x1 then x2 else x1)])=H4 at *
    refine⟨_,rfl,p,_,0,_,rfl,rfl,SqT.of (s4 _ _ hp),rfl,rfl,.inr ⟨_,rfl,?_⟩⟩
    by_cases qm:wd = "min"
    ·rw[if_pos qm] at k4
     have e:(if decide (V.str wd=V.str "min")=true then(1:Int) else 0)=1:=by rw[qm];rfl
     rw[e]
     exact⟨pe,_,1,_,rfl,rfl,SqL.of hpe4,rfl,k4⟩
    ·rw[if_neg qm] at k4
     have e:(if decide (V.str wd=V.str "min")=true then(1:Int) else 0)=0:=if_neg (by rw[decide_eq_true_eq];intro z;exact qm (by injection z))
     rw[e]
     exact⟨pe,_,0,_,rfl,rfl,SqL.of hpe4,rfl,k4⟩
end
end K04

namespace K04
open PySem L2
section
variable {P:Program}{w:World}{K:PySem.W.Frag}{mg:Str→Option Value}{base:Heap}{a:Ad}
structure Lp (H:Hp) (pl:Addr) (v1 v2 v3 v4:V) (e1 e2 e3 e4:Ex):Prop where
 l:H pl=some (.lst [v1,v2,v3,v4])
 f:zab H e1 e2 e3 e4 v1 v2 v3 v4
theorem Lp.same {H H':Hp}{pl:Addr}{v1 v2 v3 v4:V}{e1 e2 e3 e4:Ex}(h:Lp H pl v1 v2 v3 v4 e1 e2 e3 e4) (s:Same H H'):Lp H' pl v1 v2 v3 v4 e1 e2 e3 e4:=by
 obtain⟨⟨t1,o1⟩,⟨t2,o2⟩,⟨t3,o3⟩,⟨t4,o4⟩⟩:=h.f
 exact⟨s _ _ h.l,⟨t1.same s,o1⟩,⟨t2.same s,o2⟩,⟨t3.same s,o3⟩,⟨t4.same s,o4⟩⟩
def zul:Sp:=fun vs H Q _=>∃ (h q pl dw:Addr) (rs:List V) (hs us:List Int) (ls:List (Int×Int)) (v1 v2 v3 v4:V) (e1 e2 e3 e4:Ex) (f:Int→Int) (t:Int),vs=[.ref h,.ref q,.ref pl,.ref dw,.int t]∧H h=some (.lst (hs.map V.int))∧H q=some (.lst rs)∧LnAt H rs ls∧Hs hs∧Ls hs ls∧Lp H pl v1 v2 v3 v4 e1 e2 e3 e4∧H dw=some (.dK (tabI f us))∧(∀ x∈hs,x∈us) ∧
 ∀ d ad H',H d=none→(∀ x∈hs,H (ad x)=none)→Same H H'→HrAt H' d ad hs (v7 hs ls e2 e3 f t hs)→Q (.ref d) H'
theorem zmI (T:Txt w K mg a):FnOk P w K mg base CX0 6 a.f_qD a.d_qD ["_law_hands_here", "_law_lines_here", "_law_program_here", "_law_worths", "_law_turn"] zul:=by
 have c_qw:Callee P w K mg base "_law_near" a.f_qw a.d_qw ["_law_lines_here", "_law_hand"] 1 zie:=⟨VO T,T.g_qw,T.F_qw.kp,T.b_qw⟩
 have c_qC:Callee P w K mg base "_law_value" a.f_qC a.d_qC ["_law_told", "_law_names"] 5 (xG 4):=⟨xx T 4,T.g_qC,T.F_qC.kp,T.b_qC⟩
 refine T.F_qD.ok sc_qD (fun vs H Q E h=>?_) (fun cdv A outer s H vs Q E hr h=>?_)
 ·obtain⟨h,q,pl,dw,rs,hs,us,ls,v1,v2,v3,v4,e1,e2,e3,e4,f,t,rfl,_⟩:=h
  rfl
 ·obtain⟨h,ql,pl,dw,rs0,hs,us,ls,v1,v2,v3,v4,e1,e2,e3,e4,f,t,rfl,hh,hql,L,wh,wl,hL,hdw,hus,k⟩:=h
  have hu:=yH hr
  have l12:=wh.l12
  have nd:=wb wh
  refine zy (w_pss_cons (w_ps_set (i:=5) sc_qD.nd rfl (Or.inl rfl) (zA (xm rfl) (by rfl) T.n_dict xW (w_pa_cons (zV rfl (N':=["_law_hand"]) (t:=1) (caps:=[]) ⟨rfl,rfl,rfl⟩ (zt (w_pv 0)) (fun _=>(zh (i:=0) (show(["_law_hand"]:List Str).Nodup by decide +kernel) rfl (Or.inl rfl))) (fun _=>zO) (fun _=>(zF (w_pa_N (w_pv 0) (w_pa_cons (zq w_pa_nil) w_pa_nil))))) w_pa_nil)))
   (w_pss_cons (zB PassesOwn.never rfl (zt (w_pv 0)) (zh (i:=6) sc_qD.nd rfl (Or.inl rfl))
    (w_pss_cons (w_ps_set (i:=7) sc_qD.nd rfl (Or.inl rfl) (w_pe_c c_qw (hr.mono (by omega)) (w_pa_N (w_pv 1) (w_pa_N (w_pv 6) w_pa_nil))))
    (w_pss_one (zB PassesOwn.never rfl (zt (w_pv 7)) (zh (i:=8) sc_qD.nd rfl (Or.inl rfl))
     (w_pss_cons (w_ps_set (i:=9) sc_qD.nd rfl (Or.inl rfl) (w_pe_disp (w_pps_cons w_pe_str (zP hu (w_pv 3) (w_pv 6) (fun _ _=>rfl)) (w_pps_cons w_pe_str (w_pv 6) (w_pps_cons w_pe_str (w_pv 4) (w_pps_cons w_pe_str (w_pe_callB zl (by rfl) T.n_len zN (w_pa_N (w_pv 7) w_pa_nil)) (w_pps_cons w_pe_str (w_pv 8) yj))))) rfl rfl (by intro z;cases z) (by decide)))
     (w_pss_one (w_ps_if (w_pt_cmpR op_gt (w_pe_c c_qC (hr.mono (by omega)) (w_pa_cons (zk zD (w_pv 2) ze (fun _ _=>rfl)) (w_pa_N (w_pv 9) w_pa_nil))) ze (zo _))
      (w_pss_one (w_ps_expr (yf PySem.F.plainAttrs_list PySem.F.slot_list_append PySem.F.type_list_append zH (zP hu (w_pv 5) (w_pv 8) (fun _ _=>rfl)) (wW (zF (w_pa_N (w_pv 6) (zu (w_pe_c c_qC (hr.mono (by omega)) (w_pa_cons (zk zD (w_pv 2) ze (fun _ _=>rfl)) (w_pa_N (w_pv 9) w_pa_nil))) w_pa_nil))) w_pa_nil))))
      zi)))))))
   (w_pss_one (zf (w_pv 5))))) ?_
  refine⟨_,rfl,h,rfl,⟨_,SqL.of hh⟩,fun D hD _=>?_⟩
  refine zJ (K:=K) (a:=h) (xs:=hs.map V.int) (fun i zs τ H'=>∃ (o:Option V) (qs:List Addr) (ad:Int→Addr),τ=[o]∧zs=qs.map V.ref∧qs.length=i∧(∀ (j:Nat) (q:Addr) (x:Int),qs[j]?=some q→hs[j]?=some x→H' q=some (.tup [.int x,.ref (ad x)]))∧(∀ x∈hs.take i,H (ad x)=none∧ad x≠D∧H' (ad x)=some (.lst []))∧(∀ x∈hs.take i,∀ y∈hs.take i,ad x=ad y→x=y)∧H' D=some (.lst zs)∧Same H H') ?_ ?_ ?_ ?_
  ·exact⟨none,[],fun _=>0,rfl,rfl,rfl,fun j q x h=>by simp at h,fun x hx=>by simp at hx,fun x hx=>by simp at hx,zd,Same.new hD⟩
  ·rintro i zs τ H' ⟨o,qs,ad,_,_,_,_,_,_,_,sm⟩
   exact SqL.of (sm _ _ hh)
  ·rintro i v zs τ H' hi ⟨o,qs,ad,rfl,rfl,lq,hq,had,hinj,hD',sm⟩
   obtain⟨x,hx,rfl⟩:∃ x,hs[i]?=some x∧v=.int x:=by
    rw[List.getElem?_map] at hi
    obtain⟨x,h1,h2⟩:=Option.map_eq_some_iff.mp hi
    exact⟨x,h1,h2.symm⟩
   have hil:i<hs.length:=(List.getElem?_eq_some_iff.mp hx).1
   have hnx:x∉hs.take i:=yr nd hx
   refine gn_if ?_
   refine⟨_,rfl,(by show 0≤sizeLine;decide),fun pe hpe=>?_⟩
   have n1:=Same.new (o:=HO.lst []) hpe
   refine⟨(by show 2≤sizeLine;decide),fun pt hpt=>?_⟩
   have n2:=Same.new (o:=HO.tup [V.int x,V.ref pe]) hpt
   have n12:=n1.trans n2
   have npe:pe≠D:=fun z=>by rw[z,hD'] at hpe;cases hpe
   have npt:pt≠D:=fun z=>by rw[z,n1 _ _ hD'] at hpt;cases hpt
   have old:∀ b o,H' b=some o→b≠D→upd (upd (upd H' pe (HO.lst [])) pt (HO.tup [V.int x,V.ref pe])) D (HO.lst (qs.map V.ref++[V.ref pt])) b=some o:=fun b o e nb=>by
    rw[upd_ne nb]
    exact n12 _ _ e
   have hpe2:upd (upd (upd H' pe (HO.lst [])) pt (HO.tup [V.int x,V.ref pe])) D (HO.lst (qs.map V.ref++[V.ref pt])) pe=some (.lst []):=by
    rw[upd_ne npe]
    exact n2 _ _ zd
   have tk:hs.take (i+1)=hs.take i++[x]:=by rw[List.take_add_one,hx];rfl
   refine⟨n12 _ _ hD',by rw[List.length_map,lq];exact zj (by omega),some (.int x),qs++[pt],zae ad x pe,rfl,by simp,by simp[lq],fun j q y hj hy=>?_,fun y hy=>?_,fun y hy z hz e=>?_,zd,Same.updF (sm.trans n12) hD⟩
   ·by_cases hji:j<i
    ·rw[List.getElem?_append_left (by omega)] at hj
     have h1:=hq j q y hj hy
     have hyx:¬ y=x:=fun e=>hnx (by rw[← e];exact List.mem_of_getElem? (by rw[List.getElem?_take_of_lt hji];exact hy))
     rw[putA_ne hyx]
     exact old q _ h1 (fun z=>by rw[z,hD'] at h1;cases h1)
    ·rw[List.getElem?_append_right (by omega)] at hj
     have:j=i:=by
      have:=(List.getElem?_eq_some_iff.mp hj).1
      simp at this
      omega
     subst this
     rw[lq,Nat.sub_self] at hj
     cases hj
     rw[hx] at hy
     cases hy
     rw[putA_at rfl,upd_ne npt]
     exact zd
   ·rw[tk] at hy
    by_cases e:y=x
    ·rw[putA_at e]
     exact⟨sm.free hpe,npe,hpe2⟩
    ·rw[putA_ne e]
     obtain⟨a1,a2,a3⟩:=had y ((List.mem_append.mp hy).resolve_right fun z=>e (List.mem_singleton.mp z))
     exact⟨a1,a2,old _ _ a3 a2⟩
   ·rw[tk] at hy hz
    have fr:∀ u∈hs.take i,ad u≠pe:=fun u hu z=>by rw[← z,(had u hu).2.2] at hpe;cases hpe
    by_cases ey:y=x
    ·by_cases ez:z=x
     ·rw[ey,ez]
     ·rw[putA_at ey,putA_ne ez] at e
      exact absurd e.symm (fr z ((List.mem_append.mp hz).resolve_right fun w=>ez (List.mem_singleton.mp w)))
    ·have hy':=(List.mem_append.mp hy).resolve_right fun w=>ey (List.mem_singleton.mp w)
     by_cases ez:z=x
     ·rw[putA_ne ey,putA_at ez] at e
      exact absurd e (fr y hy')
     ·rw[putA_ne ey,putA_ne ez] at e
      exact hinj y hy' z ((List.mem_append.mp hz).resolve_right fun w=>ez (List.mem_singleton.mp w)) e
  ·rintro zs τ H2 ⟨o,qs,ad,rfl,rfl,lq,hq,had,hinj,hD2,sm⟩
   rw[List.length_map] at lq
   have had:∀ x∈hs,H (ad x)=none∧ad x≠D∧H2 (ad x)=some (.lst []):=fun x hx=>had x (by rw[List.length_map,List.take_length];exact hx)
   have hinj:∀ x∈hs,∀ y∈hs,ad x=ad y→x=y:=fun x hx y hy=>hinj x (by rw[List.length_map,List.take_length];exact hx) y (by rw[List.length_map,List.take_length];exact hy)
   refine⟨D,qs,tab ad hs,rfl,hD2,by rw[lq];unfold tab;rw[List.length_map],by unfold tab;rw[List.length_map];omega,fun i q kv h1 h2=>?_,fun pd hpd=>?_⟩
   ·unfold tab at h2
    rw[List.getElem?_map] at h2
    obtain⟨x,h3,h4⟩:=Option.map_eq_some_iff.mp h2
    subst h4
    exact hq i q x h1 h3
   rw[wN (by rw[ww];exact Y1 nd)]
   have sE:=sm
   have n3:=Same.new (o:=HO.dK (tab ad hs)) hpd
   have hpd0:H pd=none:=sE.free hpd
   have had0:∀ x∈hs,H (ad x)=none:=fun x hx=>(had x hx).1
   have h0:HrAt (upd H2 pd (HO.dK (tab ad hs))) pd ad hs (v7 hs ls e2 e3 f t []):=⟨zd,hinj,fun x hx=>⟨[],n3 _ _ (had x hx).2.2,⟨rfl,fun i r p h=>by simp at h⟩,by simp⟩⟩
   have s3:=sE.trans n3
   generalize hH3:upd H2 pd (HO.dK (tab ad hs))=H3 at *
   have hh3:=s3 _ _ hh
   have nph:∀ x∈hs,h≠ad x:=fun x hx=>ne_of_none hh (had0 x hx)
   refine⟨_,rfl,h,rfl,⟨_,SqL.of hh3⟩,?_⟩
   refine zI (xs:=hs.map V.int) (fun i σ H'=>∃ o6 o7 o8 o9,σ=[some (.ref h),some (.ref ql),some (.ref pl),some (.ref dw),some (.int t),some (.ref pd),o6,o7,o8,o9]∧HrAt H' pd ad hs (v7 hs ls e2 e3 f t (hs.take i))∧Same H H') ?_ ?_ ?_ ?_
   ·exact⟨_,_,_,_,rfl,h0,s3⟩
   ·rintro i σ H' hi ⟨o6,o7,o8,o9,_,_,sm⟩
    exact SqL.of (sm _ _ hh)
   ·rintro i v σ H5 hi ⟨o6,o7,o8,o9,rfl,hr5,s5⟩
    obtain⟨sd,hsd,rfl⟩:∃ x,hs[i]?=some x∧v=.int x:=by
     rw[List.getElem?_map] at hi
     obtain⟨x,h1,h2⟩:=Option.map_eq_some_iff.mp hi
     exact⟨x,h1,h2.symm⟩
    have hsm:=List.mem_of_getElem? hsd
    have hil:i<hs.length:=(List.getElem?_eq_some_iff.mp hsd).1
    refine⟨_,rfl,_,rfl,ql,sd,rs0,hs,ls,rfl,s5 _ _ hql,L.same s5,wh,wl,fun pn H6 hpn n5 hpn6=>?_⟩
    have npn:∀ x∈hs,pn≠ad x:=fun x hx z=>by
     obtain⟨rs,h1,_⟩:=hr5.at_ x hx
     rw[← z,hpn] at h1
     cases h1
    refine⟨_,rfl,pn,rfl,⟨_,SqL.of hpn6⟩,?_⟩
    have hr6:=hr5.same n5
    have s6:=s5.trans n5
    have near_nd:(hs.filter (adB ls sd)).Nodup:=nd.filter _
    refine zI (xs:=(hs.filter (adB ls sd)).map V.int) (fun j σ H'=>∃ o8 o9,σ=[some (.ref h),some (.ref ql),some (.ref pl),some (.ref dw),some (.int t),some (.ref pd),some (.int sd),some (.ref pn),o8,o9]∧HrAt H' pd ad hs (fun x=>v7 hs ls e2 e3 f t (hs.take i) x++(if x∈(hs.filter (adB ls sd)).take j then(msg hs ls e2 e3 f t sd x).toList else[]))∧Same H H'∧H' pn=some (.lst ((hs.filter (adB ls sd)).map V.int))) ?_ ?_ ?_ ?_
    ·exact⟨_,_,rfl,hr6.congr fun x _=>by simp,s6,hpn6⟩
    ·rintro j σ H' hj ⟨o8,o9,_,_,_,hp⟩
     exact SqL.of hp
    ·rintro j v σ H7 hj ⟨o8,o9,rfl,hr7,s7,hpn7⟩
     obtain⟨y,hy,rfl⟩:∃ x,(hs.filter (adB ls sd))[j]?=some x∧v=.int x:=by
      rw[List.getElem?_map] at hj
      obtain⟨x,h1,h2⟩:=Option.map_eq_some_iff.mp hj
      exact⟨x,h1,h2.symm⟩
     have hym:=(List.mem_filter.mp (List.mem_of_getElem? hy)).1
     have hyn:y∉(hs.filter (adB ls sd)).take j:=yr near_nd hy
     have tk:(hs.filter (adB ls sd)).take (j+1)=(hs.filter (adB ls sd)).take j++[y]:=by rw[List.take_add_one,hy];rfl
     have L7:=hL.same s7
     refine fun pk hpk=>⟨_,rfl,_,rfl,dw,_,rfl,xv (Same.new hpk _ _ (s7 _ _ hdw)) (hus _ hsm),_,rfl,_,rfl,_,rfl,pn,_,rfl,.inl (SqL.of (Same.new hpk _ _ hpn7)),_,rfl,zd,kvS (f sd) sd t (deg hs ls sd) y,rfl,(by show 5≤15;decide),?_⟩
     have sk:Same H7 (upd (upd H7 pk (.dK [])) pk (.dK (mergeK [] (kvS (f sd) sd t (deg hs ls sd) y)))):=fun b o e=>by
      have hb:=ne_of_none e hpk
      rw[upd_ne hb,upd_ne hb]
      exact e
     have hkk:upd (upd H7 pk (.dK [])) pk (.dK (mergeK [] (kvS (f sd) sd t (deg hs ls sd) y))) pk=some (.dK (kvS (f sd) sd t (deg hs ls sd) y)):=zd
     generalize upd (upd H7 pk (.dK [])) pk (.dK (mergeK [] (kvS (f sd) sd t (deg hs ls sd) y)))=Hk at sk hkk ⊢
     have Lk:=L7.same sk
     obtain⟨_,⟨t2,o2,d2,_⟩,⟨t3,o3,d3,_⟩,_⟩:=Lk.f
     refine⟨_,rfl,pl,_,2,_,rfl,rfl,SqL.of Lk.l,rfl,_,rfl,e3,v3,pk,_,yt,rfl,t3,d3,o3,hkk,zk6,fun H8 s8'=>⟨_,_,rfl,rfl,_,rfl,?_⟩⟩
     have s8:=sk.trans s8'
     have hr8:=hr7.same s8
     have mdef:msg hs ls e2 e3 f t sd y=if e3.val (rho (kvS (f sd) sd t (deg hs ls sd) y))>0 then some (sd,e2.val (rho (kvS (f sd) sd t (deg hs ls sd) y))) else none:=rfl
     by_cases c:e3.val (rho (kvS (f sd) sd t (deg hs ls sd) y))>0
     ·rw[if_pos c] at mdef
      refine iteB (decide_eq_true c) ?_
      obtain⟨rs,hrs,hln,hlen⟩:=hr8.at_ y hym
      have lg:=hln.1
      have lh:=uE (hs:=hs) (ls:=ls) (e2:=e2) (e3:=e3) (f:=f) (t:=t) (S:=hs.take i) (x:=y)
      rw[if_neg hyn,List.append_nil] at lg hln
      rw[List.length_take] at lh
      refine⟨_,rfl,_,rfl,pd,V.ref (ad y),rfl,yx hr8.q hym,.inl ⟨rfl,_,SqL.of hrs⟩,_,rfl,_,rfl,pl,_,1,_,rfl,rfl,SqL.of (s8' _ _ Lk.l),rfl,_,rfl,e2,v2,pk,_,yt,rfl,t2.same s8',d2,o2,s8' _ _ hkk,zk6,fun H9 s9=>⟨(by show 2≤sizeLine;decide),fun pt hpt=>?_⟩⟩
      have n9:=s9.trans (Same.new (o:=HO.tup [V.int sd,V.int (e2.val (rho (kvS (f sd) sd t (deg hs ls sd) y)))]) hpt)
      refine⟨ad y,rs,_,rfl,rfl,n9 _ _ hrs,(by exact zj (by omega)),?_⟩
      refine⟨_,_,rfl,(hr8.same n9).app (p:=(sd,e2.val (rho (kvS (f sd) sd t (deg hs ls sd) y)))) hym (n9 _ _ hrs) (by rw[if_neg hyn,List.append_nil];exact hln.same n9) (by omega) zd ?_ ?_,fun b o e=>?_,?_⟩
      ·rw[if_neg hyn,List.append_nil,tk,if_pos (by simp),mdef]
       rfl
      ·intro x hx hne
       rw[tk]
       have:x∈(hs.filter (adB ls sd)).take j++[y]↔x∈(hs.filter (adB ls sd)).take j:=by simp[hne]
       simp only[this]
      ·rw[upd_ne (ne_of_none e (had0 y hym))]
       exact n9 _ _ (s8 _ _ (s7 _ _ e))
      ·rw[upd_ne (npn y hym)]
       exact n9 _ _ (s8 _ _ hpn7)
     ·rw[if_neg c] at mdef
      refine zZ (decide_eq_false c) ?_
      refine⟨_,_,rfl,hr8.congr fun x hx=>?_,s7.trans s8,s8 _ _ hpn7⟩
      rw[tk]
      by_cases hxy:x=y
      ·subst hxy
       rw[if_pos (by simp),if_neg hyn,mdef]
       rfl
      ·have:x∈(hs.filter (adB ls sd)).take j++[y]↔x∈(hs.filter (adB ls sd)).take j:=by simp[hxy]
       simp only[this]
    ·rintro σ H7 ⟨o8,o9,rfl,hr7,s7,hpn7⟩
     refine⟨_,_,_,_,rfl,hr7.congr fun x hx=>?_,s7⟩
     rw[List.length_map,List.take_length,List.take_add_one,hsd]
     show v7 hs ls e2 e3 f t (hs.take i++[sd]) x=_
     rw[vy]
     congr 1
     by_cases h:adB ls sd x=true
     ·rw[if_pos h,if_pos (List.mem_filter.mpr ⟨hx,h⟩)]
     ·rw[if_neg h,if_neg (fun z=>h (List.mem_filter.mp z).2)]
   ·rintro σ H5 ⟨o6,o7,o8,o9,rfl,hr5,s5⟩
    rw[List.length_map,List.take_length] at hr5
    exact⟨_,rfl,k pd ad H5 hpd0 had0 s5 hr5⟩
end
end K04

namespace K04
open PySem L2
theorem uc {τ:St}{H:Hp}{A B:Hp→Prop}(h:A H):zid τ H (fun b H5=>if b=true then A H5 else B H5):=by
 show(if true=true then A H else B H)
 rw[if_pos rfl]
 exact h
section
variable {P:Program}{w:World}{K:PySem.W.Frag}{mg:Str→Option Value}{base:Heap}{a:Ad}
def zuo:Sp:=fun vs H Q _=>∃ (h q pl dw hd:Addr) (rs:List V) (hs us:List Int) (ls:List (Int×Int)) (v1 v2 v3 v4:V) (e1 e2 e3 e4:Ex) (f:Int→Int) (t:Int) (ad:Int→Addr) (g:Int→List (Int×Int)),vs=[.ref h,.ref q,.ref pl,.ref dw,.int t,.ref hd]∧H h=some (.lst (hs.map V.int))∧H q=some (.lst rs)∧LnAt H rs ls∧Hs hs∧Ls hs ls∧Lp H pl v1 v2 v3 v4 e1 e2 e3 e4∧H dw=some (.dK (tabI f us))∧(∀ x∈hs,x∈us)∧HrAt H hd ad hs g ∧
 ∀ q' H',H q'=none→Same H H'→H' q'=some (.dK (tabI (nxt hs ls e4 f t g) hs))→Q (.ref q') H'
theorem zmK (T:Txt w K mg a):FnOk P w K mg base CX0 6 a.f_qE a.d_qE ["_law_hands_here", "_law_lines_here", "_law_program_here", "_law_worths", "_law_turn", "_law_heard_here"] zuo:=by
 have c_qw:Callee P w K mg base "_law_near" a.f_qw a.d_qw ["_law_lines_here", "_law_hand"] 1 zie:=⟨VO T,T.g_qw,T.F_qw.kp,T.b_qw⟩
 have c_qC:Callee P w K mg base "_law_value" a.f_qC a.d_qC ["_law_told", "_law_names"] 5 (xG 4):=⟨xx T 4,T.g_qC,T.F_qC.kp,T.b_qC⟩
 refine T.F_qE.ok sc_qE (fun vs H Q E h=>?_) (fun cdv A outer s H vs Q E hr h=>?_)
 ·obtain⟨h,q,pl,dw,hd,rs,hs,us,ls,v1,v2,v3,v4,e1,e2,e3,e4,f,t,ad,g,rfl,_⟩:=h
  rfl
 ·obtain⟨h,ql,pl,dw,hd,rs0,hs,us,ls,v1,v2,v3,v4,e1,e2,e3,e4,f,t,ad,g,rfl,hh,hql,L,wh,wl,hL,hdw,hus,hH,k⟩:=h
  have hu:=yH hr
  have l12:=wh.l12
  have nd:=wb wh
  refine zy (w_pss_cons (w_ps_set (i:=6) sc_qE.nd rfl (Or.inl rfl) xf)
   (w_pss_cons (zB PassesOwn.never rfl (zt (w_pv 0)) (zh (i:=7) sc_qE.nd rfl (Or.inl rfl))
    (w_pss_cons (ya (i:=8) rfl sc_qE.nd rfl (Or.inl rfl) (N':=["_law_other", "_law_number"]) (t:=2) (caps:=[]) ⟨rfl,rfl,rfl⟩ (zt (zP hu (w_pv 5) (w_pv 7) (fun _ _=>rfl))) (fun _=>(yh rfl (zr (zh (i:=0) (show(["_law_other", "_law_number"]:List Str).Nodup by decide +kernel) rfl (Or.inl rfl)) (zr (zh (i:=1) (show(["_law_other", "_law_number"]:List Str).Nodup by decide +kernel) rfl (Or.inl rfl)) zU)))) (fun _=>zO) (fun _=>(w_pv 1)))
    (w_pss_cons (w_ps_set (i:=9) sc_qE.nd rfl (Or.inl rfl) (w_pe_disp (w_pps_cons w_pe_str (zP hu (w_pv 3) (w_pv 7) (fun _ _=>rfl)) (w_pps_cons w_pe_str (w_pv 7) (w_pps_cons w_pe_str (w_pv 4) (w_pps_cons w_pe_str (w_pe_callB zl (by rfl) T.n_len zN (zu (w_pe_c c_qw (hr.mono (by omega)) (w_pa_N (w_pv 1) (w_pa_N (w_pv 7) w_pa_nil))) w_pa_nil)) yj)))) rfl rfl (by intro z;cases z) (by decide)))
    (w_pss_cons (w_ps_expr (w_pe_dupd (w_pv 9) (w_pe_disp (w_pps_cons w_pe_str (w_pe_callB (call_sumI rfl) (by rfl) T.n_sum Xd (w_pa_N (w_pv 8) w_pa_nil)) (w_pps_cons w_pe_str (wU rfl (by rfl) T.n_min (w_pa_N (w_pv 8) w_pa_nil) ze) (w_pps_cons w_pe_str (wV rfl (by rfl) T.n_max (w_pa_N (w_pv 8) w_pa_nil) ze) yj))) rfl rfl (by intro z;cases z) (by decide)) ⟨rfl,rfl,rfl,rfl⟩))
    (w_pss_cons (w_ps_dput hu (w_pv 9) w_pe_str (w_pe_callB zl (by rfl) T.n_len zN (w_pa_N (w_pv 8) w_pa_nil)) rfl)
    (w_pss_one (w_ps_dput hu (w_pv 6) (w_pv 7) (w_pe_c c_qC (hr.mono (by omega)) (w_pa_cons (zk zD (w_pv 2) ze (fun _ _=>rfl)) (w_pa_N (w_pv 9) w_pa_nil))) rfl)))))))
   (w_pss_one (zf (w_pv 6))))) ?_
  refine fun pd hpd=>?_
  have s1:=Same.new (o:=HO.dK []) hpd
  refine⟨_,rfl,h,rfl,⟨_,SqL.of (s1 _ _ hh)⟩,?_⟩
  refine zI (xs:=hs.map V.int) (fun i σ H'=>∃ o7 o8 o9,σ=[some (.ref h),some (.ref ql),some (.ref pl),some (.ref dw),some (.int t),some (.ref hd),some (.ref pd),o7,o8,o9]∧H' pd=some (.dK (tabI (nxt hs ls e4 f t g) (hs.take i)))∧Same H H') ?_ ?_ ?_ ?_
  ·exact⟨_,_,_,rfl,zd,s1⟩
  ·rintro i σ H' hi ⟨o7,o8,o9,_,_,sm⟩
   exact SqL.of (sm _ _ hh)
  ·rintro i v σ H3 hi ⟨o7,o8,o9,rfl,hpd3,s3⟩
   rw[List.getElem?_map] at hi
   obtain⟨x,hx,rfl⟩:=Option.map_eq_some_iff.mp hi
   have hxm:=List.mem_of_getElem? hx
   have hil:i<hs.length:=(List.getElem?_eq_some_iff.mp hx).1
   have hH3:=hH.same s3
   obtain⟨rs,hrs,hln,hlen⟩:=hH3.at_ x hxm
   refine⟨_,rfl,_,rfl,hd,V.ref (ad x),rfl,yx hH3.q hxm,ad x,rfl,⟨_,SqL.of hrs⟩,fun D hD _=>?_⟩
   refine zJ (K:=K) (a:=ad x) (xs:=rs) (fun j zs τ H'=>∃ o o',τ=[o,o']∧zs=(((g x).take j).map (·.2)).map V.int∧H' D=some (.lst zs)∧Same H3 H') ?_ ?_ ?_ ?_
   ·exact⟨none,none,rfl,by simp,zd,Same.new hD⟩
   ·rintro j zs τ H' ⟨o,o',_,_,_,sm⟩
    exact SqL.of (sm _ _ hrs)
   ·rintro j v zs τ H' hj ⟨o,o',rfl,rfl,hD',sm⟩
    obtain⟨pr,q,hpr,rfl,hq⟩:=hln.get hj
    have hjl:j<(g x).length:=(List.getElem?_eq_some_iff.mp hpr).1
    have lg:=hln.1
    refine⟨q,_,rfl,SqT.of (sm _ _ hq),rfl,_,_,rfl,_,_,rfl,rfl,uc ?_⟩
    refine⟨_,rfl,hD',by simp;exact zj (by omega),_,_,rfl,?_,zd,Same.updF sm hD⟩
    rw[List.take_add_one,hpr]
    simp
   ·rintro zs τ H5 ⟨o,o',rfl,rfl,hD5,sm⟩
    rw[hln.1,List.take_length] at hD5
    have s5:=s3.trans sm
    have hpd5:=sm _ _ hpd3
    generalize hns:(g x).map (·.2)=ns at *
    refine fun pk hpk=>?_
    have n6:=Same.new (o:=HO.dK []) hpk
    have S6:=s5.trans n6
    refine⟨_,rfl,_,rfl,dw,_,rfl,xv (S6 _ _ hdw) (hus _ hxm),_,rfl,_,rfl,_,rfl,_,rfl,ql,x,rs0,hs,ls,rfl,S6 _ _ hql,L.same S6,wh,wl,fun pn H7 hpn s7 hpn7=>?_⟩
    refine⟨pn,_,rfl,.inl (SqL.of hpn7),s7 _ _ zd,[(ky "worth",.int (f x)),(ky "me",.int x),(ky "round",.int t),(ky "lines",.int (deg hs ls x))],rfl,(by show 4≤15;decide),?_⟩
    have hk8:upd H7 pk (.dK (mergeK [] [(ky "worth",.int (f x)),(ky "me",.int x),(ky "round",.int t),(ky "lines",.int (deg hs ls x))])) pk=some (.dK [(ky "worth",.int (f x)),(ky "me",.int x),(ky "round",.int t),(ky "lines",.int (deg hs ls x))]):=zd
    have s8:Same H5 (upd H7 pk (.dK (mergeK [] [(ky "worth",.int (f x)),(ky "me",.int x),(ky "round",.int t),(ky "lines",.int (deg hs ls x))]))):=fun b o e=>by
     rw[upd_ne (ne_of_none e hpk)]
     exact s7 _ _ (n6 _ _ e)
    generalize upd H7 pk (.dK (mergeK [] [(ky "worth",.int (f x)),(ky "me",.int x),(ky "round",.int t),(ky "lines",.int (deg hs ls x))]))=H8 at *
    refine⟨_,rfl,pk,rfl,.inl ⟨_,.inl hk8⟩,fun pe hpe=>?_⟩
    have n9:=Same.new (o:=HO.dK []) hpe
    have hD9:=n9 _ _ (s8 _ _ hD5)
    have nke:pk≠pe:=ne_of_none hk8 hpe
    refine⟨_,rfl,D,ns,rfl,SqL.of hD9,_,rfl,D,ns,0,rfl,rfl,SqL.of hD9,fun mn hmn=>⟨_,rfl,D,ns,0,rfl,rfl,SqL.of hD9,fun mx hmx=>?_⟩⟩
    obtain rfl:=YQ hmn
    obtain rfl:=YN hmx
    refine⟨zd,[(ky "sum",.int ns.sum),(ky "least",.int (lstF ns)),(ky "most",.int (mstF ns))],rfl,(by show 3≤15;decide),pe,_,_,rfl,nke,(upd_ne nke).trans (n9 _ _ hk8),zd,(by show 4+3≤1000;decide),?_⟩
    have hk9:(upd (upd (upd H8 pe (.dK [])) pe (.dK (mergeK [] [(ky "sum",.int ns.sum),(ky "least",.int (lstF ns)),(ky "most",.int (mstF ns))]))) pk (.dK (mergeK [(ky "worth",.int (f x)),(ky "me",.int x),(ky "round",.int t),(ky "lines",.int (deg hs ls x))] (mergeK [] [(ky "sum",.int ns.sum),(ky "least",.int (lstF ns)),(ky "most",.int (mstF ns))])))) pk=some (.dK [(ky "worth",.int (f x)),(ky "me",.int x),(ky "round",.int t),(ky "lines",.int (deg hs ls x)),(ky "sum",.int ns.sum),(ky "least",.int (lstF ns)),(ky "most",.int (mstF ns))]):=zd
    have s9:Same H5 (upd (upd (upd H8 pe (.dK [])) pe (.dK (mergeK [] [(ky "sum",.int ns.sum),(ky "least",.int (lstF ns)),(ky "most",.int (mstF ns))]))) pk (.dK (mergeK [(ky "worth",.int (f x)),(ky "me",.int x),(ky "round",.int t),(ky "lines",.int (deg hs ls x))] (mergeK [] [(ky "sum",.int ns.sum),(ky "least",.int (lstF ns)),(ky "most",.int (mstF ns))])))):=fun b o e=>by
     have hb:=ne_of_none (s8 _ _ e) hpe
     rw[upd_ne (ne_of_none e hpk),upd_ne hb,upd_ne hb]
     exact s8 _ _ e
    generalize upd (upd (upd H8 pe (.dK [])) pe (.dK (mergeK [] [(ky "sum",.int ns.sum),(ky "least",.int (lstF ns)),(ky "most",.int (mstF ns))]))) pk (.dK (mergeK [(ky "worth",.int (f x)),(ky "me",.int x),(ky "round",.int t),(ky "lines",.int (deg hs ls x))] (mergeK [] [(ky "sum",.int ns.sum),(ky "least",.int (lstF ns)),(ky "most",.int (mstF ns))])))=H9 at *
    refine⟨_,rfl,D,_,rfl,.inl (SqL.of (s9 _ _ hD5)),_,rfl,pk,_,rfl,DPut.k (k:=ky "count") hk9 (zj (by show 7≤1000;decide)),?_⟩
    rw[List.length_map]
    have hk10:upd H9 pk (.dK (putK [(ky "worth",.int (f x)),(ky "me",.int x),(ky "round",.int t),(ky "lines",.int (deg hs ls x)),(ky "sum",.int ns.sum),(ky "least",.int (lstF ns)),(ky "most",.int (mstF ns))] (ky "count") (.int ns.length))) pk=some (.dK (kvR (f x) x t (deg hs ls x) ns.sum (lstF ns) (mstF ns) ns.length)):=zd
    have s10:Same H5 (upd H9 pk (.dK (putK [(ky "worth",.int (f x)),(ky "me",.int x),(ky "round",.int t),(ky "lines",.int (deg hs ls x)),(ky "sum",.int ns.sum),(ky "least",.int (lstF ns)),(ky "most",.int (mstF ns))] (ky "count") (.int ns.length)))):=Same.updF s9 hpk
    generalize upd H9 pk (.dK (putK [(ky "worth",.int (f x)),(ky "me",.int x),(ky "round",.int t),(ky "lines",.int (deg hs ls x)),(ky "sum",.int ns.sum),(ky "least",.int (lstF ns)),(ky "most",.int (mstF ns))] (ky "count") (.int ns.length)))=H10 at *
    have S10:=s5.trans s10
    have L10:=hL.same S10
    obtain⟨_,_,_,⟨t4,o4,d4,_⟩⟩:=L10.f
    refine⟨_,rfl,pl,_,3,_,rfl,rfl,SqL.of L10.l,rfl,_,rfl,e4,v4,pk,_,yP,rfl,t4,d4,o4,hk10,zv0,fun G s11=>?_⟩
    refine⟨_,rfl,_,rfl,pd,_,rfl,DPut.k (k:=.inl x) (s11 _ _ (s10 _ _ hpd5)) (by unfold tabI;rw[List.length_map,List.length_take];exact zj (by omega)),?_⟩
    refine⟨_,_,_,rfl,?_,Same.updF (S10.trans s11) hpd⟩
    rw[zd,putK_new (by rw[yW,wQ];exact yr nd hx),List.take_add_one,hx]
    subst hns
    unfold tabI
    rw[List.map_append]
    rfl
  ·rintro σ H3 ⟨o7,o8,o9,rfl,hpd3,s3⟩
   rw[List.length_map,List.take_length] at hpd3
   exact⟨_,rfl,k pd H3 hpd s3 hpd3⟩
end
end K04

namespace K04
open PySem L2
section
variable {P:Program}{w:World}{K:PySem.W.Frag}{mg:Str→Option Value}{base:Heap}{a:Ad}
def zfs:Sp:=fun vs H Q _=>∃ (lp pl:Addr) (pvs:List V) (pc:Pc) (ps:List Pc) (v1 v2 v3 v4:V) (e1 e2 e3 e4:Ex),vs=[.ref lp,.ref pl]∧H lp=some (.lst pvs)∧DrAt H pvs (pc::ps)∧Lp H pl v1 v2 v3 v4 e1 e2 e3 e4∧(∀ c∈pc::ps,∀ x∈c.hs,x∈pc.hs)∧(rdsOf (pc::ps)).length≤100 ∧
 ∀ q pw pg ws gs H',Same H H'→H' q=some (.tup [.ref pw,.ref pg])→H' pw=some (.lst (ws.map V.ref))→H' pg=some (.lst (gs.map V.ref))→RnP H' e2 e3 e4 (w0 pc.hs pc.ls e1) pc.hs (rdsOf (pc::ps)) ws gs→Q (.ref q) H'
theorem zf2 (T:Txt w K mg a):FnOk P w K mg base CX0 7 a.f_qF a.d_qF ["_law_pieces_here", "_law_program_here"] zfs:=by
 have c_qw:Callee P w K mg base "_law_near" a.f_qw a.d_qw ["_law_lines_here", "_law_hand"] 1 zie:=⟨VO T,T.g_qw,T.F_qw.kp,T.b_qw⟩
 have c_qC:Callee P w K mg base "_law_value" a.f_qC a.d_qC ["_law_told", "_law_names"] 5 (xG 4):=⟨xx T 4,T.g_qC,T.F_qC.kp,T.b_qC⟩
 have c_qD:Callee P w K mg base "_law_heard" a.f_qD a.d_qD ["_law_hands_here", "_law_lines_here", "_law_program_here", "_law_worths", "_law_turn"] 6 zul:=⟨zmI T,T.g_qD,T.F_qD.kp,T.b_qD⟩
 have c_qE:Callee P w K mg base "_law_behind" a.f_qE a.d_qE ["_law_hands_here", "_law_lines_here", "_law_program_here", "_law_worths", "_law_turn", "_law_heard_here"] 6 zuo:=⟨zmK T,T.g_qE,T.F_qE.kp,T.b_qE⟩
 refine T.F_qF.ok sc_qF (fun vs H Q E h=>?_) (fun cdv A outer s H vs Q E hr h=>?_)
 ·obtain⟨lp,pl,pvs,pc,ps,v1,v2,v3,v4,e1,e2,e3,e4,rfl,_⟩:=h
  rfl
 ·obtain⟨lp,pl,pvs,pc,ps,v1,v2,v3,v4,e1,e2,e3,e4,rfl,hlp,hPc,hL,hsub,hn,k⟩:=h
  have hu:=yH hr
  refine zy (w_pss_cons (XA (zk zD (w_pv 0) ze (fun _ _=>rfl)) (yh rfl (zr (zh (i:=2) sc_qF.nd rfl (Or.inl rfl)) (zr (zh (i:=3) sc_qF.nd rfl (Or.inl rfl)) (zr (zh (i:=4) sc_qF.nd rfl (Or.inl rfl)) zU)))))
   (w_pss_cons (w_ps_set (i:=5) sc_qF.nd rfl (Or.inl rfl) xf)
   (w_pss_cons (zB PassesOwn.never rfl (zt (w_pv 2)) (zh (i:=6) sc_qF.nd rfl (Or.inl rfl))
    (w_pss_one (w_ps_dput hu (w_pv 5) (w_pv 6) (w_pe_c c_qC (hr.mono (by omega)) (w_pa_cons (zk zD (w_pv 1) ze (fun _ _=>rfl)) (w_pa_cons (w_pe_disp (w_pps_cons w_pe_str (w_pv 6) (w_pps_cons w_pe_str (w_pe_callB zl (by rfl) T.n_len zN (zu (w_pe_c c_qw (hr.mono (by omega)) (w_pa_N (w_pv 3) (w_pa_N (w_pv 6) w_pa_nil))) w_pa_nil)) yj)) rfl rfl (by intro z;cases z) (by decide)) w_pa_nil))) rfl)))
   (w_pss_cons (w_ps_set (i:=7) sc_qF.nd rfl (Or.inl rfl) (zq (zu (zA wt (by rfl) T.n_dict xW (w_pa_N (w_pv 5) w_pa_nil)) w_pa_nil)))
   (w_pss_cons (w_ps_set (i:=8) sc_qF.nd rfl (Or.inl rfl) (zq w_pa_nil))
   (w_pss_cons (zB PassesOwn.never rfl (zt (w_pv 0)) (yh rfl (zr (zh (i:=2) sc_qF.nd rfl (Or.inl rfl)) (zr (zh (i:=3) sc_qF.nd rfl (Or.inl rfl)) (zr (zh (i:=4) sc_qF.nd rfl (Or.inl rfl)) zU))))
    (w_pss_one (zB PassesOwn.never rfl (zS rfl T.n_range (w_pa_N (w_pv 4) w_pa_nil)) (zh (i:=9) sc_qF.nd rfl (Or.inl rfl))
     (w_pss_cons (w_ps_expr (yf PySem.F.plainAttrs_list PySem.F.slot_list_append PySem.F.type_list_append zH (w_pv 8) (zu (w_pe_c c_qD (hr.mono (by omega)) (w_pa_N (w_pv 2) (w_pa_N (w_pv 3) (w_pa_N (w_pv 1) (w_pa_N (w_pv 5) (zu (w_pe_callB zl (by rfl) T.n_len zN (w_pa_N (w_pv 7) w_pa_nil)) w_pa_nil)))))) w_pa_nil)))
     (w_pss_cons (w_ps_expr (yf PySem.F.plainAttrs_list PySem.F.slot_list_append PySem.F.type_list_append zH (w_pv 7) (zu (w_pe_c c_qE (hr.mono (by omega)) (w_pa_N (w_pv 2) (w_pa_N (w_pv 3) (w_pa_N (w_pv 1) (w_pa_N (w_pv 5) (zu (w_pe_callB zl (by rfl) T.n_len zN (w_pa_N (w_pv 7) w_pa_nil)) (w_pa_cons (zk zD (w_pv 8) (xC we ze) (fun _ _=>rfl)) w_pa_nil))))))) w_pa_nil)))
     (w_pss_one (w_ps_expr (w_pe_dupd (w_pv 5) (zk zD (w_pv 7) (xC we ze) (fun _ _=>rfl)) ⟨rfl,rfl,rfl,rfl⟩))))))))
   (w_pss_one (zf (zF (w_pa_N (w_pv 7) (w_pa_N (w_pv 8) w_pa_nil))))))))))) ?_
  have lpv:0<pvs.length:=by rw[hPc.1];exact Nat.zero_lt_succ _
  have gp0:=List.getElem?_eq_getElem lpv
  obtain⟨pt,h,ql,rs,ept,hpt,hh,hql,L,wh,wl⟩:=hPc.2 0 _ pc gp0 rfl
  rw[ept] at gp0
  have l12:=wh.l12
  have nd:=wb wh
  refine⟨_,rfl,lp,_,0,_,rfl,rfl,SqL.of hlp,xY (j:=0) gp0,pt,_,rfl,SqT.of hpt,rfl,_,_,rfl,_,_,rfl,_,_,rfl,rfl,?_⟩
  refine fun dl hdl0=>?_
  have s0:=Same.new (o:=HO.dK []) hdl0
  refine⟨_,rfl,h,rfl,⟨_,SqL.of (s0 _ _ hh)⟩,?_⟩
  refine zI (xs:=pc.hs.map V.int) (fun i σ H'=>∃ o6,σ=[some (.ref lp),some (.ref pl),some (.ref h),some (.ref ql),some (.int (pc.m:Int)),some (.ref dl),o6,none,none,none]∧H' dl=some (.dK (tabI (w0 pc.hs pc.ls e1) (pc.hs.take i)))∧Same H H') ?_ ?_ ?_ ?_
  ·exact⟨_,rfl,zd,s0⟩
  ·rintro i σ H' hi ⟨o6,_,_,sm⟩
   exact SqL.of (sm _ _ hh)
  ·rintro i v σ H3 hi ⟨o6,rfl,hdl3,s3⟩
   rw[List.getElem?_map] at hi
   obtain⟨x,hx,rfl⟩:=Option.map_eq_some_iff.mp hi
   have hil:i<pc.hs.length:=(List.getElem?_eq_some_iff.mp hx).1
   refine⟨_,rfl,pl,_,0,_,rfl,rfl,SqL.of (hL.same s3).l,rfl,fun pk hpk=>?_⟩
   have n6:=Same.new (o:=HO.dK []) hpk
   have S6:=s3.trans n6
   refine⟨_,rfl,_,rfl,_,rfl,ql,x,rs,pc.hs,pc.ls,rfl,S6 _ _ hql,L.same S6,wh,wl,fun pn H7 hpn s7 hpn7=>?_⟩
   refine⟨pn,_,rfl,.inl (SqL.of hpn7),s7 _ _ zd,kvF x (deg pc.hs pc.ls x),rfl,(by show 2≤15;decide),?_⟩
   have hk8:upd H7 pk (.dK (mergeK [] (kvF x (deg pc.hs pc.ls x)))) pk=some (.dK (kvF x (deg pc.hs pc.ls x))):=zd
   have s8:Same H3 (upd H7 pk (.dK (mergeK [] (kvF x (deg pc.hs pc.ls x))))):=fun b o e=>by
    rw[upd_ne (ne_of_none e hpk)]
    exact s7 _ _ (n6 _ _ e)
   generalize upd H7 pk (.dK (mergeK [] (kvF x (deg pc.hs pc.ls x))))=H8 at *
   have L8:=hL.same (s3.trans s8)
   obtain⟨⟨t1,o1,d1,_⟩,_⟩:=L8.f
   refine⟨e1,v1,pk,_,yO,rfl,t1,d1,o1,hk8,zv1,fun G s9=>?_⟩
   refine⟨_,rfl,_,rfl,dl,_,rfl,DPut.k (k:=.inl x) (s9 _ _ (s8 _ _ hdl3)) (by unfold tabI;rw[List.length_map,List.length_take];exact zj (by omega)),?_⟩
   refine⟨_,rfl,?_,Same.updF ((s3.trans s8).trans s9) hdl0⟩
   rw[zd,putK_new (by rw[yW,wQ];exact yr nd hx),List.take_add_one,hx]
   unfold tabI
   rw[List.map_append]
   rfl
  rintro σ H1 ⟨o6,rfl,hdl1,s1⟩
  rw[List.length_map,List.take_length] at hdl1
  generalize hf0:w0 pc.hs pc.ls e1=f0 at *
  refine⟨_,rfl,dl,_,rfl,hdl1,fun q0 hq0=>⟨(by show 1≤sizeLine;decide),fun pw hpw=>?_⟩⟩
  have n2:=Same.new (o:=HO.dK (tabI f0 pc.hs)) hq0
  have n3:=Same.new (o:=HO.lst [V.ref q0]) hpw
  refine⟨(by show 0≤sizeLine;decide),fun pg hpg=>?_⟩
  have n4:=Same.new (o:=HO.lst []) hpg
  have n34:=n3.trans n4
  have n24:=n2.trans n34
  have hdl2:=n24 _ _ hdl1
  have hq2:=n34 _ _ (zd (H:=H1) (a:=q0) (o:=HO.dK (tabI f0 pc.hs)))
  have hpw2:=n4 _ _ (zd (H:=upd H1 q0 (HO.dK (tabI f0 pc.hs))) (a:=pw) (o:=HO.lst [V.ref q0]))
  have hpg2:(upd (upd (upd H1 q0 (HO.dK (tabI f0 pc.hs))) pw (HO.lst [V.ref q0])) pg (HO.lst [])) pg=some (.lst []):=zd
  have s2:=s1.trans n24
  have ndw:dl≠pw:=fun z=>by rw[← z,n2 _ _ hdl1] at hpw;cases hpw
  have ndg:dl≠pg:=fun z=>by rw[← z,n3 _ _ (n2 _ _ hdl1)] at hpg;cases hpg
  have nwg:pw≠pg:=fun z=>by rw[← z,zd] at hpg;cases hpg
  have fpw:H pw=none:=(s1.trans n2).free hpw
  have fpg:H pg=none:=(s1.trans (n2.trans n3)).free hpg
  have nq0:q0∉[dl,pw,pg]:=fun z=>by
   simp only[List.mem_cons,List.not_mem_nil,or_false] at z
   rcases z with z | z | z
   ·rw[z,hdl1] at hq0;cases hq0
   ·rw[← z,zd] at hpw;cases hpw
   ·rw[← z,n3 _ _ zd] at hpg;cases hpg
  generalize hH2:upd (upd (upd H1 q0 (HO.dK (tabI f0 pc.hs))) pw (HO.lst [V.ref q0])) pg (HO.lst [])=H2 at *
  have R0:RnS H H2 e2 e3 e4 f0 pc.hs dl pw pg [] [q0] []:=⟨hdl2,hpw2,hpg2,⟨rfl,rfl,fun q h=>by cases h;exact zX nq0 hq2,fun k q r h=>by simp at h,fun k q r h=>by simp at h⟩,s2,fun q hq=>by rw[List.mem_singleton.mp hq];exact s1.free hq0,fun q hq=>nomatch hq⟩
  refine⟨_,rfl,lp,rfl,⟨_,SqL.of (s2 _ _ hlp)⟩,?_⟩
  refine zI (xs:=pvs) (fun i σ H'=>∃ o2 o3 o4 o9 ws gs,σ=[some (.ref lp),some (.ref pl),o2,o3,o4,some (.ref dl),o6,some (.ref pw),some (.ref pg),o9]∧RnS H H' e2 e3 e4 f0 pc.hs dl pw pg (rdsOf ((pc::ps).take i)) ws gs) ?_ ?_ ?_ ?_
  ·exact⟨_,_,_,_,[q0],[],rfl,R0⟩
  ·rintro i σ H' hi ⟨o2,o3,o4,o9,ws,gs,_,R⟩
   exact SqL.of (R.sm _ _ hlp)
  ·rintro i v σ H' hi ⟨o2,o3,o4,o9,ws,gs,rfl,R⟩
   have hil:i<(pc::ps).length:=by rw[← hPc.1];exact(List.getElem?_eq_some_iff.mp hi).1
   have gpi:=List.getElem?_eq_getElem hil
   generalize (pc::ps)[i]=ci at gpi
   obtain⟨pt,h,ql,rs,rfl,hpt,hh,hql,L,wh,wl⟩:=hPc.2 i v ci hi gpi
   have hci:=hsub ci (List.mem_of_getElem? gpi)
   have rt:=uo gpi
   have rle:=WN (ps:=pc::ps) (i:=i+1)
   rw[rt,List.length_append,List.length_replicate] at rle
   generalize rdsOf ((pc::ps).take i)=rds at *
   refine⟨pt,_,rfl,SqT.of (R.sm _ _ hpt),rfl,_,_,rfl,_,_,rfl,_,_,rfl,rfl,?_⟩
   refine⟨_,rfl,(ci.m:Int),rfl,by omega,by omega,?_⟩
   rw[show((ci.m:Int)).toNat=ci.m by omega]
   refine for_range (lo:=0) (fun j σ H'=>∃ o9 ws gs,σ=[some (.ref lp),some (.ref pl),some (.ref h),some (.ref ql),some (.int (ci.m:Int)),some (.ref dl),o6,some (.ref pw),some (.ref pg),o9]∧RnS H H' e2 e3 e4 f0 pc.hs dl pw pg (rds++List.replicate j (ci.hs,ci.ls)) ws gs) ?_ ?_ ?_
   ·exact⟨_,ws,gs,rfl,by simpa using R⟩
   ·rintro j σ H3 hj ⟨o9,ws,gs,rfl,R⟩
    have er:rds++List.replicate (j+1) (ci.hs,ci.ls)=(rds++List.replicate j (ci.hs,ci.ls))++[(ci.hs,ci.ls)]:=by rw[List.replicate_succ',List.append_assoc]
    have lj:(rds++List.replicate j (ci.hs,ci.ls)).length≤100:=by simp;omega
    rw[er]
    generalize rds++List.replicate j (ci.hs,ci.ls)=rd at *
    have lw:=R.rn.lw
    have lg:=R.rn.lg
    have et:((ws.map V.ref).length:Int)=((rd.length+1:Nat):Int):=by rw[List.length_map,lw]
    refine⟨_,rfl,.inl ⟨rfl,_,SqL.of R.hpg⟩,_,rfl,_,rfl,_,rfl,_,rfl,_,rfl,pw,_,rfl,.inl (SqL.of R.hpw),?_⟩
    rw[et]
    refine⟨h,ql,pl,dl,rs,ci.hs,pc.hs,ci.ls,v1,v2,v3,v4,e1,e2,e3,e4,La e2 e3 e4 f0 rd rd.length,_,rfl,R.sm _ _ hh,R.sm _ _ hql,L.same R.sm,wh,wl,hL.same R.sm,R.hdl,hci,fun g ad H4 hg0 had0 s4 hHr=>?_⟩
    have hHr:HrAt H4 g ad ci.hs (hrd e2 e3 (ci.hs,ci.ls) (La e2 e3 e4 f0 rd rd.length) (rd.length+1)):=hHr
    refine⟨pg,_,_,rfl,rfl,s4 _ _ R.hpg,(by rw[List.length_map];exact zj (by omega)),?_⟩
    have occ:∀ b∈[dl,pw,pg],∃ o,H3 b=some o∧∀ xs,o≠.tup xs:=fun b hb=>by
     simp only[List.mem_cons,List.not_mem_nil,or_false] at hb
     rcases hb with rfl | rfl | rfl
     ·exact⟨_,R.hdl,fun xs z=>by cases z⟩
     ·exact⟨_,R.hpw,fun xs z=>by cases z⟩
     ·exact⟨_,R.hpg,fun xs z=>by cases z⟩
    have out:∀ b,H3 b=none→b∉[dl,pw,pg]:=fun b e hb=>by
     obtain⟨o,h1,_⟩:=occ b hb
     rw[h1] at e
     cases e
    have hHr4:=HrAt.hide (st:=[dl,pw,pg]) hHr (out g hg0) (fun x hx=>out _ (had0 x hx)) fun b hb xs e=>by
     obtain⟨o,h1,h2⟩:=occ b hb
     rw[s4 _ _ h1] at e
     exact h2 xs (by injection e)
    have rn4:=R.rn.same (yl (st:=[dl,pw,pg]) s4)
    have u5:Same (hide [dl,pw,pg] H4) (hide [dl,pw,pg] (upd H4 pg (HO.lst (gs.map V.ref++[V.ref g])))):=yn (by simp)
    have s5:Same H (upd H4 pg (HO.lst (gs.map V.ref++[V.ref g]))):=Same.updF (R.sm.trans s4) fpg
    have hdl5:(upd H4 pg (HO.lst (gs.map V.ref++[V.ref g]))) dl=_:=(upd_ne ndg).trans (s4 _ _ R.hdl)
    have hpw5:(upd H4 pg (HO.lst (gs.map V.ref++[V.ref g]))) pw=_:=(upd_ne nwg).trans (s4 _ _ R.hpw)
    have hpg5:(upd H4 pg (HO.lst (gs.map V.ref++[V.ref g]))) pg=some (.lst (gs.map V.ref++[V.ref g])):=zd
    have hHr5:=hHr4.same u5
    have rn5:=rn4.same u5
    generalize hH5:upd H4 pg (HO.lst (gs.map V.ref++[V.ref g]))=H5 at *
    refine⟨_,rfl,.inl ⟨rfl,_,SqL.of hpw5⟩,_,rfl,_,rfl,_,rfl,_,rfl,_,rfl,pw,_,rfl,.inl (SqL.of hpw5),_,rfl,_,rfl,pg,_,_,_,rfl,rfl,SqL.of hpg5,xX,?_⟩
    rw[et]
    refine⟨h,ql,pl,dl,g,rs,ci.hs,pc.hs,ci.ls,v1,v2,v3,v4,e1,e2,e3,e4,La e2 e3 e4 f0 rd rd.length,_,ad,hrd e2 e3 (ci.hs,ci.ls) (La e2 e3 e4 f0 rd rd.length) (rd.length+1),rfl,s5 _ _ hh,s5 _ _ hql,L.same s5,wh,wl,hL.same s5,hdl5,hci,hHr5.same hide_sub,fun q H6 hq0 s6 hq=>?_⟩
    have hq:H6 q=some (.dK (tabI (wrd e2 e3 e4 (ci.hs,ci.ls) (La e2 e3 e4 f0 rd rd.length) (rd.length+1)) ci.hs)):=hq
    refine⟨pw,_,_,rfl,rfl,s6 _ _ hpw5,(by rw[List.length_map];exact zj (by omega)),?_⟩
    have nq:q∉[dl,pw,pg]:=fun hb=>by
     simp only[List.mem_cons,List.not_mem_nil,or_false] at hb
     rcases hb with z | z | z
     ·rw[z,hdl5] at hq0;cases hq0
     ·rw[z,hpw5] at hq0;cases hq0
     ·rw[z,hpg5] at hq0;cases hq0
    have nqd:q≠dl:=fun z=>nq (by simp[z])
    have nqw:q≠pw:=fun z=>nq (by simp[z])
    have u6:=yl (st:=[dl,pw,pg]) s6
    have u7:Same (hide [dl,pw,pg] H6) (hide [dl,pw,pg] (upd H6 pw (HO.lst (ws.map V.ref++[V.ref q])))):=yn (by simp)
    have s7:Same H (upd H6 pw (HO.lst (ws.map V.ref++[V.ref q]))):=Same.updF (s5.trans s6) fpw
    have hdl7:(upd H6 pw (HO.lst (ws.map V.ref++[V.ref q]))) dl=_:=(upd_ne ndw).trans (s6 _ _ hdl5)
    have hpg7:(upd H6 pw (HO.lst (ws.map V.ref++[V.ref q]))) pg=_:=(upd_ne nwg.symm).trans (s6 _ _ hpg5)
    have hpw7:(upd H6 pw (HO.lst (ws.map V.ref++[V.ref q]))) pw=some (.lst (ws.map V.ref++[V.ref q])):=zd
    have hq7:(upd H6 pw (HO.lst (ws.map V.ref++[V.ref q]))) q=_:=(upd_ne nqw).trans hq
    have hHr7:=hHr5.same (u6.trans u7)
    have rn7:=rn5.same (u6.trans u7)
    generalize hH7:upd H6 pw (HO.lst (ws.map V.ref++[V.ref q]))=H7 at *
    have lci:=wh.l12
    refine⟨_,rfl,dl,rfl,.inl ⟨_,.inl hdl7⟩,_,rfl,_,rfl,pw,_,_,_,rfl,rfl,SqL.of hpw7,xX,q,_,_,rfl,nqd.symm,hdl7,hq7,(by unfold tabI;rw[List.length_map,List.length_map];omega),?_⟩
    rw[xN hci (wb wh)]
    have u8:Same (hide [dl,pw,pg] H7) (hide [dl,pw,pg] (upd H7 dl (HO.dK (tabI (fun y=>if y∈ci.hs then wrd e2 e3 e4 (ci.hs,ci.ls) (La e2 e3 e4 f0 rd rd.length) (rd.length+1) y else La e2 e3 e4 f0 rd rd.length y) pc.hs)))):=yn (by simp)
    refine⟨_,ws++[q],gs++[g],rfl,?_,?_,?_,(rn7.same u8).snoc (r:=(ci.hs,ci.ls)) (hHr7.same u8) (u8 _ _ (zX nq hq7)),Same.updF s7 hdl0,fun b hb=>(List.mem_append.mp hb).elim (R.fw b) (fun z=>by rw[List.mem_singleton.mp z];exact s5.free hq0),fun b hb=>(List.mem_append.mp hb).elim (R.fg b) (fun z=>by rw[List.mem_singleton.mp z];exact R.sm.free hg0)⟩
    ·rw[zd,List.length_append,List.length_singleton,zic (r:=(ci.hs,ci.ls)) (by simp),wu (Nat.le_refl _)]
     rfl
    ·rw[upd_ne ndw.symm,hpw7,List.map_append]
     rfl
    ·rw[upd_ne ndg.symm,hpg7,List.map_append]
     rfl
   ·rintro σ H3 ⟨o9,ws,gs,rfl,R⟩
    rw[← rt] at R
    exact⟨_,_,_,_,ws,gs,rfl,R⟩
  ·rintro σ H3 ⟨o2,o3,o4,o9,ws,gs,rfl,R⟩
   rw[hPc.1,List.take_length] at R
   refine⟨_,rfl,_,rfl,(by show 2≤sizeLine;decide),fun q hq=>?_⟩
   have n9:=Same.new (o:=HO.tup [V.ref pw,V.ref pg]) hq
   exact k q pw pg ws gs _ (R.sm.trans n9) zd (n9 _ _ R.hpw) (n9 _ _ R.hpg) ((R.rn.same hide_sub).same n9)
end
end K04

namespace K04
open PySem L2
theorem Wr {K:PySem.W.Frag}{H:Hp}{ns:List Int}{n:Nat}:∀ (j:Nat) x y,(ns.map V.int)[j]?=some x→(ns.map V.int)[j]?=some y→EqD K H x y ((fun _=>true) j) n:=fun j x y e1 e2=>by
 rw[e1] at e2;cases e2
 obtain⟨z,_,rfl⟩:=List.mem_map.mp (List.mem_of_getElem? e1)
 exact xb rfl
theorem Zj {K:PySem.W.Frag}{H:Hp}{a b:Addr}{x y:Int}{n:Nat}(ha:H a=some (.tup [.int x,.int y])) (hb:H b=some (.tup [.int x,.int y])):EqD K H (.ref a) (.ref b) true (n+1):=by
 by_cases hne:a=b
 ·subst hne;exact .same
 ·have:=EqD.tup (K:=K) (e:=fun _=>true) (n:=n) hne (SqT.of ha) (SqT.of hb) rfl fun j u v e1 e2=>by
   rw[e1] at e2;cases e2
   have:u∈[V.int x,V.int y]:=List.mem_of_getElem? e1
   simp only[List.mem_cons,List.not_mem_nil,or_false] at this
   rcases this with rfl | rfl
   ·exact xb rfl
   ·exact xb rfl
  have e:((List.range [V.int x,V.int y].length).all fun _=>true)=true:=by simp
  rw[e] at this
  exact this
theorem LnAt.eqD {K:PySem.W.Frag}{H:Hp}{rs zs:List V}{ls:List (Int×Int)}{n:Nat}(h1:LnAt H rs ls) (h2:LnAt H zs ls):∀ (j:Nat) x y,rs[j]?=some x→zs[j]?=some y→EqD K H x y ((fun _=>true) j) (n+1):=fun j x y e1 e2=>by
 obtain⟨p,q,hp,rfl,hq⟩:=h1.get e1
 obtain⟨p',q',hp',rfl,hq'⟩:=h2.get e2
 rw[hp] at hp'
 cases hp'
 exact Zj hq hq'
theorem WF {ad:Int→Addr}{us:List Int}{p:Key×V}(h:p∈tab ad us):∃ x∈us,p=(Sum.inl x,V.ref (ad x)):=by
 unfold tab at h
 obtain⟨x,hx,e⟩:=List.mem_map.mp h
 exact⟨x,hx,e.symm⟩
theorem Zl {f:Int→Int}{us:List Int}{p:Key×V}(h:p∈tabI f us):∃ x∈us,p=(Sum.inl x,V.int (f x)):=by
 unfold tabI at h
 obtain⟨x,hx,e⟩:=List.mem_map.mp h
 exact⟨x,hx,e.symm⟩
section
variable {X:Cx}
theorem EqP.mono {H:Hp}{x y:V}{b:Bool}{n m:Nat}(h:EqP X H x y b n) (l:n≤m):EqP X H x y b m:=fun pins σ s I A u v hu=>h pins σ s I A u v (by omega)
theorem zh5 {H:Hp}{q q':Addr}{f:Int→Int}{hs:List Int}(h1:H q=some (.dK (tabI f hs))) (h2:H q'=some (.dK (tabI f hs))):EqP X H (.ref q) (.ref q') true 2:=by
 have i:∀ p∈tabI f hs,∃ i,p.1=Sum.inl i:=fun p hp=>by
  obtain⟨x,_,rfl⟩:=Zl hp
  exact⟨x,rfl⟩
 refine EqP.dct h1 h2 rfl i i fun p hp=>?_
 obtain⟨x,hx,rfl⟩:=Zl hp
 exact⟨_,vL hx,EqP.of (xb rfl)⟩
theorem znC {H:Hp}{q q':Addr}{ad ad':Int→Addr}{g:Int→List (Int×Int)}{hs:List Int}(h1:HrAt H q ad hs g) (h2:HrAt H q' ad' hs g):EqP X H (.ref q) (.ref q') true 6:=by
 have i:∀ ad p,p∈tab ad hs→∃ i,p.1=Sum.inl i:=fun ad p hp=>by
  obtain⟨x,_,rfl⟩:=WF hp
  exact⟨x,rfl⟩
 refine EqP.dct h1.q h2.q (by unfold tab;rw[List.length_map,List.length_map]) (i ad) (i ad') fun p hp=>?_
 obtain⟨x,hx,rfl⟩:=WF hp
 obtain⟨rs,e1,l1,_⟩:=h1.at_ x hx
 obtain⟨zs,e2,l2,_⟩:=h2.at_ x hx
 exact⟨_,Zk hx,EqP.lst (SqL.of e1) (SqL.of e2) (l1.1.trans l2.1.symm) fun j u v z1 z2=>EqP.of (LnAt.eqD (n:=1) l1 l2 j u v z1 z2)⟩
variable {H:Hp}{e2 e3 e4:Ex}{f0:Int→Int}{hs0:List Int}{rds rds':List Rd}{ws gs ws' gs':List Addr}
theorem RnP.eqw (R:RnP H e2 e3 e4 f0 hs0 rds ws gs) (R':RnP H e2 e3 e4 f0 hs0 rds' ws' gs'){k:Nat}(hk:∀ i,i<k→rds[i]?=rds'[i]?){j:Nat}(hj:j≤k) (hl:j≤rds.length){u v:Addr}(h1:ws[j]?=some u) (h2:ws'[j]?=some v):EqP X H (.ref u) (.ref v) true 2:=by
 cases j with
 |zero=>exact zh5 (R.z u h1) (R'.z v h2)
 |succ j =>
  have g1:=List.getElem?_eq_getElem (l:=rds) (i:=j) (by omega)
  have g2:=(hk j (by omega)).symm.trans g1
  have a:=R.w j u _ h1 g1
  have b:=R'.w j v _ h2 g2
  rw[WB j fun i hi=>hk i (by omega)] at a
  exact zh5 a b
theorem RnP.eqg (R:RnP H e2 e3 e4 f0 hs0 rds ws gs) (R':RnP H e2 e3 e4 f0 hs0 rds' ws' gs'){k:Nat}(hk:∀ i,i<k→rds[i]?=rds'[i]?){j:Nat}(hj:j<k) (hl:j<rds.length){u v:Addr}(h1:gs[j]?=some u) (h2:gs'[j]?=some v):EqP X H (.ref u) (.ref v) true 6:=by
 have g1:=List.getElem?_eq_getElem (l:=rds) (i:=j) hl
 have g2:=(hk j hj).symm.trans g1
 obtain⟨a1,a⟩:=R.g j u _ h1 g1
 obtain⟨b1,b⟩:=R'.g j v _ h2 g2
 rw[WB j fun i hi=>hk i (by omega)] at a
 exact znC a b
theorem RnP.itw (R:RnP H e2 e3 e4 f0 hs0 rds ws gs) (R':RnP H e2 e3 e4 f0 hs0 rds' ws' gs') (h:∀ i,i<rds.length→rds[i]?=rds'[i]?):∀ (j:Nat) x y,(ws.map V.ref)[j]?=some x→((ws'.map V.ref).take (rds.length+1))[j]?=some y→EqP X H x y true 2:=fun j x y e1 e2=>by
 rw[List.getElem?_map] at e1
 obtain⟨u,h1,rfl⟩:=Option.map_eq_some_iff.mp e1
 rw[List.getElem?_take] at e2
 split at e2
 ·rw[List.getElem?_map] at e2
  obtain⟨v,h2,rfl⟩:=Option.map_eq_some_iff.mp e2
  exact R.eqw R' h (by omega) (by omega) h1 h2
 ·cases e2
theorem RnP.itg (R:RnP H e2 e3 e4 f0 hs0 rds ws gs) (R':RnP H e2 e3 e4 f0 hs0 rds' ws' gs') (h:∀ i,i<rds.length→rds[i]?=rds'[i]?):∀ (j:Nat) x y,(gs.map V.ref)[j]?=some x→((gs'.map V.ref).take rds.length)[j]?=some y→EqP X H x y true 6:=fun j x y e1 e2=>by
 rw[List.getElem?_map] at e1
 obtain⟨u,h1,rfl⟩:=Option.map_eq_some_iff.mp e1
 rw[List.getElem?_take] at e2
 split at e2
 ·rw[List.getElem?_map] at e2
  obtain⟨v,h2,rfl⟩:=Option.map_eq_some_iff.mp e2
  exact R.eqg R' h ‹_› ‹_› h1 h2
 ·cases e2
theorem RnP.lstw (R:RnP H e2 e3 e4 f0 hs0 rds ws gs) (R':RnP H e2 e3 e4 f0 hs0 rds' ws' gs') (h:∀ i,i<rds.length→rds[i]?=rds'[i]?) (hl:rds.length≤rds'.length){p q:Addr}(hp:H p=some (.lst (ws.map V.ref))) (hq:H q=some (.lst ((ws'.map V.ref).take (rds.length+1)))):EqP X H (.ref p) (.ref q) true 8 :=
 K04.EqP.mono (EqP.lst (SqL.of hp) (SqL.of hq) (by rw[List.length_take,List.length_map,List.length_map,R.lw,R'.lw];omega) (R.itw R' h)) (by decide)
theorem RnP.lstg (R:RnP H e2 e3 e4 f0 hs0 rds ws gs) (R':RnP H e2 e3 e4 f0 hs0 rds' ws' gs') (h:∀ i,i<rds.length→rds[i]?=rds'[i]?) (hl:rds.length≤rds'.length){p q:Addr}(hp:H p=some (.lst (gs.map V.ref))) (hq:H q=some (.lst ((gs'.map V.ref).take rds.length))):EqP X H (.ref p) (.ref q) true 8 :=
 EqP.lst (SqL.of hp) (SqL.of hq) (by rw[List.length_take,List.length_map,List.length_map,R.lg,R'.lg];omega) (R.itg R' h)
theorem RnP.all (R:RnP H e2 e3 e4 f0 hs0 rds ws gs):(ws.map V.ref).take (rds.length+1)=ws.map V.ref∧(gs.map V.ref).take rds.length=gs.map V.ref:=⟨List.take_of_length_le (by rw[List.length_map,R.lw];omega),List.take_of_length_le (by rw[List.length_map,R.lg];omega)⟩
end
theorem PcAt.app {a:Ad}{H:Hp}{vs us:List V}{ps qs:List Pc}(h1:PcAt a H vs ps) (h2:PcAt a H us qs):PcAt a H (vs++us) (ps++qs):=by
 have l1:=h1.1
 refine⟨by rw[List.length_append,List.length_append,h1.1,h2.1],fun i v c e1 e2=>?_⟩
 by_cases z:i<vs.length
 ·rw[List.getElem?_append_left z] at e1
  rw[List.getElem?_append_left (by omega)] at e2
  exact h1.2 i v c e1 e2
 ·rw[List.getElem?_append_right (by omega)] at e1
  rw[List.getElem?_append_right (by omega),← l1] at e2
  exact h2.2 _ v c e1 e2
theorem WebAt.hide {a:Ad}{H:Hp}{p dx oh ol d l:Addr}{hs:List Int}{ls:List (Int×Int)}{ad:Int→Addr}(w:WebAt a H p hs ls dx oh ol d ad) (n1:l≠p) (n2:l≠oh) (n3:l≠d) (n4:∀ x∈hs,l≠ad x):WebAt a (hide [l] H) p hs ls dx oh ol d ad:=by
 have h1:∀ {b:Addr}{o:HO},l≠b→H b=some o→K04.hide [l] H b=some o:=fun n e=>zX (fun z=>n (List.mem_singleton.mp z).symm) e
 exact⟨h1 n1 w.p,h1 n2 w.oh,h1 n3 w.nr.d,fun x hx=>h1 (n4 x hx) (w.nr.nb x hx)⟩
section
variable {X:Cx}{H:Hp}{e2 e3 e4:Ex}{f0:Int→Int}{hs0:List Int}{rds:List Rd}{ws gs ws' gs':List Addr}
theorem RnP.samew (R:RnP H e2 e3 e4 f0 hs0 rds ws gs) (R':RnP H e2 e3 e4 f0 hs0 rds ws' gs'){p q:Addr}(hp:H p=some (.lst (ws.map V.ref))) (hq:H q=some (.lst (ws'.map V.ref))):EqP X H (.ref p) (.ref q) true 8:=R.lstw R' (fun _ _=>rfl) (Nat.le_refl _) hp (by rw[R'.all.1];exact hq)
theorem RnP.sameg (R:RnP H e2 e3 e4 f0 hs0 rds ws gs) (R':RnP H e2 e3 e4 f0 hs0 rds ws' gs'){p q:Addr}(hp:H p=some (.lst (gs.map V.ref))) (hq:H q=some (.lst (gs'.map V.ref))):EqP X H (.ref p) (.ref q) true 8:=R.lstg R' (fun _ _=>rfl) (Nat.le_refl _) hp (by rw[R'.all.2];exact hq)
theorem zh6 {x1 x2 y1 y2:V}(h1:EqP X H x1 y1 true 8) (h2:EqP X H x2 y2 true 8):∀ (j:Nat) u v,[x1,x2][j]?=some u→[y1,y2][j]?=some v→EqP X H u v true 8:=fun j u v e1 e2=>by
 rcases j with _ | _ | j
 ·cases e1;cases e2;exact h1
 ·cases e1;cases e2;exact h2
 ·cases e1
end
theorem XJ {p:Pc}{ps:List Pc}:rdsOf (p::ps)=List.replicate p.m (p.hs,p.ls)++rdsOf ps:=rfl
theorem Vj {ps:List Pc}(h:∀ c∈ps,c.m≤3):(rdsOf ps).length≤3*ps.length:=by
 induction ps with
 |nil=>simp[rdsOf]
 |cons p ps ih =>
  rw[XJ,List.length_append,List.length_replicate,List.length_cons]
  have:=ih fun c hc=>h c (List.mem_cons_of_mem _ hc)
  have:=h p List.mem_cons_self
  omega
end K04

namespace K04
open PySem L2
section
variable {P:Program}{w:World}{K:PySem.W.Frag}{mg:Str→Option Value}{base:Heap}{a:Ad}
def spLaw (K:PySem.W.Frag):Sp:=fun vs H Q _=>∃ (a:Addr) (ns:List Int),vs=[.ref a]∧SqL K H a (ns.map V.int)∧ns.length≤63∧∀ H',Q (.bl true) H'
theorem sp_law_of {K:PySem.W.Frag}{H:Hp}{a:Addr}{ns:List Int}(hl:ns.length≤63) (hO:zib H) (hS:SqL K H a (ns.map V.int)):spLaw K [.ref a] H (fun v _=>v=.bl true) fun _ _ _=>False:=⟨a,ns,rfl,hS,hl,fun _=>rfl⟩
theorem ok_law (T:Txt w K mg a):FnOk P w K mg base CX0 26 a.f_qI a.d_qI ["_law_script"] (spLaw K):=by
 have c_qr:Callee P w K mg base "_law_cell_at" a.f_qr a.d_qr ["_law_script", "_law_k"] 1 (Yk K):=⟨YC T,T.g_qr,T.F_qr.kp,T.b_qr⟩
 have c_qy:Callee P w K mg base "_law_program" a.f_qy a.d_qy ["_law_cell"] 6 zue:=⟨zmD T,T.g_qy,T.F_qy.kp,T.b_qy⟩
 have c_qB:Callee P w K mg base "_law_program_made" a.f_qB a.d_qB ["_law_program_here"] 24 (zud a):=⟨zmC T,T.g_qB,T.F_qB.kp,T.b_qB⟩
 have c_qH:Callee P w K mg base "_law_pieces" a.f_qH a.d_qH ["_law_script", "_law_at", "_law_most"] 3 (zuc K):=⟨zmB T,T.g_qH,T.F_qH.kp,T.b_qH⟩
 have c_qF:Callee P w K mg base "_law_run" a.f_qF a.d_qF ["_law_pieces_here", "_law_program_here"] 7 zfs:=⟨zf2 T,T.g_qF,T.F_qF.kp,T.b_qF⟩
 have c_qe:Callee P w K mg base "worths_by_pieces" a.f_qe a.d_qe ["pieces", "program"] 13 (zfr a):=⟨zf1 T,T.g_qe,T.F_qe.kp,T.b_qe⟩
 have c_qf:Callee P w K mg base "heard_by_pieces" a.f_qf a.d_qf ["pieces", "program"] 13 (zfu a):=⟨zf4 T,T.g_qf,T.F_qf.kp,T.b_qf⟩
 have m_Web:Maker P w K mg base "Web" a.c_Web a.f_qa2 a.d_qa2 ["self", "hands", "lines"] 4 (zfq a):=⟨zf0 T,T.g_Web,T.mk_Web,T.b_qa2⟩
 refine T.F_qI.ok sc_qI (fun vs H Q E h=>?_) (fun cdv A outer s H vs Q E hr h=>?_)
 ·obtain⟨x,ns,rfl,_⟩:=h
  rfl
 ·obtain⟨sc,ns,rfl,hS,hlen,k⟩:=h
  have hu:=yH hr
  have un:∀ n:Nat,n≤8→(A.deeper (PyProof.Rows.envOfC "law" (defScope uR) s.heap.objs.size a.f_qI cdv)).units+n+2<cLine:=fun n hn=>by
   have:=hr.units
   omega
  refine zy (w_pss_cons (w_ps_set (i:=1) sc_qI.nd rfl (Or.inl rfl) (w_pe_c c_qH (hr.mono (by omega)) (w_pa_N (w_pv 0) (zm ze (zm ze w_pa_nil)))))
   (w_pss_cons (w_ps_set (i:=2) sc_qI.nd rfl (Or.inl rfl) (w_pe_c c_qy (hr.mono (by omega)) (zu (w_pe_c c_qr (hr.mono (by omega)) (w_pa_N (w_pv 0) (zm ze w_pa_nil))) w_pa_nil)))
   (w_pss_cons (ya (i:=3) rfl sc_qI.nd rfl (Or.inl rfl) (N':=["_law_hands_here", "_law_lines_here", "_law_many"]) (t:=3) (caps:=[]) ⟨rfl,rfl,rfl⟩ (zt (w_pv 1)) (fun _=>(yh rfl (zr (zh (i:=0) (show(["_law_hands_here", "_law_lines_here", "_law_many"]:List Str).Nodup by decide +kernel) rfl (Or.inl rfl)) (zr (zh (i:=1) (show(["_law_hands_here", "_law_lines_here", "_law_many"]:List Str).Nodup by decide +kernel) rfl (Or.inl rfl)) (zr (zh (i:=2) (show(["_law_hands_here", "_law_lines_here", "_law_many"]:List Str).Nodup by decide +kernel) rfl (Or.inl rfl)) zU))))) (fun _=>zO) (fun _=>(zF (zu (xD m_Web (hr.mono (by omega)) (w_pa_N (w_pv 0) (w_pa_N (w_pv 1) w_pa_nil))) (w_pa_N (w_pv 2) w_pa_nil)))))
   (w_pss_cons (w_ps_set (i:=4) sc_qI.nd rfl (Or.inl rfl) (zA yC (by rfl) T.n_list xV (w_pa_N (w_pv 3) w_pa_nil)))
   (w_pss_cons (w_ps_set (i:=5) sc_qI.nd rfl (Or.inl rfl) (w_pe_c c_qB (hr.mono (by omega)) (w_pa_N (w_pv 2) w_pa_nil)))
   (w_pss_cons (w_ps_set (i:=6) sc_qI.nd rfl (Or.inl rfl) (w_pe_c c_qF (hr.mono (by omega)) (w_pa_N (w_pv 1) (w_pa_N (w_pv 2) w_pa_nil))))
   (w_pss_cons (zB PassesOwn.never rfl (zS rfl T.n_range (zm ze w_pa_nil)) (zh (i:=7) sc_qI.nd rfl (Or.inl rfl))
    (w_pss_cons (w_ps_set (i:=8) sc_qI.nd rfl (Or.inl rfl) (w_pe_c c_qe (hr.mono (by omega)) (w_pa_N (w_pv 3) (w_pa_N (w_pv 5) w_pa_nil))))
    (w_pss_cons (w_ps_set (i:=9) sc_qI.nd rfl (Or.inl rfl) (w_pe_c c_qf (hr.mono (by omega)) (w_pa_N (w_pv 3) (w_pa_N (w_pv 5) w_pa_nil))))
    (w_pss_cons (w_ps_if (zk8 (Ze (w_pt_cmpR zfX (zF (w_pa_N (w_pv 8) (w_pa_N (w_pv 9) w_pa_nil))) (w_pv 6) (zo _)) (ue (w_pt_cmpR zfY (w_pe_callB zl (by rfl) T.n_len zN (w_pa_N (w_pv 3) w_pa_nil)) (w_pe_callB zl (by rfl) T.n_len zN (w_pa_N (w_pv 4) w_pa_nil)) (zo _)))))
     (w_pss_one (zf xg))
     zi)
    (w_pss_cons (zB PassesOwn.never rfl (zt (zg yA (w_pv 8) (w_pv 9))) (zh (i:=10) sc_qI.nd rfl (Or.inl rfl))
     (w_pss_one (w_ps_expr (Zh (w_pv 10)))))
    (w_pss_cons (w_ps_expr (ug PySem.F.plainAttrs_list PySem.F.slot_list_clear PySem.F.type_list_clear uz (w_pv 8)))
    (w_pss_one (w_ps_expr (ug PySem.F.plainAttrs_list PySem.F.slot_list_clear PySem.F.type_list_clear uz (w_pv 9))))))))))
   (w_pss_one (zf (zG Yz (zV rfl (N':=["_law_web", "_law_many"]) (t:=2) (caps:=[]) ⟨rfl,rfl,rfl⟩ (zt (w_pv 3)) (fun _=>(yh rfl (zr (zh (i:=0) (show(["_law_web", "_law_many"]:List Str).Nodup by decide +kernel) rfl (Or.inl rfl)) (zr (zh (i:=1) (show(["_law_web", "_law_many"]:List Str).Nodup by decide +kernel) rfl (Or.inl rfl)) zU)))) (fun _=>zO) (fun _=>(w_pv 1))) (zV rfl (N':=["_law_hands_here", "_law_lines_here", "_law_many"]) (t:=3) (caps:=[]) ⟨rfl,rfl,rfl⟩ (zt (w_pv 1)) (fun _=>(yh rfl (zr (zh (i:=0) (show(["_law_hands_here", "_law_lines_here", "_law_many"]:List Str).Nodup by decide +kernel) rfl (Or.inl rfl)) (zr (zh (i:=1) (show(["_law_hands_here", "_law_lines_here", "_law_many"]:List Str).Nodup by decide +kernel) rfl (Or.inl rfl)) (zr (zh (i:=2) (show(["_law_hands_here", "_law_lines_here", "_law_many"]:List Str).Nodup by decide +kernel) rfl (Or.inl rfl)) zU))))) (fun _=>zO) (fun _=>(w_pv 2))) (zo _))))))))))) ?_
  refine⟨_,rfl,sc,ns,rfl,hS,fun qd dvs pc ps H1 hqd D hc lps s1=>?_⟩
  refine⟨_,rfl,sc,ns,1,rfl,zua hS s1,by decide,fun c1=>?_⟩
  refine⟨c1,rfl,fun q4 v1 v2 v3 v4 e1 e2 e3 e4 H3 hq4 F4 s13=>?_⟩
  have hqd3:=s13 _ _ hqd
  have D3:=D.same s13
  have S3:=s1.trans s13
  have L3:Lp H3 q4 v1 v2 v3 v4 e1 e2 e3 e4:=⟨hq4,F4⟩
  refine⟨_,rfl,qd,rfl,⟨_,SqL.of hqd3⟩,fun lp hlp0 _=>?_⟩
  refine zJ (K:=K) (a:=qd) (xs:=dvs) (fun j zs τ H'=>∃ o1 o2 o3,τ=[o1,o2,o3]∧PcAt a (hide [lp] H') zs ((pc::ps).take j)∧zs.length=j∧H' lp=some (.lst zs)∧Same H3 H') ?_ ?_ ?_ ?_
  ·exact⟨none,none,none,rfl,⟨rfl,fun i v c e=>by cases e⟩,rfl,zd,Same.new hlp0⟩
  ·rintro j zs τ H' ⟨o1,o2,o3,_,_,_,_,sm⟩
   exact SqL.of (sm _ _ hqd3)
  ·rintro j v zs τ H' hj ⟨o1,o2,o3,rfl,Pz,lz,hlp',sm⟩
   have lD:=D3.1
   have hjl:=(List.getElem?_eq_some_iff.mp hj).1
   have gp:=List.getElem?_eq_getElem (l:=pc::ps) (i:=j) (by omega)
   generalize (pc::ps)[j]'(by omega)=c at gp
   obtain⟨pt,h,q,rs,rfl,hpt,hh,hq,L,wh,wl⟩:=(D3.same sm).2 j v c hj gp
   refine⟨pt,_,rfl,SqT.of hpt,rfl,_,_,rfl,_,_,rfl,_,_,rfl,rfl,?_⟩
   refine uc ?_
   refine⟨_,rfl,_,rfl,fun x dx nx ndx nex=>?_⟩
   have m6:Same H' (upd (upd H' dx (.own x)) x (.ins a.c_Web dx [])):=(Same.new ndx).updF nx
   refine⟨x,dx,h,q,rs,c.hs,c.ls,rfl,zd,m6 _ _ hh,m6 _ _ hq,L.same m6,wh,wl,fun oh ol d ad H7 foh fd fad x7 W7=>?_⟩
   have s7:Same H' H7:=fun b o e=>x7 b o (m6 b o e) (ne_of_none e nx)
   refine⟨rfl,_,rfl,(by show 2≤sizeLine;decide),fun t2 ht2=>?_⟩
   have n8:=Same.new (o:=HO.tup [V.ref x,V.int (c.m:Int)]) ht2
   have s8:=s7.trans n8
   have nl2:lp≠t2:=fun z=>by rw[← z,s7 _ _ hlp'] at ht2;cases ht2
   refine⟨s8 _ _ hlp',zj (by have:=lps;simp at lD;omega),_,_,_,rfl,?_,by simp[lz],zd,Same.updF (sm.trans s8) hlp0⟩
   have out:∀ {b:Addr},(upd (upd H' dx (.own x)) x (.ins a.c_Web dx [])) b=none→lp≠b:=fun e z=>by rw[← z,m6 _ _ hlp'] at e;cases e
   have Wh:=W7.hide (l:=lp) (fun z=>by rw[← z,hlp'] at nx;cases nx) (out foh) (out fd) (fun x hx=>out (fad x hx))
   have hs8:=yl (st:=[lp]) s8
   have U:Same (hide [lp] (upd H7 t2 (HO.tup [V.ref x,V.int (c.m:Int)]))) (hide [lp] (upd (upd H7 t2 (HO.tup [V.ref x,V.int (c.m:Int)])) lp (HO.lst (zs++[V.ref t2])))):=yn (by simp)
   rw[List.take_add_one,gp]
   exact((Pz.same hs8).app (PcAt.one (n:=c.m) (hs:=c.hs) (ls:=c.ls) (zX (fun z=>nl2 (List.mem_singleton.mp z).symm) zd) ⟨wh,wl,dx,oh,ol,d,ad,Wh.same (yl n8)⟩)).same U
  ·rintro zs τ H4 ⟨o1,o2,o3,rfl,Pz,lz,hlp,s4⟩
   rw[D3.1,List.take_length] at Pz
   have Pz:=Pz.same hide_sub
   have hsub:∀ c∈pc::ps,∀ x∈c.hs,x∈pc.hs:=fun c h=>(hc c h).1
   have few:=Vj fun c h=>(hc c h).2
   rw[List.length_cons] at few
   have lz':=Pz.1
   rw[List.length_cons] at lz'
   refine⟨_,rfl,lp,_,rfl,.inl (SqL.of hlp),fun lk hlk=>?_⟩
   have n5:=Same.new (o:=HO.lst zs) hlk
   have hlk5:=zd (H:=H4) (a:=lk) (o:=HO.lst zs)
   generalize upd H4 lk (HO.lst zs)=H5 at *
   have s45:=s4.trans n5
   have L5:=L3.same s45
   refine⟨_,rfl,q4,v1,v2,v3,v4,e1,e2,e3,e4,rfl,L5.l,L5.f,fun r H6 hP s6=>?_⟩
   have s36:=s45.trans s6
   refine⟨_,rfl,_,rfl,qd,q4,dvs,pc,ps,v1,v2,v3,v4,e1,e2,e3,e4,rfl,s36 _ _ hqd3,D3.same s36,L3.same s36,hsub,by omega,fun qu pwd pgd wsd gsd H7 s7 hqu hpwd hpgd Rd=>?_⟩
   have s57:=s6.trans s7
   have s47:=n5.trans s57
   have hlp7:=s47 _ _ hlp
   have P7:=Pz.same s47
   have hP7:=ProgAt.same s7 hP
   have hlk7:=s57 _ _ hlk5
   have D7:=D3.same (s36.trans s7)
   have hqd7:=(s36.trans s7) _ _ hqd3
   generalize hf0:w0 pc.hs pc.ls e1=f0 at *
   refine⟨2,rfl,by decide,by decide,?_⟩
   refine for_range (lo:=0) (n:=2) (fun i σ H'=>∃ o7 o8 o9 o10:Option V,σ=[some (.ref sc),some (.ref qd),some (.ref q4),some (.ref lp),some (.ref lk),some r,some (.ref qu),o7,o8,o9,o10]∧Same H7 H') ?_ ?_ ?_
   ·exact⟨_,_,_,_,rfl,Same.refl H7⟩
   ·rintro i σ G hi ⟨o7,o8,o9,o10,rfl,sG⟩
    refine⟨_,rfl,_,rfl,lp,zs,pc,ps,r,e1,e2,e3,e4,rfl,sG _ _ hlp7,P7.same sG,ProgAt.same sG hP7,hsub,by omega,fun pw ws gs0 G1 fpw fw s8 hpw R1=>?_⟩
    have S8:=sG.trans s8
    refine⟨_,rfl,_,rfl,lp,zs,pc,ps,r,e1,e2,e3,e4,rfl,S8 _ _ hlp7,P7.same S8,ProgAt.same S8 hP7,hsub,by omega,fun pg ws0 gs G2 fpg fg s9 hpg R2=>?_⟩
    have S9:=S8.trans s9
    have hpw9:=s9 _ _ hpw
    have R1:=R1.same s9
    rw[hf0] at R1 R2
    have npg:pw≠pg:=fun z=>by rw[← z,hpw] at fpg;cases fpg
    have fpg:=s8.free fpg
    have fr:∀ b∈ws++gs,G b=none:=fun b hb=>(List.mem_append.mp hb).elim (fw b) fun z=>s8.free (fg b z)
    refine⟨_,rfl,_,rfl,(by show 2≤sizeLine;decide),fun tq htq=>?_⟩
    have n10:=Same.new (o:=HO.tup [V.ref pw,V.ref pg]) htq
    have htq':=zd (H:=G2) (a:=tq) (o:=HO.tup [V.ref pw,V.ref pg])
    generalize upd G2 tq (HO.tup [V.ref pw,V.ref pg])=G3 at *
    have S10:=S9.trans n10
    have sg:Same G G3:=(s8.trans s9).trans n10
    have R1:=R1.same n10
    have R2:=R2.same n10
    have hpw:=n10 _ _ hpw9
    have hpg:=n10 _ _ hpg
    refine⟨_,rfl,tq,qu,_,_,8,rfl,rfl,.inr ⟨SqT.of htq',SqT.of (S10 _ _ hqu)⟩,rfl,un 8 (by omega),zh6 (R1.samew (Rd.same S10) hpw (S10 _ _ hpwd)) (R2.sameg (Rd.same S10) hpg (S10 _ _ hpgd)),_,rfl,zZ rfl ?_⟩
    refine⟨_,rfl,lp,_,rfl,.inl (SqL.of (S10 _ _ hlp7)),_,rfl,lk,_,rfl,.inl (SqL.of (S10 _ _ hlk7)),rfl,_,rfl,zZ (by rw[decide_eq_true rfl];rfl) ?_⟩
    have lw:=R1.lw
    have lg:=R2.lg
    refine⟨_,rfl,_,rfl,pw,pg,_,_,rfl,rfl,hpw,hpg,Nat.le_of_lt (zj (by simp;omega)),fun lc hlc=>?_⟩
    have n11:=Same.new (o:=HO.lst (ws.map V.ref++gs.map V.ref)) hlc
    have hlc':=zd (H:=G3) (a:=lc) (o:=HO.lst (ws.map V.ref++gs.map V.ref))
    generalize upd G3 lc (HO.lst (ws.map V.ref++gs.map V.ref))=G4 at *
    refine⟨lc,rfl,⟨_,SqL.of hlc'⟩,?_⟩
    have dct:∀ b∈ws++gs,∃ kvs,G4 b=some (.dK kvs):=fun b hb=>by
     rcases List.mem_append.mp hb with z | z
     ·obtain⟨j,hj,rfl⟩:=List.getElem_of_mem z
      cases j with
      |zero=>exact⟨_,n11 _ _ (R1.z _ (List.getElem?_eq_getElem hj))⟩
      |succ j=>exact⟨_,n11 _ _ (R1.w j _ _ (List.getElem?_eq_getElem hj) (List.getElem?_eq_getElem (by omega)))⟩
     ·obtain⟨j,hj,rfl⟩:=List.getElem_of_mem z
      obtain⟨ad,hA⟩:=R2.g j _ _ (List.getElem?_eq_getElem hj) (List.getElem?_eq_getElem (by omega))
      exact⟨_,n11 _ _ hA.q⟩
    have nd_l:∀ {F:Hp}{b c:Addr}{xs:List V}{kvs:List (Key×V)},F b=some (.lst xs)→F c=some (.dK kvs)→b≠c:=fun e1 e2 z=>by rw[z,e2] at e1;cases e1
    refine zI (xs:=ws.map V.ref++gs.map V.ref) (fun j σ H'=>∃ o10:Option V,σ=[some (.ref sc),some (.ref qd),some (.ref q4),some (.ref lp),some (.ref lk),some r,some (.ref qu),some (.int (0+(i:Int))),some (.ref pw),some (.ref pg),o10]∧H' lc=some (.lst (ws.map V.ref++gs.map V.ref))∧H' pw=some (.lst (ws.map V.ref))∧H' pg=some (.lst (gs.map V.ref))∧(∀ b∈ws++gs,∃ kvs,H' b=some (.dK kvs))∧Same G H') ?_ ?_ ?_ ?_
    ·exact⟨_,rfl,hlc',n11 _ _ hpw,n11 _ _ hpg,dct,sg.trans n11⟩
    ·rintro j σ H' hj ⟨o10,_,e,_⟩
     exact SqL.of e
    ·rintro j v σ H' hj ⟨o10,rfl,g1,g2,g3,g4,g5⟩
     rw[← List.map_append,List.getElem?_map] at hj
     obtain⟨b,hb,rfl⟩:=Option.map_eq_some_iff.mp hj
     have hbm:=List.mem_of_getElem? hb
     obtain⟨kvs,hk⟩:=g4 b hbm
     refine⟨_,rfl,b,kvs,rfl,hk,?_⟩
     refine⟨_,rfl,(upd_ne (nd_l g1 hk)).trans g1,(upd_ne (nd_l g2 hk)).trans g2,(upd_ne (nd_l g3 hk)).trans g3,fun b' hb'=>?_,Same.updF g5 (fr b hbm)⟩
     by_cases z:b'=b
     ·subst z;exact⟨_,zd⟩
     ·obtain⟨kvs',hk'⟩:=g4 b' hb'
      exact⟨kvs',(upd_ne z).trans hk'⟩
    ·rintro σ H' ⟨o10,rfl,g1,g2,g3,g4,g5⟩
     refine⟨_,rfl,.inl ⟨rfl,_,SqL.of g2⟩,pw,_,rfl,rfl,g2,?_⟩
     have g3':=(upd_ne (o:=HO.lst []) npg.symm).trans g3
     refine⟨_,rfl,.inl ⟨rfl,_,SqL.of g3'⟩,pg,_,rfl,rfl,g3',?_⟩
     exact⟨_,_,_,_,rfl,Same.updF (Same.updF (sG.trans g5) (sG.free fpw)) (sG.free fpg)⟩
   ·rintro σ G ⟨o7,o8,o9,o10,rfl,sG⟩
    have mp:∀ (i:Nat) (c:Pc),(pc::ps)[i]?=some c→(((pc::ps).take (i+1)).map fun c=>(c.m:Int)).map V.int=(((pc::ps).take i).map fun c=>(c.m:Int)).map V.int++[V.int (c.m:Int)]:=fun i c e=>by rw[List.take_add_one,e];simp
    have hlpG:=sG _ _ hlp7
    refine⟨_,rfl,lp,rfl,⟨_,SqL.of hlpG⟩,fun D1 hD1 _=>?_⟩
    refine zJ (K:=K) (a:=lp) (xs:=zs) (fun j out τ H'=>∃ o o',τ=[o,o']∧out=(((pc::ps).take j).map fun c=>(c.m:Int)).map V.int∧H' D1=some (.lst out)∧Same G H') ?_ ?_ ?_ ?_
    ·exact⟨none,none,rfl,rfl,zd,Same.new hD1⟩
    ·rintro j out τ H' ⟨o,o',_,_,_,sm⟩
     exact SqL.of (sm _ _ hlpG)
    ·rintro j v out τ H' hj ⟨o,o',rfl,rfl,hD',sm⟩
     have hjl:=(List.getElem?_eq_some_iff.mp hj).1
     have gp:=List.getElem?_eq_getElem (l:=pc::ps) (i:=j) (by rw[List.length_cons];omega)
     generalize (pc::ps)[j]'(by rw[List.length_cons];omega)=c at gp
     obtain⟨pt,p,rfl,hpt,_⟩:=(P7.same (sG.trans sm)).2 j v c hj gp
     refine⟨pt,_,rfl,SqT.of hpt,rfl,_,_,rfl,_,_,rfl,rfl,uc ?_⟩
     exact⟨_,rfl,hD',by simp;exact zj (by omega),_,_,rfl,(mp j c gp).symm,zd,Same.updF sm hD1⟩
    ·rintro out τ G1 ⟨o,o',rfl,rfl,hD1',s1'⟩
     rw[Pz.1,List.take_length] at hD1'
     have S1:=sG.trans s1'
     have hqdG:=S1 _ _ hqd7
     have DG:=D7.same S1
     refine⟨_,rfl,qd,rfl,⟨_,SqL.of hqdG⟩,fun D2 hD2 _=>?_⟩
     refine zJ (K:=K) (a:=qd) (xs:=dvs) (fun j out τ H'=>∃ o o' o'',τ=[o,o',o'']∧out=(((pc::ps).take j).map fun c=>(c.m:Int)).map V.int∧H' D2=some (.lst out)∧Same G1 H') ?_ ?_ ?_ ?_
     ·exact⟨none,none,none,rfl,rfl,zd,Same.new hD2⟩
     ·rintro j out τ H' ⟨o,o',o'',_,_,_,sm⟩
      exact SqL.of (sm _ _ hqdG)
     ·rintro j v out τ H' hj ⟨o,o',o'',rfl,rfl,hD',sm⟩
      have hjl:=(List.getElem?_eq_some_iff.mp hj).1
      have lD:=DG.1
      rw[List.length_cons] at lD
      have gp:=List.getElem?_eq_getElem (l:=pc::ps) (i:=j) (by rw[List.length_cons];omega)
      generalize (pc::ps)[j]'(by rw[List.length_cons];omega)=c at gp
      obtain⟨pt,h,q,rs,rfl,hpt,_⟩:=(DG.same sm).2 j v c hj gp
      refine⟨pt,_,rfl,SqT.of hpt,rfl,_,_,rfl,_,_,rfl,_,_,rfl,rfl,uc ?_⟩
      exact⟨_,rfl,hD',by simp;exact zj (by omega),_,_,_,rfl,(mp j c gp).symm,zd,Same.updF sm hD2⟩
     ·rintro out τ G2 ⟨o,o',o'',rfl,rfl,hD2',s2'⟩
      rw[DG.1,List.take_length] at hD2'
      refine⟨D1,D2,_,_,fun _=>true,0,rfl,rfl,.inl ⟨SqL.of (s2' _ _ hD1'),SqL.of hD2'⟩,rfl,un 0 (by omega),Wr,?_⟩
      rw[if_neg (by decide),show((List.range (((pc::ps).map fun c=>(c.m:Int)).map V.int).length).all fun _=>true)=true by simp]
      exact k _
end
end K04

noncomputable section
def PySem.W.Fast.tw5668780966378629354:=0
noncomputable def PySem.W.Fast.tw14633931826345236324:=0
def PySem.W.Fast.tw8856144728478018897:=0
noncomputable def PySem.W.Fast.tw17062198468877432609:=0
noncomputable def PySem.W.Fast.tw10598372733321371305:=0
noncomputable def PySem.W.Fast.tw11616086253799572649:=0
noncomputable def PySem.W.Fast.tw17758467707605542250:=0
noncomputable def PySem.W.Fast.tw14338876466950056905:=0
noncomputable def PySem.W.Fast.tw6496138341281078435:=0
noncomputable def PySem.W.Fast.tw6216741656489410486:=0
noncomputable def PySem.W.Fast.tw6123116592370679677:=0
noncomputable def PySem.W.Fast.tw16627384631628985244:=0
noncomputable def PySem.W.Fast.tw1688954305291010661:=0
noncomputable def PySem.W.Fast.tw8697170791317315040:=0
noncomputable def PySem.W.Fast.tw10579265108948214604:=0
noncomputable def PySem.W.Fast.tw9532633636177338432:=0
noncomputable def PySem.W.Fast.tw3299963512692046226:=0
noncomputable def PySem.W.Fast.tw9316987155075272405:=0
noncomputable def PySem.W.Fast.tw5518260327533038333:=0
noncomputable def PySem.W.Fast.tw13793158388811680729:=0
noncomputable def PySem.W.Fast.tw10330366778594210143:=0
noncomputable def PySem.W.Fast.tw2679819212127310782:=0
noncomputable def PySem.W.Fast.tw1689613642844212636:=0
noncomputable def PySem.W.Fast.tw9031915412781655692:=0
noncomputable def PySem.W.Fast.tw3858109914732617049:=0
namespace Hd
open PySem PySem.W PySem.Calls PyProof.Rows
variable (P:Params)
def tt {α:Type}(_:α):Bool:=true
noncomputable def S (i:Nat):Stmt:=PySem.Challenge.pw_beatless_k23_runs_by_pieces.main.body.getD i (.Pass ⟨0,0,0,0⟩)
noncomputable def fd (n q:Str) (s:Stmt) (g:Addr) (cl:List (Str×Addr)) (d k c m:Value) (an:Option Addr) (cd ct:Value) (b:Addr):FuncData :=
 ⟨n,q,L2.defArgs s,.stmts (L2.defBody s),L2.defScope s,g,cl,d,k,c,m,an,cd,ct,b⟩
abbrev an:Option Value:=(Option.some (.ref 6))
noncomputable def env:Env:={ scope:=PySem.Challenge.pw_beatless_k23_runs_by_pieces.main.scope,locals:=mainNs,globals:=mainNs,cells:=[],code:=(.ref 13),frame:=some 14 }
abbrev bE:List Stmt:=behindTheImports PySem.Challenge.pw_beatless_k23_runs_by_pieces
abbrev cE:Code:=.body bE env
abbrev qE:Pos:=(Pos.mk 0 0 0 0)
abbrev B:List Frame:=[topFrame qE]
noncomputable def s0 (w:World) (os:OsState):Shared:=⟨boot_heap w.params,⟨[]⟩,boot_drawn,boot_toks,os⟩
noncomputable def zs:List Str:=List.map Str.ofString ["/claim/cut.py", "<module>", "__main__", "__name__", "beatless.exprs", "__doc__", "__package__", "__loader__", "__spec__", "__annotations__", "__builtins__", "__file__", "__cached__", "_wall", "first_worths", "heard_in", "worths_behind", "run_pieces", "worths_by_pieces", "heard_by_pieces", "Expr", "k", "beatless.plain", "pieces", "program", "last", "worths", "heard", "web", "rounds", "first", "turn", "__module__", "__qualname__", "__firstlineno__", "__static_attributes__", "__dict__", "__weakref__", "Num", "__init__", "reckon", "told", "words", "self", "value", "Num.__init__", "Num.reckon", "Num.told", "Num.words", "Name", "word", "Name.__init__", "Name.reckon", "Name.told", "Name.words", "Two", "one", "other", "Two.__init__", "Two.reckon", "Two.told", "Two.words", "Mod", "inner", "number", "Mod.__init__", "Mod.reckon", "Mod.told", "Mod.words", "beatless.errors", "Less", "BeatlessError", "third", "fourth", "Less.__init__", "Less.reckon", "Less.told", "Less.words", "NoWeb", "NoHand", "beatless.programs", "NoProgram", "is_whole", "START_NAMES", "SEND_NAMES", "RENEW_NAMES", "TWO_WORDS", "MOST_WORDS", "MOST_DEEP", "is_short_number", "is_word_of", "is_divisor", "are_sound", "is_sound", "count_words", "beatless.wholes", "me", "lines", "worth", "round", "to", "sum", "least", "most", "count", "add", "sub", "min", "max", "parts", "names", "deep", "part", "expr", "beatless.webs", "Program", "MOST_HANDS", "LAST_HAND", "are_hands", "is_line", "are_lines", "near_by_hand", "first_worth", "word_to", "next_worth", "start", "send", "when", "renew", "Program.__init__", "hand", "Program.first_worth", "Program.word_to", "Program.next_worth", "hands", "ahead", "line", "seen", "near", "law_beatless_k23_runs_by_pieces", "Web", "_law_cell_at", "_law_draws", "_law_take", "_law_hands", "has_hand", "has_line", "neighbours", "groups", "group_of", "Web.__init__", "Web.hands", "Web.lines", "Web.has_hand", "Web.has_line", "Web.neighbours", "Web.groups", "Web.group_of", "own_hands", "own_lines", "_law_script", "_law_k", "_law_cell", "_law_many", "_law_found", "_law_rest", "_law_number", "_law_mixed", "_law_xs", "_law_size", "_law_lines", "_law_near", "_law_expr", "_law_program", "_law_heard_names", "_law_made", "_law_program_made", "_law_value", "_law_heard", "_law_behind", "_law_run", "_law_part", "_law_pieces", "law", "_law_hands_here", "_law_way", "_law_j", "_law_near_here", "_law_draw", "_law_at", "_law_first", "_law_send", "_law_when", "_law_told", "_law_program_here", "_law_names", "_law_one", "_law_other", "_law_pieces_here", "_law_lines_here", "_law_last", "_law_hand", "_law_worths", "_law_step", "_law_most", "_law_ys", "_law_some"]
def s (n:Nat):Str:=zs.getD n ⟨#[]⟩
def k0:Value:=.type "tuple"
def k1:Value:=.type "code"
def k2:Value:=.type "function"
def k3:Value:=.type "frame"
def k4:Value:=.type "dict"
noncomputable def k5:Value:=.builtin "__main__.__loader__#opaque"
noncomputable def k6:Value:=.type "builtin_function_or_method"
noncomputable def k7:Value:=.builtin "type.__prepare__"
def k8:Value:=.type "type"
def k9:Value:=.type "object"
def k10:Value:=.builtin "object.__new__"
def k11:Value:=.type "getset_descriptor"
noncomputable def k12:Value:=.builtin "function.__dict__"
noncomputable def k13:Value:=.builtin "function.__dict__#set"
noncomputable def k14:Value:=.builtin "ExceptionGroup.__weakref__"
def k15:Value:=.type "super"
noncomputable def k16:Value:=.builtin "object.__init_subclass__"
def k17:Value:=.type "ValueError"
def k18:Value:=.type "Exception"
def k19:Value:=.type "BaseException"
noncomputable def k20:Value:=.builtin "ValueError.__new__"
instance (n:Nat):OfNat Value n:=⟨.ref n⟩
def iv (n:Int):Value:=.int n 0
noncomputable def sv (n:Nat) (t:Tok):Value:=.str (s n) t
noncomputable def en (P:Params) (x:Nat) (t:Tok) (v:Value):DictEntry:=⟨PyData.keyHash P (s x),sv x t,v⟩
noncomputable def tO (l:Array Value):Obj:=Obj.mk k0 .none (Data.seq l 0) #[]
noncomputable def vO (l:Array Value):Obj:=Obj.mk .none .none (Data.fields l) #[]
noncomputable def cO (n q:Nat) (a b c:Tok) (l m:Int) (k:Int) (r1 r2 r3 r4 r5:Addr) (x:Int) (y:Tok):Obj:=Obj.mk k1 .none (Data.fields #[(sv n a),(sv q b),(.str (s 0) c),(.int l 0),(.int m 0),(.int 0 0),(.int 0 0),(.int k 0),(.ref r1),(.bool true),(.int 181 0),(.ref r2),.none,(.ref r3),(.ref r4),(.ref r5),(.int x 0),(.int l 0),(.str (s 0) y)]) #[]
noncomputable def uO (n q:Nat) (z:Stmt) (m:Nat) (t:Tok) (r:Addr):Obj:=Obj.mk k2 .none (Data.func (fd (s n) (s q) z 3 [] .none .none .none (sv m t) .none (.ref r) .none 0)) #[]
noncomputable def gO (n q:Nat) (z:Stmt):Obj:=Obj.mk .none .none (Data.func (fd (s n) (s q) z 0 [] .none .none .none .none .none .none .none 0)) #[]
def o0:=tO #[]
def o1:=vO #[]
noncomputable def o2:=Obj.mk k1 .none (Data.fields #[(sv 1 182),(sv 1 183),(sv 0 184),(iv 1),(iv 0),(iv 0),(iv 0),(iv 0),11,(.bool false),(iv 181),12,.none,.none,.none,.none,(iv 185),(iv 1),(sv 0 186)]) #[]
noncomputable def o3:=Obj.mk k3 .none Data.plain #[(some 13),(some 3),(some 3),.none,(some (sv 2 164)),.none,(some 0)]
abbrev N:=@BT.node
noncomputable def t14:=N (boot_o_0 P) (N (boot_o_1 P) (N (boot_o_3 P) (N (boot_o_7 P) .nil .nil) (N o0 .nil .nil)) (N (boot_o_5 P) (N (boot_o_9 P) .nil .nil) (N o2 .nil .nil))) (N (boot_o_2 P) (N (boot_o_4 P) (N (boot_o_8 P) .nil .nil) (N o1 .nil .nil)) (N (boot_o_6 P) (N (boot_o_10 P) .nil .nil) (N o3 .nil .nil)))
noncomputable def sa (w:World) (os:OsState):SharedT:=⟨(t14 w.params),15,(Life.mk [] [] [] 0 [] [] false #[] [] 0 false false false 0 [2000,10,10] false 0 true [] [] 0 false),⟨[]⟩,(Drawn.mk 0 0 0 0),187,os⟩
noncomputable def La (w:World) (os:OsState):Option (Shared×Thread):=topGo treeTable PySem.Challenge.pw_beatless_k23_runs_by_pieces w 11 an 12 (s0 w os) (topStub PySem.Challenge.pw_beatless_k23_runs_by_pieces)
noncomputable def Ra (w:World) (os:OsState):Option (Shared×Thread):=some ((sa w os).abs,⟨denote treeTable cE,cE,(Pos.mk 0 0 0 0),B⟩)
theorem qa:tt (Hd.La,Hd.Ra)=true:=by k_qdec
theorem ra:∀ w,Fast.tw11367235000924431832 w=Fast.tw15912052731592885781 w:=fun w=>by kernel_rfl
theorem ea (w:World) (os:OsState):Hd.La w os=Hd.Ra w os:=((congrFun (congrFun Fast.te11367235000924431832 w) os).trans (congrFun (ra w) os)).trans (congrFun (congrFun Fast.te15912052731592885781 w) os).symm
noncomputable def sb0 (w:World) (os:OsState):SharedT:=⟨(t14 w.params),15,(Life.mk [] [] [] 0 [] [] false #[] [] 0 false false false 0 [2000,10,10] false 0 true [] [] 0 false),⟨[]⟩,(Drawn.mk 0 0 0 0),187,os⟩
noncomputable def Lb (w:World) (os:OsState):Option (Flow×SharedT×Code×Pos):=segRunT treeTable PySem.Challenge.pw_beatless_k23_runs_by_pieces w 11 an 1 1 (sa w os) (blockOf bE env cE (Pos.mk 0 0 0 0) B)
noncomputable def Rb (w:World) (os:OsState):Option (Flow×SharedT×Code×Pos):=some (.next,sb0 w os,cE,(Pos.mk 0 0 0 0))
theorem qb:tt (Hd.Lb,Hd.Rb)=true:=by k_qdec
theorem rb:∀ w,Fast.tw16430817790641568776 w=Hd.Rb w:=fun w=>by kernel_rfl
theorem eb (w:World) (os:OsState):Hd.Lb w os=Hd.Rb w os:=(congrFun (congrFun Fast.te16430817790641568776 w) os).trans (congrFun (rb w) os)
noncomputable def zt9:List Stmt:=[S 0,S 1,S 2,S 3,S 4,S 5,S 6,S 7,S 8,S 9]
noncomputable def o4:=Obj.mk k4 .none (Data.dict #[en P 3 165 (sv 4 245),en P 5 166 .none,en P 6 167 .none,en P 7 168 k5,en P 8 169 .none,en P 9 170 6,en P 10 171 4,en P 11 173 (sv 0 172),en P 12 174 .none,en P 13 193 21,en P 14 201 26,en P 15 207 31,en P 16 213 36,en P 17 228 43,en P 18 236 50,en P 19 244 57,en P 20 266 67] 17) #[]
noncomputable def o5:=vO #[(iv 1),(iv 0),20,(iv 5),(iv 0),25,(iv 7),(iv 0),30,(iv 16),(iv 0),35,(iv 23),(iv 0),42,(iv 34),(iv 0),49,(iv 36),(iv 0),56,(iv 39),(iv 0),63]
def o6:=tO #[]
def o7:=vO #[]
def o8:=tO #[(sv 21 190)]
def o9:=tO #[]
def o10:=gO 13 13 (S 0)
noncomputable def o11:=cO 13 13 187 188 189 1 1 3 15 16 17 18 19 191 192
def o12:=uO 13 13 (S 0) 2 164 20
def o13:=tO #[]
def o14:=vO #[]
def o15:=gO 14 14 (S 2)
noncomputable def o16:=Obj.mk k1 .none (Data.fields #[(sv 14 196),(sv 14 197),(sv 0 198),(iv 5),(iv 2),(iv 0),(iv 0),(iv 3),22,(.bool true),(iv 181),23,.none,.none,.none,24,(iv 199),(iv 5),(sv 0 200)]) #[]
def o17:=uO 14 14 (S 2) 22 194 25
def o18:=tO #[]
def o19:=vO #[]
def o20:=gO 15 15 (S 3)
noncomputable def o21:=Obj.mk k1 .none (Data.fields #[(sv 15 202),(sv 15 203),(sv 0 204),(iv 7),(iv 4),(iv 0),(iv 0),(iv 3),27,(.bool true),(iv 181),28,.none,.none,.none,29,(iv 205),(iv 7),(sv 0 206)]) #[]
def o22:=uO 15 15 (S 3) 22 194 30
def o23:=tO #[]
def o24:=vO #[]
def o25:=gO 16 16 (S 4)
noncomputable def o26:=Obj.mk k1 .none (Data.fields #[(sv 16 208),(sv 16 209),(sv 0 210),(iv 16),(iv 5),(iv 0),(iv 0),(iv 3),32,(.bool true),(iv 181),33,.none,.none,.none,34,(iv 211),(iv 16),(sv 0 212)]) #[]
def o27:=uO 16 16 (S 4) 22 194 35
def o28:=tO #[]
def o29:=vO #[]
noncomputable def o30:=tO #[(sv 23 217),(sv 24 218),(sv 25 219),(sv 26 220),(sv 27 221),(sv 28 222),(sv 29 223),(sv 30 224),(sv 31 225)]
def o31:=tO #[]
def o32:=gO 17 17 (S 5)
noncomputable def o33:=cO 17 17 214 215 216 23 2 3 37 38 39 40 41 226 227
def o34:=uO 17 17 (S 5) 22 194 42
def o35:=tO #[]
def o36:=vO #[]
def o37:=tO #[(sv 23 232),(sv 24 233)]
def o38:=tO #[]
def o39:=gO 18 18 (S 6)
noncomputable def o40:=cO 18 18 229 230 231 34 2 3 44 45 46 47 48 234 235
def o41:=uO 18 18 (S 6) 22 194 49
def o42:=tO #[]
def o43:=vO #[]
def o44:=tO #[(sv 23 240),(sv 24 241)]
def o45:=tO #[]
def o46:=gO 19 19 (S 7)
noncomputable def o47:=cO 19 19 237 238 239 36 2 3 51 52 53 54 55 242 243
def o48:=uO 19 19 (S 7) 22 194 56
def o49:=tO #[]
noncomputable def o50:=Obj.mk k6 .none (Data.fields #[k7,k8]) #[]
noncomputable def o51:=Obj.mk k4 .none (Data.dict #[en P 32 254 (sv 4 245),en P 33 256 (sv 20 255),en P 34 258 (.int 39 257),en P 35 259 65] 4) #[]
def o52:=tO #[]
def o53:=vO #[]
noncomputable def o54:=Obj.mk k1 .none (Data.fields #[(sv 20 249),(sv 20 250),(sv 0 251),(iv 39),(iv 0),(iv 0),(iv 0),(iv 0),61,(.bool false),(iv 181),62,.none,.none,.none,.none,(iv 252),(iv 39),(sv 0 253)]) #[]
noncomputable def o55:=Obj.mk k3 .none Data.plain #[(some 63),(some 3),(some 60),.none,(some (sv 4 245)),.none,(some 0)]
def o56:=tO #[]
noncomputable def o57:=Obj.mk k4 .none (Data.dict #[en P 32 254 (sv 4 245),en P 34 258 (.int 39 257),en P 35 259 65,en P 36 261 68,en P 37 263 69,en P 5 264 .none] 4) #[]
noncomputable def o58:=Obj.mk k8 .none (Data.cls (ClassData.mk (s 20) [k9] [67,k9] 66 (s 20) true [] [] false .none false)) #[.none,.none,(some (sv 20 247)),(some (sv 20 255)),(some k10),(some (.bool true))]
noncomputable def o59:=Obj.mk k11 .none (Data.fields #[(sv 36 260),67,k12,k13]) #[]
noncomputable def o60:=Obj.mk k11 .none (Data.fields #[(sv 37 262),67,k14,.none]) #[]
noncomputable def o61:=Obj.mk k15 .none (Data.fields #[67,67,67]) #[]
noncomputable def o62:=Obj.mk k6 .none (Data.fields #[k16,67]) #[]
def t15:=N o54 .nil .nil
def t19:=N o62 .nil .nil
def t33:=N o56 .nil .nil
def t41:=N o60 .nil .nil
noncomputable def t49:=N (boot_o_5 P) (N (boot_o_9 P) (N o8 (N o24 t33 .nil) (N o40 .nil .nil)) (N o16 (N o32 .nil .nil) (N o48 .nil .nil))) (N o2 (N o12 (N o28 t41 .nil) (N o44 .nil .nil)) (N o20 (N o36 .nil .nil) (N o52 .nil .nil)))
def t51:=N o55 .nil .nil
def t59:=N o59 .nil .nil
def t68:=N (o57 P) .nil .nil
def t76:=N o61 .nil .nil
noncomputable def t84:=N (boot_o_6 P) (N (boot_o_10 P) (N o9 (N o25 (t68 P) .nil) (N o41 .nil .nil)) (N o17 (N o33 .nil .nil) (N o49 .nil .nil))) (N o3 (N o13 (N o29 t76 .nil) (N o45 .nil .nil)) (N o21 (N o37 .nil .nil) (N o53 .nil .nil)))
noncomputable def t85:=N (boot_o_2 P) (N (boot_o_4 P) (N (boot_o_8 P) (N o7 (N o23 t51 .nil) (N o39 .nil .nil)) (N o15 (N o31 .nil .nil) (N o47 .nil .nil))) (N o5 (N o11 (N o27 t59 .nil) (N o43 .nil .nil)) (N o19 (N o35 .nil .nil) (N (o51 P) .nil .nil)))) (t84 P)
noncomputable def t86:=N (boot_o_0 P) (N (boot_o_1 P) (N (o4 P) (N (boot_o_7 P) (N o6 (N o22 t15 .nil) (N o38 .nil .nil)) (N o14 (N o30 t19 .nil) (N o46 .nil .nil))) (N o0 (N o10 (N o26 (N o58 .nil .nil) .nil) (N o42 .nil .nil)) (N o18 (N o34 .nil .nil) (N o50 .nil .nil)))) (t49 P)) (t85 P)
noncomputable def sb1 (w:World) (os:OsState):SharedT:=⟨(t86 w.params),72,(Life.mk [] [] [] 0 [] [] false #[] [] 0 false false false 0 [2000,10,10] false 0 true [] [] 0 false),⟨[]⟩,(Drawn.mk 0 0 0 0),267,os⟩
noncomputable def L0 (w:World) (os:OsState):Option (Flow×SharedT×Code×Pos):=segRunT treeTable PySem.Challenge.pw_beatless_k23_runs_by_pieces w 11 an 1 413 (sb0 w os) (piecesOf zt9 env cE (Pos.mk 0 0 0 0) B)
noncomputable def R0 (w:World) (os:OsState):Option (Flow×SharedT×Code×Pos):=some (.next,sb1 w os,cE,(Pos.mk 39 0 40 8))
theorem q0:tt (Hd.L0,Hd.R0)=true:=by k_qdec
theorem r0:∀ w,Fast.tw4453942571644881324 w=Hd.R0 w:=fun w=>by kernel_rfl
theorem e0 (w:World) (os:OsState):Hd.L0 w os=Hd.R0 w os:=(congrFun (congrFun Fast.te4453942571644881324 w) os).trans (congrFun (r0 w) os)
def zt8:List Stmt:=[S 10]
noncomputable def o63:=Obj.mk k4 .none (Data.dict #[en P 3 165 (sv 4 245),en P 5 166 .none,en P 6 167 .none,en P 7 168 k5,en P 8 169 .none,en P 9 170 6,en P 10 171 4,en P 11 173 (sv 0 172),en P 12 174 .none,en P 13 193 21,en P 14 201 26,en P 15 207 31,en P 16 213 36,en P 17 228 43,en P 18 236 50,en P 19 244 57,en P 20 266 67,en P 38 313 109] 18) #[]
noncomputable def o64:=vO #[(iv 1),(iv 0),20,(iv 5),(iv 0),25,(iv 7),(iv 0),30,(iv 16),(iv 0),35,(iv 23),(iv 0),42,(iv 34),(iv 0),49,(iv 36),(iv 0),56,(iv 39),(iv 0),63,(iv 41),(iv 0),77]
noncomputable def o65:=Obj.mk k8 .none (Data.cls (ClassData.mk (s 20) [k9] [67,k9] 66 (s 20) true [] [109] false .none false)) #[.none,.none,(some (sv 20 247)),(some (sv 20 255)),(some k10),(some (.bool true))]
def o66:=tO #[67]
noncomputable def o67:=Obj.mk k6 .none (Data.fields #[k7,k8]) #[]
noncomputable def o68:=Obj.mk k4 .none (Data.dict #[en P 32 274 (sv 4 245),en P 33 276 (sv 38 275),en P 34 278 (.int 41 277),en P 39 286 85,en P 40 294 92,en P 41 301 99,en P 42 308 106,en P 35 310 107] 8) #[]
def o69:=tO #[]
noncomputable def o70:=vO #[(iv 43),(iv 4),84,(iv 46),(iv 4),91,(iv 49),(iv 4),98,(iv 52),(iv 4),105]
noncomputable def o71:=Obj.mk k1 .none (Data.fields #[(sv 38 269),(sv 38 270),(sv 0 271),(iv 41),(iv 0),(iv 0),(iv 0),(iv 0),75,(.bool false),(iv 181),76,.none,.none,.none,.none,(iv 272),(iv 41),(sv 0 273)]) #[]
noncomputable def o72:=Obj.mk k3 .none Data.plain #[(some 77),(some 3),(some 74),.none,(some (sv 4 245)),.none,(some 0)]
def o73:=tO #[]
def o74:=vO #[]
def o75:=tO #[(sv 43 282),(sv 44 283)]
def o76:=tO #[]
def o77:=gO 39 45 (L2.inClass (S 10) 0)
noncomputable def o78:=cO 39 45 279 280 281 43 2 3 79 80 81 82 83 284 285
noncomputable def o79:=uO 39 45 (L2.inClass (S 10) 0) 4 245 84
def o80:=tO #[]
def o81:=vO #[]
def o82:=tO #[(sv 43 290),(sv 26 291)]
def o83:=tO #[]
def o84:=gO 40 46 (L2.inClass (S 10) 1)
noncomputable def o85:=cO 40 46 287 288 289 46 2 3 86 87 88 89 90 292 293
noncomputable def o86:=uO 40 46 (L2.inClass (S 10) 1) 4 245 91
def o87:=tO #[]
def o88:=vO #[]
def o89:=tO #[(sv 43 298)]
def o90:=tO #[]
def o91:=gO 41 47 (L2.inClass (S 10) 2)
noncomputable def o92:=cO 41 47 295 296 297 49 1 3 93 94 95 96 97 299 300
noncomputable def o93:=uO 41 47 (L2.inClass (S 10) 2) 4 245 98
def o94:=tO #[]
def o95:=vO #[]
def o96:=tO #[(sv 43 305)]
def o97:=tO #[]
def o98:=gO 42 48 (L2.inClass (S 10) 3)
noncomputable def o99:=cO 42 48 302 303 304 52 1 3 100 101 102 103 104 306 307
noncomputable def YJ:=uO 42 48 (L2.inClass (S 10) 3) 4 245 105
def YI:=tO #[(sv 44 309)]
noncomputable def YH:=Obj.mk k4 .none (Data.dict #[en P 32 274 (sv 4 245),en P 34 278 (.int 41 277),en P 39 286 85,en P 40 294 92,en P 41 301 99,en P 42 308 106,en P 35 310 107,en P 5 311 .none] 2) #[]
noncomputable def YG:=Obj.mk k8 .none (Data.cls (ClassData.mk (s 38) [67] [109,67,k9] 108 (s 38) true [] [] false .none false)) #[(some 72),.none,(some (sv 38 267)),(some (sv 38 275)),(some k10),(some (.bool true))]
noncomputable def X8:=Obj.mk k15 .none (Data.fields #[109,109,109]) #[]
noncomputable def X7:=Obj.mk k6 .none (Data.fields #[k16,109]) #[]
def t87:=N o89 .nil .nil
def t90:=N X7 .nil .nil
def t93:=N o97 .nil .nil
def ztZ:=N o93 .nil .nil
def ztY:=N YI .nil .nil
def ztX:=N o85 .nil .nil
def ztW:=N o91 .nil .nil
def ztV:=N o99 .nil .nil
def ztU:=N o83 .nil .nil
def ztT:=N o95 .nil .nil
def ztS:=N YG .nil .nil
def ztR:=N o87 .nil .nil
noncomputable def zwt:=N (boot_o_5 P) (N (boot_o_9 P) (N o8 (N o24 t33 ztW) (N o40 (N o75 .nil .nil) .nil)) (N o16 (N o32 (N o67 .nil .nil) ztV) (N o48 ztU .nil))) (N o2 (N o12 (N o28 t41 ztT) (N o44 (N o79 .nil .nil) .nil)) (N o20 (N o36 (N o71 .nil .nil) ztS) (N o52 ztR .nil)))
def ztQ:=N o90 .nil .nil
def ztP:=N o98 .nil .nil
def ztO:=N o82 .nil .nil
def ztN:=N o94 .nil .nil
def ztM:=N (YH P) .nil .nil
def ztL:=N o86 .nil .nil
def ztK:=N o92 .nil .nil
def ztJ:=N YJ .nil .nil
def ztI:=N o84 .nil .nil
def ztH:=N o96 .nil .nil
def ztG:=N X8 .nil .nil
def ztF:=N o88 .nil .nil
noncomputable def zws:=N (boot_o_6 P) (N (boot_o_10 P) (N o9 (N o25 (t68 P) ztK) (N o41 (N o76 .nil .nil) .nil)) (N o17 (N o33 (N (o68 P) .nil .nil) ztJ) (N o49 ztI .nil))) (N o3 (N o13 (N o29 t76 ztH) (N o45 (N o80 .nil .nil) .nil)) (N o21 (N o37 (N o72 .nil .nil) ztG) (N o53 ztF .nil)))
noncomputable def zwr:=N (boot_o_2 P) (N (boot_o_4 P) (N (boot_o_8 P) (N o7 (N o23 t51 ztQ) (N o39 (N o74 .nil .nil) .nil)) (N o15 (N o31 (N o66 .nil .nil) ztP) (N o47 ztO .nil))) (N o64 (N o11 (N o27 t59 ztN) (N o43 (N o78 .nil .nil) .nil)) (N o19 (N o35 (N o70 .nil .nil) (ztM P)) (N (o51 P) ztL .nil)))) (zws P)
noncomputable def zwq:=N (boot_o_0 P) (N (boot_o_1 P) (N (o63 P) (N (boot_o_7 P) (N o6 (N o22 t15 t87) (N o38 (N o73 .nil .nil) t90)) (N o14 (N o30 t19 t93) (N o46 (N o81 .nil .nil) .nil))) (N o0 (N o10 (N o26 (N o65 .nil .nil) ztZ) (N o42 (N o77 .nil .nil) .nil)) (N o18 (N o34 (N o69 .nil .nil) ztY) (N o50 ztX .nil)))) (zwt P)) (zwr P)
noncomputable def sb2 (w:World) (os:OsState):SharedT:=⟨(zwq w.params),112,(Life.mk [] [] [] 0 [] [] false #[] [] 0 false false false 0 [2000,10,10] false 0 true [] [] 0 false),⟨[]⟩,(Drawn.mk 0 0 0 0),314,os⟩
noncomputable def L1 (w:World) (os:OsState):Option (Flow×SharedT×Code×Pos):=segRunT treeTable PySem.Challenge.pw_beatless_k23_runs_by_pieces w 11 an 1 340 (sb1 w os) (piecesOf zt8 env cE (Pos.mk 39 0 40 8) B)
noncomputable def R1 (w:World) (os:OsState):Option (Flow×SharedT×Code×Pos):=some (.next,sb2 w os,cE,(Pos.mk 41 0 53 32))
theorem q1:tt (Hd.L1,Hd.R1)=true:=by k_qdec
theorem r1:∀ w,Fast.tw6387051279210280424 w=Hd.R1 w:=fun w=>by kernel_rfl
theorem e1 (w:World) (os:OsState):Hd.L1 w os=Hd.R1 w os:=(congrFun (congrFun Fast.te6387051279210280424 w) os).trans (congrFun (r1 w) os)
def zt7:List Stmt:=[S 11]
noncomputable def zw3:=Obj.mk k4 .none (Data.dict #[en P 3 165 (sv 4 245),en P 5 166 .none,en P 6 167 .none,en P 7 168 k5,en P 8 169 .none,en P 9 170 6,en P 10 171 4,en P 11 173 (sv 0 172),en P 12 174 .none,en P 13 193 21,en P 14 201 26,en P 15 207 31,en P 16 213 36,en P 17 228 43,en P 18 236 50,en P 19 244 57,en P 20 266 67,en P 38 313 109,en P 49 360 149] 19) #[]
noncomputable def zw2:=vO #[(iv 1),(iv 0),20,(iv 5),(iv 0),25,(iv 7),(iv 0),30,(iv 16),(iv 0),35,(iv 23),(iv 0),42,(iv 34),(iv 0),49,(iv 36),(iv 0),56,(iv 39),(iv 0),63,(iv 41),(iv 0),77,(iv 54),(iv 0),117]
noncomputable def zw1:=Obj.mk k8 .none (Data.cls (ClassData.mk (s 20) [k9] [67,k9] 66 (s 20) true [] [109,149] false .none false)) #[.none,.none,(some (sv 20 247)),(some (sv 20 255)),(some k10),(some (.bool true))]
def YF:=tO #[67]
noncomputable def X6:=Obj.mk k6 .none (Data.fields #[k7,k8]) #[]
noncomputable def X1:=Obj.mk k4 .none (Data.dict #[en P 32 321 (sv 4 245),en P 33 323 (sv 49 322),en P 34 325 (.int 54 324),en P 39 333 125,en P 40 341 132,en P 41 348 139,en P 42 355 146,en P 35 357 147] 8) #[]
def X0:=tO #[]
noncomputable def W3:=vO #[(iv 56),(iv 4),124,(iv 59),(iv 4),131,(iv 62),(iv 4),138,(iv 65),(iv 4),145]
noncomputable def W2:=Obj.mk k1 .none (Data.fields #[(sv 49 316),(sv 49 317),(sv 0 318),(iv 54),(iv 0),(iv 0),(iv 0),(iv 0),115,(.bool false),(iv 181),116,.none,.none,.none,.none,(iv 319),(iv 54),(sv 0 320)]) #[]
noncomputable def W1:=Obj.mk k3 .none Data.plain #[(some 117),(some 3),(some 114),.none,(some (sv 4 245)),.none,(some 0)]
def Xv:=tO #[]
def W0:=vO #[]
def Xu:=tO #[(sv 43 329),(sv 50 330)]
def Xs:=tO #[]
def WZ:=gO 39 51 (L2.inClass (S 11) 0)
noncomputable def Xr:=cO 39 51 326 327 328 56 2 3 119 120 121 122 123 331 332
noncomputable def Xq:=uO 39 51 (L2.inClass (S 11) 0) 4 245 124
def Xp:=tO #[]
def zhQ:=vO #[]
def UY:=tO #[(sv 43 337),(sv 26 338)]
def UX:=tO #[]
def zhP:=gO 40 52 (L2.inClass (S 11) 1)
noncomputable def UW:=cO 40 52 334 335 336 59 2 3 126 127 128 129 130 339 340
noncomputable def UV:=uO 40 52 (L2.inClass (S 11) 1) 4 245 131
def UU:=tO #[]
def zhO:=vO #[]
def UT:=tO #[(sv 43 345)]
def US:=tO #[]
def zhN:=gO 41 53 (L2.inClass (S 11) 2)
noncomputable def UR:=cO 41 53 342 343 344 62 1 3 133 134 135 136 137 346 347
noncomputable def UQ:=uO 41 53 (L2.inClass (S 11) 2) 4 245 138
def UP:=tO #[]
def zhM:=vO #[]
def UO:=tO #[(sv 43 352)]
def UN:=tO #[]
def zhL:=gO 42 54 (L2.inClass (S 11) 3)
noncomputable def UM:=cO 42 54 349 350 351 65 1 3 140 141 142 143 144 353 354
noncomputable def UL:=uO 42 54 (L2.inClass (S 11) 3) 4 245 145
def UK:=tO #[(sv 50 356)]
noncomputable def UJ:=Obj.mk k4 .none (Data.dict #[en P 32 321 (sv 4 245),en P 34 325 (.int 54 324),en P 39 333 125,en P 40 341 132,en P 41 348 139,en P 42 355 146,en P 35 357 147,en P 5 358 .none] 2) #[]
noncomputable def UI:=Obj.mk k8 .none (Data.cls (ClassData.mk (s 49) [67] [149,67,k9] 148 (s 49) true [] [] false .none false)) #[(some 112),.none,(some (sv 49 314)),(some (sv 49 322)),(some k10),(some (.bool true))]
noncomputable def zhK:=Obj.mk k15 .none (Data.fields #[149,149,149]) #[]
noncomputable def zhJ:=Obj.mk k6 .none (Data.fields #[k16,149]) #[]
def ztE:=N zhQ .nil .nil
def ztD:=N UN .nil .nil
def ztC:=N o73 ztD .nil
def ztB:=N UT .nil .nil
def ztA:=N o62 ztB .nil
def ztz:=N zhJ .nil .nil
def zty:=N o81 ztz .nil
def zln:=N UW .nil .nil
def ztx:=N UK .nil .nil
def ztw:=N o77 ztx .nil
def ztv:=N UQ .nil .nil
def ztu:=N o69 ztv .nil
def ztt:=N UX .nil .nil
def zts:=N o56 ztt .nil
def ztr:=N UM .nil .nil
def ztq:=N o75 ztr .nil
def ztp:=N zhN .nil .nil
def zto:=N o67 ztp .nil
def ztn:=N UU .nil .nil
def ztm:=N o60 ztn .nil
def ztl:=N UI .nil .nil
def ztk:=N o79 ztl .nil
def ztj:=N zhM .nil .nil
def zti:=N o71 ztj .nil
noncomputable def zwp:=N (boot_o_5 P) (N (boot_o_9 P) (N o8 (N o24 zts ztW) (N o40 ztq (N X6 .nil .nil))) (N o16 (N o32 zto ztV) (N o48 ztU (N Xu .nil .nil)))) (N o2 (N o12 (N o28 ztm ztT) (N o44 ztk (N W2 .nil .nil))) (N o20 (N o36 zti ztS) (N o52 ztR (N Xq .nil .nil))))
def zth:=N UY .nil .nil
def ztg:=N o55 zth .nil
def ztf:=N zhL .nil .nil
def zte:=N o74 ztf .nil
def ztd:=N US .nil .nil
def ztc:=N o66 ztd .nil
def ztb:=N UV .nil .nil
def zta:=N o59 ztb .nil
def zs9:=N (UJ P) .nil .nil
def zs8:=N o78 (zs9 P) .nil
def zs7:=N UP .nil .nil
def zs6:=N o70 zs7 .nil
def zs5:=N zhP .nil .nil
def zs4:=N (o57 P) zs5 .nil
def zs3:=N UL .nil .nil
def zs2:=N o76 zs3 .nil
def zs1:=N UR .nil .nil
def zs0:=N (o68 P) zs1 .nil
def zsZ:=N zhO .nil .nil
def zsY:=N o61 zsZ .nil
def zsX:=N zhK .nil .nil
def zsW:=N o80 zsX .nil
def zsV:=N UO .nil .nil
def zsU:=N o72 zsV .nil
noncomputable def zwo:=N (boot_o_6 P) (N (boot_o_10 P) (N o9 (N o25 (zs4 P) ztK) (N o41 zs2 (N (X1 P) .nil .nil))) (N o17 (N o33 (zs0 P) ztJ) (N o49 ztI (N Xs .nil .nil)))) (N o3 (N o13 (N o29 zsY ztH) (N o45 zsW (N W1 .nil .nil))) (N o21 (N o37 zsU ztG) (N o53 ztF (N Xp .nil .nil))))
noncomputable def zwn:=N (boot_o_2 P) (N (boot_o_4 P) (N (boot_o_8 P) (N o7 (N o23 ztg ztQ) (N o39 zte (N YF .nil .nil))) (N o15 (N o31 ztc ztP) (N o47 ztO (N W0 .nil .nil)))) (N zw2 (N o11 (N o27 zta ztN) (N o43 (zs8 P) (N W3 .nil .nil))) (N o19 (N o35 zs6 (ztM P)) (N (o51 P) ztL (N Xr .nil .nil))))) (zwo P)
noncomputable def zwm:=N (boot_o_0 P) (N (boot_o_1 P) (N (zw3 P) (N (boot_o_7 P) (N o6 (N o22 (N o54 ztE .nil) t87) (N o38 ztC t90)) (N o14 (N o30 ztA t93) (N o46 zty (N Xv .nil .nil)))) (N o0 (N o10 (N o26 (N zw1 zln .nil) ztZ) (N o42 ztw (N X0 .nil .nil))) (N o18 (N o34 ztu ztY) (N o50 ztX (N WZ .nil .nil))))) (zwp P)) (zwn P)
noncomputable def sb3 (w:World) (os:OsState):SharedT:=⟨(zwm w.params),152,(Life.mk [] [] [] 0 [] [] false #[] [] 0 false false false 0 [2000,10,10] false 0 true [] [] 0 false),⟨[]⟩,(Drawn.mk 0 0 0 0),361,os⟩
noncomputable def L2 (w:World) (os:OsState):Option (Flow×SharedT×Code×Pos):=segRunT treeTable PySem.Challenge.pw_beatless_k23_runs_by_pieces w 11 an 1 340 (sb2 w os) (piecesOf zt7 env cE (Pos.mk 41 0 53 32) B)
noncomputable def R2 (w:World) (os:OsState):Option (Flow×SharedT×Code×Pos):=some (.next,sb3 w os,cE,(Pos.mk 54 0 66 26))
theorem q2:tt (Hd.L2,Hd.R2)=true:=by k_qdec
theorem r2:∀ w,Fast.tw9171306275460833034 w=Hd.R2 w:=fun w=>by kernel_rfl
theorem e2 (w:World) (os:OsState):Hd.L2 w os=Hd.R2 w os:=(congrFun (congrFun Fast.te9171306275460833034 w) os).trans (congrFun (r2 w) os)
def zt6:List Stmt:=[S 12]
noncomputable def zw0:=Obj.mk k4 .none (Data.dict #[en P 3 165 (sv 4 245),en P 5 166 .none,en P 6 167 .none,en P 7 168 k5,en P 8 169 .none,en P 9 170 6,en P 10 171 4,en P 11 173 (sv 0 172),en P 12 174 .none,en P 13 193 21,en P 14 201 26,en P 15 207 31,en P 16 213 36,en P 17 228 43,en P 18 236 50,en P 19 244 57,en P 20 266 67,en P 38 313 109,en P 49 360 149,en P 55 413 189] 20) #[]
noncomputable def zwZ:=vO #[(iv 1),(iv 0),20,(iv 5),(iv 0),25,(iv 7),(iv 0),30,(iv 16),(iv 0),35,(iv 23),(iv 0),42,(iv 34),(iv 0),49,(iv 36),(iv 0),56,(iv 39),(iv 0),63,(iv 41),(iv 0),77,(iv 54),(iv 0),117,(iv 67),(iv 0),157]
noncomputable def zwY:=Obj.mk k8 .none (Data.cls (ClassData.mk (s 20) [k9] [67,k9] 66 (s 20) true [] [109,149,189] false .none false)) #[.none,.none,(some (sv 20 247)),(some (sv 20 255)),(some k10),(some (.bool true))]
def UH:=tO #[67]
noncomputable def UG:=Obj.mk k6 .none (Data.fields #[k7,k8]) #[]
noncomputable def zhI:=Obj.mk k4 .none (Data.dict #[en P 32 368 (sv 4 245),en P 33 370 (sv 55 369),en P 34 372 (.int 67 371),en P 39 382 165,en P 40 392 172,en P 41 399 179,en P 42 406 186,en P 35 410 187] 8) #[]
def zhH:=tO #[]
noncomputable def zhG:=vO #[(iv 69),(iv 4),164,(iv 74),(iv 4),171,(iv 85),(iv 4),178,(iv 88),(iv 4),185]
noncomputable def zhF:=Obj.mk k1 .none (Data.fields #[(sv 55 363),(sv 55 364),(sv 0 365),(iv 67),(iv 0),(iv 0),(iv 0),(iv 0),155,(.bool false),(iv 181),156,.none,.none,.none,.none,(iv 366),(iv 67),(sv 0 367)]) #[]
noncomputable def zhE:=Obj.mk k3 .none Data.plain #[(some 157),(some 3),(some 154),.none,(some (sv 4 245)),.none,(some 0)]
def UF:=tO #[]
def zhD:=vO #[]
noncomputable def UE:=tO #[(sv 43 376),(sv 50 377),(sv 56 378),(sv 57 379)]
def UD:=tO #[]
def zhC:=gO 39 58 (L2.inClass (S 12) 0)
noncomputable def UC:=cO 39 58 373 374 375 69 4 3 159 160 161 162 163 380 381
noncomputable def UB:=uO 39 58 (L2.inClass (S 12) 0) 4 245 164
def UA:=tO #[]
def zhB:=vO #[]
noncomputable def Uz:=tO #[(sv 43 386),(sv 26 387),(sv 56 388),(sv 57 389)]
def Uy:=tO #[]
def zhA:=gO 40 59 (L2.inClass (S 12) 1)
noncomputable def Ux:=cO 40 59 383 384 385 74 2 3 166 167 168 169 170 390 391
noncomputable def Uw:=uO 40 59 (L2.inClass (S 12) 1) 4 245 171
def Uv:=tO #[]
def zhz:=vO #[]
def Uu:=tO #[(sv 43 396)]
def Ut:=tO #[]
def zhy:=gO 41 60 (L2.inClass (S 12) 2)
noncomputable def Us:=cO 41 60 393 394 395 85 1 3 173 174 175 176 177 397 398
noncomputable def Ur:=uO 41 60 (L2.inClass (S 12) 2) 4 245 178
def Uq:=tO #[]
def zhx:=vO #[]
def Up:=tO #[(sv 43 403)]
def Uo:=tO #[]
def zhw:=gO 42 61 (L2.inClass (S 12) 3)
noncomputable def Um:=cO 42 61 400 401 402 88 1 3 180 181 182 183 184 404 405
noncomputable def Ul:=uO 42 61 (L2.inClass (S 12) 3) 4 245 185
noncomputable def Uk:=tO #[(sv 56 407),(sv 57 408),(sv 50 409)]
noncomputable def Uj:=Obj.mk k4 .none (Data.dict #[en P 32 368 (sv 4 245),en P 34 372 (.int 67 371),en P 39 382 165,en P 40 392 172,en P 41 399 179,en P 42 406 186,en P 35 410 187,en P 5 411 .none] 2) #[]
noncomputable def Ui:=Obj.mk k8 .none (Data.cls (ClassData.mk (s 55) [67] [189,67,k9] 188 (s 55) true [] [] false .none false)) #[(some 152),.none,(some (sv 55 361)),(some (sv 55 369)),(some k10),(some (.bool true))]
noncomputable def zhv:=Obj.mk k15 .none (Data.fields #[189,189,189]) #[]
noncomputable def zhu:=Obj.mk k6 .none (Data.fields #[k16,189]) #[]
def zsT:=N zhu .nil .nil
def zsS:=N o54 ztE zsT
def zsR:=N UF .nil .nil
def zsQ:=N Uu .nil .nil
def zsP:=N X7 zsQ .nil
def zsO:=N zhB .nil .nil
def zsN:=N Uo .nil .nil
def zsM:=N Xv zsN .nil
def zsL:=N zhC .nil .nil
def zsK:=N Ur .nil .nil
def zsJ:=N X0 zsK .nil
def zsI:=N Ux .nil .nil
def zsH:=N YI zsI .nil
def zsG:=N zhH .nil .nil
def zsF:=N Uk .nil .nil
def zsE:=N WZ zsF .nil
def zsD:=N UE .nil .nil
def zsC:=N zhy .nil .nil
def zsB:=N X6 zsC .nil
def zsA:=N Uy .nil .nil
def zsz:=N o99 zsA .nil
def zsy:=N UG .nil .nil
def zsx:=N Um .nil .nil
def zsw:=N Xu zsx .nil
def zsv:=N UB .nil .nil
def zsu:=N zhx .nil .nil
def zst:=N W2 zsu .nil
def zss:=N Uv .nil .nil
def zsr:=N YG zss .nil
def zsq:=N zhF .nil .nil
def zsp:=N Ui .nil .nil
def zso:=N Xq zsp .nil
noncomputable def zwl:=N (boot_o_5 P) (N (boot_o_9 P) (N o8 (N o24 zts (N o91 zsD .nil)) (N o40 ztq zsB)) (N o16 (N o32 zto zsz) (N o48 (N o83 zsy .nil) zsw))) (N o2 (N o12 (N o28 ztm (N o95 zsv .nil)) (N o44 ztk zst)) (N o20 (N o36 zti zsr) (N o52 (N o87 zsq .nil) zso)))
def zsn:=N zhD .nil .nil
def zsm:=N Ut .nil .nil
def zsl:=N YF zsm .nil
def zsk:=N Uz .nil .nil
def zsj:=N o98 zsk .nil
def zsi:=N UH .nil .nil
def zsh:=N zhw .nil .nil
def zsg:=N W0 zsh .nil
def zsf:=N UC .nil .nil
def zse:=N Uq .nil .nil
def zsd:=N W3 zse .nil
def zsc:=N Uw .nil .nil
def zsb:=N (YH P) zsc .nil
def zsa:=N zhG .nil .nil
def zr9:=N (Uj P) .nil .nil
def zr8:=N Xr (zr9 P) .nil
def zr7:=N UD .nil .nil
def zr6:=N Us .nil .nil
def zr5:=N (X1 P) zr6 .nil
def zr4:=N zhA .nil .nil
def zr3:=N YJ zr4 .nil
def zr2:=N (zhI P) .nil .nil
def zr1:=N Ul .nil .nil
def zr0:=N Xs zr1 .nil
def zrZ:=N UA .nil .nil
def zrY:=N Up .nil .nil
def zrX:=N W1 zrY .nil
def zrW:=N zhz .nil .nil
def zrV:=N X8 zrW .nil
def zrU:=N zhE .nil .nil
def zrT:=N zhv .nil .nil
def zrS:=N Xp zrT .nil
noncomputable def zwk:=N (boot_o_6 P) (N (boot_o_10 P) (N o9 (N o25 (zs4 P) (N o92 zr7 .nil)) (N o41 zs2 (zr5 P))) (N o17 (N o33 (zs0 P) zr3) (N o49 (N o84 (zr2 P) .nil) zr0))) (N o3 (N o13 (N o29 zsY (N o96 zrZ .nil)) (N o45 zsW zrX)) (N o21 (N o37 zsU zrV) (N o53 (N o88 zrU .nil) zrS)))
noncomputable def zwj:=N (boot_o_2 P) (N (boot_o_4 P) (N (boot_o_8 P) (N o7 (N o23 ztg (N o90 zsn .nil)) (N o39 zte zsl)) (N o15 (N o31 ztc zsj) (N o47 (N o82 zsi .nil) zsg))) (N zwZ (N o11 (N o27 zta (N o94 zsf .nil)) (N o43 (zs8 P) zsd)) (N o19 (N o35 zs6 (zsb P)) (N (o51 P) (N o86 zsa .nil) (zr8 P))))) (zwk P)
noncomputable def zwi:=N (boot_o_0 P) (N (boot_o_1 P) (N (zw0 P) (N (boot_o_7 P) (N o6 (N o22 zsS (N o89 zsR .nil)) (N o38 ztC zsP)) (N o14 (N o30 ztA (N o97 zsO .nil)) (N o46 zty zsM))) (N o0 (N o10 (N o26 (N zwY zln .nil) (N o93 zsL .nil)) (N o42 ztw zsJ)) (N o18 (N o34 ztu zsH) (N o50 (N o85 zsG .nil) zsE)))) (zwl P)) (zwj P)
noncomputable def sb4 (w:World) (os:OsState):SharedT:=⟨(zwi w.params),192,(Life.mk [] [] [] 0 [] [] false #[] [] 0 false false false 0 [2000,10,10] false 0 true [] [] 0 false),⟨[]⟩,(Drawn.mk 0 0 0 0),414,os⟩
noncomputable def L3 (w:World) (os:OsState):Option (Flow×SharedT×Code×Pos):=segRunT treeTable PySem.Challenge.pw_beatless_k23_runs_by_pieces w 11 an 1 346 (sb3 w os) (piecesOf zt6 env cE (Pos.mk 54 0 66 26) B)
noncomputable def R3 (w:World) (os:OsState):Option (Flow×SharedT×Code×Pos):=some (.next,sb4 w os,cE,(Pos.mk 67 0 89 66))
theorem q3:tt (Hd.L3,Hd.R3)=true:=by k_qdec
theorem r3:∀ w,Fast.tw6196771281854559479 w=Hd.R3 w:=fun w=>by kernel_rfl
theorem e3 (w:World) (os:OsState):Hd.L3 w os=Hd.R3 w os:=(congrFun (congrFun Fast.te6196771281854559479 w) os).trans (congrFun (r3 w) os)
def zt5:List Stmt:=[S 13]
noncomputable def zwX:=Obj.mk k4 .none (Data.dict #[en P 3 165 (sv 4 245),en P 5 166 .none,en P 6 167 .none,en P 7 168 k5,en P 8 169 .none,en P 9 170 6,en P 10 171 4,en P 11 173 (sv 0 172),en P 12 174 .none,en P 13 193 21,en P 14 201 26,en P 15 207 31,en P 16 213 36,en P 17 228 43,en P 18 236 50,en P 19 244 57,en P 20 266 67,en P 38 313 109,en P 49 360 149,en P 55 413 189,en P 62 462 229] 21) #[]
noncomputable def zwW:=vO #[(iv 1),(iv 0),20,(iv 5),(iv 0),25,(iv 7),(iv 0),30,(iv 16),(iv 0),35,(iv 23),(iv 0),42,(iv 34),(iv 0),49,(iv 36),(iv 0),56,(iv 39),(iv 0),63,(iv 41),(iv 0),77,(iv 54),(iv 0),117,(iv 67),(iv 0),157,(iv 90),(iv 0),197]
noncomputable def zwV:=Obj.mk k8 .none (Data.cls (ClassData.mk (s 20) [k9] [67,k9] 66 (s 20) true [] [109,149,189,229] false .none false)) #[.none,.none,(some (sv 20 247)),(some (sv 20 255)),(some k10),(some (.bool true))]
def Uh:=tO #[67]
noncomputable def zht:=Obj.mk k6 .none (Data.fields #[k7,k8]) #[]
noncomputable def zhs:=Obj.mk k4 .none (Data.dict #[en P 32 421 (sv 4 245),en P 33 423 (sv 62 422),en P 34 425 (.int 90 424),en P 39 434 205,en P 40 442 212,en P 41 449 219,en P 42 456 226,en P 35 459 227] 8) #[]
def zhr:=tO #[]
noncomputable def zhq:=vO #[(iv 92),(iv 4),204,(iv 96),(iv 4),211,(iv 99),(iv 4),218,(iv 102),(iv 4),225]
noncomputable def zhp:=Obj.mk k1 .none (Data.fields #[(sv 62 416),(sv 62 417),(sv 0 418),(iv 90),(iv 0),(iv 0),(iv 0),(iv 0),195,(.bool false),(iv 181),196,.none,.none,.none,.none,(iv 419),(iv 90),(sv 0 420)]) #[]
noncomputable def zho:=Obj.mk k3 .none Data.plain #[(some 197),(some 3),(some 194),.none,(some (sv 4 245)),.none,(some 0)]
def Ug:=tO #[]
def zhn:=vO #[]
noncomputable def Uf:=tO #[(sv 43 429),(sv 63 430),(sv 64 431)]
def Ue:=tO #[]
def zhm:=gO 39 65 (L2.inClass (S 13) 0)
noncomputable def Ud:=cO 39 65 426 427 428 92 3 3 199 200 201 202 203 432 433
noncomputable def Uc:=uO 39 65 (L2.inClass (S 13) 0) 4 245 204
def Ub:=tO #[]
def zhl:=vO #[]
def Ua:=tO #[(sv 43 438),(sv 26 439)]
def V9:=tO #[]
def zhk:=gO 40 66 (L2.inClass (S 13) 1)
noncomputable def V8:=cO 40 66 435 436 437 96 2 3 206 207 208 209 210 440 441
noncomputable def V7:=uO 40 66 (L2.inClass (S 13) 1) 4 245 211
def V6:=tO #[]
def zhj:=vO #[]
def V5:=tO #[(sv 43 446)]
def V4:=tO #[]
def zhi:=gO 41 67 (L2.inClass (S 13) 2)
noncomputable def V3:=cO 41 67 443 444 445 99 1 3 213 214 215 216 217 447 448
noncomputable def V2:=uO 41 67 (L2.inClass (S 13) 2) 4 245 218
def V1:=tO #[]
def zhh:=vO #[]
def V0:=tO #[(sv 43 453)]
def VZ:=tO #[]
def zhg:=gO 42 68 (L2.inClass (S 13) 3)
noncomputable def VY:=cO 42 68 450 451 452 102 1 3 220 221 222 223 224 454 455
noncomputable def VX:=uO 42 68 (L2.inClass (S 13) 3) 4 245 225
def VW:=tO #[(sv 63 457),(sv 64 458)]
noncomputable def VU:=Obj.mk k4 .none (Data.dict #[en P 32 421 (sv 4 245),en P 34 425 (.int 90 424),en P 39 434 205,en P 40 442 212,en P 41 449 219,en P 42 456 226,en P 35 459 227,en P 5 460 .none] 2) #[]
noncomputable def VT:=Obj.mk k8 .none (Data.cls (ClassData.mk (s 62) [67] [229,67,k9] 228 (s 62) true [] [] false .none false)) #[(some 192),.none,(some (sv 62 414)),(some (sv 62 422)),(some k10),(some (.bool true))]
noncomputable def zhf:=Obj.mk k15 .none (Data.fields #[229,229,229]) #[]
noncomputable def zhe:=Obj.mk k6 .none (Data.fields #[k16,229]) #[]
def zrR:=N VZ .nil .nil
def zrQ:=N o89 zsR zrR
def zrP:=N zhl .nil .nil
def zrO:=N Ug .nil .nil
def zrN:=N zhe .nil .nil
def zrM:=N o97 zsO zrN
def zrL:=N V5 .nil .nil
def zrK:=N zhr .nil .nil
def zrJ:=N VW .nil .nil
def zrI:=N o93 zsL zrJ
def zrH:=N V8 .nil .nil
def zrG:=N zhm .nil .nil
def zrF:=N V2 .nil .nil
def zrE:=N zht .nil .nil
def zrD:=N VY .nil .nil
def zrC:=N o91 zsD zrD
def zrB:=N V9 .nil .nil
def zrA:=N Uf .nil .nil
def zlb:=N zhi .nil .nil
def zrz:=N zhp .nil .nil
def zry:=N VT .nil .nil
def zrx:=N o95 zsv zry
def zrw:=N V6 .nil .nil
def zrv:=N Uc .nil .nil
def zru:=N zhh .nil .nil
def zrt:=N o87 zsq zru
noncomputable def zwh:=N (boot_o_5 P) (N (boot_o_9 P) (N o8 (N o24 (N o56 ztt zrE) zrC) (N o40 (N o75 ztr zrB) zsB)) (N o16 (N o32 (N o67 ztp zrA) zsz) (N o48 (N o83 zsy zlb) zsw))) (N o2 (N o12 (N o28 (N o60 ztn zrz) zrx) (N o44 (N o79 ztl zrw) zst)) (N o20 (N o36 (N o71 ztj zrv) zsr) (N o52 zrt zso)))
def zrs:=N Uh .nil .nil
def zrr:=N zhg .nil .nil
def zrq:=N o90 zsn zrr
def zrp:=N Ua .nil .nil
def zro:=N zhn .nil .nil
def zrn:=N V4 .nil .nil
def zrm:=N zhq .nil .nil
def zrl:=N (VU P) .nil .nil
def zrk:=N o94 zsf (zrl P)
def zrj:=N V7 .nil .nil
def zri:=N Ud .nil .nil
def zrh:=N V1 .nil .nil
def zrg:=N (zhs P) .nil .nil
def zrf:=N VX .nil .nil
def zre:=N o92 zr7 zrf
def zrd:=N zhk .nil .nil
def zrc:=N Ue .nil .nil
def zrb:=N V3 .nil .nil
def zra:=N zho .nil .nil
def zq9:=N zhf .nil .nil
def zq8:=N o96 zrZ zq9
def zq7:=N zhj .nil .nil
def zq6:=N Ub .nil .nil
def zq5:=N V0 .nil .nil
def zq4:=N o88 zrU zq5
noncomputable def zwg:=N (boot_o_6 P) (N (boot_o_10 P) (N o9 (N o25 (N (o57 P) zs5 (zrg P)) zre) (N o41 (N o76 zs3 zrd) (zr5 P))) (N o17 (N o33 (N (o68 P) zs1 zrc) zr3) (N o49 (N o84 (zr2 P) zrb) zr0))) (N o3 (N o13 (N o29 (N o61 zsZ zra) zq8) (N o45 (N o80 zsX zq7) zrX)) (N o21 (N o37 (N o72 zsV zq6) zrV) (N o53 zq4 zrS)))
noncomputable def zwf:=N (boot_o_2 P) (N (boot_o_4 P) (N (boot_o_8 P) (N o7 (N o23 (N o55 zth zrs) zrq) (N o39 (N o74 ztf zrp) zsl)) (N o15 (N o31 (N o66 ztd zro) zsj) (N o47 (N o82 zsi zrn) zsg))) (N zwW (N o11 (N o27 (N o59 ztb zrm) (zrk P)) (N o43 (N o78 (zs9 P) zrj) zsd)) (N o19 (N o35 (N o70 zs7 zri) (zsb P)) (N (o51 P) (N o86 zsa zrh) (zr8 P))))) (zwg P)
noncomputable def zwe:=N (boot_o_0 P) (N (boot_o_1 P) (N (zwX P) (N (boot_o_7 P) (N o6 (N o22 zsS zrQ) (N o38 (N o73 ztD zrP) zsP)) (N o14 (N o30 (N o62 ztB zrO) zrM) (N o46 (N o81 ztz zrL) zsM))) (N o0 (N o10 (N o26 (N zwV zln zrK) zrI) (N o42 (N o77 ztx zrH) zsJ)) (N o18 (N o34 (N o69 ztv zrG) zsH) (N o50 (N o85 zsG zrF) zsE)))) (zwh P)) (zwf P)
noncomputable def sb5 (w:World) (os:OsState):SharedT:=⟨(zwe w.params),232,(Life.mk [] [] [] 0 [] [] false #[] [] 0 false false false 0 [2000,10,10] false 0 true [] [] 0 false),⟨[]⟩,(Drawn.mk 0 0 0 0),463,os⟩
noncomputable def L4 (w:World) (os:OsState):Option (Flow×SharedT×Code×Pos):=segRunT treeTable PySem.Challenge.pw_beatless_k23_runs_by_pieces w 11 an 1 342 (sb4 w os) (piecesOf zt5 env cE (Pos.mk 67 0 89 66) B)
noncomputable def R4 (w:World) (os:OsState):Option (Flow×SharedT×Code×Pos):=some (.next,sb5 w os,cE,(Pos.mk 90 0 103 64))
theorem q4:tt (Hd.L4,Hd.R4)=true:=by k_qdec
theorem r4:∀ w,Fast.tw18063231807419426806 w=Hd.R4 w:=fun w=>by kernel_rfl
theorem e4 (w:World) (os:OsState):Hd.L4 w os=Hd.R4 w os:=(congrFun (congrFun Fast.te18063231807419426806 w) os).trans (congrFun (r4 w) os)
def zt4:List Stmt:=[S 14,S 15,S 16]
noncomputable def zwU:=Obj.mk k4 .none (Data.dict #[en P 3 165 (sv 69 516),en P 5 166 .none,en P 6 167 .none,en P 7 168 k5,en P 8 169 .none,en P 9 170 6,en P 10 171 4,en P 11 173 (sv 0 172),en P 12 174 .none,en P 13 193 21,en P 14 201 26,en P 15 207 31,en P 16 213 36,en P 17 228 43,en P 18 236 50,en P 19 244 57,en P 20 266 67,en P 38 313 109,en P 49 360 149,en P 55 413 189,en P 62 462 229,en P 70 515 269,en P 71 535 281] 23) #[]
noncomputable def zwT:=vO #[(iv 1),(iv 0),20,(iv 5),(iv 0),25,(iv 7),(iv 0),30,(iv 16),(iv 0),35,(iv 23),(iv 0),42,(iv 34),(iv 0),49,(iv 36),(iv 0),56,(iv 39),(iv 0),63,(iv 41),(iv 0),77,(iv 54),(iv 0),117,(iv 67),(iv 0),157,(iv 90),(iv 0),197,(iv 104),(iv 0),237,(iv 123),(iv 0),277]
noncomputable def WY:=Obj.mk k8 .none (Data.cls (ClassData.mk (s 20) [k9] [67,k9] 66 (s 20) true [] [109,149,189,229,269] false .none false)) #[.none,.none,(some (sv 20 247)),(some (sv 20 255)),(some k10),(some (.bool true))]
def VS:=tO #[67]
noncomputable def zhd:=Obj.mk k6 .none (Data.fields #[k7,k8]) #[]
noncomputable def zhc:=Obj.mk k4 .none (Data.dict #[en P 32 470 (sv 4 245),en P 33 472 (sv 70 471),en P 34 474 (.int 104 473),en P 39 485 245,en P 40 493 252,en P 41 500 259,en P 42 507 266,en P 35 512 267] 8) #[]
def zhb:=tO #[]
noncomputable def zha:=vO #[(iv 106),(iv 4),244,(iv 112),(iv 4),251,(iv 117),(iv 4),258,(iv 120),(iv 4),265]
noncomputable def zg9:=Obj.mk k1 .none (Data.fields #[(sv 70 465),(sv 70 466),(sv 0 467),(iv 104),(iv 0),(iv 0),(iv 0),(iv 0),235,(.bool false),(iv 181),236,.none,.none,.none,.none,(iv 468),(iv 104),(sv 0 469)]) #[]
noncomputable def zg8:=Obj.mk k3 .none Data.plain #[(some 237),(some 3),(some 234),.none,(some (sv 4 245)),.none,(some 0)]
def VR:=tO #[]
def zk5:=vO #[]
noncomputable def zao:=tO #[(sv 43 478),(sv 56 479),(sv 57 480),(sv 72 481),(sv 73 482)]
def zan:=tO #[]
def zk4:=gO 39 74 (L2.inClass (S 14) 0)
noncomputable def zam:=cO 39 74 475 476 477 106 5 3 239 240 241 242 243 483 484
noncomputable def zal:=uO 39 74 (L2.inClass (S 14) 0) 4 245 244
def zak:=tO #[]
def zk3:=vO #[]
def zaj:=tO #[(sv 43 489),(sv 26 490)]
def zai:=tO #[]
def zk2:=gO 40 75 (L2.inClass (S 14) 1)
noncomputable def zah:=cO 40 75 486 487 488 112 2 3 246 247 248 249 250 491 492
noncomputable def zag:=uO 40 75 (L2.inClass (S 14) 1) 4 245 251
def zaf:=tO #[]
def zk1:=vO #[]
def zg7:=tO #[(sv 43 497)]
def zg6:=tO #[]
def zny:=gO 41 76 (L2.inClass (S 14) 2)
noncomputable def zg5:=cO 41 76 494 495 496 117 1 3 253 254 255 256 257 498 499
noncomputable def zg4:=uO 41 76 (L2.inClass (S 14) 2) 4 245 258
def zg3:=tO #[]
def znx:=vO #[]
def zg2:=tO #[(sv 43 504)]
def zg1:=tO #[]
def znw:=gO 42 77 (L2.inClass (S 14) 3)
noncomputable def zg0:=cO 42 77 501 502 503 120 1 3 260 261 262 263 264 505 506
noncomputable def zgZ:=uO 42 77 (L2.inClass (S 14) 3) 4 245 265
noncomputable def zgY:=tO #[(sv 73 508),(sv 56 509),(sv 57 510),(sv 72 511)]
noncomputable def zgX:=Obj.mk k4 .none (Data.dict #[en P 32 470 (sv 4 245),en P 34 474 (.int 104 473),en P 39 485 245,en P 40 493 252,en P 41 500 259,en P 42 507 266,en P 35 512 267,en P 5 513 .none] 2) #[]
noncomputable def zgW:=Obj.mk k8 .none (Data.cls (ClassData.mk (s 70) [67] [269,67,k9] 268 (s 70) true [] [] false .none false)) #[(some 232),.none,(some (sv 70 463)),(some (sv 70 471)),(some k10),(some (.bool true))]
noncomputable def znv:=Obj.mk k15 .none (Data.fields #[269,269,269]) #[]
noncomputable def znu:=Obj.mk k6 .none (Data.fields #[k16,269]) #[]
def zgV:=tO #[k17]
noncomputable def znt:=Obj.mk k6 .none (Data.fields #[k7,k8]) #[]
noncomputable def zns:=Obj.mk k4 .none (Data.dict #[en P 32 525 (sv 69 516),en P 33 527 (sv 71 526),en P 34 529 (.int 123 528),en P 35 530 279] 4) #[]
def znr:=tO #[]
def znq:=vO #[]
noncomputable def znp:=Obj.mk k1 .none (Data.fields #[(sv 71 520),(sv 71 521),(sv 0 522),(iv 123),(iv 0),(iv 0),(iv 0),(iv 0),275,(.bool false),(iv 181),276,.none,.none,.none,.none,(iv 523),(iv 123),(sv 0 524)]) #[]
noncomputable def zno:=Obj.mk k3 .none Data.plain #[(some 277),(some 3),(some 274),.none,(some (sv 69 516)),.none,(some 0)]
def zgU:=tO #[]
noncomputable def zgT:=Obj.mk k4 .none (Data.dict #[en P 32 525 (sv 69 516),en P 34 529 (.int 123 528),en P 35 530 279,en P 37 532 282,en P 5 533 .none] 3) #[]
noncomputable def zwS:=Obj.mk k8 .none (Data.cls (ClassData.mk (s 71) [k17] [281,k17,k18,k19,k9] 280 (s 71) true [] [] false .none false)) #[(some 272),.none,(some (sv 71 518)),(some (sv 71 526)),(some k20),(some (.bool true))]
noncomputable def zgS:=Obj.mk k11 .none (Data.fields #[(sv 37 531),281,k14,.none]) #[]
noncomputable def znn:=Obj.mk k15 .none (Data.fields #[281,281,281]) #[]
noncomputable def znm:=Obj.mk k6 .none (Data.fields #[k16,281]) #[]
def zq3:=N zg7 .nil .nil
def zq2:=N zhQ zq3 .nil
def zq1:=N o54 zq2 zsT
def zq0:=N znu .nil .nil
def zqZ:=N UN zq0 .nil
def zqY:=N o73 zqZ zrP
def zqX:=N VR .nil .nil
def zqW:=N zg1 .nil .nil
def zqV:=N UT zqW .nil
def zqU:=N o62 zqV zrO
def zqT:=N zgU .nil .nil
def zqS:=N zhJ zqT .nil
def zqR:=N zk3 .nil .nil
noncomputable def zqQ:=N o46 (N o81 zqS zrL) (N Xv zsN zqR)
def zqP:=N zg4 .nil .nil
def zqO:=N UW zqP .nil
def zqN:=N WY zqO zrK
def zqM:=N znr .nil .nil
def zqL:=N UK zqM .nil
def zqK:=N o77 zqL zrH
def zqJ:=N zk4 .nil .nil
def zqI:=N zgY .nil .nil
def zqH:=N UQ zqI .nil
def zqG:=N o69 zqH zrG
def zqF:=N zhb .nil .nil
def zqE:=N znn .nil .nil
def zqD:=N zhH zqE .nil
def zqC:=N zah .nil .nil
noncomputable def zqB:=N o50 (N o85 zqD zrF) (N WZ zsF zqC)
def zqA:=N zny .nil .nil
def zqz:=N UX zqA .nil
def zqy:=N o56 zqz zrE
def zqx:=N znt .nil .nil
def zqw:=N UM zqx .nil
def zqv:=N o75 zqw zrB
def zqu:=N zao .nil .nil
def zqt:=N zg0 .nil .nil
def zqs:=N zhN zqt .nil
def zqr:=N o67 zqs zrA
def zqq:=N zhd .nil .nil
def zqp:=N zai .nil .nil
def zqo:=N Xu zsx zqp
def zqn:=N znx .nil .nil
def zqm:=N UU zqn .nil
def zql:=N o60 zqm zrz
def zqk:=N znp .nil .nil
def zqj:=N UI zqk .nil
def zqi:=N zal .nil .nil
noncomputable def zqh:=N o44 (N o79 zqj zrw) (N W2 zsu zqi)
def zqg:=N zgW .nil .nil
def zqf:=N zhM zqg .nil
def zqe:=N o71 zqf zrv
def zqd:=N zg9 .nil .nil
def zqc:=N zaf .nil .nil
def zqb:=N Xq zsp zqc
noncomputable def zwd:=N (boot_o_5 P) (N (boot_o_9 P) (N o8 (N o24 zqy zrC) (N o40 zqv (N X6 zsC zqu))) (N o16 (N o32 zqr (N o99 zsA zqq)) (N o48 (N o83 (N UG (N zwS .nil .nil) .nil) zlb) zqo))) (N o2 (N o12 (N o28 zql zrx) zqh) (N o20 (N o36 zqe (N YG zss zqd)) (N o52 zrt zqb)))
def zqa:=N zg6 .nil .nil
def zp9:=N UY zqa .nil
def zp8:=N o55 zp9 zrs
def zp7:=N zgV .nil .nil
def zp6:=N zhL zp7 .nil
def zp5:=N o74 zp6 zrp
def zp4:=N zk5 .nil .nil
def zp3:=N znw .nil .nil
def zp2:=N US zp3 .nil
def zp1:=N o66 zp2 zro
def zp0:=N VS .nil .nil
def zpZ:=N (zgT P) .nil .nil
def zpY:=N UH (zpZ P) .nil
def zpX:=N zaj .nil .nil
noncomputable def zpW:=N o47 (N o82 (zpY P) zrn) (N W0 zsh zpX)
def zpV:=N zg3 .nil .nil
def zpU:=N UV zpV .nil
def zpT:=N o59 zpU zrm
def zpS:=N znq .nil .nil
def zpR:=N (UJ P) zpS .nil
def zpQ:=N o78 (zpR P) zrj
def zpP:=N zam .nil .nil
def zpO:=N (zgX P) .nil .nil
def zpN:=N UP (zpO P) .nil
def zpM:=N o70 (zpN P) zri
def zpL:=N zha .nil .nil
def zpK:=N znm .nil .nil
def zpJ:=N zhG zpK .nil
def zpI:=N zag .nil .nil
noncomputable def zpH:=N (o51 P) (N o86 zpJ zrh) (N Xr (zr9 P) zpI)
def zpG:=N zg5 .nil .nil
def zpF:=N zhP zpG .nil
def zpE:=N (o57 P) zpF (zrg P)
def zpD:=N (zns P) .nil .nil
def zpC:=N UL (zpD P) .nil
def zpB:=N o76 (zpC P) zrd
def zpA:=N zan .nil .nil
def zpz:=N zgZ .nil .nil
def zpy:=N UR zpz .nil
def zpx:=N (o68 P) zpy zrc
def zpw:=N (zhc P) .nil .nil
def zpv:=N zgS .nil .nil
def zpu:=N (zhI P) zpv .nil
def zpt:=N zk2 .nil .nil
noncomputable def zps:=N o49 (N o84 (zpu P) zrb) (N Xs zr1 zpt)
def zpr:=N zg2 .nil .nil
def zpq:=N zhO zpr .nil
def zpp:=N o61 zpq zra
def zpo:=N zno .nil .nil
def zpn:=N zhK zpo .nil
def zpm:=N zak .nil .nil
noncomputable def zpl:=N o45 (N o80 zpn zq7) (N W1 zrY zpm)
def zpk:=N znv .nil .nil
def zpj:=N UO zpk .nil
def zpi:=N o72 zpj zq6
def zph:=N zg8 .nil .nil
def zpg:=N zk1 .nil .nil
def zpf:=N Xp zrT zpg
noncomputable def zwc:=N (boot_o_6 P) (N (boot_o_10 P) (N o9 (N o25 (zpE P) zre) (N o41 (zpB P) (N (X1 P) zr6 zpA))) (N o17 (N o33 (zpx P) (N YJ zr4 (zpw P))) (zps P))) (N o3 (N o13 (N o29 zpp zq8) zpl) (N o21 (N o37 zpi (N X8 zrW zph)) (N o53 zq4 zpf)))
noncomputable def zwb:=N (boot_o_2 P) (N (boot_o_4 P) (N (boot_o_8 P) (N o7 (N o23 zp8 zrq) (N o39 zp5 (N YF zsm zp4))) (N o15 (N o31 zp1 (N o98 zsk zp0)) (zpW P))) (N zwT (N o11 (N o27 zpT (zrk P)) (N o43 (zpQ P) (N W3 zse zpP))) (N o19 (N o35 (zpM P) (N (YH P) zsc zpL)) (zpH P)))) (zwc P)
noncomputable def zwa:=N (boot_o_0 P) (N (boot_o_1 P) (N (zwU P) (N (boot_o_7 P) (N o6 (N o22 zq1 zrQ) (N o38 zqY (N X7 zsQ zqX))) (N o14 (N o30 zqU zrM) zqQ)) (N o0 (N o10 (N o26 zqN zrI) (N o42 zqK (N X0 zsK zqJ))) (N o18 (N o34 zqG (N YI zsI zqF)) zqB))) (zwd P)) (zwb P)
noncomputable def sb6 (w:World) (os:OsState):SharedT:=⟨(zwa w.params),285,(Life.mk [] [] [] 0 [] [] false #[] [] 0 false false false 0 [2000,10,10] false 0 true [] [] 0 false),⟨[]⟩,(Drawn.mk 0 0 0 0),536,os⟩
noncomputable def L5 (w:World) (os:OsState):Option (Flow×SharedT×Code×Pos):=segRunT treeTable PySem.Challenge.pw_beatless_k23_runs_by_pieces w 11 an 1 541 (sb5 w os) (piecesOf zt4 env cE (Pos.mk 90 0 103 64) B)
noncomputable def R5 (w:World) (os:OsState):Option (Flow×SharedT×Code×Pos):=some (.next,sb6 w os,cE,(Pos.mk 123 0 124 8))
theorem q5:tt (Hd.L5,Hd.R5)=true:=by k_qdec
theorem r5:∀ w,Fast.tw7289443652863241282 w=Hd.R5 w:=fun w=>by kernel_rfl
theorem e5 (w:World) (os:OsState):Hd.L5 w os=Hd.R5 w os:=(congrFun (congrFun Fast.te7289443652863241282 w) os).trans (congrFun (r5 w) os)
def zt3:List Stmt:=[S 17,S 18]
noncomputable def zwR:=Obj.mk k4 .none (Data.dict #[en P 3 165 (sv 69 516),en P 5 166 .none,en P 6 167 .none,en P 7 168 k5,en P 8 169 .none,en P 9 170 6,en P 10 171 4,en P 11 173 (sv 0 172),en P 12 174 .none,en P 13 193 21,en P 14 201 26,en P 15 207 31,en P 16 213 36,en P 17 228 43,en P 18 236 50,en P 19 244 57,en P 20 266 67,en P 38 313 109,en P 49 360 149,en P 55 413 189,en P 62 462 229,en P 70 515 269,en P 71 535 281,en P 78 551 294,en P 79 567 306] 25) #[]
noncomputable def zwQ:=vO #[(iv 1),(iv 0),20,(iv 5),(iv 0),25,(iv 7),(iv 0),30,(iv 16),(iv 0),35,(iv 23),(iv 0),42,(iv 34),(iv 0),49,(iv 36),(iv 0),56,(iv 39),(iv 0),63,(iv 41),(iv 0),77,(iv 54),(iv 0),117,(iv 67),(iv 0),157,(iv 90),(iv 0),197,(iv 104),(iv 0),237,(iv 123),(iv 0),277,(iv 125),(iv 0),290,(iv 127),(iv 0),302]
noncomputable def zwP:=Obj.mk k8 .none (Data.cls (ClassData.mk (s 71) [k17] [281,k17,k18,k19,k9] 280 (s 71) true [] [294,306] false .none false)) #[(some 272),.none,(some (sv 71 518)),(some (sv 71 526)),(some k20),(some (.bool true))]
def zgR:=tO #[281]
noncomputable def znl:=Obj.mk k6 .none (Data.fields #[k7,k8]) #[]
noncomputable def znk:=Obj.mk k4 .none (Data.dict #[en P 32 543 (sv 69 516),en P 33 545 (sv 78 544),en P 34 547 (.int 125 546),en P 35 548 292] 4) #[]
def znj:=tO #[]
def zni:=vO #[]
noncomputable def znh:=Obj.mk k1 .none (Data.fields #[(sv 78 538),(sv 78 539),(sv 0 540),(iv 125),(iv 0),(iv 0),(iv 0),(iv 0),288,(.bool false),(iv 181),289,.none,.none,.none,.none,(iv 541),(iv 125),(sv 0 542)]) #[]
noncomputable def zng:=Obj.mk k3 .none Data.plain #[(some 290),(some 3),(some 287),.none,(some (sv 69 516)),.none,(some 0)]
def zgQ:=tO #[]
noncomputable def zgP:=Obj.mk k4 .none (Data.dict #[en P 32 543 (sv 69 516),en P 34 547 (.int 125 546),en P 35 548 292,en P 5 549 .none] 2) #[]
noncomputable def zgO:=Obj.mk k8 .none (Data.cls (ClassData.mk (s 78) [281] [294,281,k17,k18,k19,k9] 293 (s 78) true [] [] false .none false)) #[(some 285),.none,(some (sv 78 536)),(some (sv 78 544)),(some k20),(some (.bool true))]
noncomputable def znf:=Obj.mk k15 .none (Data.fields #[294,294,294]) #[]
noncomputable def zne:=Obj.mk k6 .none (Data.fields #[k16,294]) #[]
def zgN:=tO #[281]
noncomputable def znd:=Obj.mk k6 .none (Data.fields #[k7,k8]) #[]
noncomputable def znc:=Obj.mk k4 .none (Data.dict #[en P 32 559 (sv 69 516),en P 33 561 (sv 79 560),en P 34 563 (.int 127 562),en P 35 564 304] 4) #[]
def znb:=tO #[]
def zna:=vO #[]
noncomputable def zm9:=Obj.mk k1 .none (Data.fields #[(sv 79 554),(sv 79 555),(sv 0 556),(iv 127),(iv 0),(iv 0),(iv 0),(iv 0),300,(.bool false),(iv 181),301,.none,.none,.none,.none,(iv 557),(iv 127),(sv 0 558)]) #[]
noncomputable def zm8:=Obj.mk k3 .none Data.plain #[(some 302),(some 3),(some 299),.none,(some (sv 69 516)),.none,(some 0)]
def zgM:=tO #[]
noncomputable def zgL:=Obj.mk k4 .none (Data.dict #[en P 32 559 (sv 69 516),en P 34 563 (.int 127 562),en P 35 564 304,en P 5 565 .none] 2) #[]
noncomputable def zgK:=Obj.mk k8 .none (Data.cls (ClassData.mk (s 79) [281] [306,281,k17,k18,k19,k9] 305 (s 79) true [] [] false .none false)) #[(some 297),.none,(some (sv 79 552)),(some (sv 79 560)),(some k20),(some (.bool true))]
noncomputable def zm7:=Obj.mk k15 .none (Data.fields #[306,306,306]) #[]
noncomputable def zm6:=Obj.mk k6 .none (Data.fields #[k16,306]) #[]
def zpe:=N (znk P) .nil .nil
def zpd:=N UF (zpe P) .nil
def zpc:=N zm8 .nil .nil
def zpb:=N Uu zpc .nil
def zpa:=N znf .nil .nil
def zo9:=N zhB zpa .nil
def zo8:=N zng .nil .nil
def zo7:=N zhC zo8 .nil
def zo6:=N zm7 .nil .nil
def zo5:=N Ur zo6 .nil
def zo4:=N (znc P) .nil .nil
def zo3:=N Ux (zo4 P) .nil
def zo2:=N zni .nil .nil
def zo1:=N UE zo2 .nil
def zo0:=N (zgL P) .nil .nil
def zoZ:=N zhy (zo0 P) .nil
def zoY:=N zgN .nil .nil
def zoX:=N Uy zoY .nil
def zoW:=N (zgP P) .nil .nil
def zoV:=N UB (zoW P) .nil
def zoU:=N zna .nil .nil
def zoT:=N Uv zoU .nil
def zoS:=N zgR .nil .nil
def zoR:=N zhF zoS .nil
noncomputable def zv9:=N (boot_o_5 P) (N (boot_o_9 P) (N o8 (N o24 zqy (N o91 zo1 zrD)) (N o40 zqv (N X6 (zoZ P) zqu))) (N o16 (N o32 zqr (N o99 zoX zqq)) (N o48 (N o83 (N UG (N zwP .nil .nil) .nil) zlb) zqo))) (N o2 (N o12 (N o28 zql (N o95 (zoV P) zry)) zqh) (N o20 (N o36 zqe (N YG zoT zqd)) (N o52 (N o87 zoR zru) zqb)))
def zoQ:=N znj .nil .nil
def zoP:=N zhD zoQ .nil
def zoO:=N zgM .nil .nil
def zoN:=N Ut zoO .nil
def zoM:=N zne .nil .nil
def zoL:=N Uz zoM .nil
def zoK:=N zgQ .nil .nil
def zoJ:=N UC zoK .nil
def zoI:=N zm6 .nil .nil
def zoH:=N W3 (N Uq zoI .nil) zpP
def zoG:=N znb .nil .nil
def zoF:=N Uw zoG .nil
def zoE:=N znh .nil .nil
def zoD:=N UD zoE .nil
def zoC:=N zgK .nil .nil
def zoB:=N Us zoC .nil
def zoA:=N znd .nil .nil
def zoz:=N zhA zoA .nil
def zoy:=N zgO .nil .nil
def zox:=N UA zoy .nil
def zow:=N zm9 .nil .nil
def zov:=N zhz zow .nil
def zou:=N znl .nil .nil
def zot:=N zhE zou .nil
noncomputable def zv8:=N (boot_o_6 P) (N (boot_o_10 P) (N o9 (N o25 (zpE P) (N o92 zoD zrf)) (N o41 (zpB P) (N (X1 P) zoB zpA))) (N o17 (N o33 (zpx P) (N YJ zoz (zpw P))) (zps P))) (N o3 (N o13 (N o29 zpp (N o96 zox zq9)) zpl) (N o21 (N o37 zpi (N X8 zov zph)) (N o53 (N o88 zot zq5) zpf)))
noncomputable def zv7:=N (boot_o_2 P) (N (boot_o_4 P) (N (boot_o_8 P) (N o7 (N o23 zp8 (N o90 zoP zrr)) (N o39 zp5 (N YF zoN zp4))) (N o15 (N o31 zp1 (N o98 zoL zp0)) (zpW P))) (N zwQ (N o11 (N o27 zpT (N o94 zoJ (zrl P))) (N o43 (zpQ P) zoH)) (N o19 (N o35 (zpM P) (N (YH P) zoF zpL)) (zpH P)))) (zv8 P)
noncomputable def zv6:=N (boot_o_0 P) (N (boot_o_1 P) (N (zwR P) (N (boot_o_7 P) (N o6 (N o22 zq1 (N o89 (zpd P) zrR)) (N o38 zqY (N X7 zpb zqX))) (N o14 (N o30 zqU (N o97 zo9 zrN)) zqQ)) (N o0 (N o10 (N o26 zqN (N o93 zo7 zrJ)) (N o42 zqK (N X0 zo5 zqJ))) (N o18 (N o34 zqG (N YI (zo3 P) zqF)) zqB))) (zv9 P)) (zv7 P)
noncomputable def sb7 (w:World) (os:OsState):SharedT:=⟨(zv6 w.params),309,(Life.mk [] [] [] 0 [] [] false #[] [] 0 false false false 0 [2000,10,10] false 0 true [] [] 0 false),⟨[]⟩,(Drawn.mk 0 0 0 0),568,os⟩
noncomputable def L6 (w:World) (os:OsState):Option (Flow×SharedT×Code×Pos):=segRunT treeTable PySem.Challenge.pw_beatless_k23_runs_by_pieces w 11 an 1 427 (sb6 w os) (piecesOf zt3 env cE (Pos.mk 123 0 124 8) B)
noncomputable def R6 (w:World) (os:OsState):Option (Flow×SharedT×Code×Pos):=some (.next,sb7 w os,cE,(Pos.mk 127 0 128 8))
theorem q6:tt (Hd.L6,Hd.R6)=true:=by k_qdec
theorem r6:∀ w,Fast.tw11518265509499319272 w=Hd.R6 w:=fun w=>by kernel_rfl
theorem e6 (w:World) (os:OsState):Hd.L6 w os=Hd.R6 w os:=(congrFun (congrFun Fast.te11518265509499319272 w) os).trans (congrFun (r6 w) os)
noncomputable def zt2:List Stmt:=[S 19,S 20,S 21,S 22,S 23,S 24,S 25,S 26,S 27,S 28,S 29,S 30,S 31,S 32,S 33,S 34]
noncomputable def zwO:=Obj.mk k4 .none (Data.dict #[en P 3 165 (sv 80 593),en P 5 166 .none,en P 6 167 .none,en P 7 168 k5,en P 8 169 .none,en P 9 170 6,en P 10 171 4,en P 11 173 (sv 0 172),en P 12 174 .none,en P 13 193 21,en P 14 201 26,en P 15 207 31,en P 16 213 36,en P 17 228 43,en P 18 236 50,en P 19 244 57,en P 20 266 67,en P 38 313 109,en P 49 360 149,en P 55 413 189,en P 62 462 229,en P 70 515 269,en P 71 535 281,en P 78 551 294,en P 79 567 306,en P 81 583 318,en P 82 592 327,en P 83 597 328,en P 84 603 329,en P 85 612 330,en P 86 617 331,en P 87 619 (.int 60 618),en P 88 621 (.int 8 620),en P 89 628 338,en P 90 636 345,en P 91 643 352,en P 92 653 359,en P 93 662 366,en P 94 668 371] 39) #[]
noncomputable def zwN:=vO #[(iv 1),(iv 0),20,(iv 5),(iv 0),25,(iv 7),(iv 0),30,(iv 16),(iv 0),35,(iv 23),(iv 0),42,(iv 34),(iv 0),49,(iv 36),(iv 0),56,(iv 39),(iv 0),63,(iv 41),(iv 0),77,(iv 54),(iv 0),117,(iv 67),(iv 0),157,(iv 90),(iv 0),197,(iv 104),(iv 0),237,(iv 123),(iv 0),277,(iv 125),(iv 0),290,(iv 127),(iv 0),302,(iv 129),(iv 0),314,(iv 132),(iv 0),326,(iv 141),(iv 0),337,(iv 143),(iv 0),344,(iv 145),(iv 0),351,(iv 147),(iv 0),358,(iv 152),(iv 0),365,(iv 166),(iv 0),370]
noncomputable def zgJ:=Obj.mk k8 .none (Data.cls (ClassData.mk (s 71) [k17] [281,k17,k18,k19,k9] 280 (s 71) true [] [294,306,318] false .none false)) #[(some 272),.none,(some (sv 71 518)),(some (sv 71 526)),(some k20),(some (.bool true))]
def zgI:=tO #[281]
noncomputable def zm5:=Obj.mk k6 .none (Data.fields #[k7,k8]) #[]
noncomputable def zm4:=Obj.mk k4 .none (Data.dict #[en P 32 575 (sv 69 516),en P 33 577 (sv 81 576),en P 34 579 (.int 129 578),en P 35 580 316] 4) #[]
def zm3:=tO #[]
def zm2:=vO #[]
noncomputable def zm1:=Obj.mk k1 .none (Data.fields #[(sv 81 570),(sv 81 571),(sv 0 572),(iv 129),(iv 0),(iv 0),(iv 0),(iv 0),312,(.bool false),(iv 181),313,.none,.none,.none,.none,(iv 573),(iv 129),(sv 0 574)]) #[]
noncomputable def zm0:=Obj.mk k3 .none Data.plain #[(some 314),(some 3),(some 311),.none,(some (sv 69 516)),.none,(some 0)]
def zgH:=tO #[]
noncomputable def zgG:=Obj.mk k4 .none (Data.dict #[en P 32 575 (sv 69 516),en P 34 579 (.int 129 578),en P 35 580 316,en P 5 581 .none] 2) #[]
noncomputable def zgF:=Obj.mk k8 .none (Data.cls (ClassData.mk (s 81) [281] [318,281,k17,k18,k19,k9] 317 (s 81) true [] [] false .none false)) #[(some 309),.none,(some (sv 81 568)),(some (sv 81 576)),(some k20),(some (.bool true))]
noncomputable def zmZ:=Obj.mk k15 .none (Data.fields #[318,318,318]) #[]
noncomputable def zmY:=Obj.mk k6 .none (Data.fields #[k16,318]) #[]
def zgE:=tO #[]
def zmX:=vO #[]
def zgD:=tO #[(sv 44 589)]
def zgC:=tO #[]
def zmW:=gO 82 82 (S 21)
noncomputable def zgB:=cO 82 82 586 587 588 132 1 3 321 322 323 324 325 590 591
def zgA:=uO 82 82 (S 21) 95 584 326
def zgz:=tO #[(sv 96 595),(sv 97 596)]
noncomputable def zgy:=tO #[(sv 98 598),(sv 96 599),(sv 99 600),(sv 97 601),(sv 100 602)]
noncomputable def zgx:=tO #[(sv 98 604),(sv 96 605),(sv 99 606),(sv 97 607),(sv 101 608),(sv 102 609),(sv 103 610),(sv 104 611)]
noncomputable def zgw:=tO #[(sv 105 613),(sv 106 614),(sv 107 615),(sv 108 616)]
def zgv:=tO #[]
def zmV:=vO #[]
def zgu:=tO #[(sv 44 625)]
def zgt:=tO #[]
def zmU:=gO 89 89 (S 29)
noncomputable def zgs:=cO 89 89 622 623 624 141 1 3 332 333 334 335 336 626 627
def zgr:=uO 89 89 (S 29) 80 593 337
def zgq:=tO #[]
def zmT:=vO #[]
def zgp:=tO #[(sv 50 632),(sv 42 633)]
def zgo:=tO #[]
def zmS:=gO 90 90 (S 30)
noncomputable def zgn:=cO 90 90 629 630 631 143 2 3 339 340 341 342 343 634 635
def zgm:=uO 90 90 (S 30) 80 593 344
def zgl:=tO #[]
def zmR:=vO #[]
def zgk:=tO #[(sv 64 640)]
def zgj:=tO #[]
def zmQ:=gO 91 91 (S 31)
noncomputable def zgi:=cO 91 91 637 638 639 145 1 3 346 347 348 349 350 641 642
def zgh:=uO 91 91 (S 31) 80 593 351
def zgg:=tO #[]
def zmP:=vO #[]
noncomputable def zgf:=tO #[(sv 109 647),(sv 110 648),(sv 111 649),(sv 112 650)]
def zge:=tO #[]
def zmO:=gO 92 92 (S 32)
noncomputable def zgd:=cO 92 92 644 645 646 147 3 3 353 354 355 356 357 651 652
def zgc:=uO 92 92 (S 32) 80 593 358
def zgb:=tO #[]
def zmN:=vO #[]
noncomputable def zga:=tO #[(sv 113 657),(sv 110 658),(sv 111 659)]
def zf9:=tO #[]
def zmM:=gO 93 93 (S 33)
noncomputable def zf8:=cO 93 93 654 655 656 152 3 3 360 361 362 363 364 660 661
def zf7:=uO 93 93 (S 33) 80 593 365
def zf6:=tO #[]
def zvW:=vO #[]
def zvV:=gO 94 94 (S 34)
noncomputable def zk0:=Obj.mk k1 .none (Data.fields #[(sv 94 663),(sv 94 664),(sv 0 665),(iv 166),(iv 1),(iv 0),(iv 0),(iv 3),367,(.bool true),(iv 181),368,.none,.none,.none,369,(iv 666),(iv 166),(sv 0 667)]) #[]
def zkZ:=uO 94 94 (S 34) 80 593 370
def zos:=N zmZ .nil .nil
def zor:=N zhu zos .nil
def zoq:=N zgi .nil .nil
def zop:=N VZ zoq .nil
def zoo:=N zgt .nil .nil
def zon:=N zhl zoo .nil
def zom:=N zf6 .nil .nil
def zol:=N VR zom .nil
def zok:=N zgA .nil .nil
def zoj:=N Ug zok .nil
def zoi:=N zgc .nil .nil
def zoh:=N zhe zoi .nil
def zog:=N zmS .nil .nil
def zof:=N V5 zog .nil
def zoe:=N (zm4 P) .nil .nil
def zod:=N zgD .nil .nil
def zoc:=N zhr zod .nil
def zob:=N zgf .nil .nil
def zoa:=N VW zob .nil
def zn9:=N zgq .nil .nil
def zn8:=N V8 zn9 .nil
def zn7:=N zkZ .nil .nil
def zn6:=N zk4 zn7 .nil
def zn5:=N zgw .nil .nil
def zn4:=N zhm zn5 .nil
def zn3:=N zf9 .nil .nil
def zn2:=N zhb zn3 .nil
def zn1:=N zmR .nil .nil
def zn0:=N V2 zn1 .nil
def znZ:=N zm0 .nil .nil
def znY:=N Uk znZ .nil
noncomputable def zv5:=N o0 (N o10 (N o26 (N WY zqO zoc) (N o93 zo7 zoa)) (N o42 (N o77 zqL zn8) (N X0 zo5 zn6))) (N o18 (N o34 (N o69 zqH zn4) (N YI (zo3 P) zn2)) (N o50 (N o85 zqD zn0) (N WZ znY zqC)))
def znX:=N zgE .nil .nil
def zfo:=N zht znX .nil
def zfn:=N zgg .nil .nil
def zfm:=N VY zfn .nil
def zfl:=N zgs .nil .nil
def zfk:=N V9 zfl .nil
def zfj:=N zvV .nil .nil
def zfi:=N zao zfj .nil
def zfh:=N zgy .nil .nil
def zfg:=N Uf zfh .nil
def zff:=N zmN .nil .nil
def zfe:=N zhd zff .nil
def zfd:=N zgJ .nil .nil
def zfc:=N zgm .nil .nil
def zfb:=N zhi zfc .nil
def zfa:=N zm2 .nil .nil
def ze9:=N zmW .nil .nil
def ze8:=N zhp ze9 .nil
def ze7:=N zmO .nil .nil
def ze6:=N VT ze7 .nil
def ze5:=N zgp .nil .nil
def ze4:=N V6 ze5 .nil
def ze3:=N zgI .nil .nil
def ze2:=N zmV .nil .nil
def ze1:=N Uc ze2 .nil
def ze0:=N zf8 .nil .nil
def zeZ:=N zg9 ze0 .nil
def zeY:=N zgj .nil .nil
def zeX:=N zhh zeY .nil
def zeW:=N (zgG P) .nil .nil
def zeV:=N Ui (zeW P) .nil
noncomputable def zlV:=N o2 (N o12 (N o28 (N o60 zqm ze8) (N o95 (zoV P) ze6)) (N o44 (N o79 zqj ze4) (N W2 (N zhx ze3 .nil) zqi))) (N o20 (N o36 (N o71 zqf ze1) (N YG zoT zeZ)) (N o52 (N o87 zoR zeX) (N Xq (zeV P) zqc)))
noncomputable def zlU:=N (boot_o_5 P) (N (boot_o_9 P) (N o8 (N o24 (N o56 zqz zfo) (N o91 zo1 zfm)) (N o40 (N o75 zqw zfk) (N X6 (zoZ P) zfi))) (N o16 (N o32 (N o67 zqs zfg) (N o99 zoX zfe)) (N o48 (N o83 (N UG zfd .nil) zfb) (N Xu (N Um zfa .nil) zqp)))) (zlV P)
def zeU:=N zmY .nil .nil
def zeT:=N Uh zeU .nil
def zeS:=N zgh .nil .nil
def zeR:=N zhg zeS .nil
def zeQ:=N zmU .nil .nil
def zeP:=N Ua zeQ .nil
def zeO:=N zvW .nil .nil
def zeN:=N zk5 zeO .nil
def zeM:=N zgz .nil .nil
def zeL:=N zhn zeM .nil
def zeK:=N zgb .nil .nil
def zeJ:=N VS zeK .nil
def zeI:=N zgn .nil .nil
def zeH:=N V4 zeI .nil
def zeG:=N zm3 .nil .nil
def zeF:=N zgC .nil .nil
def zeE:=N zhq zeF .nil
def zeD:=N zge .nil .nil
def zeC:=N (VU P) zeD .nil
def zeB:=N zmT .nil .nil
def zeA:=N V7 zeB .nil
def zez:=N zgv .nil .nil
def zey:=N Ud zez .nil
def zex:=N zmM .nil .nil
def zew:=N zha zex .nil
def zev:=N zgk .nil .nil
def zeu:=N V1 zev .nil
def zet:=N zgH .nil .nil
def zes:=N (Uj P) zet .nil
noncomputable def zlT:=N zwN (N o11 (N o27 (N o59 zpU zeE) (N o94 zoJ (zeC P))) (N o43 (N o78 (zpR P) zeA) zoH)) (N o19 (N o35 (N o70 (zpN P) zey) (N (YH P) zoF zew)) (N (o51 P) (N o86 zpJ zeu) (N Xr (zes P) zpI)))
def zer:=N zmX .nil .nil
def zeq:=N (zhs P) zer .nil
def zep:=N zmP .nil .nil
def zeo:=N VX zep .nil
def zen:=N zgr .nil .nil
def zem:=N zhk zen .nil
def zel:=N zk0 .nil .nil
def zek:=N zan zel .nil
def zej:=N zgx .nil .nil
def zei:=N Ue zej .nil
def zeh:=N zga .nil .nil
def zeg:=N (zhc P) zeh .nil
def zef:=N zgl .nil .nil
def zee:=N V3 zef .nil
def zed:=N zm1 .nil .nil
def zec:=N Ul zed .nil
def zeb:=N zgB .nil .nil
def zea:=N zho zeb .nil
def zd9:=N zgd .nil .nil
def zd8:=N zhf zd9 .nil
def zd7:=N zgo .nil .nil
def zd6:=N zhj zd7 .nil
def zd5:=N zm5 .nil .nil
def zd4:=N zgu .nil .nil
def zd3:=N Ub zd4 .nil
def zd2:=N zf7 .nil .nil
def zd1:=N zg8 zd2 .nil
def zd0:=N zmQ .nil .nil
def zdZ:=N V0 zd0 .nil
def zdY:=N zgF .nil .nil
def zdX:=N zhv zdY .nil
noncomputable def zlS:=N o3 (N o13 (N o29 (N o61 zpq zea) (N o96 zox zd8)) (N o45 (N o80 zpn zd6) (N W1 (N Up zd5 .nil) zpm))) (N o21 (N o37 (N o72 zpj zd3) (N X8 zov zd1)) (N o53 (N o88 zot zdZ) (N Xp zdX zpg)))
noncomputable def zlR:=N (boot_o_6 P) (N (boot_o_10 P) (N o9 (N o25 (N (o57 P) zpF (zeq P)) (N o92 zoD zeo)) (N o41 (N o76 (zpC P) zem) (N (X1 P) zoB zek))) (N o17 (N o33 (N (o68 P) zpy zei) (N YJ zoz (zeg P))) (N o49 (N o84 (zpu P) zee) (N Xs zec zpt)))) zlS
noncomputable def zlQ:=N (boot_o_2 P) (N (boot_o_4 P) (N (boot_o_8 P) (N o7 (N o23 (N o55 zp9 zeT) (N o90 zoP zeR)) (N o39 (N o74 zp6 zeP) (N YF zoN zeN))) (N o15 (N o31 (N o66 zp2 zeL) (N o98 zoL zeJ)) (N o47 (N o82 (zpY P) zeH) (N W0 (N zhw zeG .nil) zpX)))) (zlT P)) (zlR P)
noncomputable def zlP:=N (boot_o_0 P) (N (boot_o_1 P) (N (zwO P) (N (boot_o_7 P) (N o6 (N o22 (N o54 zq2 zor) (N o89 (zpd P) zop)) (N o38 (N o73 zqZ zon) (N X7 zpb zol))) (N o14 (N o30 (N o62 zqV zoj) (N o97 zo9 zoh)) (N o46 (N o81 zqS zof) (N Xv (N Uo (zoe P) .nil) zqR)))) (zv5 P)) (zlU P)) (zlQ P)
noncomputable def sb8 (w:World) (os:OsState):SharedT:=⟨(zlP w.params),372,(Life.mk [] [] [] 0 [] [] false #[] [] 0 false false false 0 [2000,10,10] false 0 true [] [] 0 false),⟨[]⟩,(Drawn.mk 0 0 0 0),669,os⟩
noncomputable def L7 (w:World) (os:OsState):Option (Flow×SharedT×Code×Pos):=segRunT treeTable PySem.Challenge.pw_beatless_k23_runs_by_pieces w 11 an 1 515 (sb7 w os) (piecesOf zt2 env cE (Pos.mk 127 0 128 8) B)
noncomputable def R7 (w:World) (os:OsState):Option (Flow×SharedT×Code×Pos):=some (.next,sb8 w os,cE,(Pos.mk 166 0 167 53))
theorem q7:tt (Hd.L7,Hd.R7)=true:=by k_qdec
theorem r7:∀ w,Fast.tw9490284035958612641 w=Hd.R7 w:=fun w=>by kernel_rfl
theorem e7 (w:World) (os:OsState):Hd.L7 w os=Hd.R7 w os:=(congrFun (congrFun Fast.te9490284035958612641 w) os).trans (congrFun (r7 w) os)
noncomputable def zt1:List Stmt:=[S 35,S 36,S 37,S 38,S 39,S 40,S 41,S 42]
noncomputable def zwM:=Obj.mk k4 .none (Data.dict #[en P 3 165 (sv 114 739),en P 5 166 .none,en P 6 167 .none,en P 7 168 k5,en P 8 169 .none,en P 9 170 6,en P 10 171 4,en P 11 173 (sv 0 172),en P 12 174 .none,en P 13 193 21,en P 14 201 26,en P 15 207 31,en P 16 213 36,en P 17 228 43,en P 18 236 50,en P 19 244 57,en P 20 266 67,en P 38 313 109,en P 49 360 149,en P 55 413 189,en P 62 462 229,en P 70 515 269,en P 71 535 281,en P 78 551 294,en P 79 567 306,en P 81 583 318,en P 82 592 327,en P 83 597 328,en P 84 603 329,en P 85 612 330,en P 86 617 331,en P 87 619 (.int 60 618),en P 88 621 (.int 8 620),en P 89 628 338,en P 90 636 345,en P 91 643 352,en P 92 653 359,en P 93 662 366,en P 94 668 371,en P 115 738 409,en P 116 742 (.int 12 741),en P 117 744 (.int 99 743),en P 118 753 420,en P 119 761 427,en P 120 771 434,en P 121 783 441] 46) #[]
noncomputable def zwL:=vO #[(iv 1),(iv 0),20,(iv 5),(iv 0),25,(iv 7),(iv 0),30,(iv 16),(iv 0),35,(iv 23),(iv 0),42,(iv 34),(iv 0),49,(iv 36),(iv 0),56,(iv 39),(iv 0),63,(iv 41),(iv 0),77,(iv 54),(iv 0),117,(iv 67),(iv 0),157,(iv 90),(iv 0),197,(iv 104),(iv 0),237,(iv 123),(iv 0),277,(iv 125),(iv 0),290,(iv 127),(iv 0),302,(iv 129),(iv 0),314,(iv 132),(iv 0),326,(iv 141),(iv 0),337,(iv 143),(iv 0),344,(iv 145),(iv 0),351,(iv 147),(iv 0),358,(iv 152),(iv 0),365,(iv 166),(iv 0),370,(iv 168),(iv 0),377,(iv 203),(iv 0),419,(iv 212),(iv 0),426,(iv 218),(iv 0),433,(iv 227),(iv 0),440]
def zvU:=tO #[]
noncomputable def zvT:=Obj.mk k6 .none (Data.fields #[k7,k8]) #[]
noncomputable def zvS:=Obj.mk k4 .none (Data.dict #[en P 32 676 (sv 80 593),en P 33 678 (sv 115 677),en P 34 680 (.int 168 679),en P 39 691 385,en P 122 700 392,en P 123 713 399,en P 124 726 406,en P 35 731 407] 8) #[]
def zvR:=tO #[]
noncomputable def zvQ:=vO #[(iv 170),(iv 4),384,(iv 184),(iv 4),391,(iv 187),(iv 4),398,(iv 193),(iv 4),405]
noncomputable def zvP:=Obj.mk k1 .none (Data.fields #[(sv 115 671),(sv 115 672),(sv 0 673),(iv 168),(iv 0),(iv 0),(iv 0),(iv 0),375,(.bool false),(iv 181),376,.none,.none,.none,.none,(iv 674),(iv 168),(sv 0 675)]) #[]
noncomputable def zvO:=Obj.mk k3 .none Data.plain #[(some 377),(some 3),(some 374),.none,(some (sv 80 593)),.none,(some 0)]
def zkY:=tO #[]
def zvN:=vO #[]
noncomputable def zkX:=tO #[(sv 43 684),(sv 125 685),(sv 126 686),(sv 127 687),(sv 128 688)]
def zkW:=tO #[]
def zvM:=gO 39 129 (L2.inClass (S 35) 0)
noncomputable def zkV:=cO 39 129 681 682 683 170 5 3 379 380 381 382 383 689 690
noncomputable def zkU:=uO 39 129 (L2.inClass (S 35) 0) 80 593 384
def zkT:=tO #[]
def zvL:=vO #[]
noncomputable def zkS:=tO #[(sv 43 695),(sv 130 696),(sv 97 697)]
def zkR:=tO #[]
noncomputable def zvK:=gO 122 131 (L2.inClass (S 35) 1)
noncomputable def zkQ:=cO 122 131 692 693 694 184 3 3 386 387 388 389 390 698 699
noncomputable def zkP:=uO 122 131 (L2.inClass (S 35) 1) 80 593 391
def zkO:=tO #[]
def zvJ:=vO #[]
noncomputable def zkN:=tO #[(sv 43 704),(sv 98 705),(sv 130 706),(sv 31 707),(sv 97 708),(sv 57 709),(sv 26 710)]
def zkM:=tO #[]
noncomputable def zvI:=gO 123 132 (L2.inClass (S 35) 2)
noncomputable def zkL:=cO 123 132 701 702 703 187 6 3 393 394 395 396 397 711 712
noncomputable def zkK:=uO 123 132 (L2.inClass (S 35) 2) 80 593 398
def zkJ:=tO #[]
def zvH:=vO #[]
noncomputable def zkI:=tO #[(sv 43 717),(sv 98 718),(sv 130 719),(sv 31 720),(sv 97 721),(sv 27 722),(sv 26 723)]
def zkH:=tO #[]
noncomputable def zvG:=gO 124 133 (L2.inClass (S 35) 3)
noncomputable def zkG:=cO 124 133 714 715 716 193 6 3 400 401 402 403 404 724 725
noncomputable def zkF:=uO 124 133 (L2.inClass (S 35) 3) 80 593 405
noncomputable def zkE:=tO #[(sv 128 727),(sv 126 728),(sv 125 729),(sv 127 730)]
noncomputable def zkD:=Obj.mk k4 .none (Data.dict #[en P 32 676 (sv 80 593),en P 34 680 (.int 168 679),en P 39 691 385,en P 122 700 392,en P 123 713 399,en P 124 726 406,en P 35 731 407,en P 36 733 410,en P 37 735 411,en P 5 736 .none] 4) #[]
noncomputable def zkC:=Obj.mk k8 .none (Data.cls (ClassData.mk (s 115) [k9] [409,k9] 408 (s 115) true [] [] false .none false)) #[.none,.none,(some (sv 115 669)),(some (sv 115 677)),(some k10),(some (.bool true))]
noncomputable def zkB:=Obj.mk k11 .none (Data.fields #[(sv 36 732),409,k12,k13]) #[]
noncomputable def zkA:=Obj.mk k11 .none (Data.fields #[(sv 37 734),409,k14,.none]) #[]
noncomputable def zvF:=Obj.mk k15 .none (Data.fields #[409,409,409]) #[]
noncomputable def zvE:=Obj.mk k6 .none (Data.fields #[k16,409]) #[]
def zkz:=tO #[]
def zvD:=vO #[]
noncomputable def zky:=tO #[(sv 134 748),(sv 135 749),(sv 130 750)]
def zkx:=tO #[]
def zvC:=gO 118 118 (S 39)
noncomputable def zkw:=cO 118 118 745 746 747 203 1 3 414 415 416 417 418 751 752
def zkv:=uO 118 118 (S 39) 114 739 419
def zku:=tO #[]
def zvB:=vO #[]
def zkt:=tO #[(sv 136 757),(sv 134 758)]
def zks:=tO #[]
def zvA:=gO 119 119 (S 40)
noncomputable def zkr:=cO 119 119 754 755 756 212 2 3 421 422 423 424 425 759 760
def zkq:=uO 119 119 (S 40) 114 739 426
def zkp:=tO #[]
def zvz:=vO #[]
noncomputable def zko:=tO #[(sv 97 765),(sv 134 766),(sv 137 767),(sv 136 768)]
def zkn:=tO #[]
def zvy:=gO 120 120 (S 41)
noncomputable def zkm:=cO 120 120 762 763 764 218 2 3 428 429 430 431 432 769 770
def zkl:=uO 120 120 (S 41) 114 739 433
def zkk:=tO #[]
def zvx:=vO #[]
noncomputable def zkj:=tO #[(sv 134 775),(sv 97 776),(sv 138 777),(sv 130 778),(sv 56 779),(sv 57 780)]
def zki:=tO #[]
def zvw:=gO 121 121 (S 42)
noncomputable def zkh:=cO 121 121 772 773 774 227 2 3 435 436 437 438 439 781 782
def zkg:=uO 121 121 (S 42) 114 739 440
def zdW:=N zvM .nil .nil
def zdV:=N zvD .nil .nil
def zdU:=N UF (zpe P) zdV
def zdT:=N zkK .nil .nil
def zdS:=N zkn .nil .nil
def zdR:=N Uu zpc zdS
def zdQ:=N zkQ .nil .nil
def zdP:=N zkt .nil .nil
def zdO:=N zhB zpa zdP
def zdN:=N zkE .nil .nil
def zdM:=N zvw .nil .nil
def zdL:=N Uo (zoe P) zdM
def zdK:=N zvR .nil .nil
def zdJ:=N zvL .nil .nil
def zdI:=N zkw .nil .nil
def zdH:=N zhC zo8 zdI
def zdG:=N zkH .nil .nil
def zdF:=N zkk .nil .nil
def zdE:=N Ur zo6 zdF
def zdD:=N zkN .nil .nil
def zdC:=N zkq .nil .nil
def zdB:=N Ux (zo4 P) zdC
def zdA:=N zkA .nil .nil
def zdz:=N zhH zqE zdA
def zdy:=N zkY .nil .nil
noncomputable def zlO:=N o0 (N o10 (N o26 (N WY (N UW zqP zdJ) zoc) (N o93 zdH zoa)) (N o42 (N o77 (N UK zqM zdG) zn8) (N X0 zdE zn6))) (N o18 (N o34 (N o69 (N UQ zqI zdD) zn4) (N YI (zdB P) zn2)) (N o50 (N o85 zdz zn0) (N WZ znY (N zah zdy .nil))))
def zdx:=N zkU .nil .nil
def zdw:=N zkx .nil .nil
def zdv:=N UE zo2 zdw
def zdu:=N zvH .nil .nil
def zdt:=N zkm .nil .nil
def zds:=N zhy (zo0 P) zdt
def zdr:=N zkO .nil .nil
def zdq:=N zvA .nil .nil
def zdp:=N Uy zoY zdq
def zdo:=N zkC .nil .nil
def zdn:=N zkg .nil .nil
def zdm:=N Um zfa zdn
def zdl:=N zvP .nil .nil
def zdk:=N zkR .nil .nil
def zdj:=N zku .nil .nil
def zdi:=N UB (zoW P) zdj
def zdh:=N zkG .nil .nil
def zdg:=N zkj .nil .nil
def zdf:=N zhx ze3 zdg
def zde:=N zvT .nil .nil
def zdd:=N zvI .nil .nil
def zdc:=N zvz .nil .nil
def zdb:=N Uv zoU zdc
def zda:=N zvE .nil .nil
def zc9:=N zhF zoS zda
def zc8:=N zkX .nil .nil
noncomputable def zlN:=N o2 (N o12 (N o28 (N o60 (N UU zqn zdk) ze8) (N o95 (zdi P) ze6)) (N o44 (N o79 (N UI zqk zdh) ze4) (N W2 zdf (N zal zde .nil)))) (N o20 (N o36 (N o71 (N zhM zqg zdd) ze1) (N YG zdb zeZ)) (N o52 (N o87 zc9 zeX) (N Xq (zeV P) (N zaf zc8 .nil))))
noncomputable def zlM:=N (boot_o_5 P) (N (boot_o_9 P) (N o8 (N o24 (N o56 (N UX zqA zdx) zfo) (N o91 zdv zfm)) (N o40 (N o75 (N UM zqx zdu) zfk) (N X6 (zds P) zfi))) (N o16 (N o32 (N o67 (N zhN zqt zdr) zfg) (N o99 zdp zfe)) (N o48 (N o83 (N UG zfd zdo) zfb) (N Xu zdm (N zai zdl .nil))))) (zlN P)
def zc7:=N zkV .nil .nil
def zc6:=N zky .nil .nil
def zc5:=N zhD zoQ zc6
def zc4:=N zkJ .nil .nil
def zc3:=N zvy .nil .nil
def zc2:=N Ut zoO zc3
def zc1:=N zkP .nil .nil
def zc0:=N zks .nil .nil
def zcZ:=N Uz zoM zc0
def zcY:=N (zkD P) .nil .nil
def zcX:=N zkh .nil .nil
def zcW:=N zhw zeG zcX
def zcV:=N zvQ .nil .nil
def zcU:=N zkS .nil .nil
def zcT:=N zkv .nil .nil
def zcS:=N UC zoK zcT
def zcR:=N zvG .nil .nil
def zcQ:=N zvx .nil .nil
def zcP:=N Uq zoI zcQ
def zcO:=N zvU .nil .nil
def zcN:=N zkM .nil .nil
def zcM:=N zkp .nil .nil
def zcL:=N Uw zoG zcM
def zcK:=N zvF .nil .nil
def zcJ:=N zhG zpK zcK
def zcI:=N zvN .nil .nil
noncomputable def zlL:=N zwL (N o11 (N o27 (N o59 (N UV zpV zcU) zeE) (N o94 zcS (zeC P))) (N o43 (N o78 (N (UJ P) zpS zcR) zeA) (N W3 zcP (N zam zcO .nil)))) (N o19 (N o35 (N o70 (N UP (zpO P) zcN) zey) (N (YH P) zcL zew)) (N (o51 P) (N o86 zcJ zeu) (N Xr (zes P) (N zag zcI .nil))))
def zcH:=N zkT .nil .nil
def zcG:=N zvC .nil .nil
def zcF:=N UD zoE zcG
def zcE:=N zkI .nil .nil
def zcD:=N zkl .nil .nil
def zcC:=N Us zoC zcD
def zcB:=N zvJ .nil .nil
def zcA:=N zkr .nil .nil
def zcz:=N zhA zoA zcA
def zcy:=N zkB .nil .nil
def zcx:=N (zhI P) zpv zcy
def zcw:=N zvO .nil .nil
def zcv:=N zvK .nil .nil
def zcu:=N zvB .nil .nil
def zct:=N UA zoy zcu
def zcs:=N zkF .nil .nil
def zcr:=N zki .nil .nil
def zcq:=N Up zd5 zcr
def zcp:=N (zvS P) .nil .nil
def zco:=N zkL .nil .nil
def zcn:=N zko .nil .nil
def zcm:=N zhz zow zcn
def zcl:=N zkz .nil .nil
def zck:=N zhE zou zcl
def zcj:=N zkW .nil .nil
noncomputable def zlK:=N o3 (N o13 (N o29 (N o61 (N zhO zpr zcv) zea) (N o96 zct zd8)) (N o45 (N o80 (N zhK zpo zcs) zd6) (N W1 zcq (N zak (zcp P) .nil)))) (N o21 (N o37 (N o72 (N UO zpk zco) zd3) (N X8 zcm zd1)) (N o53 (N o88 zck zdZ) (N Xp zdX (N zk1 zcj .nil))))
noncomputable def zlJ:=N (boot_o_6 P) (N (boot_o_10 P) (N o9 (N o25 (N (o57 P) (N zhP zpG zcH) (zeq P)) (N o92 zcF zeo)) (N o41 (N o76 (N UL (zpD P) zcE) zem) (N (X1 P) zcC zek))) (N o17 (N o33 (N (o68 P) (N UR zpz zcB) zei) (N YJ zcz (zeg P))) (N o49 (N o84 (zcx P) zee) (N Xs zec (N zk2 zcw .nil))))) (zlK P)
noncomputable def zlI:=N (boot_o_2 P) (N (boot_o_4 P) (N (boot_o_8 P) (N o7 (N o23 (N o55 (N UY zqa zc7) zeT) (N o90 zc5 zeR)) (N o39 (N o74 (N zhL zp7 zc4) zeP) (N YF zc2 zeN))) (N o15 (N o31 (N o66 (N US zp3 zc1) zeL) (N o98 zcZ zeJ)) (N o47 (N o82 (N UH (zpZ P) (zcY P)) zeH) (N W0 zcW (N zaj zcV .nil))))) (zlL P)) (zlJ P)
noncomputable def zlH:=N (boot_o_0 P) (N (boot_o_1 P) (N (zwM P) (N (boot_o_7 P) (N o6 (N o22 (N o54 (N zhQ zq3 zdW) zor) (N o89 (zdU P) zop)) (N o38 (N o73 (N UN zq0 zdT) zon) (N X7 zdR zol))) (N o14 (N o30 (N o62 (N UT zqW zdQ) zoj) (N o97 zdO zoh)) (N o46 (N o81 (N zhJ zqT zdN) zof) (N Xv (zdL P) (N zk3 zdK .nil))))) (zlO P)) (zlM P)) (zlI P)
noncomputable def sb9 (w:World) (os:OsState):SharedT:=⟨(zlH w.params),442,(Life.mk [] [] [] 0 [] [] false #[] [] 0 false false false 0 [2000,10,10] false 0 true [] [] 0 false),⟨[]⟩,(Drawn.mk 0 0 0 0),784,os⟩
noncomputable def L8 (w:World) (os:OsState):Option (Flow×SharedT×Code×Pos):=segRunT treeTable PySem.Challenge.pw_beatless_k23_runs_by_pieces w 11 an 1 490 (sb8 w os) (piecesOf zt1 env cE (Pos.mk 166 0 167 53) B)
noncomputable def R8 (w:World) (os:OsState):Option (Flow×SharedT×Code×Pos):=some (.next,sb9 w os,cE,(Pos.mk 227 0 234 15))
theorem q8:tt (Hd.L8,Hd.R8)=true:=by k_qdec
theorem r8:∀ w,Fast.tw7116466485190837356 w=Hd.R8 w:=fun w=>by kernel_rfl
theorem e8 (w:World) (os:OsState):Hd.L8 w os=Hd.R8 w os:=(congrFun (congrFun Fast.te7116466485190837356 w) os).trans (congrFun (r8 w) os)
noncomputable def zt0:List Stmt:=[S 43,S 44,S 45,S 46,S 47,S 48]
noncomputable def zwK:=Obj.mk k4 .none (Data.dict #[en P 3 165 (sv 139 870),en P 5 166 .none,en P 6 167 .none,en P 7 168 k5,en P 8 169 .none,en P 9 170 6,en P 10 171 4,en P 11 173 (sv 0 172),en P 12 174 .none,en P 13 193 21,en P 14 201 26,en P 15 207 31,en P 16 213 36,en P 17 228 43,en P 18 236 50,en P 19 244 57,en P 20 266 67,en P 38 313 109,en P 49 360 149,en P 55 413 189,en P 62 462 229,en P 70 515 269,en P 71 535 281,en P 78 551 294,en P 79 567 306,en P 81 583 318,en P 82 592 327,en P 83 597 328,en P 84 603 329,en P 85 612 330,en P 86 617 331,en P 87 619 (.int 60 618),en P 88 621 (.int 8 620),en P 89 628 338,en P 90 636 345,en P 91 643 352,en P 92 653 359,en P 93 662 366,en P 94 668 371,en P 115 738 409,en P 116 742 (.int 12 741),en P 117 744 (.int 99 743),en P 118 753 420,en P 119 761 427,en P 120 771 434,en P 121 783 441,en P 140 869 507,en P 141 879 518,en P 142 892 525,en P 143 900 532,en P 144 906 537] 51) #[]
noncomputable def zwJ:=vO #[(iv 1),(iv 0),20,(iv 5),(iv 0),25,(iv 7),(iv 0),30,(iv 16),(iv 0),35,(iv 23),(iv 0),42,(iv 34),(iv 0),49,(iv 36),(iv 0),56,(iv 39),(iv 0),63,(iv 41),(iv 0),77,(iv 54),(iv 0),117,(iv 67),(iv 0),157,(iv 90),(iv 0),197,(iv 104),(iv 0),237,(iv 123),(iv 0),277,(iv 125),(iv 0),290,(iv 127),(iv 0),302,(iv 129),(iv 0),314,(iv 132),(iv 0),326,(iv 141),(iv 0),337,(iv 143),(iv 0),344,(iv 145),(iv 0),351,(iv 147),(iv 0),358,(iv 152),(iv 0),365,(iv 166),(iv 0),370,(iv 168),(iv 0),377,(iv 203),(iv 0),419,(iv 212),(iv 0),426,(iv 218),(iv 0),433,(iv 227),(iv 0),440,(iv 235),(iv 0),447,(iv 269),(iv 0),517,(iv 273),(iv 0),524,(iv 287),(iv 0),531,(iv 291),(iv 0),536]
def zvv:=tO #[]
noncomputable def zvu:=Obj.mk k6 .none (Data.fields #[k7,k8]) #[]
noncomputable def zvt:=Obj.mk k4 .none (Data.dict #[en P 32 791 (sv 114 739),en P 33 793 (sv 140 792),en P 34 795 (.int 235 794),en P 39 804 455,en P 134 811 462,en P 97 818 469,en P 145 826 476,en P 146 835 483,en P 147 843 490,en P 148 850 497,en P 149 858 504,en P 35 862 505] 12) #[]
def zvs:=tO #[]
noncomputable def zvr:=vO #[(iv 237),(iv 4),454,(iv 246),(iv 4),461,(iv 249),(iv 4),468,(iv 252),(iv 4),475,(iv 255),(iv 4),482,(iv 258),(iv 4),489,(iv 263),(iv 4),496,(iv 266),(iv 4),503]
noncomputable def zvq:=Obj.mk k1 .none (Data.fields #[(sv 140 786),(sv 140 787),(sv 0 788),(iv 235),(iv 0),(iv 0),(iv 0),(iv 0),445,(.bool false),(iv 181),446,.none,.none,.none,.none,(iv 789),(iv 235),(sv 0 790)]) #[]
noncomputable def zvp:=Obj.mk k3 .none Data.plain #[(some 447),(some 3),(some 444),.none,(some (sv 114 739)),.none,(some 0)]
def zkf:=tO #[]
def zvo:=vO #[]
noncomputable def zke:=tO #[(sv 43 799),(sv 134 800),(sv 97 801)]
def zkd:=tO #[]
def zvn:=gO 39 150 (L2.inClass (S 43) 0)
noncomputable def zkc:=cO 39 150 796 797 798 237 3 3 449 450 451 452 453 802 803
noncomputable def zkb:=uO 39 150 (L2.inClass (S 43) 0) 114 739 454
def zka:=tO #[]
def zvm:=vO #[]
def zj9:=tO #[(sv 43 808)]
def zj8:=tO #[]
noncomputable def zvl:=gO 134 151 (L2.inClass (S 43) 1)
noncomputable def zj7:=cO 134 151 805 806 807 246 1 3 456 457 458 459 460 809 810
noncomputable def zj6:=uO 134 151 (L2.inClass (S 43) 1) 114 739 461
def zj5:=tO #[]
def zvk:=vO #[]
def zj4:=tO #[(sv 43 815)]
def zj3:=tO #[]
def zvj:=gO 97 152 (L2.inClass (S 43) 2)
noncomputable def zj2:=cO 97 152 812 813 814 249 1 3 463 464 465 466 467 816 817
noncomputable def zj1:=uO 97 152 (L2.inClass (S 43) 2) 114 739 468
def zj0:=tO #[]
def zvi:=vO #[]
def zjZ:=tO #[(sv 43 822),(sv 130 823)]
def zjY:=tO #[]
noncomputable def zvh:=gO 145 153 (L2.inClass (S 43) 3)
noncomputable def zjX:=cO 145 153 819 820 821 252 2 3 470 471 472 473 474 824 825
noncomputable def zjW:=uO 145 153 (L2.inClass (S 43) 3) 114 739 475
def zjV:=tO #[]
def zvg:=vO #[]
noncomputable def zjU:=tO #[(sv 43 830),(sv 56 831),(sv 57 832)]
def zjT:=tO #[]
noncomputable def zvf:=gO 146 154 (L2.inClass (S 43) 4)
noncomputable def zjS:=cO 146 154 827 828 829 255 3 3 477 478 479 480 481 833 834
noncomputable def zjR:=uO 146 154 (L2.inClass (S 43) 4) 114 739 482
def zjQ:=tO #[]
def zve:=vO #[]
def zjP:=tO #[(sv 43 839),(sv 130 840)]
def zjO:=tO #[]
noncomputable def zvd:=gO 147 155 (L2.inClass (S 43) 5)
noncomputable def zjN:=cO 147 155 836 837 838 258 2 3 484 485 486 487 488 841 842
noncomputable def zjM:=uO 147 155 (L2.inClass (S 43) 5) 114 739 489
def zjL:=tO #[]
def zvc:=vO #[]
def zjK:=tO #[(sv 43 847)]
def zjJ:=tO #[]
noncomputable def zvb:=gO 148 156 (L2.inClass (S 43) 6)
noncomputable def zjI:=cO 148 156 844 845 846 263 1 3 491 492 493 494 495 848 849
noncomputable def zjH:=uO 148 156 (L2.inClass (S 43) 6) 114 739 496
def zjG:=tO #[]
def zva:=vO #[]
def zjF:=tO #[(sv 43 854),(sv 130 855)]
def zjE:=tO #[]
noncomputable def zu9:=gO 149 157 (L2.inClass (S 43) 7)
noncomputable def zjD:=cO 149 157 851 852 853 266 2 3 498 499 500 501 502 856 857
noncomputable def zjC:=uO 149 157 (L2.inClass (S 43) 7) 114 739 503
noncomputable def zjB:=tO #[(sv 138 859),(sv 158 860),(sv 159 861)]
noncomputable def zjA:=Obj.mk k4 .none (Data.dict #[en P 32 791 (sv 114 739),en P 34 795 (.int 235 794),en P 39 804 455,en P 134 811 462,en P 97 818 469,en P 145 826 476,en P 146 835 483,en P 147 843 490,en P 148 850 497,en P 149 858 504,en P 35 862 505,en P 36 864 508,en P 37 866 509,en P 5 867 .none] 4) #[]
noncomputable def zjz:=Obj.mk k8 .none (Data.cls (ClassData.mk (s 140) [k9] [507,k9] 506 (s 140) true [] [] false .none false)) #[.none,.none,(some (sv 140 784)),(some (sv 140 792)),(some k10),(some (.bool true))]
noncomputable def zjy:=Obj.mk k11 .none (Data.fields #[(sv 36 863),507,k12,k13]) #[]
noncomputable def zjx:=Obj.mk k11 .none (Data.fields #[(sv 37 865),507,k14,.none]) #[]
noncomputable def zu8:=Obj.mk k15 .none (Data.fields #[507,507,507]) #[]
noncomputable def zu7:=Obj.mk k6 .none (Data.fields #[k16,507]) #[]
def zjw:=tO #[]
def zu6:=vO #[]
def zjv:=tO #[(sv 160 875),(sv 161 876)]
def zju:=tO #[]
def zu5:=gO 141 141 (S 45)
noncomputable def zjt:=cO 141 141 872 873 874 269 2 3 512 513 514 515 516 877 878
def zjs:=uO 141 141 (S 45) 139 870 517
def zjr:=tO #[]
def zu4:=vO #[]
noncomputable def zjq:=tO #[(sv 162 883),(sv 163 884),(sv 164 885),(sv 165 886),(sv 166 887),(sv 161 888),(sv 167 889)]
def zjp:=tO #[]
def zu3:=gO 142 142 (S 46)
noncomputable def zjo:=cO 142 142 880 881 882 273 2 3 519 520 521 522 523 890 891
def zjn:=uO 142 142 (S 46) 139 870 524
def zjm:=tO #[]
def zu2:=vO #[]
def zjl:=tO #[(sv 168 896),(sv 169 897)]
def zjk:=tO #[]
def zu1:=gO 143 143 (S 47)
noncomputable def zjj:=cO 143 143 893 894 895 287 2 3 526 527 528 529 530 898 899
def zji:=uO 143 143 (S 47) 139 870 531
def zjh:=tO #[]
def zu0:=vO #[]
def zuZ:=gO 144 144 (S 48)
noncomputable def zjg:=Obj.mk k1 .none (Data.fields #[(sv 144 901),(sv 144 902),(sv 0 903),(iv 291),(iv 2),(iv 0),(iv 0),(iv 3),533,(.bool true),(iv 181),534,.none,.none,.none,535,(iv 904),(iv 291),(sv 0 905)]) #[]
def zjf:=uO 144 144 (S 48) 139 870 536
noncomputable def zci:=N zhQ (N zg7 (N zu7 .nil .nil) .nil) zdW
def zch:=N zvq .nil .nil
def zcg:=N zjU .nil .nil
noncomputable def zcf:=N UN (N znu (N zu2 .nil .nil) .nil) zdT
def zce:=N zj5 .nil .nil
def zcd:=N zvb .nil .nil
noncomputable def zcc:=N UT (N zg1 (N zjr .nil .nil) .nil) zdQ
def zcb:=N zkb .nil .nil
def zca:=N zjO .nil .nil
noncomputable def zb9:=N zhJ (N zgU (N zuZ .nil .nil) .nil) zdN
def zb8:=N zvi .nil .nil
def zb7:=N zk3 zdK (N zjD .nil .nil)
noncomputable def zb6:=N UW (N zg4 (N zju .nil .nil) .nil) zdJ
def zb5:=N zke .nil .nil
def zb4:=N zjR .nil .nil
noncomputable def zb3:=N UK (N znr (N zjj .nil .nil) .nil) zdG
def zb2:=N zvj .nil .nil
def zb1:=N zk4 zn7 (N zva .nil .nil)
noncomputable def zb0:=N UQ (N zgY (N zu3 .nil .nil) .nil) zdD
def zbZ:=N zj8 .nil .nil
def zbY:=N zjL .nil .nil
def zbX:=N zjX .nil .nil
def zbW:=N zvu .nil .nil
def zbV:=N zah zdy (N zjz .nil .nil)
noncomputable def zlG:=N o0 (N o10 (N o26 (N WY zb6 (N zhr zod zb5)) (N o93 zdH (N VW zob zb4))) (N o42 (N o77 zb3 (N V8 zn9 zb2)) (N X0 zdE zb1))) (N o18 (N o34 (N o69 zb0 (N zhm zn5 zbZ)) (N YI (zdB P) (N zhb zn3 zbY))) (N o50 (N o85 zdz (N V2 zn1 zbX)) (N WZ (N Uk znZ zbW) zbV)))
noncomputable def zbU:=N UX (N zny (N zu6 .nil .nil) .nil) zdx
def zbT:=N zkf .nil .nil
def zbS:=N zvf .nil .nil
noncomputable def zbR:=N UM (N znt (N zjk .nil .nil) .nil) zdu
def zbQ:=N zj4 .nil .nil
def zbP:=N zao zfj (N zjH .nil .nil)
noncomputable def zbO:=N zhN (N zg0 (N zjq .nil .nil) .nil) zdr
def zbN:=N zvm .nil .nil
def zbM:=N zjN .nil .nil
noncomputable def zbL:=N UG (N zgJ (N zjf .nil .nil) .nil) zdo
def zbK:=N zjY .nil .nil
def zbJ:=N zai zdl (N zjB .nil .nil)
noncomputable def zbI:=N UU (N znx (N zjt .nil .nil) .nil) zdk
def zbH:=N zvn .nil .nil
def zbG:=N zve .nil .nil
noncomputable def zbF:=N UI (N znp (N zjh .nil .nil) .nil) zdh
def zbE:=N zj1 .nil .nil
def zbD:=N zal zde (N zjE .nil .nil)
noncomputable def zbC:=N zhM (N zgW (N zjn .nil .nil) .nil) zdd
def zbB:=N zj7 .nil .nil
def zbA:=N zjK .nil .nil
def zbz:=N zjV .nil .nil
def zby:=N zvs .nil .nil
def zbx:=N zaf zc8 (N zjx .nil .nil)
noncomputable def zlF:=N o2 (N o12 (N o28 (N o60 zbI (N zhp ze9 zbH)) (N o95 (zdi P) (N VT ze7 zbG))) (N o44 (N o79 zbF (N V6 ze5 zbE)) (N W2 zdf zbD))) (N o20 (N o36 (N o71 zbC (N Uc ze2 zbB)) (N YG zdb (N zg9 ze0 zbA))) (N o52 (N o87 zc9 (N zhh zeY zbz)) (N Xq (N Ui (zeW P) zby) zbx)))
noncomputable def zlE:=N (boot_o_5 P) (N (boot_o_9 P) (N o8 (N o24 (N o56 zbU (N zht znX zbT)) (N o91 zdv (N VY zfn zbS))) (N o40 (N o75 zbR (N V9 zfl zbQ)) (N X6 (zds P) zbP))) (N o16 (N o32 (N o67 zbO (N Uf zfh zbN)) (N o99 zdp (N zhd zff zbM))) (N o48 (N o83 zbL (N zhi zfc zbK)) (N Xu zdm zbJ)))) (zlF P)
noncomputable def zlD:=N (boot_o_1 P) (N (zwK P) (N (boot_o_7 P) (N o6 (N o22 (N o54 zci (N zhu zos zch)) (N o89 (zdU P) (N VZ zoq zcg))) (N o38 (N o73 zcf (N zhl zoo zce)) (N X7 zdR (N VR zom zcd)))) (N o14 (N o30 (N o62 zcc (N Ug zok zcb)) (N o97 zdO (N zhe zoi zca))) (N o46 (N o81 zb9 (N V5 zog zb8)) (N Xv (zdL P) zb7)))) (zlG P)) (zlE P)
noncomputable def zbw:=N UY (N zg6 (N zjw .nil .nil) .nil) zc7
def zbv:=N zvp .nil .nil
def zbu:=N zjT .nil .nil
noncomputable def zbt:=N zhL (N zgV (N zjl .nil .nil) .nil) zc4
def zbs:=N zvk .nil .nil
def zbr:=N zk5 zeO (N zjI .nil .nil)
noncomputable def zbq:=N US (N znw (N zu4 .nil .nil) .nil) zc1
def zbp:=N zka .nil .nil
def zbo:=N zvd .nil .nil
noncomputable def zbn:=N UH (N (zgT P) (N zjg .nil .nil) .nil) (zcY P)
def zbm:=N zjZ .nil .nil
def zbl:=N zaj zcV (N zjC .nil .nil)
noncomputable def zbk:=N UV (N zg3 (N zu5 .nil .nil) .nil) zcU
def zbj:=N zkd .nil .nil
def zbi:=N zjQ .nil .nil
noncomputable def zbh:=N (UJ P) (N znq (N zji .nil .nil) .nil) zcR
def zbg:=N zj2 .nil .nil
def zbf:=N zam zcO (N zjF .nil .nil)
noncomputable def zbe:=N UP (N (zgX P) (N zjo .nil .nil) .nil) zcN
def zbd:=N zvl .nil .nil
def zbc:=N zvc .nil .nil
def zbb:=N zjW .nil .nil
def zba:=N (zvt P) .nil .nil
def za9:=N zag zcI (N zjy .nil .nil)
noncomputable def zlC:=N zwJ (N o11 (N o27 (N o59 zbk (N zhq zeF zbj)) (N o94 zcS (N (VU P) zeD zbi))) (N o43 (N o78 (zbh P) (N V7 zeB zbg)) (N W3 zcP zbf))) (N o19 (N o35 (N o70 (zbe P) (N Ud zez zbd)) (N (YH P) zcL (N zha zex zbc))) (N (o51 P) (N o86 zcJ (N V1 zev zbb)) (N Xr (N (Uj P) zet (zba P)) za9)))
noncomputable def za8:=N zhP (N zg5 (N zjv .nil .nil) .nil) zcH
def za7:=N zvo .nil .nil
def za6:=N zjS .nil .nil
noncomputable def za5:=N UL (N (zns P) (N zu1 .nil .nil) .nil) zcE
def za4:=N zj3 .nil .nil
def za3:=N zan zel (N zjG .nil .nil)
noncomputable def za2:=N UR (N zgZ (N zjp .nil .nil) .nil) zcB
def za1:=N zj9 .nil .nil
def za0:=N zjM .nil .nil
def zaZ:=N zvh .nil .nil
def zaY:=N zvv .nil .nil
def zaX:=N zk2 zcw (N (zjA P) .nil .nil)
noncomputable def zaW:=N zhO (N zg2 (N zjs .nil .nil) .nil) zcv
def zaV:=N zkc .nil .nil
def zaU:=N zjP .nil .nil
noncomputable def zaT:=N zhK (N zno (N zu0 .nil .nil) .nil) zcs
def zaS:=N zj0 .nil .nil
def zaR:=N zak (zcp P) (N zu9 .nil .nil)
noncomputable def zaQ:=N UO (N znv (N zjm .nil .nil) .nil) zco
def zaP:=N zj6 .nil .nil
def zaO:=N zjJ .nil .nil
def zaN:=N zvg .nil .nil
def zaM:=N zvr .nil .nil
def zaL:=N zk1 zcj (N zu8 .nil .nil)
noncomputable def zlB:=N o3 (N o13 (N o29 (N o61 zaW (N zho zeb zaV)) (N o96 zct (N zhf zd9 zaU))) (N o45 (N o80 zaT (N zhj zd7 zaS)) (N W1 zcq (zaR P)))) (N o21 (N o37 (N o72 zaQ (N Ub zd4 zaP)) (N X8 zcm (N zg8 zd2 zaO))) (N o53 (N o88 zck (N V0 zd0 zaN)) (N Xp (N zhv zdY zaM) zaL)))
noncomputable def zlA:=N (boot_o_6 P) (N (boot_o_10 P) (N o9 (N o25 (N (o57 P) za8 (N (zhs P) zer za7)) (N o92 zcF (N VX zep za6))) (N o41 (N o76 (za5 P) (N zhk zen za4)) (N (X1 P) zcC za3))) (N o17 (N o33 (N (o68 P) za2 (N Ue zej za1)) (N YJ zcz (N (zhc P) zeh za0))) (N o49 (N o84 (zcx P) (N V3 zef zaZ)) (N Xs (N Ul zed zaY) (zaX P))))) (zlB P)
noncomputable def zlz:=N (boot_o_0 P) (zlD P) (N (boot_o_2 P) (N (boot_o_4 P) (N (boot_o_8 P) (N o7 (N o23 (N o55 zbw (N Uh zeU zbv)) (N o90 zc5 (N zhg zeS zbu))) (N o39 (N o74 zbt (N Ua zeQ zbs)) (N YF zc2 zbr))) (N o15 (N o31 (N o66 zbq (N zhn zeM zbp)) (N o98 zcZ (N VS zeK zbo))) (N o47 (N o82 (zbn P) (N V4 zeI zbm)) (N W0 zcW zbl)))) (zlC P)) (zlA P))
noncomputable def zur (w:World) (os:OsState):SharedT:=⟨(zlz w.params),538,(Life.mk [] [] [] 0 [] [] false #[] [] 0 false false false 0 [2000,10,10] false 0 true [] [] 0 false),⟨[]⟩,(Drawn.mk 0 0 0 0),907,os⟩
noncomputable def L9 (w:World) (os:OsState):Option (Flow×SharedT×Code×Pos):=segRunT treeTable PySem.Challenge.pw_beatless_k23_runs_by_pieces w 11 an 1 578 (sb9 w os) (piecesOf zt0 env cE (Pos.mk 227 0 234 15) B)
noncomputable def R9 (w:World) (os:OsState):Option (Flow×SharedT×Code×Pos):=some (.next,zur w os,cE,(Pos.mk 291 0 299 21))
theorem q9:tt (Hd.L9,Hd.R9)=true:=by k_qdec
theorem r9:∀ w,Fast.tw16134767483146388640 w=Hd.R9 w:=fun w=>by kernel_rfl
theorem e9 (w:World) (os:OsState):Hd.L9 w os=Hd.R9 w os:=(congrFun (congrFun Fast.te16134767483146388640 w) os).trans (congrFun (r9 w) os)
noncomputable def zfp:List Stmt:=[S 49,S 50,S 51,S 52,S 53,S 54,S 55,S 56,S 57,S 58,S 59,S 60,S 61,S 62]
noncomputable def zje:=Obj.mk k4 .none (Data.dict #[en P 3 165 (sv 139 870),en P 5 166 .none,en P 6 167 .none,en P 7 168 k5,en P 8 169 .none,en P 9 170 6,en P 10 171 4,en P 11 173 (sv 0 172),en P 12 174 .none,en P 13 193 21,en P 14 201 26,en P 15 207 31,en P 16 213 36,en P 17 228 43,en P 18 236 50,en P 19 244 57,en P 20 266 67,en P 38 313 109,en P 49 360 149,en P 55 413 189,en P 62 462 229,en P 70 515 269,en P 71 535 281,en P 78 551 294,en P 79 567 306,en P 81 583 318,en P 82 592 327,en P 83 597 328,en P 84 603 329,en P 85 612 330,en P 86 617 331,en P 87 619 (.int 60 618),en P 88 621 (.int 8 620),en P 89 628 338,en P 90 636 345,en P 91 643 352,en P 92 653 359,en P 93 662 366,en P 94 668 371,en P 115 738 409,en P 116 742 (.int 12 741),en P 117 744 (.int 99 743),en P 118 753 420,en P 119 761 427,en P 120 771 434,en P 121 783 441,en P 140 869 507,en P 141 879 518,en P 142 892 525,en P 143 900 532,en P 144 906 537,en P 170 921 544,en P 171 927 549,en P 172 933 554,en P 173 944 561,en P 174 950 568,en P 175 957 575,en P 176 964 582,en P 177 974 589,en P 178 980 594,en P 179 986 599,en P 180 1002 606,en P 181 1008 611,en P 182 1023 618,en P 183 1029 623] 65) #[]
noncomputable def zuY:=vO #[(iv 1),(iv 0),20,(iv 5),(iv 0),25,(iv 7),(iv 0),30,(iv 16),(iv 0),35,(iv 23),(iv 0),42,(iv 34),(iv 0),49,(iv 36),(iv 0),56,(iv 39),(iv 0),63,(iv 41),(iv 0),77,(iv 54),(iv 0),117,(iv 67),(iv 0),157,(iv 90),(iv 0),197,(iv 104),(iv 0),237,(iv 123),(iv 0),277,(iv 125),(iv 0),290,(iv 127),(iv 0),302,(iv 129),(iv 0),314,(iv 132),(iv 0),326,(iv 141),(iv 0),337,(iv 143),(iv 0),344,(iv 145),(iv 0),351,(iv 147),(iv 0),358,(iv 152),(iv 0),365,(iv 166),(iv 0),370,(iv 168),(iv 0),377,(iv 203),(iv 0),419,(iv 212),(iv 0),426,(iv 218),(iv 0),433,(iv 227),(iv 0),440,(iv 235),(iv 0),447,(iv 269),(iv 0),517,(iv 273),(iv 0),524,(iv 287),(iv 0),531,(iv 291),(iv 0),536,(iv 300),(iv 0),543,(iv 311),(iv 0),548,(iv 314),(iv 0),553,(iv 326),(iv 0),560,(iv 334),(iv 0),567,(iv 336),(iv 0),574,(iv 346),(iv 0),581,(iv 348),(iv 0),588,(iv 363),(iv 0),593,(iv 372),(iv 0),598,(iv 381),(iv 0),605,(iv 394),(iv 0),610,(iv 399),(iv 0),617,(iv 408),(iv 0),622]
def zjd:=tO #[]
def zuX:=vO #[]
noncomputable def zjc:=tO #[(sv 168 910),(sv 184 911),(sv 185 912),(sv 164 913),(sv 186 914),(sv 161 915),(sv 187 916),(sv 188 917),(sv 189 918)]
def zjb:=tO #[]
def zuW:=gO 170 170 (S 49)
noncomputable def zja:=cO 170 170 907 908 909 300 2 3 538 539 540 541 542 919 920
def zi9:=uO 170 170 (S 49) 139 870 543
def zi8:=tO #[]
def zuV:=vO #[]
def zuU:=gO 171 171 (S 50)
noncomputable def zi7:=Obj.mk k1 .none (Data.fields #[(sv 171 922),(sv 171 923),(sv 0 924),(iv 311),(iv 2),(iv 0),(iv 0),(iv 3),545,(.bool true),(iv 181),546,.none,.none,.none,547,(iv 925),(iv 311),(sv 0 926)]) #[]
def zi6:=uO 171 171 (S 50) 139 870 548
def zi5:=tO #[]
def zuT:=vO #[]
def zuS:=gO 172 172 (S 51)
noncomputable def zi4:=Obj.mk k1 .none (Data.fields #[(sv 172 928),(sv 172 929),(sv 0 930),(iv 314),(iv 3),(iv 0),(iv 0),(iv 3),550,(.bool true),(iv 181),551,.none,.none,.none,552,(iv 931),(iv 314),(sv 0 932)]) #[]
def zi3:=uO 172 172 (S 51) 139 870 553
def zi2:=tO #[]
def zuR:=vO #[]
noncomputable def zi1:=tO #[(sv 162 937),(sv 168 938),(sv 190 939),(sv 191 940),(sv 192 941)]
def zi0:=tO #[]
def zuQ:=gO 173 173 (S 52)
noncomputable def ziZ:=cO 173 173 934 935 936 326 1 3 555 556 557 558 559 942 943
def ziY:=uO 173 173 (S 52) 139 870 560
def ziX:=tO #[]
def zuP:=vO #[]
def ziW:=tO #[]
def ziV:=tO #[]
def zuO:=gO 174 174 (S 53)
noncomputable def ziU:=cO 174 174 945 946 947 334 0 3 562 563 564 565 566 948 949
def ziT:=uO 174 174 (S 53) 139 870 567
def ziS:=tO #[]
def zuN:=vO #[]
def ziR:=tO #[(sv 193 954)]
def ziQ:=tO #[]
def zuM:=gO 175 175 (S 54)
noncomputable def ziP:=cO 175 175 951 952 953 336 1 3 569 570 571 572 573 955 956
def ziO:=uO 175 175 (S 54) 139 870 574
def ziN:=tO #[]
def zuL:=vO #[]
def ziM:=tO #[(sv 194 961)]
def ziL:=tO #[]
def zuK:=gO 176 176 (S 55)
noncomputable def ziK:=cO 176 176 958 959 960 346 1 3 576 577 578 579 580 962 963
def ziJ:=uO 176 176 (S 55) 139 870 581
def ziI:=tO #[]
def zuJ:=vO #[]
noncomputable def ziH:=tO #[(sv 193 968),(sv 195 969),(sv 196 970),(sv 197 971)]
def ziG:=tO #[]
def zuI:=gO 177 177 (S 56)
noncomputable def ziF:=cO 177 177 965 966 967 348 2 3 583 584 585 586 587 972 973
def ziE:=uO 177 177 (S 56) 139 870 588
def ziD:=tO #[]
def zuH:=vO #[]
def zuG:=gO 178 178 (S 57)
noncomputable def ziC:=Obj.mk k1 .none (Data.fields #[(sv 178 975),(sv 178 976),(sv 0 977),(iv 363),(iv 5),(iv 0),(iv 0),(iv 3),590,(.bool true),(iv 181),591,.none,.none,.none,592,(iv 978),(iv 363),(sv 0 979)]) #[]
def ziB:=uO 178 178 (S 57) 139 870 593
def ziA:=tO #[]
def zuF:=vO #[]
def zuE:=gO 179 179 (S 58)
noncomputable def ziz:=Obj.mk k1 .none (Data.fields #[(sv 179 981),(sv 179 982),(sv 0 983),(iv 372),(iv 6),(iv 0),(iv 0),(iv 3),595,(.bool true),(iv 181),596,.none,.none,.none,597,(iv 984),(iv 372),(sv 0 985)]) #[]
def ziy:=uO 179 179 (S 58) 139 870 598
def zix:=tO #[]
def zuD:=vO #[]
noncomputable def ziw:=tO #[(sv 198 990),(sv 194 991),(sv 184 992),(sv 199 993),(sv 163 994),(sv 200 995),(sv 201 996),(sv 202 997),(sv 193 998),(sv 203 999)]
def ziv:=tO #[]
def zuC:=gO 180 180 (S 59)
noncomputable def ziu:=cO 180 180 987 988 989 381 2 3 600 601 602 603 604 1000 1001
def zit:=uO 180 180 (S 59) 139 870 605
def zis:=tO #[]
def zuB:=vO #[]
def zuA:=gO 181 181 (S 60)
noncomputable def zir:=Obj.mk k1 .none (Data.fields #[(sv 181 1003),(sv 181 1004),(sv 0 1005),(iv 394),(iv 2),(iv 0),(iv 0),(iv 3),607,(.bool true),(iv 181),608,.none,.none,.none,609,(iv 1006),(iv 394),(sv 0 1007)]) #[]
def ziq:=uO 181 181 (S 60) 139 870 610
def zio:=tO #[]
def zuz:=vO #[]
noncomputable def zin:=tO #[(sv 160 1012),(sv 189 1013),(sv 204 1014),(sv 168 1015),(sv 184 1016),(sv 198 1017),(sv 162 1018),(sv 205 1019),(sv 206 1020)]
def zim:=tO #[]
def zuy:=gO 182 182 (S 61)
noncomputable def zil:=cO 182 182 1009 1010 1011 399 3 3 612 613 614 615 616 1021 1022
def zik:=uO 182 182 (S 61) 139 870 617
def zij:=tO #[]
def zux:=vO #[]
def zuw:=gO 183 183 (S 62)
noncomputable def zii:=Obj.mk k1 .none (Data.fields #[(sv 183 1024),(sv 183 1025),(sv 0 1026),(iv 408),(iv 1),(iv 0),(iv 0),(iv 3),619,(.bool true),(iv 181),620,.none,.none,.none,621,(iv 1027),(iv 408),(sv 0 1028)]) #[]
def zih:=uO 183 183 (S 62) 139 870 622
noncomputable def zly:=N o38 (N o73 zcf (N zhl (N zgt (N zuH .nil .nil) .nil) zce)) (N X7 (N Uu (N zm8 (N zuQ .nil .nil) .nil) zdS) (N VR (N zf6 (N zih .nil .nil) .nil) zcd))
noncomputable def zlx:=N o14 (N o30 (N o62 zcc (N Ug (N zgA (N ziI .nil .nil) .nil) zcb)) (N o97 (N zhB (N znf (N zuT .nil .nil) .nil) zdP) (N zhe (N zgc (N zim .nil .nil) .nil) zca))) (N o46 (N o81 zb9 (N V5 (N zmS (N ziy .nil .nil) .nil) zb8)) (N Xv (N Uo (N (zm4 P) (N ziU .nil .nil) .nil) zdM) zb7))
noncomputable def zlw:=N o50 (N o85 (N zhH (N znn (N zuX .nil .nil) .nil) zdA) (N V2 (N zmR (N ziv .nil .nil) .nil) zbX)) (N WZ (N Uk (N zm0 (N ziR .nil .nil) .nil) zbW) zbV)
noncomputable def zlv:=N o18 (N o34 (N o69 zb0 (N zhm (N zgw (N zuI .nil .nil) .nil) zbZ)) (N YI (N Ux (N (znc P) (N zi2 .nil .nil) .nil) zdC) (N zhb (N zf9 (N zij .nil .nil) .nil) zbY))) zlw
noncomputable def zlu:=N o0 (N o10 (N o26 (N WY zb6 (N zhr (N zgD (N ziL .nil .nil) .nil) zb5)) (N o93 (N zhC (N zng (N zuU .nil .nil) .nil) zdI) (N VW (N zgf (N ziq .nil .nil) .nil) zb4))) (N o42 (N o77 zb3 (N V8 (N zgq (N ziA .nil .nil) .nil) zb2)) (N X0 (N Ur (N zm7 (N zuP .nil .nil) .nil) zdF) zb1))) (zlv P)
noncomputable def zlt:=N o16 (N o32 (N o67 zbO (N Uf (N zgy (N ziH .nil .nil) .nil) zbN)) (N o99 (N Uy (N zgN (N zi4 .nil .nil) .nil) zdq) (N zhd (N zmN (N zil .nil .nil) .nil) zbM))) (N o48 (N o83 zbL (N zhi (N zgm (N zuD .nil .nil) .nil) zbK)) (N Xu (N Um (N zm2 (N ziS .nil .nil) .nil) zdn) zbJ))
noncomputable def zls:=N o52 (N o87 (N zhF (N zgR (N zjb .nil .nil) .nil) zda) (N zhh (N zgj (N ziu .nil .nil) .nil) zbz)) (N Xq (N Ui (N (zgG P) (N zuM .nil .nil) .nil) zby) zbx)
noncomputable def zlr:=N o20 (N o36 (N o71 zbC (N Uc (N zmV (N ziE .nil .nil) .nil) zbB)) (N YG (N Uv (N zna (N zi1 .nil .nil) .nil) zdc) (N zg9 (N zf8 (N zuw .nil .nil) .nil) zbA))) (zls P)
noncomputable def zlq:=N o2 (N o12 (N o28 (N o60 zbI (N zhp (N zmW (N ziK .nil .nil) .nil) zbH)) (N o95 (N UB (N (zgP P) (N zi6 .nil .nil) .nil) zdj) (N VT (N zmO (N zuz .nil .nil) .nil) zbG))) (N o44 (N o79 zbF (N V6 (N zgp (N zuE .nil .nil) .nil) zbE)) (N W2 (N zhx (N zgI (N ziV .nil .nil) .nil) zdg) zbD))) (zlr P)
noncomputable def zlp:=N (boot_o_5 P) (N (boot_o_9 P) (N o8 (N o24 (N o56 zbU (N zht (N zgE (N zuL .nil .nil) .nil) zbT)) (N o91 (N UE (N zni (N zi8 .nil .nil) .nil) zdw) (N VY (N zgg (N zuA .nil .nil) .nil) zbS))) (N o40 (N o75 zbR (N V9 (N zgs (N ziC .nil .nil) .nil) zbQ)) (N X6 (N zhy (N (zgL P) (N ziY .nil .nil) .nil) zdt) zbP))) zlt) (zlq P)
noncomputable def zlo:=N o15 (N o31 (N o66 zbq (N zhn (N zgz (N zuJ .nil .nil) .nil) zbp)) (N o98 (N Uz (N zne (N zuS .nil .nil) .nil) zc0) (N VS (N zgb (N zuy .nil .nil) .nil) zbo))) (N o47 (N o82 (zbn P) (N V4 (N zgn (N zix .nil .nil) .nil) zbm)) (N W0 (N zhw (N zm3 (N ziT .nil .nil) .nil) zcX) zbl))
noncomputable def zlm:=N (o51 P) (N o86 (N zhG (N znm (N zjc .nil .nil) .nil) zcK) (N V1 (N zgk (N zuC .nil .nil) .nil) zbb)) (N Xr (N (Uj P) (N zgH (N ziQ .nil .nil) .nil) (zba P)) za9)
noncomputable def zll:=N o19 (N o35 (N o70 (zbe P) (N Ud (N zgv (N ziF .nil .nil) .nil) zbd)) (N (YH P) (N Uw (N znb (N zuR .nil .nil) .nil) zcM) (N zha (N zmM (N zux .nil .nil) .nil) zbc))) (zlm P)
noncomputable def zlk:=N zuY (N o11 (N o27 (N o59 zbk (N zhq (N zgC (N zuK .nil .nil) .nil) zbj)) (N o94 (N UC (N zgQ (N zi7 .nil .nil) .nil) zcT) (N (VU P) (N zge (N zio .nil .nil) .nil) zbi))) (N o43 (N o78 (zbh P) (N V7 (N zmT (N zuF .nil .nil) .nil) zbg)) (N W3 (N Uq (N zm6 (N ziW .nil .nil) .nil) zcQ) zbf))) (zll P)
noncomputable def zlj:=N (boot_o_4 P) (N (boot_o_8 P) (N o7 (N o23 (N o55 zbw (N Uh (N zmY (N ziN .nil .nil) .nil) zbv)) (N o90 (N zhD (N znj (N zi9 .nil .nil) .nil) zc6) (N zhg (N zgh (N zuB .nil .nil) .nil) zbu))) (N o39 (N o74 zbt (N Ua (N zmU (N zuG .nil .nil) .nil) zbs)) (N YF (N Ut (N zgM (N ziZ .nil .nil) .nil) zc3) zbr))) (zlo P)) (zlk P)
noncomputable def zli:=N o49 (N o84 (N (zhI P) (N zgS (N zjd .nil .nil) .nil) zcy) (N V3 (N zgl (N ziw .nil .nil) .nil) zaZ)) (N Xs (N Ul (N zm1 (N zuN .nil .nil) .nil) zaY) (zaX P))
noncomputable def zlh:=N o17 (N o33 (N (o68 P) za2 (N Ue (N zgx (N ziG .nil .nil) .nil) za1)) (N YJ (N zhA (N znd (N zi3 .nil .nil) .nil) zcA) (N (zhc P) (N zga (N zik .nil .nil) .nil) za0))) (zli P)
noncomputable def zlg:=N o53 (N o88 (N zhE (N znl (N zuW .nil .nil) .nil) zcl) (N V0 (N zmQ (N zit .nil .nil) .nil) zaN)) (N Xp (N zhv (N zgF (N ziP .nil .nil) .nil) zaM) zaL)
noncomputable def zlf:=N o21 (N o37 (N o72 zaQ (N Ub (N zgu (N ziD .nil .nil) .nil) zaP)) (N X8 (N zhz (N zm9 (N zi0 .nil .nil) .nil) zcn) (N zg8 (N zf7 (N zii .nil .nil) .nil) zaO))) zlg
noncomputable def zle:=N o3 (N o13 (N o29 (N o61 zaW (N zho (N zgB (N ziJ .nil .nil) .nil) zaV)) (N o96 (N UA (N zgO (N zi5 .nil .nil) .nil) zcu) (N zhf (N zgd (N zin .nil .nil) .nil) zaU))) (N o45 (N o80 zaT (N zhj (N zgo (N ziz .nil .nil) .nil) zaS)) (N W1 (N Up (N zm5 (N zuO .nil .nil) .nil) zcr) (zaR P)))) zlf
noncomputable def zld:=N (boot_o_6 P) (N (boot_o_10 P) (N o9 (N o25 (N (o57 P) za8 (N (zhs P) (N zmX (N ziM .nil .nil) .nil) za7)) (N o92 (N UD (N znh (N zuV .nil .nil) .nil) zcG) (N VX (N zmP (N zir .nil .nil) .nil) za6))) (N o41 (N o76 (za5 P) (N zhk (N zgr (N ziB .nil .nil) .nil) za4)) (N (X1 P) (N Us (N zgK (N ziX .nil .nil) .nil) zcD) za3))) (zlh P)) (zle P)
noncomputable def zlc:=N (boot_o_0 P) (N (boot_o_1 P) (N (zje P) (N (boot_o_7 P) (N o6 (N o22 (N o54 zci (N zhu (N zmZ (N ziO .nil .nil) .nil) zch)) (N o89 (N UF (N (znk P) (N zja .nil .nil) .nil) zdV) (N VZ (N zgi (N zis .nil .nil) .nil) zcg))) zly) (zlx P)) (zlu P)) (zlp P)) (N (boot_o_2 P) (zlj P) (zld P))
noncomputable def zuq (w:World) (os:OsState):SharedT:=⟨(zlc w.params),624,(Life.mk [] [] [] 0 [] [] false #[] [] 0 false false false 0 [2000,10,10] false 0 true [] [] 0 false),⟨[]⟩,(Drawn.mk 0 0 0 0),1030,os⟩
noncomputable def L10 (w:World) (os:OsState):Option (Flow×SharedT×Code×Pos):=segRunT treeTable PySem.Challenge.pw_beatless_k23_runs_by_pieces w 11 an 1 420 (zur w os) (piecesOf zfp env cE (Pos.mk 291 0 299 21) B)
noncomputable def R10 (w:World) (os:OsState):Option (Flow×SharedT×Code×Pos):=some (.next,zuq w os,cE,(Pos.mk 408 0 424 144))
theorem q10:tt (Hd.L10,Hd.R10)=true:=by k_qdec
theorem r10:∀ w,Fast.tw8817224096938630680 w=Hd.R10 w:=fun w=>by kernel_rfl
theorem e10 (w:World) (os:OsState):Hd.L10 w os=Hd.R10 w os:=(congrFun (congrFun Fast.te8817224096938630680 w) os).trans (congrFun (r10 w) os)
noncomputable def h51:List Obj:=zio::zuz::zin::zim::zuy::zil::zik::zij::zux::zuw::zii::zih::[]
noncomputable def h50:List Obj:=zix::zuD::ziw::ziv::zuC::ziu::zit::zis::zuB::zuA::zir::ziq::h51
noncomputable def h49:List Obj:=ziF::ziE::ziD::zuH::zuG::ziC::ziB::ziA::zuF::zuE::ziz::ziy::h50
noncomputable def h48:List Obj:=ziN::zuL::ziM::ziL::zuK::ziK::ziJ::ziI::zuJ::ziH::ziG::zuI::h49
noncomputable def h47:List Obj:=ziW::ziV::zuO::ziU::ziT::ziS::zuN::ziR::ziQ::zuM::ziP::ziO::h48
noncomputable def h46:List Obj:=zuS::zi4::zi3::zi2::zuR::zi1::zi0::zuQ::ziZ::ziY::ziX::zuP::h47
noncomputable def h45:List Obj:=zjc::zjb::zuW::zja::zi9::zi8::zuV::zuU::zi7::zi6::zi5::zuT::h46
noncomputable def h44:List Obj:=zjl::zjk::zu1::zjj::zji::zjh::zu0::zuZ::zjg::zjf::zjd::zuX::h45
noncomputable def h43:List Obj:=zu5::zjt::zjs::zjr::zu4::zjq::zjp::zu3::zjo::zjn::zjm::zu2::h44
noncomputable def h42:List Obj:=zjC::zjB::zjA P::zjz::zjy::zjx::zu8::zu7::zjw::zu6::zjv::zju::h43
noncomputable def h41:List Obj:=zvc::zjK::zjJ::zvb::zjI::zjH::zjG::zva::zjF::zjE::zu9::zjD::h42 P
noncomputable def h40:List Obj:=zjT::zvf::zjS::zjR::zjQ::zve::zjP::zjO::zvd::zjN::zjM::zjL::h41 P
noncomputable def h39:List Obj:=zj2::zj1::zj0::zvi::zjZ::zjY::zvh::zjX::zjW::zjV::zvg::zjU::h40 P
noncomputable def h38:List Obj:=zka::zvm::zj9::zj8::zvl::zj7::zj6::zj5::zvk::zj4::zj3::zvj::h39 P
noncomputable def h37:List Obj:=zvt P::zvs::zvr::zvq::zvp::zkf::zvo::zke::zkd::zvn::zkc::zkb::h38 P
noncomputable def h36:List Obj:=zvy::zkm::zkl::zkk::zvx::zkj::zki::zvw::zkh::zkg::zvv::zvu::h37 P
noncomputable def h35:List Obj:=zkv::zku::zvB::zkt::zks::zvA::zkr::zkq::zkp::zvz::zko::zkn::h36 P
noncomputable def h34:List Obj:=zkD P::zkC::zkB::zkA::zvF::zvE::zkz::zvD::zky::zkx::zvC::zkw::h35 P
noncomputable def h33:List Obj:=zkM::zvI::zkL::zkK::zkJ::zvH::zkI::zkH::zvG::zkG::zkF::zkE::h34 P
noncomputable def h32:List Obj:=zkV::zkU::zkT::zvL::zkS::zkR::zvK::zkQ::zkP::zkO::zvJ::zkN::h33 P
noncomputable def h31:List Obj:=zvU::zvT::zvS P::zvR::zvQ::zvP::zvO::zkY::zvN::zkX::zkW::zvM::h32 P
noncomputable def h30:List Obj:=zgb::zmN::zga::zf9::zmM::zf8::zf7::zf6::zvW::zvV::zk0::zkZ::h31 P
noncomputable def h29:List Obj:=zgk::zgj::zmQ::zgi::zgh::zgg::zmP::zgf::zge::zmO::zgd::zgc::h30 P
noncomputable def h28:List Obj:=zmU::zgs::zgr::zgq::zmT::zgp::zgo::zmS::zgn::zgm::zgl::zmR::h29 P
noncomputable def h27:List Obj:=zgC::zmW::zgB::zgA::zgz::zgy::zgx::zgw::zgv::zmV::zgu::zgt::h28 P
noncomputable def h26:List Obj:=zm3::zm2::zm1::zm0::zgH::zgG P::zgF::zmZ::zmY::zgE::zmX::zgD::h27 P
noncomputable def h25:List Obj:=znb::zna::zm9::zm8::zgM::zgL P::zgK::zm7::zm6::zgI::zm5::zm4 P::h26 P
noncomputable def h24:List Obj:=znj::zni::znh::zng::zgQ::zgP P::zgO::znf::zne::zgN::znd::znc P::h25 P
noncomputable def h23:List Obj:=znq::znp::zno::zgU::zgT P::zgJ::zgS::znn::znm::zgR::znl::znk P::h24 P
noncomputable def h22:List Obj:=znw::zg0::zgZ::zgY::zgX P::zgW::znv::znu::zgV::znt::zns P::znr::h23 P
noncomputable def h21:List Obj:=zag::zaf::zk1::zg7::zg6::zny::zg5::zg4::zg3::znx::zg2::zg1::h22 P
noncomputable def h20:List Obj:=zk5::zao::zan::zk4::zam::zal::zak::zk3::zaj::zai::zk2::zah::h21 P
noncomputable def h19:List Obj:=VU P::VT::zhf::zhe::VS::zhd::zhc P::zhb::zha::zg9::zg8::VR::h20 P
noncomputable def h18:List Obj:=V4::zhi::V3::V2::V1::zhh::V0::VZ::zhg::VY::VX::VW::h19 P
noncomputable def h17:List Obj:=Ud::Uc::Ub::zhl::Ua::V9::zhk::V8::V7::V6::zhj::V5::h18 P
noncomputable def h16:List Obj:=Uh::zht::zhs P::zhr::zhq::zhp::zho::Ug::zhn::Uf::Ue::zhm::h17 P
noncomputable def h15:List Obj:=Uq::zhx::Up::Uo::zhw::Um::Ul::Uk::Uj P::Ui::zhv::zhu::h16 P
noncomputable def h14:List Obj:=Uz::Uy::zhA::Ux::Uw::Uv::zhz::Uu::Ut::zhy::Us::Ur::h15 P
noncomputable def h13:List Obj:=zhG::zhF::zhE::UF::zhD::UE::UD::zhC::UC::UB::UA::zhB::h14 P
noncomputable def h12:List Obj:=zhL::UM::UL::UK::UJ P::UI::zhK::zhJ::UH::UG::zhI P::zhH::h13 P
noncomputable def h11:List Obj:=UV::UU::zhO::UT::US::zhN::UR::UQ::UP::zhM::UO::UN::h12 P
noncomputable def h10:List Obj:=W0::Xu::Xs::WZ::Xr::Xq::Xp::zhQ::UY::UX::zhP::UW::h11 P
noncomputable def h9:List Obj:=YH P::YG::X8::X7::YF::X6::X1 P::X0::W3::W2::W1::Xv::h10 P
noncomputable def h8:List Obj:=o90::o91::o92::o93::o94::o95::o96::o97::o98::o99::YJ::YI::h9 P
noncomputable def h7:List Obj:=o78::o79::o80::o81::o82::o83::o84::o85::o86::o87::o88::o89::h8 P
noncomputable def h6:List Obj:=o66::o67::o68 P::o69::o70::o71::o72::o73::o74::o75::o76::o77::h7 P
noncomputable def h5:List Obj:=o51 P::o52::o53::o54::o55::o56::o57 P::WY::o59::o60::o61::o62::h6 P
noncomputable def h4:List Obj:=o39::o40::o41::o42::o43::o44::o45::o46::o47::o48::o49::o50::h5 P
noncomputable def h3:List Obj:=o27::o28::o29::o30::o31::o32::o33::o34::o35::o36::o37::o38::h4 P
noncomputable def h2:List Obj:=o15::o16::o17::o18::o19::o20::o21::o22::o23::o24::o25::o26::h3 P
noncomputable def h1:List Obj:=zuY::o2::o3::o6::o7::o8::o9::o10::o11::o12::o13::o14::h2 P
noncomputable def h0:List Obj:=boot_o_0 P::boot_o_1 P::boot_o_2 P::zje P::boot_o_4 P::boot_o_5 P::boot_o_6 P::boot_o_7 P::boot_o_8 P::boot_o_9 P::boot_o_10 P::o0::h1 P
noncomputable def H1:Heap:=⟨⟨h0 P⟩,(Life.mk [] [] [] 0 [] [] false #[] [] 0 false false false 0 [2000,10,10] false 0 true [] [] 0 false)⟩
noncomputable def sf (w:World) (os:OsState):Shared:=⟨H1 w.params,⟨[]⟩,(Drawn.mk 0 0 0 0),1030,os⟩
noncomputable def Lf (w:World) (os:OsState):Option Shared:=topRun treeTable PySem.Challenge.pw_beatless_k23_runs_by_pieces w 11 an 2 (zuq w os).abs ⟨doneF .next,cE,(Pos.mk 408 0 424 144),B⟩
noncomputable def Rf (w:World) (os:OsState):Option Shared:=some (sf w os)
theorem qf:tt (Hd.Lf,Hd.Rf)=true:=by k_qdec
theorem rf:∀ w,Fast.tw2640074843757178226 w=Hd.Rf w:=fun w=>by kernel_rfl
theorem ef (w:World) (os:OsState):Hd.Lf w os=Hd.Rf w os:=(congrFun (congrFun Fast.te2640074843757178226 w) os).trans (congrFun (rf w) os)
theorem cut:bE=zt9++(zt8++(zt7++(zt6++(zt5++(zt4++(zt3++(zt2++(zt1++(zt0++(zfp++([]))))))))))):=by kernel_rfl
theorem run (w:World) (os:OsState):topRun treeTable PySem.Challenge.pw_beatless_k23_runs_by_pieces w 11 an (12+(1+(413+(340+(340+(346+(342+(541+(427+(515+(490+(578+(420+2))))))))))))) (s0 w os) (topStub PySem.Challenge.pw_beatless_k23_runs_by_pieces)=some (sf w os):=by
 refine go_top (ea w os) (piece_block (q:=qE) (env:=env) (b:=bE) (segRun_of (eb w os)) ?_)
 rw[show restOf bE env cE (Pos.mk 0 0 0 0) [topFrame qE]=restOf _ env cE _ [topFrame qE] from congrArg (fun l=>restOf l env cE (Pos.mk 0 0 0 0) [topFrame qE]) cut]
 refine piece_app (segRun_of (e0 w os)) ?_
 refine piece_app (segRun_of (e1 w os)) ?_
 refine piece_app (segRun_of (e2 w os)) ?_
 refine piece_app (segRun_of (e3 w os)) ?_
 refine piece_app (segRun_of (e4 w os)) ?_
 refine piece_app (segRun_of (e5 w os)) ?_
 refine piece_app (segRun_of (e6 w os)) ?_
 refine piece_app (segRun_of (e7 w os)) ?_
 refine piece_app (segRun_of (e8 w os)) ?_
 refine piece_app (segRun_of (e9 w os)) ?_
 refine piece_app (segRun_of (e10 w os)) ?_
 exact ef w os
noncomputable def M:Nat:=12+(1+(413+(340+(340+(346+(342+(541+(427+(515+(490+(578+(420+2))))))))))))
abbrev rW:RowW:=(PySem.Challenge.rw_beatless_k23_runs_by_pieces.row).toRowW
noncomputable def Q:Program:={ PySem.Challenge.pw_beatless_k23_runs_by_pieces with main:={ PySem.Challenge.pw_beatless_k23_runs_by_pieces.main with body:=[S 0,S 2,S 3,S 4,S 5,S 6,S 7,S 9,S 10,S 11,S 12,S 13,S 14,S 16,S 17,S 18,S 19,S 21,S 23,S 24,S 25,S 26,S 27,S 28,S 29,S 30,S 31,S 32,S 33,S 34,S 35,S 37,S 38,S 39,S 40,S 41,S 42,S 43,S 45,S 46,S 47,S 48,S 49,S 50,S 51,S 52,S 53,S 54,S 55,S 56,S 57,S 58,S 59,S 60,S 61,S 62] } }
noncomputable def Xt (s:Shared):Bool:=xlAt Q [] s&&recOk (RowW.records rW) s
noncomputable def K:Frag:=(nat_lit 2,boot_o_2 P)::(nat_lit 3,zje P)::(nat_lit 15,o6)::(nat_lit 17,o8)::(nat_lit 18,o9)::(nat_lit 20,o11)::(nat_lit 21,o12)::(nat_lit 22,o13)::(nat_lit 25,o16)::(nat_lit 26,o17)::(nat_lit 27,o18)::(nat_lit 30,o21)::(nat_lit 31,o22)::(nat_lit 32,o23)::(nat_lit 35,o26)::(nat_lit 36,o27)::(nat_lit 37,o28)::(nat_lit 39,o30)::(nat_lit 40,o31)::(nat_lit 42,o33)::(nat_lit 43,o34)::(nat_lit 44,o35)::(nat_lit 46,o37)::(nat_lit 47,o38)::(nat_lit 49,o40)::(nat_lit 50,o41)::(nat_lit 51,o42)::(nat_lit 53,o44)::(nat_lit 54,o45)::(nat_lit 56,o47)::(nat_lit 57,o48)::(nat_lit 65,o56)::(nat_lit 66,o57 P)::(nat_lit 67,WY)::(nat_lit 68,o59)::(nat_lit 69,o60)::(nat_lit 72,o66)::(nat_lit 79,o73)::(nat_lit 81,o75)::(nat_lit 82,o76)::(nat_lit 84,o78)::(nat_lit 85,o79)::(nat_lit 86,o80)::(nat_lit 88,o82)::(nat_lit 89,o83)::(nat_lit 91,o85)::(nat_lit 92,o86)::(nat_lit 93,o87)::(nat_lit 95,o89)::(nat_lit 96,o90)::(nat_lit 98,o92)::(nat_lit 99,o93)::(nat_lit 100,o94)::(nat_lit 102,o96)::(nat_lit 103,o97)::(nat_lit 105,o99)::(nat_lit 106,YJ)::(nat_lit 107,YI)::(nat_lit 108,YH P)::(nat_lit 109,YG)::(nat_lit 112,YF)::(nat_lit 119,Xv)::(nat_lit 121,Xu)::(nat_lit 122,Xs)::(nat_lit 124,Xr)::(nat_lit 125,Xq)::(nat_lit 126,Xp)::(nat_lit 128,UY)::(nat_lit 129,UX)::(nat_lit 131,UW)::(nat_lit 132,UV)::(nat_lit 133,UU)::(nat_lit 135,UT)::(nat_lit 136,US)::(nat_lit 138,UR)::(nat_lit 139,UQ)::(nat_lit 140,UP)::(nat_lit 142,UO)::(nat_lit 143,UN)::(nat_lit 145,UM)::(nat_lit 146,UL)::(nat_lit 147,UK)::(nat_lit 148,UJ P)::(nat_lit 149,UI)::(nat_lit 152,UH)::(nat_lit 159,UF)::(nat_lit 161,UE)::(nat_lit 162,UD)::(nat_lit 164,UC)::(nat_lit 165,UB)::(nat_lit 166,UA)::(nat_lit 168,Uz)::(nat_lit 169,Uy)::(nat_lit 171,Ux)::(nat_lit 172,Uw)::(nat_lit 173,Uv)::(nat_lit 175,Uu)::(nat_lit 176,Ut)::(nat_lit 178,Us)::(nat_lit 179,Ur)::(nat_lit 180,Uq)::(nat_lit 182,Up)::(nat_lit 183,Uo)::(nat_lit 185,Um)::(nat_lit 186,Ul)::(nat_lit 187,Uk)::(nat_lit 188,Uj P)::(nat_lit 189,Ui)::(nat_lit 192,Uh)::(nat_lit 199,Ug)::(nat_lit 201,Uf)::(nat_lit 202,Ue)::(nat_lit 204,Ud)::(nat_lit 205,Uc)::(nat_lit 206,Ub)::(nat_lit 208,Ua)::(nat_lit 209,V9)::(nat_lit 211,V8)::(nat_lit 212,V7)::(nat_lit 213,V6)::(nat_lit 215,V5)::(nat_lit 216,V4)::(nat_lit 218,V3)::(nat_lit 219,V2)::(nat_lit 220,V1)::(nat_lit 222,V0)::(nat_lit 223,VZ)::(nat_lit 225,VY)::(nat_lit 226,VX)::(nat_lit 227,VW)::(nat_lit 228,VU P)::(nat_lit 229,VT)::(nat_lit 232,VS)::(nat_lit 239,VR)::(nat_lit 241,zao)::(nat_lit 242,zan)::(nat_lit 244,zam)::(nat_lit 245,zal)::(nat_lit 246,zak)::(nat_lit 248,zaj)::(nat_lit 249,zai)::(nat_lit 251,zah)::(nat_lit 252,zag)::(nat_lit 253,zaf)::(nat_lit 255,zg7)::(nat_lit 256,zg6)::(nat_lit 258,zg5)::(nat_lit 259,zg4)::(nat_lit 260,zg3)::(nat_lit 262,zg2)::(nat_lit 263,zg1)::(nat_lit 265,zg0)::(nat_lit 266,zgZ)::(nat_lit 267,zgY)::(nat_lit 268,zgX P)::(nat_lit 269,zgW)::(nat_lit 272,zgV)::(nat_lit 279,zgU)::(nat_lit 280,zgT P)::(nat_lit 281,zgJ)::(nat_lit 282,zgS)::(nat_lit 285,zgR)::(nat_lit 292,zgQ)::(nat_lit 293,zgP P)::(nat_lit 294,zgO)::(nat_lit 297,zgN)::(nat_lit 304,zgM)::(nat_lit 305,zgL P)::(nat_lit 306,zgK)::(nat_lit 309,zgI)::(nat_lit 316,zgH)::(nat_lit 317,zgG P)::(nat_lit 318,zgF)::(nat_lit 321,zgE)::(nat_lit 323,zgD)::(nat_lit 324,zgC)::(nat_lit 326,zgB)::(nat_lit 327,zgA)::(nat_lit 328,zgz)::(nat_lit 329,zgy)::(nat_lit 330,zgx)::(nat_lit 331,zgw)::(nat_lit 332,zgv)::(nat_lit 334,zgu)::(nat_lit 335,zgt)::(nat_lit 337,zgs)::(nat_lit 338,zgr)::(nat_lit 339,zgq)::(nat_lit 341,zgp)::(nat_lit 342,zgo)::(nat_lit 344,zgn)::(nat_lit 345,zgm)::(nat_lit 346,zgl)::(nat_lit 348,zgk)::(nat_lit 349,zgj)::(nat_lit 351,zgi)::(nat_lit 352,zgh)::(nat_lit 353,zgg)::(nat_lit 355,zgf)::(nat_lit 356,zge)::(nat_lit 358,zgd)::(nat_lit 359,zgc)::(nat_lit 360,zgb)::(nat_lit 362,zga)::(nat_lit 363,zf9)::(nat_lit 365,zf8)::(nat_lit 366,zf7)::(nat_lit 367,zf6)::(nat_lit 370,zk0)::(nat_lit 371,zkZ)::(nat_lit 379,zkY)::(nat_lit 381,zkX)::(nat_lit 382,zkW)::(nat_lit 384,zkV)::(nat_lit 385,zkU)::(nat_lit 386,zkT)::(nat_lit 388,zkS)::(nat_lit 389,zkR)::(nat_lit 391,zkQ)::(nat_lit 392,zkP)::(nat_lit 393,zkO)::(nat_lit 395,zkN)::(nat_lit 396,zkM)::(nat_lit 398,zkL)::(nat_lit 399,zkK)::(nat_lit 400,zkJ)::(nat_lit 402,zkI)::(nat_lit 403,zkH)::(nat_lit 405,zkG)::(nat_lit 406,zkF)::(nat_lit 407,zkE)::(nat_lit 408,zkD P)::(nat_lit 409,zkC)::(nat_lit 410,zkB)::(nat_lit 411,zkA)::(nat_lit 414,zkz)::(nat_lit 416,zky)::(nat_lit 417,zkx)::(nat_lit 419,zkw)::(nat_lit 420,zkv)::(nat_lit 421,zku)::(nat_lit 423,zkt)::(nat_lit 424,zks)::(nat_lit 426,zkr)::(nat_lit 427,zkq)::(nat_lit 428,zkp)::(nat_lit 430,zko)::(nat_lit 431,zkn)::(nat_lit 433,zkm)::(nat_lit 434,zkl)::(nat_lit 435,zkk)::(nat_lit 437,zkj)::(nat_lit 438,zki)::(nat_lit 440,zkh)::(nat_lit 441,zkg)::(nat_lit 449,zkf)::(nat_lit 451,zke)::(nat_lit 452,zkd)::(nat_lit 454,zkc)::(nat_lit 455,zkb)::(nat_lit 456,zka)::(nat_lit 458,zj9)::(nat_lit 459,zj8)::(nat_lit 461,zj7)::(nat_lit 462,zj6)::(nat_lit 463,zj5)::(nat_lit 465,zj4)::(nat_lit 466,zj3)::(nat_lit 468,zj2)::(nat_lit 469,zj1)::(nat_lit 470,zj0)::(nat_lit 472,zjZ)::(nat_lit 473,zjY)::(nat_lit 475,zjX)::(nat_lit 476,zjW)::(nat_lit 477,zjV)::(nat_lit 479,zjU)::(nat_lit 480,zjT)::(nat_lit 482,zjS)::(nat_lit 483,zjR)::(nat_lit 484,zjQ)::(nat_lit 486,zjP)::(nat_lit 487,zjO)::(nat_lit 489,zjN)::(nat_lit 490,zjM)::(nat_lit 491,zjL)::(nat_lit 493,zjK)::(nat_lit 494,zjJ)::(nat_lit 496,zjI)::(nat_lit 497,zjH)::(nat_lit 498,zjG)::(nat_lit 500,zjF)::(nat_lit 501,zjE)::(nat_lit 503,zjD)::(nat_lit 504,zjC)::(nat_lit 505,zjB)::(nat_lit 506,zjA P)::(nat_lit 507,zjz)::(nat_lit 508,zjy)::(nat_lit 509,zjx)::(nat_lit 512,zjw)::(nat_lit 514,zjv)::(nat_lit 515,zju)::(nat_lit 517,zjt)::(nat_lit 518,zjs)::(nat_lit 519,zjr)::(nat_lit 521,zjq)::(nat_lit 522,zjp)::(nat_lit 524,zjo)::(nat_lit 525,zjn)::(nat_lit 526,zjm)::(nat_lit 528,zjl)::(nat_lit 529,zjk)::(nat_lit 531,zjj)::(nat_lit 532,zji)::(nat_lit 533,zjh)::(nat_lit 536,zjg)::(nat_lit 537,zjf)::(nat_lit 538,zjd)::(nat_lit 540,zjc)::(nat_lit 541,zjb)::(nat_lit 543,zja)::(nat_lit 544,zi9)::(nat_lit 545,zi8)::(nat_lit 548,zi7)::(nat_lit 549,zi6)::(nat_lit 550,zi5)::(nat_lit 553,zi4)::(nat_lit 554,zi3)::(nat_lit 555,zi2)::(nat_lit 557,zi1)::(nat_lit 558,zi0)::(nat_lit 560,ziZ)::(nat_lit 561,ziY)::(nat_lit 562,ziX)::(nat_lit 564,ziW)::(nat_lit 565,ziV)::(nat_lit 567,ziU)::(nat_lit 568,ziT)::(nat_lit 569,ziS)::(nat_lit 571,ziR)::(nat_lit 572,ziQ)::(nat_lit 574,ziP)::(nat_lit 575,ziO)::(nat_lit 576,ziN)::(nat_lit 578,ziM)::(nat_lit 579,ziL)::(nat_lit 581,ziK)::(nat_lit 582,ziJ)::(nat_lit 583,ziI)::(nat_lit 585,ziH)::(nat_lit 586,ziG)::(nat_lit 588,ziF)::(nat_lit 589,ziE)::(nat_lit 590,ziD)::(nat_lit 593,ziC)::(nat_lit 594,ziB)::(nat_lit 595,ziA)::(nat_lit 598,ziz)::(nat_lit 599,ziy)::(nat_lit 600,zix)::(nat_lit 602,ziw)::(nat_lit 603,ziv)::(nat_lit 605,ziu)::(nat_lit 606,zit)::(nat_lit 607,zis)::(nat_lit 610,zir)::(nat_lit 611,ziq)::(nat_lit 612,zio)::(nat_lit 614,zin)::(nat_lit 615,zim)::(nat_lit 617,zil)::(nat_lit 618,zik)::(nat_lit 619,zij)::(nat_lit 622,zii)::(nat_lit 623,zih)::[]
noncomputable def as:List Addr:=[2,3,15,17,18,20,21,22,25,26,27,30,31,32,35,36,37,39,40,42,43,44,46,47,49,50,51,53,54,56,57,65,66,67,68,69,72,79,81,82,84,85,86,88,89,91,92,93,95,96,98,99,100,102,103,105,106,107,108,109,112,119,121,122,124,125,126,128,129,131,132,133,135,136,138,139,140,142,143,145,146,147,148,149,152,159,161,162,164,165,166,168,169,171,172,173,175,176,178,179,180,182,183,185,186,187,188,189,192,199,201,202,204,205,206,208,209,211,212,213,215,216,218,219,220,222,223,225,226,227,228,229,232,239,241,242,244,245,246,248,249,251,252,253,255,256,258,259,260,262,263,265,266,267,268,269,272,279,280,281,282,285,292,293,294,297,304,305,306,309,316,317,318,321,323,324,326,327,328,329,330,331,332,334,335,337,338,339,341,342,344,345,346,348,349,351,352,353,355,356,358,359,360,362,363,365,366,367,370,371,379,381,382,384,385,386,388,389,391,392,393,395,396,398,399,400,402,403,405,406,407,408,409,410,411,414,416,417,419,420,421,423,424,426,427,428,430,431,433,434,435,437,438,440,441,449,451,452,454,455,456,458,459,461,462,463,465,466,468,469,470,472,473,475,476,477,479,480,482,483,484,486,487,489,490,491,493,494,496,497,498,500,501,503,504,505,506,507,508,509,512,514,515,517,518,519,521,522,524,525,526,528,529,531,532,533,536,537,538,540,541,543,544,545,548,549,550,553,554,555,557,558,560,561,562,564,565,567,568,569,571,572,574,575,576,578,579,581,582,583,585,586,588,589,590,593,594,595,598,599,600,602,603,605,606,607,610,611,612,614,615,617,618,619,622,623]
noncomputable def y31:List (Option Obj):=some zik::some zij::some zii::some zih::[]
noncomputable def y30:List (Option Obj):=some zix::some ziw::some ziv::some ziu::some zit::some zis::some zir::some ziq::some zio::some zin::some zim::some zil::y31
noncomputable def y29:List (Option Obj):=some ziJ::some ziI::some ziH::some ziG::some ziF::some ziE::some ziD::some ziC::some ziB::some ziA::some ziz::some ziy::y30
noncomputable def y28:List (Option Obj):=some ziV::some ziU::some ziT::some ziS::some ziR::some ziQ::some ziP::some ziO::some ziN::some ziM::some ziL::some ziK::y29
noncomputable def y27:List (Option Obj):=some zi7::some zi6::some zi5::some zi4::some zi3::some zi2::some zi1::some zi0::some ziZ::some ziY::some ziX::some ziW::y28
noncomputable def y26:List (Option Obj):=some zjk::some zjj::some zji::some zjh::some zjg::some zjf::some zjd::some zjc::some zjb::some zja::some zi9::some zi8::y27
noncomputable def y25:List (Option Obj):=some zjw::some zjv::some zju::some zjt::some zjs::some zjr::some zjq::some zjp::some zjo::some zjn::some zjm::some zjl::y26
noncomputable def y24:List (Option Obj):=some zjI::some zjH::some zjG::some zjF::some zjE::some zjD::some zjC::some zjB::some (zjA P)::some zjz::some zjy::some zjx::y25
noncomputable def y23:List (Option Obj):=some zjU::some zjT::some zjS::some zjR::some zjQ::some zjP::some zjO::some zjN::some zjM::some zjL::some zjK::some zjJ::y24 P
noncomputable def y22:List (Option Obj):=some zj6::some zj5::some zj4::some zj3::some zj2::some zj1::some zj0::some zjZ::some zjY::some zjX::some zjW::some zjV::y23 P
noncomputable def y21:List (Option Obj):=some zki::some zkh::some zkg::some zkf::some zke::some zkd::some zkc::some zkb::some zka::some zj9::some zj8::some zj7::y22 P
noncomputable def y20:List (Option Obj):=some zku::some zkt::some zks::some zkr::some zkq::some zkp::some zko::some zkn::some zkm::some zkl::some zkk::some zkj::y21 P
noncomputable def y19:List (Option Obj):=some zkG::some zkF::some zkE::some (zkD P)::some zkC::some zkB::some zkA::some zkz::some zky::some zkx::some zkw::some zkv::y20 P
noncomputable def y18:List (Option Obj):=some zkS::some zkR::some zkQ::some zkP::some zkO::some zkN::some zkM::some zkL::some zkK::some zkJ::some zkI::some zkH::y19 P
noncomputable def y17:List (Option Obj):=some zf9::some zf8::some zf7::some zf6::some zk0::some zkZ::some zkY::some zkX::some zkW::some zkV::some zkU::some zkT::y18 P
noncomputable def y16:List (Option Obj):=some zgl::some zgk::some zgj::some zgi::some zgh::some zgg::some zgf::some zge::some zgd::some zgc::some zgb::some zga::y17 P
noncomputable def y15:List (Option Obj):=some zgx::some zgw::some zgv::some zgu::some zgt::some zgs::some zgr::some zgq::some zgp::some zgo::some zgn::some zgm::y16 P
noncomputable def y14:List (Option Obj):=some zgK::some zgI::some zgH::some (zgG P)::some zgF::some zgE::some zgD::some zgC::some zgB::some zgA::some zgz::some zgy::y15 P
noncomputable def y13:List (Option Obj):=some zgV::some zgU::some (zgT P)::some zgJ::some zgS::some zgR::some zgQ::some (zgP P)::some zgO::some zgN::some zgM::some (zgL P)::y14 P
noncomputable def y12:List (Option Obj):=some zg7::some zg6::some zg5::some zg4::some zg3::some zg2::some zg1::some zg0::some zgZ::some zgY::some (zgX P)::some zgW::y13 P
noncomputable def y11:List (Option Obj):=some VS::some VR::some zao::some zan::some zam::some zal::some zak::some zaj::some zai::some zah::some zag::some zaf::y12 P
noncomputable def y10:List (Option Obj):=some V5::some V4::some V3::some V2::some V1::some V0::some VZ::some VY::some VX::some VW::some (VU P)::some VT::y11 P
noncomputable def y9:List (Option Obj):=some Uh::some Ug::some Uf::some Ue::some Ud::some Uc::some Ub::some Ua::some V9::some V8::some V7::some V6::y10 P
noncomputable def y8:List (Option Obj):=some Uu::some Ut::some Us::some Ur::some Uq::some Up::some Uo::some Um::some Ul::some Uk::some (Uj P)::some Ui::y9 P
noncomputable def y7:List (Option Obj):=some UH::some UF::some UE::some UD::some UC::some UB::some UA::some Uz::some Uy::some Ux::some Uw::some Uv::y8 P
noncomputable def y6:List (Option Obj):=some UT::some US::some UR::some UQ::some UP::some UO::some UN::some UM::some UL::some UK::some (UJ P)::some UI::y7 P
noncomputable def y5:List (Option Obj):=some YF::some Xv::some Xu::some Xs::some Xr::some Xq::some Xp::some UY::some UX::some UW::some UV::some UU::y6 P
noncomputable def y4:List (Option Obj):=some o89::some o90::some o92::some o93::some o94::some o96::some o97::some o99::some YJ::some YI::some (YH P)::some YG::y5 P
noncomputable def y3:List (Option Obj):=some o66::some o73::some o75::some o76::some o78::some o79::some o80::some o82::some o83::some o85::some o86::some o87::y4 P
noncomputable def y2:List (Option Obj):=some o40::some o41::some o42::some o44::some o45::some o47::some o48::some o56::some (o57 P)::some WY::some o59::some o60::y3 P
noncomputable def y1:List (Option Obj):=some o22::some o23::some o26::some o27::some o28::some o30::some o31::some o33::some o34::some o35::some o37::some o38::y2 P
noncomputable def y0:List (Option Obj):=some (boot_o_2 P)::some (zje P)::some o6::some o8::some o9::some o11::some o12::some o13::some o16::some o17::some o18::some o21::y1 P
theorem asK (P:Params):as=(K P).map (·.1):=by kernel_rfl
theorem yK (P:Params):(K P).map (fun p=>some p.2)=y0 P:=by kernel_rfl
noncomputable def Ly (w:World) (os:OsState):List (Option Obj):=as.map (sf w os).heap.get?
noncomputable def Ry (w:World) (_:OsState):List (Option Obj):=y0 w.params
theorem qy:tt (Hd.Ly,Hd.Ry)=true:=by k_qdec
theorem ry:∀ w,Fast.tw691215026958702249 w=Hd.Ry w:=fun w=>by kernel_rfl
theorem ey (w:World) (os:OsState):Hd.Ly w os=Hd.Ry w os:=(congrFun (congrFun Fast.te691215026958702249 w) os).trans (congrFun (ry w) os)
abbrev hk:Hook:=kHook K as asK
abbrev zvY:List Str:=importedModules PySem.Challenge.pw_beatless_k23_runs_by_pieces.main.body
noncomputable def A (w:World) (os:OsState):=openSeen Q [] zvY Xt true (sf w os)
noncomputable def G (_:World) (_:OsState):=openGood Q []
noncomputable def A0 (w:World) (os:OsState):=(A w os).1
noncomputable def G0 (w:World) (os:OsState):=(G w os).1
theorem qA0:tt (Hd.A0,Hd.G0)=true:=by k_qdec
theorem rA0:∀ w,Fast.tw6131166808449026830 w=Hd.G0 w:=fun w=>by kernel_rfl
theorem eA0 (w:World) (os:OsState):Hd.A0 w os=Hd.G0 w os:=(congrFun (congrFun Fast.te6131166808449026830 w) os).trans (congrFun (rA0 w) os)
noncomputable def A1 (w:World) (os:OsState):=(A w os).2.1
noncomputable def G1 (w:World) (os:OsState):=(G w os).2.1
theorem qA1:tt (Hd.A1,Hd.G1)=true:=by k_qdec
theorem rA1:∀ w,Fast.tw7581016493306269660 w=Hd.G1 w:=fun w=>by kernel_rfl
theorem eA1 (w:World) (os:OsState):Hd.A1 w os=Hd.G1 w os:=(congrFun (congrFun Fast.te7581016493306269660 w) os).trans (congrFun (rA1 w) os)
noncomputable def A2 (w:World) (os:OsState):=(A w os).2.2.1
noncomputable def G2 (w:World) (os:OsState):=(G w os).2.2.1
theorem qA2:tt (Hd.A2,Hd.G2)=true:=by k_qdec
theorem rA2:∀ w,Fast.tw2900191123710467766 w=Hd.G2 w:=fun w=>by kernel_rfl
theorem eA2 (w:World) (os:OsState):Hd.A2 w os=Hd.G2 w os:=(congrFun (congrFun Fast.te2900191123710467766 w) os).trans (congrFun (rA2 w) os)
noncomputable def A3 (w:World) (os:OsState):=(A w os).2.2.2.1
noncomputable def G3 (w:World) (os:OsState):=(G w os).2.2.2.1
theorem qA3:tt (Hd.A3,Hd.G3)=true:=by k_qdec
theorem rA3:∀ w,Fast.tw447134267514248570 w=Hd.G3 w:=fun w=>by kernel_rfl
theorem eA3 (w:World) (os:OsState):Hd.A3 w os=Hd.G3 w os:=(congrFun (congrFun Fast.te447134267514248570 w) os).trans (congrFun (rA3 w) os)
noncomputable def A4 (w:World) (os:OsState):=(A w os).2.2.2.2.1
noncomputable def G4 (w:World) (os:OsState):=(G w os).2.2.2.2.1
theorem qA4:tt (Hd.A4,Hd.G4)=true:=by k_qdec
theorem rA4:∀ w,Fast.tw14409291123802741499 w=Hd.G4 w:=fun w=>by kernel_rfl
theorem eA4 (w:World) (os:OsState):Hd.A4 w os=Hd.G4 w os:=(congrFun (congrFun Fast.te14409291123802741499 w) os).trans (congrFun (rA4 w) os)
noncomputable def A5 (w:World) (os:OsState):=(A w os).2.2.2.2.2.1
noncomputable def G5 (w:World) (os:OsState):=(G w os).2.2.2.2.2.1
theorem qA5:tt (Hd.A5,Hd.G5)=true:=by k_qdec
theorem rA5:∀ w,Fast.tw7163156141784225904 w=Hd.G5 w:=fun w=>by kernel_rfl
theorem eA5 (w:World) (os:OsState):Hd.A5 w os=Hd.G5 w os:=(congrFun (congrFun Fast.te7163156141784225904 w) os).trans (congrFun (rA5 w) os)
noncomputable def A6 (w:World) (os:OsState):=(A w os).2.2.2.2.2.2.1
noncomputable def G6 (w:World) (os:OsState):=(G w os).2.2.2.2.2.2.1
theorem qA6:tt (Hd.A6,Hd.G6)=true:=by k_qdec
theorem rA6:∀ w,Fast.tw148487786646926683 w=Hd.G6 w:=fun w=>by kernel_rfl
theorem eA6 (w:World) (os:OsState):Hd.A6 w os=Hd.G6 w os:=(congrFun (congrFun Fast.te148487786646926683 w) os).trans (congrFun (rA6 w) os)
noncomputable def A7 (w:World) (os:OsState):=(A w os).2.2.2.2.2.2.2.1
noncomputable def G7 (w:World) (os:OsState):=(G w os).2.2.2.2.2.2.2.1
theorem qA7:tt (Hd.A7,Hd.G7)=true:=by k_qdec
theorem rA7:∀ w,Fast.tw17782257788342479682 w=Hd.G7 w:=fun w=>by kernel_rfl
theorem eA7 (w:World) (os:OsState):Hd.A7 w os=Hd.G7 w os:=(congrFun (congrFun Fast.te17782257788342479682 w) os).trans (congrFun (rA7 w) os)
noncomputable def A8 (w:World) (os:OsState):=(A w os).2.2.2.2.2.2.2.2
noncomputable def G8 (w:World) (os:OsState):=(G w os).2.2.2.2.2.2.2.2
theorem qA8:tt (Hd.A8,Hd.G8)=true:=by k_qdec
theorem rA8:∀ w,Fast.tw8885869309975874061 w=Hd.G8 w:=fun w=>by kernel_rfl
theorem eA8 (w:World) (os:OsState):Hd.A8 w os=Hd.G8 w os:=(congrFun (congrFun Fast.te8885869309975874061 w) os).trans (congrFun (rA8 w) os)
noncomputable def Ls (w:World) (os:OsState):Bool:=staticsOk zvY (boot_heap w.params) (H1 w.params)&&namesBound PySem.Challenge.pw_beatless_k23_runs_by_pieces (H1 w.params)&&gensDone (sf w os)&&laidKept (boot_heap w.params) (H1 w.params)
def Rs (_:World) (_:OsState):Bool:=true
noncomputable def Lz (w:World) (_:OsState):=((boot_heap w.params).isNs mainGlobals&&(⟨[]⟩:Array GenState).size == 0,(boot_heap w.params).objs.size,(boot_heap w.params).nsMap mainGlobals "__annotations__")
noncomputable def Rz (_:World) (_:OsState):Bool×Nat×Option Value:=(true,11,an)
theorem qs:tt Hd.Ls=true:=by k_qdec
theorem rs:∀ w,Fast.tw4959303863618478765 w=Hd.Rs w:=fun w=>by kernel_rfl
theorem es (w:World) (os:OsState):Hd.Ls w os=Hd.Rs w os:=(congrFun (congrFun Fast.te4959303863618478765 w) os).trans (congrFun (rs w) os)
theorem qz:tt Hd.Lz=true:=by k_qdec
theorem rz:∀ w,Fast.tw17831390912981975158 w=Hd.Rz w:=fun w=>by kernel_rfl
theorem ez (w:World) (os:OsState):Hd.Lz w os=Hd.Rz w os:=(congrFun (congrFun Fast.te17831390912981975158 w) os).trans (congrFun (rz w) os)
theorem op:opening PySem.Challenge.pw_beatless_k23_runs_by_pieces=plainProg PySem.Challenge.pw_beatless_k23_runs_by_pieces.main.scope.names:=by kernel_rfl
theorem fe (s:Shared):fenceModules? PySem.Challenge.pw_beatless_k23_runs_by_pieces s=some s:=by kernel_rfl
theorem left:LeftO PySem.Challenge.pw_beatless_k23_runs_by_pieces Q [] Xt hk.obs hk.val 9608 :=
 LeftO.of_pieces (M:=M) (m₀:=11) (ann:=an) (H₀:=boot_heap) (H₁:=H1) (boot_open op (by kernel_rfl) fe) (fun w=>ez w (start PySem.Challenge.pw_beatless_k23_runs_by_pieces).1.os) run (by kernel_rfl) (fun w=>funext fun os=>looks_pair (es w os) (looks_pair
  (Prod.ext (eA0 w os) (Prod.ext (eA1 w os) (Prod.ext (eA2 w os) (Prod.ext (eA3 w os) (Prod.ext (eA4 w os) (Prod.ext (eA5 w os) (Prod.ext (eA6 w os) (Prod.ext (eA7 w os) (eA8 w os)))))))))
  ((ey w os).trans (yK w.params).symm)))
theorem both {a b:Bool}(z:(a&&b)=true):a=true∧b=true:=Bool.and_eq_true_iff.mp z
end Hd
end

namespace K04
open PySem L2
abbrev fS (n q:Str) (s:Stmt) (k d p:Value) (a:Option Addr) (c t:Value):FuncData:=PySem.W.fnOf n q (defArgs s) (defBody s) (defScope s) .none k d p a c t
open PySem.W (nsIn findIn isFn codeIn keepIn plainGet hasDictIn plainOver makesIn mroIn specialIn takesIn kitOne mg_of mg_none_of excIn)
theorem txt_mk {w:World}{K:PySem.W.Frag}{h:Heap}{mg:Str→Option Value}(X:K.In h) (G:h.Ns mainGlobals mg)
  {f_qa:Addr}{od0 an0:Option Addr}{sl0:Array (Option Value)}{oc0 kV0 dc0 pm0 cd0 ct0:Value}{f_qb:Addr}{od1 an1:Option Addr}{sl1:Array (Option Value)}{oc1 kV1 dc1 pm1 cd1 ct1:Value}{f_qc:Addr}{od2 an2:Option Addr}{sl2:Array (Option Value)}{oc2 kV2 dc2 pm2 cd2 ct2:Value}{f_qd:Addr}{od3 an3:Option Addr}{sl3:Array (Option Value)}{oc3 kV3 dc3 pm3 cd3 ct3:Value}{f_qe:Addr}{od4 an4:Option Addr}{sl4:Array (Option Value)}{oc4 kV4 dc4 pm4 cd4 ct4:Value}{f_qf:Addr}{od5 an5:Option Addr}{sl5:Array (Option Value)}{oc5 kV5 dc5 pm5 cd5 ct5:Value}{f_qg:Addr}{od6 an6:Option Addr}{sl6:Array (Option Value)}{oc6 kV6 dc6 pm6 cd6 ct6:Value}{f_qh:Addr}{od7 an7:Option Addr}{sl7:Array (Option Value)}{oc7 kV7 dc7 pm7 cd7 ct7:Value}{f_qi:Addr}{od8 an8:Option Addr}{sl8:Array (Option Value)}{oc8 kV8 dc8 pm8 cd8 ct8:Value}{f_qj:Addr}{od9 an9:Option Addr}{sl9:Array (Option Value)}{oc9 kV9 dc9 pm9 cd9 ct9:Value}{f_qk:Addr}{od10 an10:Option Addr}{sl10:Array (Option Value)}{oc10 kV10 dc10 pm10 cd10 ct10:Value}{f_ql:Addr}{od11 an11:Option Addr}{sl11:Array (Option Value)}{oc11 kV11 dc11 pm11 cd11 ct11:Value}{f_qm:Addr}{od12 an12:Option Addr}{sl12:Array (Option Value)}{oc12 kV12 dc12 pm12 cd12 ct12:Value}{f_qn:Addr}{od13 an13:Option Addr}{sl13:Array (Option Value)}{oc13 kV13 dc13 pm13 cd13 ct13:Value}{f_qo:Addr}{od14 an14:Option Addr}{sl14:Array (Option Value)}{oc14 kV14 dc14 pm14 cd14 ct14:Value}{f_qp:Addr}{od15 an15:Option Addr}{sl15:Array (Option Value)}{oc15 kV15 dc15 pm15 cd15 ct15:Value}{f_qq:Addr}{od16 an16:Option Addr}{sl16:Array (Option Value)}{oc16 kV16 dc16 pm16 cd16 ct16:Value}{f_qr:Addr}{od17 an17:Option Addr}{sl17:Array (Option Value)}{oc17 kV17 dc17 pm17 cd17 ct17:Value}{f_qs:Addr}{od18 an18:Option Addr}{sl18:Array (Option Value)}{oc18 kV18 dc18 pm18 cd18 ct18:Value}{f_qt:Addr}{od19 an19:Option Addr}{sl19:Array (Option Value)}{oc19 kV19 dc19 pm19 cd19 ct19:Value}{f_qu:Addr}{od20 an20:Option Addr}{sl20:Array (Option Value)}{oc20 kV20 dc20 pm20 cd20 ct20:Value}{f_qv:Addr}{od21 an21:Option Addr}{sl21:Array (Option Value)}{oc21 kV21 dc21 pm21 cd21 ct21:Value}{f_qw:Addr}{od22 an22:Option Addr}{sl22:Array (Option Value)}{oc22 kV22 dc22 pm22 cd22 ct22:Value}{f_qx:Addr}{od23 an23:Option Addr}{sl23:Array (Option Value)}{oc23 kV23 dc23 pm23 cd23 ct23:Value}{f_qy:Addr}{od24 an24:Option Addr}{sl24:Array (Option Value)}{oc24 kV24 dc24 pm24 cd24 ct24:Value}{f_qz:Addr}{od25 an25:Option Addr}{sl25:Array (Option Value)}{oc25 kV25 dc25 pm25 cd25 ct25:Value}{f_qA:Addr}{od26 an26:Option Addr}{sl26:Array (Option Value)}{oc26 kV26 dc26 pm26 cd26 ct26:Value}{f_qB:Addr}{od27 an27:Option Addr}{sl27:Array (Option Value)}{oc27 kV27 dc27 pm27 cd27 ct27:Value}{f_qC:Addr}{od28 an28:Option Addr}{sl28:Array (Option Value)}{oc28 kV28 dc28 pm28 cd28 ct28:Value}{f_qD:Addr}{od29 an29:Option Addr}{sl29:Array (Option Value)}{oc29 kV29 dc29 pm29 cd29 ct29:Value}{f_qE:Addr}{od30 an30:Option Addr}{sl30:Array (Option Value)}{oc30 kV30 dc30 pm30 cd30 ct30:Value}{f_qF:Addr}{od31 an31:Option Addr}{sl31:Array (Option Value)}{oc31 kV31 dc31 pm31 cd31 ct31:Value}{f_qG:Addr}{od32 an32:Option Addr}{sl32:Array (Option Value)}{oc32 kV32 dc32 pm32 cd32 ct32:Value}{f_qH:Addr}{od33 an33:Option Addr}{sl33:Array (Option Value)}{oc33 kV33 dc33 pm33 cd33 ct33:Value}{f_qI:Addr}{od34 an34:Option Addr}{sl34:Array (Option Value)}{oc34 kV34 dc34 pm34 cd34 ct34:Value}{f_qJ:Addr}{od35 an35:Option Addr}{sl35:Array (Option Value)}{oc35 kV35 dc35 pm35 cd35 ct35:Value}{f_qK:Addr}{od36 an36:Option Addr}{sl36:Array (Option Value)}{oc36 kV36 dc36 pm36 cd36 ct36:Value}{f_qL:Addr}{od37 an37:Option Addr}{sl37:Array (Option Value)}{oc37 kV37 dc37 pm37 cd37 ct37:Value}{f_qM:Addr}{od38 an38:Option Addr}{sl38:Array (Option Value)}{oc38 kV38 dc38 pm38 cd38 ct38:Value}{f_qN:Addr}{od39 an39:Option Addr}{sl39:Array (Option Value)}{oc39 kV39 dc39 pm39 cd39 ct39:Value}{f_qO:Addr}{od40 an40:Option Addr}{sl40:Array (Option Value)}{oc40 kV40 dc40 pm40 cd40 ct40:Value}{f_qP:Addr}{od41 an41:Option Addr}{sl41:Array (Option Value)}{oc41 kV41 dc41 pm41 cd41 ct41:Value}{f_qQ:Addr}{od42 an42:Option Addr}{sl42:Array (Option Value)}{oc42 kV42 dc42 pm42 cd42 ct42:Value}{f_qR:Addr}{od43 an43:Option Addr}{sl43:Array (Option Value)}{oc43 kV43 dc43 pm43 cd43 ct43:Value}{f_qS:Addr}{od44 an44:Option Addr}{sl44:Array (Option Value)}{oc44 kV44 dc44 pm44 cd44 ct44:Value}{f_qT:Addr}{od45 an45:Option Addr}{sl45:Array (Option Value)}{oc45 kV45 dc45 pm45 cd45 ct45:Value}{f_qU:Addr}{od46 an46:Option Addr}{sl46:Array (Option Value)}{oc46 kV46 dc46 pm46 cd46 ct46:Value}{f_qV:Addr}{od47 an47:Option Addr}{sl47:Array (Option Value)}{oc47 kV47 dc47 pm47 cd47 ct47:Value}{f_qW:Addr}{od48 an48:Option Addr}{sl48:Array (Option Value)}{oc48 kV48 dc48 pm48 cd48 ct48:Value}{f_qX:Addr}{od49 an49:Option Addr}{sl49:Array (Option Value)}{oc49 kV49 dc49 pm49 cd49 ct49:Value}{f_qY:Addr}{od50 an50:Option Addr}{sl50:Array (Option Value)}{oc50 kV50 dc50 pm50 cd50 ct50:Value}{f_qZ:Addr}{od51 an51:Option Addr}{sl51:Array (Option Value)}{oc51 kV51 dc51 pm51 cd51 ct51:Value}{f_qa0:Addr}{od52 an52:Option Addr}{sl52:Array (Option Value)}{oc52 kV52 dc52 pm52 cd52 ct52:Value}{f_qa1:Addr}{od53 an53:Option Addr}{sl53:Array (Option Value)}{oc53 kV53 dc53 pm53 cd53 ct53:Value}{f_qa2:Addr}{od54 an54:Option Addr}{sl54:Array (Option Value)}{oc54 kV54 dc54 pm54 cd54 ct54:Value}{f_qa3:Addr}{od55 an55:Option Addr}{sl55:Array (Option Value)}{oc55 kV55 dc55 pm55 cd55 ct55:Value}{f_qa4:Addr}{od56 an56:Option Addr}{sl56:Array (Option Value)}{oc56 kV56 dc56 pm56 cd56 ct56:Value}{f_qa5:Addr}{od57 an57:Option Addr}{sl57:Array (Option Value)}{oc57 kV57 dc57 pm57 cd57 ct57:Value}{f_qa6:Addr}{od58 an58:Option Addr}{sl58:Array (Option Value)}{oc58 kV58 dc58 pm58 cd58 ct58:Value}{c_Num:Addr}{c_Name:Addr}{c_Two:Addr}{c_Mod:Addr}{c_Less:Addr}{c_Program:Addr}{c_Web:Addr}{t_START_NAMES:Addr}{od_START_NAMES:Option Addr}{n_START_NAMES:Nat}{sl_START_NAMES:Array (Option Value)}{u_START_NAMES0 u_START_NAMES1:Tok}{t_SEND_NAMES:Addr}{od_SEND_NAMES:Option Addr}{n_SEND_NAMES:Nat}{sl_SEND_NAMES:Array (Option Value)}{u_SEND_NAMES0 u_SEND_NAMES1 u_SEND_NAMES2 u_SEND_NAMES3 u_SEND_NAMES4:Tok}{t_RENEW_NAMES:Addr}{od_RENEW_NAMES:Option Addr}{n_RENEW_NAMES:Nat}{sl_RENEW_NAMES:Array (Option Value)}{u_RENEW_NAMES0 u_RENEW_NAMES1 u_RENEW_NAMES2 u_RENEW_NAMES3 u_RENEW_NAMES4 u_RENEW_NAMES5 u_RENEW_NAMES6 u_RENEW_NAMES7:Tok}{t_TWO_WORDS:Addr}{od_TWO_WORDS:Option Addr}{n_TWO_WORDS:Nat}{sl_TWO_WORDS:Array (Option Value)}{u_TWO_WORDS0 u_TWO_WORDS1 u_TWO_WORDS2 u_TWO_WORDS3:Tok}{t_MOST_WORDS:Tok}{t_MOST_DEEP:Tok}{t_MOST_HANDS:Tok}{t_LAST_HAND:Tok}
  (z_len:nsIn K mainGlobals "len" = some none)
  (z_int:nsIn K mainGlobals "int" = some none)
  (z_min:nsIn K mainGlobals "min" = some none)
  (z_max:nsIn K mainGlobals "max" = some none)
  (z_range:nsIn K mainGlobals "range" = some none)
  (z_isinstance:nsIn K mainGlobals "isinstance" = some none)
  (z_list:nsIn K mainGlobals "list" = some none)
  (z_dict:nsIn K mainGlobals "dict" = some none)
  (z_abs:nsIn K mainGlobals "abs" = some none)
  (z_sorted:nsIn K mainGlobals "sorted" = some none)
  (z_str:nsIn K mainGlobals "str" = some none)
  (z_sum:nsIn K mainGlobals "sum" = some none)
  (z_bool:nsIn K mainGlobals "bool" = some none)
  (z_tuple:nsIn K mainGlobals "tuple" = some none)
  (z_ValueError:nsIn K mainGlobals "ValueError" = some none)
  (A_Num:nsIn K mainGlobals "Num" = some (some (.ref c_Num)))
  (A_Name:nsIn K mainGlobals "Name" = some (some (.ref c_Name)))
  (A_Two:nsIn K mainGlobals "Two" = some (some (.ref c_Two)))
  (A_Mod:nsIn K mainGlobals "Mod" = some (some (.ref c_Mod)))
  (A_Less:nsIn K mainGlobals "Less" = some (some (.ref c_Less)))
  (A_Program:nsIn K mainGlobals "Program" = some (some (.ref c_Program)))
  (A_Web:nsIn K mainGlobals "Web" = some (some (.ref c_Web)))
  (a_0:nsIn K mainGlobals "first_worths" = some (some (.ref f_qa)))
  (l_0:K.lookup f_qa=some ⟨oc0,od0,.func (fS "first_worths" "first_worths" ZR kV0 dc0 pm0 an0 cd0 ct0),sl0⟩)
  (cc_0:codeIn K cd0 "first_worths" = true)
  (kk_0:keepIn K (.ref f_qa)=true)
  (a_1:nsIn K mainGlobals "heard_in" = some (some (.ref f_qb)))
  (l_1:K.lookup f_qb=some ⟨oc1,od1,.func (fS "heard_in" "heard_in" ZQ kV1 dc1 pm1 an1 cd1 ct1),sl1⟩)
  (cc_1:codeIn K cd1 "heard_in" = true)
  (kk_1:keepIn K (.ref f_qb)=true)
  (a_2:nsIn K mainGlobals "worths_behind" = some (some (.ref f_qc)))
  (l_2:K.lookup f_qc=some ⟨oc2,od2,.func (fS "worths_behind" "worths_behind" ZP kV2 dc2 pm2 an2 cd2 ct2),sl2⟩)
  (cc_2:codeIn K cd2 "worths_behind" = true)
  (kk_2:keepIn K (.ref f_qc)=true)
  (a_3:nsIn K mainGlobals "run_pieces" = some (some (.ref f_qd)))
  (l_3:K.lookup f_qd=some ⟨oc3,od3,.func (fS "run_pieces" "run_pieces" ZO kV3 dc3 pm3 an3 cd3 ct3),sl3⟩)
  (cc_3:codeIn K cd3 "run_pieces" = true)
  (kk_3:keepIn K (.ref f_qd)=true)
  (a_4:nsIn K mainGlobals "worths_by_pieces" = some (some (.ref f_qe)))
  (l_4:K.lookup f_qe=some ⟨oc4,od4,.func (fS "worths_by_pieces" "worths_by_pieces" ZN kV4 dc4 pm4 an4 cd4 ct4),sl4⟩)
  (cc_4:codeIn K cd4 "worths_by_pieces" = true)
  (kk_4:keepIn K (.ref f_qe)=true)
  (a_5:nsIn K mainGlobals "heard_by_pieces" = some (some (.ref f_qf)))
  (l_5:K.lookup f_qf=some ⟨oc5,od5,.func (fS "heard_by_pieces" "heard_by_pieces" ZM kV5 dc5 pm5 an5 cd5 ct5),sl5⟩)
  (cc_5:codeIn K cd5 "heard_by_pieces" = true)
  (kk_5:keepIn K (.ref f_qf)=true)
  (a_6:nsIn K mainGlobals "is_whole" = some (some (.ref f_qg)))
  (l_6:K.lookup f_qg=some ⟨oc6,od6,.func (fS "is_whole" "is_whole" ZL kV6 dc6 pm6 an6 cd6 ct6),sl6⟩)
  (cc_6:codeIn K cd6 "is_whole" = true)
  (kk_6:keepIn K (.ref f_qg)=true)
  (a_7:nsIn K mainGlobals "is_short_number" = some (some (.ref f_qh)))
  (l_7:K.lookup f_qh=some ⟨oc7,od7,.func (fS "is_short_number" "is_short_number" ZK kV7 dc7 pm7 an7 cd7 ct7),sl7⟩)
  (cc_7:codeIn K cd7 "is_short_number" = true)
  (kk_7:keepIn K (.ref f_qh)=true)
  (a_8:nsIn K mainGlobals "is_word_of" = some (some (.ref f_qi)))
  (l_8:K.lookup f_qi=some ⟨oc8,od8,.func (fS "is_word_of" "is_word_of" ZJ kV8 dc8 pm8 an8 cd8 ct8),sl8⟩)
  (cc_8:codeIn K cd8 "is_word_of" = true)
  (kk_8:keepIn K (.ref f_qi)=true)
  (a_9:nsIn K mainGlobals "is_divisor" = some (some (.ref f_qj)))
  (l_9:K.lookup f_qj=some ⟨oc9,od9,.func (fS "is_divisor" "is_divisor" ZI kV9 dc9 pm9 an9 cd9 ct9),sl9⟩)
  (cc_9:codeIn K cd9 "is_divisor" = true)
  (kk_9:keepIn K (.ref f_qj)=true)
  (a_10:nsIn K mainGlobals "are_sound" = some (some (.ref f_qk)))
  (l_10:K.lookup f_qk=some ⟨oc10,od10,.func (fS "are_sound" "are_sound" ZH kV10 dc10 pm10 an10 cd10 ct10),sl10⟩)
  (cc_10:codeIn K cd10 "are_sound" = true)
  (kk_10:keepIn K (.ref f_qk)=true)
  (a_11:nsIn K mainGlobals "is_sound" = some (some (.ref f_ql)))
  (l_11:K.lookup f_ql=some ⟨oc11,od11,.func (fS "is_sound" "is_sound" ZG kV11 dc11 pm11 an11 cd11 ct11),sl11⟩)
  (cc_11:codeIn K cd11 "is_sound" = true)
  (kk_11:keepIn K (.ref f_ql)=true)
  (a_12:nsIn K mainGlobals "count_words" = some (some (.ref f_qm)))
  (l_12:K.lookup f_qm=some ⟨oc12,od12,.func (fS "count_words" "count_words" uP kV12 dc12 pm12 an12 cd12 ct12),sl12⟩)
  (cc_12:codeIn K cd12 "count_words" = true)
  (kk_12:keepIn K (.ref f_qm)=true)
  (a_13:nsIn K mainGlobals "are_hands" = some (some (.ref f_qn)))
  (l_13:K.lookup f_qn=some ⟨oc13,od13,.func (fS "are_hands" "are_hands" ZF kV13 dc13 pm13 an13 cd13 ct13),sl13⟩)
  (cc_13:codeIn K cd13 "are_hands" = true)
  (kk_13:keepIn K (.ref f_qn)=true)
  (a_14:nsIn K mainGlobals "is_line" = some (some (.ref f_qo)))
  (l_14:K.lookup f_qo=some ⟨oc14,od14,.func (fS "is_line" "is_line" ZE kV14 dc14 pm14 an14 cd14 ct14),sl14⟩)
  (cc_14:codeIn K cd14 "is_line" = true)
  (kk_14:keepIn K (.ref f_qo)=true)
  (a_15:nsIn K mainGlobals "are_lines" = some (some (.ref f_qp)))
  (l_15:K.lookup f_qp=some ⟨oc15,od15,.func (fS "are_lines" "are_lines" ZD kV15 dc15 pm15 an15 cd15 ct15),sl15⟩)
  (cc_15:codeIn K cd15 "are_lines" = true)
  (kk_15:keepIn K (.ref f_qp)=true)
  (a_16:nsIn K mainGlobals "near_by_hand" = some (some (.ref f_qq)))
  (l_16:K.lookup f_qq=some ⟨oc16,od16,.func (fS "near_by_hand" "near_by_hand" ZC kV16 dc16 pm16 an16 cd16 ct16),sl16⟩)
  (cc_16:codeIn K cd16 "near_by_hand" = true)
  (kk_16:keepIn K (.ref f_qq)=true)
  (a_17:nsIn K mainGlobals "_law_cell_at" = some (some (.ref f_qr)))
  (l_17:K.lookup f_qr=some ⟨oc17,od17,.func (fS "_law_cell_at" "_law_cell_at" ZB kV17 dc17 pm17 an17 cd17 ct17),sl17⟩)
  (cc_17:codeIn K cd17 "_law_cell_at" = true)
  (kk_17:keepIn K (.ref f_qr)=true)
  (a_18:nsIn K mainGlobals "_law_draws" = some (some (.ref f_qs)))
  (l_18:K.lookup f_qs=some ⟨oc18,od18,.func (fS "_law_draws" "_law_draws" ZA kV18 dc18 pm18 an18 cd18 ct18),sl18⟩)
  (cc_18:codeIn K cd18 "_law_draws" = true)
  (kk_18:keepIn K (.ref f_qs)=true)
  (a_19:nsIn K mainGlobals "_law_take" = some (some (.ref f_qt)))
  (l_19:K.lookup f_qt=some ⟨oc19,od19,.func (fS "_law_take" "_law_take" uN kV19 dc19 pm19 an19 cd19 ct19),sl19⟩)
  (cc_19:codeIn K cd19 "_law_take" = true)
  (kk_19:keepIn K (.ref f_qt)=true)
  (a_20:nsIn K mainGlobals "_law_hands" = some (some (.ref f_qu)))
  (l_20:K.lookup f_qu=some ⟨oc20,od20,.func (fS "_law_hands" "_law_hands" Zz kV20 dc20 pm20 an20 cd20 ct20),sl20⟩)
  (cc_20:codeIn K cd20 "_law_hands" = true)
  (kk_20:keepIn K (.ref f_qu)=true)
  (a_21:nsIn K mainGlobals "_law_lines" = some (some (.ref f_qv)))
  (l_21:K.lookup f_qv=some ⟨oc21,od21,.func (fS "_law_lines" "_law_lines" Zy kV21 dc21 pm21 an21 cd21 ct21),sl21⟩)
  (cc_21:codeIn K cd21 "_law_lines" = true)
  (kk_21:keepIn K (.ref f_qv)=true)
  (a_22:nsIn K mainGlobals "_law_near" = some (some (.ref f_qw)))
  (l_22:K.lookup f_qw=some ⟨oc22,od22,.func (fS "_law_near" "_law_near" Zx kV22 dc22 pm22 an22 cd22 ct22),sl22⟩)
  (cc_22:codeIn K cd22 "_law_near" = true)
  (kk_22:keepIn K (.ref f_qw)=true)
  (a_23:nsIn K mainGlobals "_law_expr" = some (some (.ref f_qx)))
  (l_23:K.lookup f_qx=some ⟨oc23,od23,.func (fS "_law_expr" "_law_expr" Zw kV23 dc23 pm23 an23 cd23 ct23),sl23⟩)
  (cc_23:codeIn K cd23 "_law_expr" = true)
  (kk_23:keepIn K (.ref f_qx)=true)
  (a_24:nsIn K mainGlobals "_law_program" = some (some (.ref f_qy)))
  (l_24:K.lookup f_qy=some ⟨oc24,od24,.func (fS "_law_program" "_law_program" Zv kV24 dc24 pm24 an24 cd24 ct24),sl24⟩)
  (cc_24:codeIn K cd24 "_law_program" = true)
  (kk_24:keepIn K (.ref f_qy)=true)
  (a_25:nsIn K mainGlobals "_law_heard_names" = some (some (.ref f_qz)))
  (l_25:K.lookup f_qz=some ⟨oc25,od25,.func (fS "_law_heard_names" "_law_heard_names" Zu kV25 dc25 pm25 an25 cd25 ct25),sl25⟩)
  (cc_25:codeIn K cd25 "_law_heard_names" = true)
  (kk_25:keepIn K (.ref f_qz)=true)
  (a_26:nsIn K mainGlobals "_law_made" = some (some (.ref f_qA)))
  (l_26:K.lookup f_qA=some ⟨oc26,od26,.func (fS "_law_made" "_law_made" Ye kV26 dc26 pm26 an26 cd26 ct26),sl26⟩)
  (cc_26:codeIn K cd26 "_law_made" = true)
  (kk_26:keepIn K (.ref f_qA)=true)
  (a_27:nsIn K mainGlobals "_law_program_made" = some (some (.ref f_qB)))
  (l_27:K.lookup f_qB=some ⟨oc27,od27,.func (fS "_law_program_made" "_law_program_made" Yd kV27 dc27 pm27 an27 cd27 ct27),sl27⟩)
  (cc_27:codeIn K cd27 "_law_program_made" = true)
  (kk_27:keepIn K (.ref f_qB)=true)
  (a_28:nsIn K mainGlobals "_law_value" = some (some (.ref f_qC)))
  (l_28:K.lookup f_qC=some ⟨oc28,od28,.func (fS "_law_value" "_law_value" Yc kV28 dc28 pm28 an28 cd28 ct28),sl28⟩)
  (cc_28:codeIn K cd28 "_law_value" = true)
  (kk_28:keepIn K (.ref f_qC)=true)
  (a_29:nsIn K mainGlobals "_law_heard" = some (some (.ref f_qD)))
  (l_29:K.lookup f_qD=some ⟨oc29,od29,.func (fS "_law_heard" "_law_heard" Yb kV29 dc29 pm29 an29 cd29 ct29),sl29⟩)
  (cc_29:codeIn K cd29 "_law_heard" = true)
  (kk_29:keepIn K (.ref f_qD)=true)
  (a_30:nsIn K mainGlobals "_law_behind" = some (some (.ref f_qE)))
  (l_30:K.lookup f_qE=some ⟨oc30,od30,.func (fS "_law_behind" "_law_behind" Ya kV30 dc30 pm30 an30 cd30 ct30),sl30⟩)
  (cc_30:codeIn K cd30 "_law_behind" = true)
  (kk_30:keepIn K (.ref f_qE)=true)
  (a_31:nsIn K mainGlobals "_law_run" = some (some (.ref f_qF)))
  (l_31:K.lookup f_qF=some ⟨oc31,od31,.func (fS "_law_run" "_law_run" Z9 kV31 dc31 pm31 an31 cd31 ct31),sl31⟩)
  (cc_31:codeIn K cd31 "_law_run" = true)
  (kk_31:keepIn K (.ref f_qF)=true)
  (a_32:nsIn K mainGlobals "_law_part" = some (some (.ref f_qG)))
  (l_32:K.lookup f_qG=some ⟨oc32,od32,.func (fS "_law_part" "_law_part" uS kV32 dc32 pm32 an32 cd32 ct32),sl32⟩)
  (cc_32:codeIn K cd32 "_law_part" = true)
  (kk_32:keepIn K (.ref f_qG)=true)
  (a_33:nsIn K mainGlobals "_law_pieces" = some (some (.ref f_qH)))
  (l_33:K.lookup f_qH=some ⟨oc33,od33,.func (fS "_law_pieces" "_law_pieces" Z8 kV33 dc33 pm33 an33 cd33 ct33),sl33⟩)
  (cc_33:codeIn K cd33 "_law_pieces" = true)
  (kk_33:keepIn K (.ref f_qH)=true)
  (a_34:nsIn K mainGlobals "law" = some (some (.ref f_qI)))
  (l_34:K.lookup f_qI=some ⟨oc34,od34,.func (fS "law" "law" uR kV34 dc34 pm34 an34 cd34 ct34),sl34⟩)
  (cc_34:codeIn K cd34 "law" = true)
  (kk_34:keepIn K (.ref f_qI)=true)
  (a_35:findIn K (.ref c_Num) "__init__" = some (some (.ref f_qJ)))
  (i_35:isFn K (.ref f_qJ)=true)
  (l_35:K.lookup f_qJ=some ⟨oc35,od35,.func (fS "__init__" "Num.__init__" Z7 kV35 dc35 pm35 an35 cd35 ct35),sl35⟩)
  (cc_35:codeIn K cd35 "Num.__init__" = true)
  (kk_35:keepIn K (.ref f_qJ)=true)
  (a_36:findIn K (.ref c_Num) "reckon" = some (some (.ref f_qK)))
  (i_36:isFn K (.ref f_qK)=true)
  (l_36:K.lookup f_qK=some ⟨oc36,od36,.func (fS "reckon" "Num.reckon" Z6 kV36 dc36 pm36 an36 cd36 ct36),sl36⟩)
  (cc_36:codeIn K cd36 "Num.reckon" = true)
  (kk_36:keepIn K (.ref f_qK)=true)
  (a_37:findIn K (.ref c_Num) "words" = some (some (.ref f_qL)))
  (i_37:isFn K (.ref f_qL)=true)
  (l_37:K.lookup f_qL=some ⟨oc37,od37,.func (fS "words" "Num.words" Z5 kV37 dc37 pm37 an37 cd37 ct37),sl37⟩)
  (cc_37:codeIn K cd37 "Num.words" = true)
  (kk_37:keepIn K (.ref f_qL)=true)
  (a_38:findIn K (.ref c_Name) "__init__" = some (some (.ref f_qM)))
  (i_38:isFn K (.ref f_qM)=true)
  (l_38:K.lookup f_qM=some ⟨oc38,od38,.func (fS "__init__" "Name.__init__" Z4 kV38 dc38 pm38 an38 cd38 ct38),sl38⟩)
  (cc_38:codeIn K cd38 "Name.__init__" = true)
  (kk_38:keepIn K (.ref f_qM)=true)
  (a_39:findIn K (.ref c_Name) "reckon" = some (some (.ref f_qN)))
  (i_39:isFn K (.ref f_qN)=true)
  (l_39:K.lookup f_qN=some ⟨oc39,od39,.func (fS "reckon" "Name.reckon" Z3 kV39 dc39 pm39 an39 cd39 ct39),sl39⟩)
  (cc_39:codeIn K cd39 "Name.reckon" = true)
  (kk_39:keepIn K (.ref f_qN)=true)
  (a_40:findIn K (.ref c_Name) "words" = some (some (.ref f_qO)))
  (i_40:isFn K (.ref f_qO)=true)
  (l_40:K.lookup f_qO=some ⟨oc40,od40,.func (fS "words" "Name.words" Z2 kV40 dc40 pm40 an40 cd40 ct40),sl40⟩)
  (cc_40:codeIn K cd40 "Name.words" = true)
  (kk_40:keepIn K (.ref f_qO)=true)
  (a_41:findIn K (.ref c_Two) "__init__" = some (some (.ref f_qP)))
  (i_41:isFn K (.ref f_qP)=true)
  (l_41:K.lookup f_qP=some ⟨oc41,od41,.func (fS "__init__" "Two.__init__" Z1 kV41 dc41 pm41 an41 cd41 ct41),sl41⟩)
  (cc_41:codeIn K cd41 "Two.__init__" = true)
  (kk_41:keepIn K (.ref f_qP)=true)
  (a_42:findIn K (.ref c_Two) "reckon" = some (some (.ref f_qQ)))
  (i_42:isFn K (.ref f_qQ)=true)
  (l_42:K.lookup f_qQ=some ⟨oc42,od42,.func (fS "reckon" "Two.reckon" Z0 kV42 dc42 pm42 an42 cd42 ct42),sl42⟩)
  (cc_42:codeIn K cd42 "Two.reckon" = true)
  (kk_42:keepIn K (.ref f_qQ)=true)
  (a_43:findIn K (.ref c_Two) "words" = some (some (.ref f_qR)))
  (i_43:isFn K (.ref f_qR)=true)
  (l_43:K.lookup f_qR=some ⟨oc43,od43,.func (fS "words" "Two.words" ZZ kV43 dc43 pm43 an43 cd43 ct43),sl43⟩)
  (cc_43:codeIn K cd43 "Two.words" = true)
  (kk_43:keepIn K (.ref f_qR)=true)
  (a_44:findIn K (.ref c_Mod) "__init__" = some (some (.ref f_qS)))
  (i_44:isFn K (.ref f_qS)=true)
  (l_44:K.lookup f_qS=some ⟨oc44,od44,.func (fS "__init__" "Mod.__init__" ZY kV44 dc44 pm44 an44 cd44 ct44),sl44⟩)
  (cc_44:codeIn K cd44 "Mod.__init__" = true)
  (kk_44:keepIn K (.ref f_qS)=true)
  (a_45:findIn K (.ref c_Mod) "reckon" = some (some (.ref f_qT)))
  (i_45:isFn K (.ref f_qT)=true)
  (l_45:K.lookup f_qT=some ⟨oc45,od45,.func (fS "reckon" "Mod.reckon" ZX kV45 dc45 pm45 an45 cd45 ct45),sl45⟩)
  (cc_45:codeIn K cd45 "Mod.reckon" = true)
  (kk_45:keepIn K (.ref f_qT)=true)
  (a_46:findIn K (.ref c_Mod) "words" = some (some (.ref f_qU)))
  (i_46:isFn K (.ref f_qU)=true)
  (l_46:K.lookup f_qU=some ⟨oc46,od46,.func (fS "words" "Mod.words" ZW kV46 dc46 pm46 an46 cd46 ct46),sl46⟩)
  (cc_46:codeIn K cd46 "Mod.words" = true)
  (kk_46:keepIn K (.ref f_qU)=true)
  (a_47:findIn K (.ref c_Less) "__init__" = some (some (.ref f_qV)))
  (i_47:isFn K (.ref f_qV)=true)
  (l_47:K.lookup f_qV=some ⟨oc47,od47,.func (fS "__init__" "Less.__init__" ZV kV47 dc47 pm47 an47 cd47 ct47),sl47⟩)
  (cc_47:codeIn K cd47 "Less.__init__" = true)
  (kk_47:keepIn K (.ref f_qV)=true)
  (a_48:findIn K (.ref c_Less) "reckon" = some (some (.ref f_qW)))
  (i_48:isFn K (.ref f_qW)=true)
  (l_48:K.lookup f_qW=some ⟨oc48,od48,.func (fS "reckon" "Less.reckon" ZU kV48 dc48 pm48 an48 cd48 ct48),sl48⟩)
  (cc_48:codeIn K cd48 "Less.reckon" = true)
  (kk_48:keepIn K (.ref f_qW)=true)
  (a_49:findIn K (.ref c_Less) "words" = some (some (.ref f_qX)))
  (i_49:isFn K (.ref f_qX)=true)
  (l_49:K.lookup f_qX=some ⟨oc49,od49,.func (fS "words" "Less.words" ZT kV49 dc49 pm49 an49 cd49 ct49),sl49⟩)
  (cc_49:codeIn K cd49 "Less.words" = true)
  (kk_49:keepIn K (.ref f_qX)=true)
  (a_50:findIn K (.ref c_Program) "__init__" = some (some (.ref f_qY)))
  (i_50:isFn K (.ref f_qY)=true)
  (l_50:K.lookup f_qY=some ⟨oc50,od50,.func (fS "__init__" "Program.__init__" ZS kV50 dc50 pm50 an50 cd50 ct50),sl50⟩)
  (cc_50:codeIn K cd50 "Program.__init__" = true)
  (kk_50:keepIn K (.ref f_qY)=true)
  (a_51:findIn K (.ref c_Program) "first_worth" = some (some (.ref f_qZ)))
  (i_51:isFn K (.ref f_qZ)=true)
  (l_51:K.lookup f_qZ=some ⟨oc51,od51,.func (fS "first_worth" "Program.first_worth" uQ kV51 dc51 pm51 an51 cd51 ct51),sl51⟩)
  (cc_51:codeIn K cd51 "Program.first_worth" = true)
  (kk_51:keepIn K (.ref f_qZ)=true)
  (a_52:findIn K (.ref c_Program) "word_to" = some (some (.ref f_qa0)))
  (i_52:isFn K (.ref f_qa0)=true)
  (l_52:K.lookup f_qa0=some ⟨oc52,od52,.func (fS "word_to" "Program.word_to" xF kV52 dc52 pm52 an52 cd52 ct52),sl52⟩)
  (cc_52:codeIn K cd52 "Program.word_to" = true)
  (kk_52:keepIn K (.ref f_qa0)=true)
  (a_53:findIn K (.ref c_Program) "next_worth" = some (some (.ref f_qa1)))
  (i_53:isFn K (.ref f_qa1)=true)
  (l_53:K.lookup f_qa1=some ⟨oc53,od53,.func (fS "next_worth" "Program.next_worth" wf kV53 dc53 pm53 an53 cd53 ct53),sl53⟩)
  (cc_53:codeIn K cd53 "Program.next_worth" = true)
  (kk_53:keepIn K (.ref f_qa1)=true)
  (a_54:findIn K (.ref c_Web) "__init__" = some (some (.ref f_qa2)))
  (i_54:isFn K (.ref f_qa2)=true)
  (l_54:K.lookup f_qa2=some ⟨oc54,od54,.func (fS "__init__" "Web.__init__" vc kV54 dc54 pm54 an54 cd54 ct54),sl54⟩)
  (cc_54:codeIn K cd54 "Web.__init__" = true)
  (kk_54:keepIn K (.ref f_qa2)=true)
  (a_55:findIn K (.ref c_Web) "hands" = some (some (.ref f_qa3)))
  (i_55:isFn K (.ref f_qa3)=true)
  (l_55:K.lookup f_qa3=some ⟨oc55,od55,.func (fS "hands" "Web.hands" vb kV55 dc55 pm55 an55 cd55 ct55),sl55⟩)
  (cc_55:codeIn K cd55 "Web.hands" = true)
  (kk_55:keepIn K (.ref f_qa3)=true)
  (a_56:findIn K (.ref c_Web) "lines" = some (some (.ref f_qa4)))
  (i_56:isFn K (.ref f_qa4)=true)
  (l_56:K.lookup f_qa4=some ⟨oc56,od56,.func (fS "lines" "Web.lines" uj kV56 dc56 pm56 an56 cd56 ct56),sl56⟩)
  (cc_56:codeIn K cd56 "Web.lines" = true)
  (kk_56:keepIn K (.ref f_qa4)=true)
  (a_57:findIn K (.ref c_Web) "has_hand" = some (some (.ref f_qa5)))
  (i_57:isFn K (.ref f_qa5)=true)
  (l_57:K.lookup f_qa5=some ⟨oc57,od57,.func (fS "has_hand" "Web.has_hand" va kV57 dc57 pm57 an57 cd57 ct57),sl57⟩)
  (cc_57:codeIn K cd57 "Web.has_hand" = true)
  (kk_57:keepIn K (.ref f_qa5)=true)
  (a_58:findIn K (.ref c_Web) "neighbours" = some (some (.ref f_qa6)))
  (i_58:isFn K (.ref f_qa6)=true)
  (l_58:K.lookup f_qa6=some ⟨oc58,od58,.func (fS "neighbours" "Web.neighbours" w8 kV58 dc58 pm58 an58 cd58 ct58),sl58⟩)
  (cc_58:codeIn K cd58 "Web.neighbours" = true)
  (kk_58:keepIn K (.ref f_qa6)=true)
  (pg_Num:plainGet K c_Num Str.empty=true)
  (hd_Num:hasDictIn K c_Num=true)
  (po_Num:plainOver K c_Num=true)
  (sa_Num:findIn K (.ref c_Num) "__setattr__" = some (some (.builtin "object.__setattr__")))
  (mk_Num:makesIn K c_Num=true)
  (kc_Num:keepIn K (.ref c_Num)=true)
  (ha_Num:findIn K (.ref c_Num) "__class__" = some (some (.builtin "object.__class__")))
  (hm_Num:mroIn K c_Num (.type "object")=some true)
  (na_Num_value:findIn K (.ref c_Num) "value" = some none)
  (pg_Name:plainGet K c_Name Str.empty=true)
  (hd_Name:hasDictIn K c_Name=true)
  (po_Name:plainOver K c_Name=true)
  (sa_Name:findIn K (.ref c_Name) "__setattr__" = some (some (.builtin "object.__setattr__")))
  (mk_Name:makesIn K c_Name=true)
  (kc_Name:keepIn K (.ref c_Name)=true)
  (ha_Name:findIn K (.ref c_Name) "__class__" = some (some (.builtin "object.__class__")))
  (hm_Name:mroIn K c_Name (.type "object")=some true)
  (na_Name_word:findIn K (.ref c_Name) "word" = some none)
  (pg_Two:plainGet K c_Two Str.empty=true)
  (hd_Two:hasDictIn K c_Two=true)
  (po_Two:plainOver K c_Two=true)
  (sa_Two:findIn K (.ref c_Two) "__setattr__" = some (some (.builtin "object.__setattr__")))
  (mk_Two:makesIn K c_Two=true)
  (kc_Two:keepIn K (.ref c_Two)=true)
  (ha_Two:findIn K (.ref c_Two) "__class__" = some (some (.builtin "object.__class__")))
  (hm_Two:mroIn K c_Two (.type "object")=some true)
  (na_Two_word:findIn K (.ref c_Two) "word" = some none)
  (na_Two_one:findIn K (.ref c_Two) "one" = some none)
  (na_Two_other:findIn K (.ref c_Two) "other" = some none)
  (pg_Mod:plainGet K c_Mod Str.empty=true)
  (hd_Mod:hasDictIn K c_Mod=true)
  (po_Mod:plainOver K c_Mod=true)
  (sa_Mod:findIn K (.ref c_Mod) "__setattr__" = some (some (.builtin "object.__setattr__")))
  (mk_Mod:makesIn K c_Mod=true)
  (kc_Mod:keepIn K (.ref c_Mod)=true)
  (ha_Mod:findIn K (.ref c_Mod) "__class__" = some (some (.builtin "object.__class__")))
  (hm_Mod:mroIn K c_Mod (.type "object")=some true)
  (na_Mod_inner:findIn K (.ref c_Mod) "inner" = some none)
  (na_Mod_number:findIn K (.ref c_Mod) "number" = some none)
  (pg_Less:plainGet K c_Less Str.empty=true)
  (hd_Less:hasDictIn K c_Less=true)
  (po_Less:plainOver K c_Less=true)
  (sa_Less:findIn K (.ref c_Less) "__setattr__" = some (some (.builtin "object.__setattr__")))
  (mk_Less:makesIn K c_Less=true)
  (kc_Less:keepIn K (.ref c_Less)=true)
  (ha_Less:findIn K (.ref c_Less) "__class__" = some (some (.builtin "object.__class__")))
  (hm_Less:mroIn K c_Less (.type "object")=some true)
  (na_Less_one:findIn K (.ref c_Less) "one" = some none)
  (na_Less_other:findIn K (.ref c_Less) "other" = some none)
  (na_Less_third:findIn K (.ref c_Less) "third" = some none)
  (na_Less_fourth:findIn K (.ref c_Less) "fourth" = some none)
  (pg_Program:plainGet K c_Program Str.empty=true)
  (hd_Program:hasDictIn K c_Program=true)
  (po_Program:plainOver K c_Program=true)
  (sa_Program:findIn K (.ref c_Program) "__setattr__" = some (some (.builtin "object.__setattr__")))
  (mk_Program:makesIn K c_Program=true)
  (kc_Program:keepIn K (.ref c_Program)=true)
  (ha_Program:findIn K (.ref c_Program) "__class__" = some (some (.builtin "object.__class__")))
  (hm_Program:mroIn K c_Program (.type "object")=some true)
  (na_Program_start:findIn K (.ref c_Program) "start" = some none)
  (na_Program_send:findIn K (.ref c_Program) "send" = some none)
  (na_Program_when:findIn K (.ref c_Program) "when" = some none)
  (na_Program_renew:findIn K (.ref c_Program) "renew" = some none)
  (pg_Web:plainGet K c_Web Str.empty=true)
  (hd_Web:hasDictIn K c_Web=true)
  (po_Web:plainOver K c_Web=true)
  (sa_Web:findIn K (.ref c_Web) "__setattr__" = some (some (.builtin "object.__setattr__")))
  (mk_Web:makesIn K c_Web=true)
  (kc_Web:keepIn K (.ref c_Web)=true)
  (ha_Web:findIn K (.ref c_Web) "__class__" = some (some (.builtin "object.__class__")))
  (hm_Web:mroIn K c_Web (.type "object")=some true)
  (na_Web_own_hands:findIn K (.ref c_Web) "own_hands" = some none)
  (na_Web_own_lines:findIn K (.ref c_Web) "own_lines" = some none)
  (na_Web_near:findIn K (.ref c_Web) "near" = some none)
  (hn:specialIn K (.builtin "object.__class__") "__get__" = some (some (.builtin "getset_descriptor.__get__")))
  (htk:takesIn K (.builtin "object.__class__")=some true)
  (k_Num_Num:kitOne K (.ref c_Num) (.ref c_Num)=some true)
  (k_Name_Num:kitOne K (.ref c_Name) (.ref c_Num)=some false)
  (k_Name_Name:kitOne K (.ref c_Name) (.ref c_Name)=some true)
  (k_Two_Num:kitOne K (.ref c_Two) (.ref c_Num)=some false)
  (k_Two_Name:kitOne K (.ref c_Two) (.ref c_Name)=some false)
  (k_Two_Two:kitOne K (.ref c_Two) (.ref c_Two)=some true)
  (k_Mod_Num:kitOne K (.ref c_Mod) (.ref c_Num)=some false)
  (k_Mod_Name:kitOne K (.ref c_Mod) (.ref c_Name)=some false)
  (k_Mod_Two:kitOne K (.ref c_Mod) (.ref c_Two)=some false)
  (k_Mod_Mod:kitOne K (.ref c_Mod) (.ref c_Mod)=some true)
  (k_Less_Num:kitOne K (.ref c_Less) (.ref c_Num)=some false)
  (k_Less_Name:kitOne K (.ref c_Less) (.ref c_Name)=some false)
  (k_Less_Two:kitOne K (.ref c_Less) (.ref c_Two)=some false)
  (k_Less_Mod:kitOne K (.ref c_Less) (.ref c_Mod)=some false)
  (k_Less_Less:kitOne K (.ref c_Less) (.ref c_Less)=some true)
  (k_tint_tint:kitOne K (.type "int") (.type "int")=some true)
  (k_tint_tbool:kitOne K (.type "int") (.type "bool")=some false)
  (k_tstr_tstr:kitOne K (.type "str") (.type "str")=some true)
  (k_ttuple_ttuple:kitOne K (.type "tuple") (.type "tuple")=some true)
  (k_tint_ttuple:kitOne K (.type "int") (.type "tuple")=some false)
  (k_tstr_ttuple:kitOne K (.type "str") (.type "tuple")=some false)
  (k_tint_tstr:kitOne K (.type "int") (.type "str")=some false)
  (k_tstr_tint:kitOne K (.type "str") (.type "int")=some false)
  (k_tstr_tbool:kitOne K (.type "str") (.type "bool")=some false)
  (k_Program_Program:kitOne K (.ref c_Program) (.ref c_Program)=some true)
  (k_tNoneType_tbool:kitOne K (.type "NoneType") (.type "bool")=some false)
  (k_tlist_tlist:kitOne K (.type "list") (.type "list")=some true)
  (G_START_NAMES:nsIn K mainGlobals "START_NAMES" = some (some (.ref t_START_NAMES)))
  (L_START_NAMES:K.lookup t_START_NAMES=some ⟨.type "tuple",od_START_NAMES,.seq #[.str "me" u_START_NAMES0,.str "lines" u_START_NAMES1] n_START_NAMES,sl_START_NAMES⟩)
  (G_SEND_NAMES:nsIn K mainGlobals "SEND_NAMES" = some (some (.ref t_SEND_NAMES)))
  (L_SEND_NAMES:K.lookup t_SEND_NAMES=some ⟨.type "tuple",od_SEND_NAMES,.seq #[.str "worth" u_SEND_NAMES0,.str "me" u_SEND_NAMES1,.str "round" u_SEND_NAMES2,.str "lines" u_SEND_NAMES3,.str "to" u_SEND_NAMES4] n_SEND_NAMES,sl_SEND_NAMES⟩)
  (G_RENEW_NAMES:nsIn K mainGlobals "RENEW_NAMES" = some (some (.ref t_RENEW_NAMES)))
  (L_RENEW_NAMES:K.lookup t_RENEW_NAMES=some ⟨.type "tuple",od_RENEW_NAMES,.seq #[.str "worth" u_RENEW_NAMES0,.str "me" u_RENEW_NAMES1,.str "round" u_RENEW_NAMES2,.str "lines" u_RENEW_NAMES3,.str "sum" u_RENEW_NAMES4,.str "least" u_RENEW_NAMES5,.str "most" u_RENEW_NAMES6,.str "count" u_RENEW_NAMES7] n_RENEW_NAMES,sl_RENEW_NAMES⟩)
  (G_TWO_WORDS:nsIn K mainGlobals "TWO_WORDS" = some (some (.ref t_TWO_WORDS)))
  (L_TWO_WORDS:K.lookup t_TWO_WORDS=some ⟨.type "tuple",od_TWO_WORDS,.seq #[.str "add" u_TWO_WORDS0,.str "sub" u_TWO_WORDS1,.str "min" u_TWO_WORDS2,.str "max" u_TWO_WORDS3] n_TWO_WORDS,sl_TWO_WORDS⟩)
  (G_MOST_WORDS:nsIn K mainGlobals "MOST_WORDS" = some (some (.int 60 t_MOST_WORDS)))
  (G_MOST_DEEP:nsIn K mainGlobals "MOST_DEEP" = some (some (.int 8 t_MOST_DEEP)))
  (G_MOST_HANDS:nsIn K mainGlobals "MOST_HANDS" = some (some (.int 12 t_MOST_HANDS)))
  (G_LAST_HAND:nsIn K mainGlobals "LAST_HAND" = some (some (.int 99 t_LAST_HAND))) :
  ∃ a:Ad,Txt w K mg a:=by
 have F0:=zn (st:=ZR) l_0 cc_0 kk_0
 have F1:=zn (st:=ZQ) l_1 cc_1 kk_1
 have F2:=zn (st:=ZP) l_2 cc_2 kk_2
 have F3:=zn (st:=ZO) l_3 cc_3 kk_3
 have F4:=zn (st:=ZN) l_4 cc_4 kk_4
 have F5:=zn (st:=ZM) l_5 cc_5 kk_5
 have F6:=zn (st:=ZL) l_6 cc_6 kk_6
 have F7:=zn (st:=ZK) l_7 cc_7 kk_7
 have F8:=zn (st:=ZJ) l_8 cc_8 kk_8
 have F9:=zn (st:=ZI) l_9 cc_9 kk_9
 have F10:=zn (st:=ZH) l_10 cc_10 kk_10
 have F11:=zn (st:=ZG) l_11 cc_11 kk_11
 have F12:=zn (st:=uP) l_12 cc_12 kk_12
 have F13:=zn (st:=ZF) l_13 cc_13 kk_13
 have F14:=zn (st:=ZE) l_14 cc_14 kk_14
 have F15:=zn (st:=ZD) l_15 cc_15 kk_15
 have F16:=zn (st:=ZC) l_16 cc_16 kk_16
 have F17:=zn (st:=ZB) l_17 cc_17 kk_17
 have F18:=zn (st:=ZA) l_18 cc_18 kk_18
 have F19:=zn (st:=uN) l_19 cc_19 kk_19
 have F20:=zn (st:=Zz) l_20 cc_20 kk_20
 have F21:=zn (st:=Zy) l_21 cc_21 kk_21
 have F22:=zn (st:=Zx) l_22 cc_22 kk_22
 have F23:=zn (st:=Zw) l_23 cc_23 kk_23
 have F24:=zn (st:=Zv) l_24 cc_24 kk_24
 have F25:=zn (st:=Zu) l_25 cc_25 kk_25
 have F26:=zn (st:=Ye) l_26 cc_26 kk_26
 have F27:=zn (st:=Yd) l_27 cc_27 kk_27
 have F28:=zn (st:=Yc) l_28 cc_28 kk_28
 have F29:=zn (st:=Yb) l_29 cc_29 kk_29
 have F30:=zn (st:=Ya) l_30 cc_30 kk_30
 have F31:=zn (st:=Z9) l_31 cc_31 kk_31
 have F32:=zn (st:=uS) l_32 cc_32 kk_32
 have F33:=zn (st:=Z8) l_33 cc_33 kk_33
 have F34:=zn (st:=uR) l_34 cc_34 kk_34
 have F35:=zn (st:=Z7) l_35 cc_35 kk_35
 have F36:=zn (st:=Z6) l_36 cc_36 kk_36
 have F37:=zn (st:=Z5) l_37 cc_37 kk_37
 have F38:=zn (st:=Z4) l_38 cc_38 kk_38
 have F39:=zn (st:=Z3) l_39 cc_39 kk_39
 have F40:=zn (st:=Z2) l_40 cc_40 kk_40
 have F41:=zn (st:=Z1) l_41 cc_41 kk_41
 have F42:=zn (st:=Z0) l_42 cc_42 kk_42
 have F43:=zn (st:=ZZ) l_43 cc_43 kk_43
 have F44:=zn (st:=ZY) l_44 cc_44 kk_44
 have F45:=zn (st:=ZX) l_45 cc_45 kk_45
 have F46:=zn (st:=ZW) l_46 cc_46 kk_46
 have F47:=zn (st:=ZV) l_47 cc_47 kk_47
 have F48:=zn (st:=ZU) l_48 cc_48 kk_48
 have F49:=zn (st:=ZT) l_49 cc_49 kk_49
 have F50:=zn (st:=ZS) l_50 cc_50 kk_50
 have F51:=zn (st:=uQ) l_51 cc_51 kk_51
 have F52:=zn (st:=xF) l_52 cc_52 kk_52
 have F53:=zn (st:=wf) l_53 cc_53 kk_53
 have F54:=zn (st:=vc) l_54 cc_54 kk_54
 have F55:=zn (st:=vb) l_55 cc_55 kk_55
 have F56:=zn (st:=uj) l_56 cc_56 kk_56
 have F57:=zn (st:=va) l_57 cc_57 kk_57
 have F58:=zn (st:=w8) l_58 cc_58 kk_58
 refine⟨⟨f_qa,fS "first_worths" "first_worths" ZR kV0 dc0 pm0 an0 cd0 ct0,f_qb,fS "heard_in" "heard_in" ZQ kV1 dc1 pm1 an1 cd1 ct1,f_qc,fS "worths_behind" "worths_behind" ZP kV2 dc2 pm2 an2 cd2 ct2,f_qd,fS "run_pieces" "run_pieces" ZO kV3 dc3 pm3 an3 cd3 ct3,f_qe,fS "worths_by_pieces" "worths_by_pieces" ZN kV4 dc4 pm4 an4 cd4 ct4,f_qf,fS "heard_by_pieces" "heard_by_pieces" ZM kV5 dc5 pm5 an5 cd5 ct5,f_qg,fS "is_whole" "is_whole" ZL kV6 dc6 pm6 an6 cd6 ct6,f_qh,fS "is_short_number" "is_short_number" ZK kV7 dc7 pm7 an7 cd7 ct7,f_qi,fS "is_word_of" "is_word_of" ZJ kV8 dc8 pm8 an8 cd8 ct8,f_qj,fS "is_divisor" "is_divisor" ZI kV9 dc9 pm9 an9 cd9 ct9,f_qk,fS "are_sound" "are_sound" ZH kV10 dc10 pm10 an10 cd10 ct10,f_ql,fS "is_sound" "is_sound" ZG kV11 dc11 pm11 an11 cd11 ct11,f_qm,fS "count_words" "count_words" uP kV12 dc12 pm12 an12 cd12 ct12,f_qn,fS "are_hands" "are_hands" ZF kV13 dc13 pm13 an13 cd13 ct13,f_qo,fS "is_line" "is_line" ZE kV14 dc14 pm14 an14 cd14 ct14,f_qp,fS "are_lines" "are_lines" ZD kV15 dc15 pm15 an15 cd15 ct15,f_qq,fS "near_by_hand" "near_by_hand" ZC kV16 dc16 pm16 an16 cd16 ct16,f_qr,fS "_law_cell_at" "_law_cell_at" ZB kV17 dc17 pm17 an17 cd17 ct17,f_qs,fS "_law_draws" "_law_draws" ZA kV18 dc18 pm18 an18 cd18 ct18,f_qt,fS "_law_take" "_law_take" uN kV19 dc19 pm19 an19 cd19 ct19,f_qu,fS "_law_hands" "_law_hands" Zz kV20 dc20 pm20 an20 cd20 ct20,f_qv,fS "_law_lines" "_law_lines" Zy kV21 dc21 pm21 an21 cd21 ct21,f_qw,fS "_law_near" "_law_near" Zx kV22 dc22 pm22 an22 cd22 ct22,f_qx,fS "_law_expr" "_law_expr" Zw kV23 dc23 pm23 an23 cd23 ct23,f_qy,fS "_law_program" "_law_program" Zv kV24 dc24 pm24 an24 cd24 ct24,f_qz,fS "_law_heard_names" "_law_heard_names" Zu kV25 dc25 pm25 an25 cd25 ct25,f_qA,fS "_law_made" "_law_made" Ye kV26 dc26 pm26 an26 cd26 ct26,f_qB,fS "_law_program_made" "_law_program_made" Yd kV27 dc27 pm27 an27 cd27 ct27,f_qC,fS "_law_value" "_law_value" Yc kV28 dc28 pm28 an28 cd28 ct28,f_qD,fS "_law_heard" "_law_heard" Yb kV29 dc29 pm29 an29 cd29 ct29,f_qE,fS "_law_behind" "_law_behind" Ya kV30 dc30 pm30 an30 cd30 ct30,f_qF,fS "_law_run" "_law_run" Z9 kV31 dc31 pm31 an31 cd31 ct31,f_qG,fS "_law_part" "_law_part" uS kV32 dc32 pm32 an32 cd32 ct32,f_qH,fS "_law_pieces" "_law_pieces" Z8 kV33 dc33 pm33 an33 cd33 ct33,f_qI,fS "law" "law" uR kV34 dc34 pm34 an34 cd34 ct34,f_qJ,fS "__init__" "Num.__init__" Z7 kV35 dc35 pm35 an35 cd35 ct35,f_qK,fS "reckon" "Num.reckon" Z6 kV36 dc36 pm36 an36 cd36 ct36,f_qL,fS "words" "Num.words" Z5 kV37 dc37 pm37 an37 cd37 ct37,f_qM,fS "__init__" "Name.__init__" Z4 kV38 dc38 pm38 an38 cd38 ct38,f_qN,fS "reckon" "Name.reckon" Z3 kV39 dc39 pm39 an39 cd39 ct39,f_qO,fS "words" "Name.words" Z2 kV40 dc40 pm40 an40 cd40 ct40,f_qP,fS "__init__" "Two.__init__" Z1 kV41 dc41 pm41 an41 cd41 ct41,f_qQ,fS "reckon" "Two.reckon" Z0 kV42 dc42 pm42 an42 cd42 ct42,f_qR,fS "words" "Two.words" ZZ kV43 dc43 pm43 an43 cd43 ct43,f_qS,fS "__init__" "Mod.__init__" ZY kV44 dc44 pm44 an44 cd44 ct44,f_qT,fS "reckon" "Mod.reckon" ZX kV45 dc45 pm45 an45 cd45 ct45,f_qU,fS "words" "Mod.words" ZW kV46 dc46 pm46 an46 cd46 ct46,f_qV,fS "__init__" "Less.__init__" ZV kV47 dc47 pm47 an47 cd47 ct47,f_qW,fS "reckon" "Less.reckon" ZU kV48 dc48 pm48 an48 cd48 ct48,f_qX,fS "words" "Less.words" ZT kV49 dc49 pm49 an49 cd49 ct49,f_qY,fS "__init__" "Program.__init__" ZS kV50 dc50 pm50 an50 cd50 ct50,f_qZ,fS "first_worth" "Program.first_worth" uQ kV51 dc51 pm51 an51 cd51 ct51,f_qa0,fS "word_to" "Program.word_to" xF kV52 dc52 pm52 an52 cd52 ct52,f_qa1,fS "next_worth" "Program.next_worth" wf kV53 dc53 pm53 an53 cd53 ct53,f_qa2,fS "__init__" "Web.__init__" vc kV54 dc54 pm54 an54 cd54 ct54,f_qa3,fS "hands" "Web.hands" vb kV55 dc55 pm55 an55 cd55 ct55,f_qa4,fS "lines" "Web.lines" uj kV56 dc56 pm56 an56 cd56 ct56,f_qa5,fS "has_hand" "Web.has_hand" va kV57 dc57 pm57 an57 cd57 ct57,f_qa6,fS "neighbours" "Web.neighbours" w8 kV58 dc58 pm58 an58 cd58 ct58,c_Num,c_Name,c_Two,c_Mod,c_Less,c_Program,c_Web,t_START_NAMES,t_SEND_NAMES,t_RENEW_NAMES,t_TWO_WORDS,t_MOST_WORDS,t_MOST_DEEP,t_MOST_HANDS,t_LAST_HAND⟩,?_⟩
 exact⟨mg_none_of X G z_len,
  mg_none_of X G z_int,
  mg_none_of X G z_min,
  mg_none_of X G z_max,
  mg_none_of X G z_range,
  mg_none_of X G z_isinstance,
  mg_none_of X G z_list,
  mg_none_of X G z_dict,
  mg_none_of X G z_abs,
  mg_none_of X G z_sorted,
  mg_none_of X G z_str,
  mg_none_of X G z_sum,
  mg_none_of X G z_bool,
  mg_none_of X G z_tuple,
  mg_none_of X G z_ValueError,
  F0,
  F0.binds (ps:=["web", "program"]) fun _ _ _ _ _ _ us hl=>match us,hl with | [_,_],_=>rfl,
  mg_of X G a_0,
  F1,
  F1.binds (ps:=["web", "program", "worths", "turn"]) fun _ _ _ _ _ _ us hl=>match us,hl with | [_,_,_,_],_=>rfl,
  mg_of X G a_1,
  F2,
  F2.binds (ps:=["web", "program", "worths", "turn", "heard"]) fun _ _ _ _ _ _ us hl=>match us,hl with | [_,_,_,_,_],_=>rfl,
  mg_of X G a_2,
  F3,
  F3.binds (ps:=["pieces", "program"]) fun _ _ _ _ _ _ us hl=>match us,hl with | [_,_],_=>rfl,
  mg_of X G a_3,
  F4,
  F4.binds (ps:=["pieces", "program"]) fun _ _ _ _ _ _ us hl=>match us,hl with | [_,_],_=>rfl,
  mg_of X G a_4,
  F5,
  F5.binds (ps:=["pieces", "program"]) fun _ _ _ _ _ _ us hl=>match us,hl with | [_,_],_=>rfl,
  mg_of X G a_5,
  F6,
  F6.binds (ps:=["value"]) fun _ _ _ _ _ _ us hl=>match us,hl with | [_],_=>rfl,
  mg_of X G a_6,
  F7,
  F7.binds (ps:=["value"]) fun _ _ _ _ _ _ us hl=>match us,hl with | [_],_=>rfl,
  mg_of X G a_7,
  F8,
  F8.binds (ps:=["word", "words"]) fun _ _ _ _ _ _ us hl=>match us,hl with | [_,_],_=>rfl,
  mg_of X G a_8,
  F9,
  F9.binds (ps:=["number"]) fun _ _ _ _ _ _ us hl=>match us,hl with | [_],_=>rfl,
  mg_of X G a_9,
  F10,
  F10.binds (ps:=["parts", "names", "deep"]) fun _ _ _ _ _ _ us hl=>match us,hl with | [_,_,_],_=>rfl,
  mg_of X G a_10,
  F11,
  F11.binds (ps:=["expr", "names", "deep"]) fun _ _ _ _ _ _ us hl=>match us,hl with | [_,_,_],_=>rfl,
  mg_of X G a_11,
  F12,
  F12.binds (ps:=["exprs"]) fun _ _ _ _ _ _ us hl=>match us,hl with | [_],_=>rfl,
  mg_of X G a_12,
  F13,
  F13.binds (ps:=["hands"]) fun _ _ _ _ _ _ us hl=>match us,hl with | [_],_=>rfl,
  mg_of X G a_13,
  F14,
  F14.binds (ps:=["line", "hands"]) fun _ _ _ _ _ _ us hl=>match us,hl with | [_,_],_=>rfl,
  mg_of X G a_14,
  F15,
  F15.binds (ps:=["lines", "hands"]) fun _ _ _ _ _ _ us hl=>match us,hl with | [_,_],_=>rfl,
  mg_of X G a_15,
  F16,
  F16.binds (ps:=["hands", "lines"]) fun _ _ _ _ _ _ us hl=>match us,hl with | [_,_],_=>rfl,
  mg_of X G a_16,
  F17,
  F17.binds (ps:=["_law_script", "_law_k"]) fun _ _ _ _ _ _ us hl=>match us,hl with | [_,_],_=>rfl,
  mg_of X G a_17,
  F18,
  F18.binds (ps:=["_law_cell", "_law_many"]) fun _ _ _ _ _ _ us hl=>match us,hl with | [_,_],_=>rfl,
  mg_of X G a_18,
  F19,
  F19.binds (ps:=["_law_xs", "_law_size"]) fun _ _ _ _ _ _ us hl=>match us,hl with | [_,_],_=>rfl,
  mg_of X G a_19,
  F20,
  F20.binds (ps:=["_law_xs", "_law_most"]) fun _ _ _ _ _ _ us hl=>match us,hl with | [_,_],_=>rfl,
  mg_of X G a_20,
  F21,
  F21.binds (ps:=["_law_xs", "_law_hands_here"]) fun _ _ _ _ _ _ us hl=>match us,hl with | [_,_],_=>rfl,
  mg_of X G a_21,
  F22,
  F22.binds (ps:=["_law_lines_here", "_law_hand"]) fun _ _ _ _ _ _ us hl=>match us,hl with | [_,_],_=>rfl,
  mg_of X G a_22,
  F23,
  F23.binds (ps:=["_law_xs", "_law_names", "_law_deep"]) fun _ _ _ _ _ _ us hl=>match us,hl with | [_,_,_],_=>rfl,
  mg_of X G a_23,
  F24,
  F24.binds (ps:=["_law_cell"]) fun _ _ _ _ _ _ us hl=>match us,hl with | [_],_=>rfl,
  mg_of X G a_24,
  F25,
  F25.binds (ps:=[]) fun _ _ _ _ _ _ us hl=>match us,hl with | [],_=>rfl,
  mg_of X G a_25,
  F26,
  F26.binds (ps:=["_law_told"]) fun _ _ _ _ _ _ us hl=>match us,hl with | [_],_=>rfl,
  mg_of X G a_26,
  F27,
  F27.binds (ps:=["_law_program_here"]) fun _ _ _ _ _ _ us hl=>match us,hl with | [_],_=>rfl,
  mg_of X G a_27,
  F28,
  F28.binds (ps:=["_law_told", "_law_names"]) fun _ _ _ _ _ _ us hl=>match us,hl with | [_,_],_=>rfl,
  mg_of X G a_28,
  F29,
  F29.binds (ps:=["_law_hands_here", "_law_lines_here", "_law_program_here", "_law_worths", "_law_turn"]) fun _ _ _ _ _ _ us hl=>match us,hl with | [_,_,_,_,_],_=>rfl,
  mg_of X G a_29,
  F30,
  F30.binds (ps:=["_law_hands_here", "_law_lines_here", "_law_program_here", "_law_worths", "_law_turn", "_law_heard_here"]) fun _ _ _ _ _ _ us hl=>match us,hl with | [_,_,_,_,_,_],_=>rfl,
  mg_of X G a_30,
  F31,
  F31.binds (ps:=["_law_pieces_here", "_law_program_here"]) fun _ _ _ _ _ _ us hl=>match us,hl with | [_,_],_=>rfl,
  mg_of X G a_31,
  F32,
  F32.binds (ps:=["_law_xs", "_law_hands_here"]) fun _ _ _ _ _ _ us hl=>match us,hl with | [_,_],_=>rfl,
  mg_of X G a_32,
  F33,
  F33.binds (ps:=["_law_script", "_law_at", "_law_most"]) fun _ _ _ _ _ _ us hl=>match us,hl with | [_,_,_],_=>rfl,
  mg_of X G a_33,
  F34,
  F34.binds (ps:=["_law_script"]) fun _ _ _ _ _ _ us hl=>match us,hl with | [_],_=>rfl,
  fun s v=>.of_eq rfl,
  mg_of X G a_34,
  F35,
  F35.binds (ps:=["self", "value"]) fun _ _ _ _ _ _ us hl=>match us,hl with | [_,_],_=>rfl,
  F36,
  F36.binds (ps:=["self", "worths"]) fun _ _ _ _ _ _ us hl=>match us,hl with | [_,_],_=>rfl,
  ⟨a_36,i_36,kk_36⟩,
  F37,
  F37.binds (ps:=["self"]) fun _ _ _ _ _ _ us hl=>match us,hl with | [_],_=>rfl,
  ⟨a_37,i_37,kk_37⟩,
  F38,
  F38.binds (ps:=["self", "word"]) fun _ _ _ _ _ _ us hl=>match us,hl with | [_,_],_=>rfl,
  F39,
  F39.binds (ps:=["self", "worths"]) fun _ _ _ _ _ _ us hl=>match us,hl with | [_,_],_=>rfl,
  ⟨a_39,i_39,kk_39⟩,
  F40,
  F40.binds (ps:=["self"]) fun _ _ _ _ _ _ us hl=>match us,hl with | [_],_=>rfl,
  ⟨a_40,i_40,kk_40⟩,
  F41,
  F41.binds (ps:=["self", "word", "one", "other"]) fun _ _ _ _ _ _ us hl=>match us,hl with | [_,_,_,_],_=>rfl,
  F42,
  F42.binds (ps:=["self", "worths"]) fun _ _ _ _ _ _ us hl=>match us,hl with | [_,_],_=>rfl,
  ⟨a_42,i_42,kk_42⟩,
  F43,
  F43.binds (ps:=["self"]) fun _ _ _ _ _ _ us hl=>match us,hl with | [_],_=>rfl,
  ⟨a_43,i_43,kk_43⟩,
  F44,
  F44.binds (ps:=["self", "inner", "number"]) fun _ _ _ _ _ _ us hl=>match us,hl with | [_,_,_],_=>rfl,
  F45,
  F45.binds (ps:=["self", "worths"]) fun _ _ _ _ _ _ us hl=>match us,hl with | [_,_],_=>rfl,
  ⟨a_45,i_45,kk_45⟩,
  F46,
  F46.binds (ps:=["self"]) fun _ _ _ _ _ _ us hl=>match us,hl with | [_],_=>rfl,
  ⟨a_46,i_46,kk_46⟩,
  F47,
  F47.binds (ps:=["self", "one", "other", "third", "fourth"]) fun _ _ _ _ _ _ us hl=>match us,hl with | [_,_,_,_,_],_=>rfl,
  F48,
  F48.binds (ps:=["self", "worths"]) fun _ _ _ _ _ _ us hl=>match us,hl with | [_,_],_=>rfl,
  ⟨a_48,i_48,kk_48⟩,
  F49,
  F49.binds (ps:=["self"]) fun _ _ _ _ _ _ us hl=>match us,hl with | [_],_=>rfl,
  ⟨a_49,i_49,kk_49⟩,
  F50,
  F50.binds (ps:=["self", "start", "send", "when", "renew"]) fun _ _ _ _ _ _ us hl=>match us,hl with | [_,_,_,_,_],_=>rfl,
  F51,
  F51.binds (ps:=["self", "hand", "lines"]) fun _ _ _ _ _ _ us hl=>match us,hl with | [_,_,_],_=>rfl,
  ⟨a_51,i_51,kk_51⟩,
  F52,
  F52.binds (ps:=["self", "worth", "hand", "turn", "lines", "other"]) fun _ _ _ _ _ _ us hl=>match us,hl with | [_,_,_,_,_,_],_=>rfl,
  ⟨a_52,i_52,kk_52⟩,
  F53,
  F53.binds (ps:=["self", "worth", "hand", "turn", "lines", "heard"]) fun _ _ _ _ _ _ us hl=>match us,hl with | [_,_,_,_,_,_],_=>rfl,
  ⟨a_53,i_53,kk_53⟩,
  F54,
  F54.binds (ps:=["self", "hands", "lines"]) fun _ _ _ _ _ _ us hl=>match us,hl with | [_,_,_],_=>rfl,
  F55,
  F55.binds (ps:=["self"]) fun _ _ _ _ _ _ us hl=>match us,hl with | [_],_=>rfl,
  ⟨a_55,i_55,kk_55⟩,
  F56,
  F56.binds (ps:=["self"]) fun _ _ _ _ _ _ us hl=>match us,hl with | [_],_=>rfl,
  ⟨a_56,i_56,kk_56⟩,
  F57,
  F57.binds (ps:=["self", "hand"]) fun _ _ _ _ _ _ us hl=>match us,hl with | [_,_],_=>rfl,
  ⟨a_57,i_57,kk_57⟩,
  F58,
  F58.binds (ps:=["self", "hand"]) fun _ _ _ _ _ _ us hl=>match us,hl with | [_,_],_=>rfl,
  ⟨a_58,i_58,kk_58⟩,
  mg_of X G A_Num,
  ⟨pg_Num,hd_Num,po_Num,sa_Num⟩,
  ⟨mk_Num,a_35,i_35,kc_Num⟩,
  fun H p dx fs e=>.ins e ⟨pg_Num,hd_Num,po_Num,sa_Num⟩ ha_Num hn htk hm_Num,
  na_Num_value,
  mg_of X G A_Name,
  ⟨pg_Name,hd_Name,po_Name,sa_Name⟩,
  ⟨mk_Name,a_38,i_38,kc_Name⟩,
  fun H p dx fs e=>.ins e ⟨pg_Name,hd_Name,po_Name,sa_Name⟩ ha_Name hn htk hm_Name,
  na_Name_word,
  mg_of X G A_Two,
  ⟨pg_Two,hd_Two,po_Two,sa_Two⟩,
  ⟨mk_Two,a_41,i_41,kc_Two⟩,
  fun H p dx fs e=>.ins e ⟨pg_Two,hd_Two,po_Two,sa_Two⟩ ha_Two hn htk hm_Two,
  na_Two_word,
  na_Two_one,
  na_Two_other,
  mg_of X G A_Mod,
  ⟨pg_Mod,hd_Mod,po_Mod,sa_Mod⟩,
  ⟨mk_Mod,a_44,i_44,kc_Mod⟩,
  fun H p dx fs e=>.ins e ⟨pg_Mod,hd_Mod,po_Mod,sa_Mod⟩ ha_Mod hn htk hm_Mod,
  na_Mod_inner,
  na_Mod_number,
  mg_of X G A_Less,
  ⟨pg_Less,hd_Less,po_Less,sa_Less⟩,
  ⟨mk_Less,a_47,i_47,kc_Less⟩,
  fun H p dx fs e=>.ins e ⟨pg_Less,hd_Less,po_Less,sa_Less⟩ ha_Less hn htk hm_Less,
  na_Less_one,
  na_Less_other,
  na_Less_third,
  na_Less_fourth,
  mg_of X G A_Program,
  ⟨pg_Program,hd_Program,po_Program,sa_Program⟩,
  ⟨mk_Program,a_50,i_50,kc_Program⟩,
  fun H p dx fs e=>.ins e ⟨pg_Program,hd_Program,po_Program,sa_Program⟩ ha_Program hn htk hm_Program,
  na_Program_start,
  na_Program_send,
  na_Program_when,
  na_Program_renew,
  mg_of X G A_Web,
  ⟨pg_Web,hd_Web,po_Web,sa_Web⟩,
  ⟨mk_Web,a_54,i_54,kc_Web⟩,
  fun H p dx fs e=>.ins e ⟨pg_Web,hd_Web,po_Web,sa_Web⟩ ha_Web hn htk hm_Web,
  na_Web_own_hands,
  na_Web_own_lines,
  na_Web_near,
  k_Num_Num,
  k_Name_Num,
  k_Name_Name,
  k_Two_Num,
  k_Two_Name,
  k_Two_Two,
  k_Mod_Num,
  k_Mod_Name,
  k_Mod_Two,
  k_Mod_Mod,
  k_Less_Num,
  k_Less_Name,
  k_Less_Two,
  k_Less_Mod,
  k_Less_Less,
  k_tint_tint,
  k_tint_tbool,
  k_tstr_tstr,
  k_ttuple_ttuple,
  k_tint_ttuple,
  k_tstr_ttuple,
  k_tint_tstr,
  k_tstr_tint,
  k_tstr_tbool,
  k_Program_Program,
  k_tNoneType_tbool,
  k_tlist_tlist,
  mg_of X G G_START_NAMES,
  fun H=>.inr ⟨_,_,_,L_START_NAMES,rfl,rfl,by show 2≤sizeLine;decide,by exact .cons ⟨_,rfl⟩ (.cons ⟨_,rfl⟩ (.nil))⟩,
  mg_of X G G_SEND_NAMES,
  fun H=>.inr ⟨_,_,_,L_SEND_NAMES,rfl,rfl,by show 5≤sizeLine;decide,by exact .cons ⟨_,rfl⟩ (.cons ⟨_,rfl⟩ (.cons ⟨_,rfl⟩ (.cons ⟨_,rfl⟩ (.cons ⟨_,rfl⟩ (.nil)))))⟩,
  mg_of X G G_RENEW_NAMES,
  fun H=>.inr ⟨_,_,_,L_RENEW_NAMES,rfl,rfl,by show 8≤sizeLine;decide,by exact .cons ⟨_,rfl⟩ (.cons ⟨_,rfl⟩ (.cons ⟨_,rfl⟩ (.cons ⟨_,rfl⟩ (.cons ⟨_,rfl⟩ (.cons ⟨_,rfl⟩ (.cons ⟨_,rfl⟩ (.cons ⟨_,rfl⟩ (.nil))))))))⟩,
  mg_of X G G_TWO_WORDS,
  fun H=>.inr ⟨_,_,_,L_TWO_WORDS,rfl,rfl,by show 4≤sizeLine;decide,by exact .cons ⟨_,rfl⟩ (.cons ⟨_,rfl⟩ (.cons ⟨_,rfl⟩ (.cons ⟨_,rfl⟩ (.nil))))⟩,
  mg_of X G G_MOST_WORDS,
  mg_of X G G_MOST_DEEP,
  mg_of X G G_MOST_HANDS,
  mg_of X G G_LAST_HAND⟩
end K04
open PySem PySem.W PyProof.Rows
set_option maxRecDepth 100000 in
set_option maxHeartbeats 0 in
theorem PySem.Challenge.cw_beatless_k23_runs_by_pieces_holds : PySem.Challenge.rw_beatless_k23_runs_by_pieces.Holds := by
 w_on;o_law
 refine holds_open (XP:=XL Hd.Q []) (YP:=(kHook Hd.K Hd.as Hd.asK).says) Hd.left Hd.hk.of Hd.hk.keeps
  (fun s z=>xl_of s (Hd.both z).1) XL.keeps (by rfl) (by rfl) (by rfl)
  (fun s z=>recFacts_of (Hd.both z).2) (by rfl) (by assumption) (by decide +kernel)
  ⟨rfl,rfl,rfl,rfl,rfl,by decide +kernel⟩ ?hw ?hc
 case hw=>w_witness2
 k_fill
 refine L2.walk_ofK (l:=PySem.Challenge.rw_beatless_k23_runs_by_pieces) (n:=63) (k:=26) (x := "_law_script") (CX:=L2.CX0) (sp:=K04.spLaw) rfl (by decide) rfl ⟨rfl,by decide,by decide⟩ (fun w h Y=>PySem.W.kIn_of Y) ?F ?S ?C
 case F =>
  intro w mg fa h KX G hmg
  have T:∃ a,K04.Txt w (L2.KOf KX) mg a:=by
   dsimp only[L2.KOf]
   refine' K04.txt_mk KX G ?z_len ?z_int ?z_min ?z_max ?z_range ?z_isinstance ?z_list ?z_dict ?z_abs ?z_sorted ?z_str ?z_sum ?z_bool ?z_tuple ?z_ValueError ?A_Num ?A_Name ?A_Two ?A_Mod ?A_Less ?A_Program ?A_Web ?a_0 ?l_0 ?cc_0 ?kk_0 ?a_1 ?l_1 ?cc_1 ?kk_1 ?a_2 ?l_2 ?cc_2 ?kk_2 ?a_3 ?l_3 ?cc_3 ?kk_3 ?a_4 ?l_4 ?cc_4 ?kk_4 ?a_5 ?l_5 ?cc_5 ?kk_5 ?a_6 ?l_6 ?cc_6 ?kk_6 ?a_7 ?l_7 ?cc_7 ?kk_7 ?a_8 ?l_8 ?cc_8 ?kk_8 ?a_9 ?l_9 ?cc_9 ?kk_9 ?a_10 ?l_10 ?cc_10 ?kk_10 ?a_11 ?l_11 ?cc_11 ?kk_11 ?a_12 ?l_12 ?cc_12 ?kk_12 ?a_13 ?l_13 ?cc_13 ?kk_13 ?a_14 ?l_14 ?cc_14 ?kk_14 ?a_15 ?l_15 ?cc_15 ?kk_15 ?a_16 ?l_16 ?cc_16 ?kk_16 ?a_17 ?l_17 ?cc_17 ?kk_17 ?a_18 ?l_18 ?cc_18 ?kk_18 ?a_19 ?l_19 ?cc_19 ?kk_19 ?a_20 ?l_20 ?cc_20 ?kk_20 ?a_21 ?l_21 ?cc_21 ?kk_21 ?a_22 ?l_22 ?cc_22 ?kk_22 ?a_23 ?l_23 ?cc_23 ?kk_23 ?a_24 ?l_24 ?cc_24 ?kk_24 ?a_25 ?l_25 ?cc_25 ?kk_25 ?a_26 ?l_26 ?cc_26 ?kk_26 ?a_27 ?l_27 ?cc_27 ?kk_27 ?a_28 ?l_28 ?cc_28 ?kk_28 ?a_29 ?l_29 ?cc_29 ?kk_29 ?a_30 ?l_30 ?cc_30 ?kk_30 ?a_31 ?l_31 ?cc_31 ?kk_31 ?a_32 ?l_32 ?cc_32 ?kk_32 ?a_33 ?l_33 ?cc_33 ?kk_33 ?a_34 ?l_34 ?cc_34 ?kk_34 ?a_35 ?i_35 ?l_35 ?cc_35 ?kk_35 ?a_36 ?i_36 ?l_36 ?cc_36 ?kk_36 ?a_37 ?i_37 ?l_37 ?cc_37 ?kk_37 ?a_38 ?i_38 ?l_38 ?cc_38 ?kk_38 ?a_39 ?i_39 ?l_39 ?cc_39 ?kk_39 ?a_40 ?i_40 ?l_40 ?cc_40 ?kk_40 ?a_41 ?i_41 ?l_41 ?cc_41 ?kk_41 ?a_42 ?i_42 ?l_42 ?cc_42 ?kk_42 ?a_43 ?i_43 ?l_43 ?cc_43 ?kk_43 ?a_44 ?i_44 ?l_44 ?cc_44 ?kk_44 ?a_45 ?i_45 ?l_45 ?cc_45 ?kk_45 ?a_46 ?i_46 ?l_46 ?cc_46 ?kk_46 ?a_47 ?i_47 ?l_47 ?cc_47 ?kk_47 ?a_48 ?i_48 ?l_48 ?cc_48 ?kk_48 ?a_49 ?i_49 ?l_49 ?cc_49 ?kk_49 ?a_50 ?i_50 ?l_50 ?cc_50 ?kk_50 ?a_51 ?i_51 ?l_51 ?cc_51 ?kk_51 ?a_52 ?i_52 ?l_52 ?cc_52 ?kk_52 ?a_53 ?i_53 ?l_53 ?cc_53 ?kk_53 ?a_54 ?i_54 ?l_54 ?cc_54 ?kk_54 ?a_55 ?i_55 ?l_55 ?cc_55 ?kk_55 ?a_56 ?i_56 ?l_56 ?cc_56 ?kk_56 ?a_57 ?i_57 ?l_57 ?cc_57 ?kk_57 ?a_58 ?i_58 ?l_58 ?cc_58 ?kk_58 ?pg_Num ?hd_Num ?po_Num ?sa_Num ?mk_Num ?kc_Num ?ha_Num ?hm_Num ?na_Num_value ?pg_Name ?hd_Name ?po_Name ?sa_Name ?mk_Name ?kc_Name ?ha_Name ?hm_Name ?na_Name_word ?pg_Two ?hd_Two ?po_Two ?sa_Two ?mk_Two ?kc_Two ?ha_Two ?hm_Two ?na_Two_word ?na_Two_one ?na_Two_other ?pg_Mod ?hd_Mod ?po_Mod ?sa_Mod ?mk_Mod ?kc_Mod ?ha_Mod ?hm_Mod ?na_Mod_inner ?na_Mod_number ?pg_Less ?hd_Less ?po_Less ?sa_Less ?mk_Less ?kc_Less ?ha_Less ?hm_Less ?na_Less_one ?na_Less_other ?na_Less_third ?na_Less_fourth ?pg_Program ?hd_Program ?po_Program ?sa_Program ?mk_Program ?kc_Program ?ha_Program ?hm_Program ?na_Program_start ?na_Program_send ?na_Program_when ?na_Program_renew ?pg_Web ?hd_Web ?po_Web ?sa_Web ?mk_Web ?kc_Web ?ha_Web ?hm_Web ?na_Web_own_hands ?na_Web_own_lines ?na_Web_near ?hn ?htk ?k_Num_Num ?k_Name_Num ?k_Name_Name ?k_Two_Num ?k_Two_Name ?k_Two_Two ?k_Mod_Num ?k_Mod_Name ?k_Mod_Two ?k_Mod_Mod ?k_Less_Num ?k_Less_Name ?k_Less_Two ?k_Less_Mod ?k_Less_Less ?k_tint_tint ?k_tint_tbool ?k_tstr_tstr ?k_ttuple_ttuple ?k_tint_ttuple ?k_tstr_ttuple ?k_tint_tstr ?k_tstr_tint ?k_tstr_tbool ?k_Program_Program ?k_tNoneType_tbool ?k_tlist_tlist ?G_START_NAMES ?L_START_NAMES ?G_SEND_NAMES ?L_SEND_NAMES ?G_RENEW_NAMES ?L_RENEW_NAMES ?G_TWO_WORDS ?L_TWO_WORDS ?G_MOST_WORDS ?G_MOST_DEEP ?G_MOST_HANDS ?G_LAST_HAND
   (case z_len=>k_is)
   (case z_int=>k_is)
   (case z_min=>k_is)
   (case z_max=>k_is)
   (case z_range=>k_is)
   (case z_isinstance=>k_is)
   (case z_list=>k_is)
   (case z_dict=>k_is)
   (case z_abs=>k_is)
   (case z_sorted=>k_is)
   (case z_str=>k_is)
   (case z_sum=>k_is)
   (case z_bool=>k_is)
   (case z_tuple=>k_is)
   (case z_ValueError=>k_is)
   (case A_Num=>k_is)
   (case A_Name=>k_is)
   (case A_Two=>k_is)
   (case A_Mod=>k_is)
   (case A_Less=>k_is)
   (case A_Program=>k_is)
   (case A_Web=>k_is)
   (case a_0=>k_is)
   (case l_0=>k_is)
   (case cc_0=>k_is)
   (case kk_0=>k_is)
   (case a_1=>k_is)
   (case l_1=>k_is)
   (case cc_1=>k_is)
   (case kk_1=>k_is)
   (case a_2=>k_is)
   (case l_2=>k_is)
   (case cc_2=>k_is)
   (case kk_2=>k_is)
   (case a_3=>k_is)
   (case l_3=>k_is)
   (case cc_3=>k_is)
   (case kk_3=>k_is)
   (case a_4=>k_is)
   (case l_4=>k_is)
   (case cc_4=>k_is)
   (case kk_4=>k_is)
   (case a_5=>k_is)
   (case l_5=>k_is)
   (case cc_5=>k_is)
   (case kk_5=>k_is)
   (case a_6=>k_is)
   (case l_6=>k_is)
   (case cc_6=>k_is)
   (case kk_6=>k_is)
   (case a_7=>k_is)
   (case l_7=>k_is)
   (case cc_7=>k_is)
   (case kk_7=>k_is)
   (case a_8=>k_is)
   (case l_8=>k_is)
   (case cc_8=>k_is)
   (case kk_8=>k_is)
   (case a_9=>k_is)
   (case l_9=>k_is)
   (case cc_9=>k_is)
   (case kk_9=>k_is)
   (case a_10=>k_is)
   (case l_10=>k_is)
   (case cc_10=>k_is)
   (case kk_10=>k_is)
   (case a_11=>k_is)
   (case l_11=>k_is)
   (case cc_11=>k_is)
   (case kk_11=>k_is)
   (case a_12=>k_is)
   (case l_12=>k_is)
   (case cc_12=>k_is)
   (case kk_12=>k_is)
   (case a_13=>k_is)
   (case l_13=>k_is)
   (case cc_13=>k_is)
   (case kk_13=>k_is)
   (case a_14=>k_is)
   (case l_14=>k_is)
   (case cc_14=>k_is)
   (case kk_14=>k_is)
   (case a_15=>k_is)
   (case l_15=>k_is)
   (case cc_15=>k_is)
   (case kk_15=>k_is)
   (case a_16=>k_is)
   (case l_16=>k_is)
   (case cc_16=>k_is)
   (case kk_16=>k_is)
   (case a_17=>k_is)
   (case l_17=>k_is)
   (case cc_17=>k_is)
   (case kk_17=>k_is)
   (case a_18=>k_is)
   (case l_18=>k_is)
   (case cc_18=>k_is)
   (case kk_18=>k_is)
   (case a_19=>k_is)
   (case l_19=>k_is)
   (case cc_19=>k_is)
   (case kk_19=>k_is)
   (case a_20=>k_is)
   (case l_20=>k_is)
   (case cc_20=>k_is)
   (case kk_20=>k_is)
   (case a_21=>k_is)
   (case l_21=>k_is)
   (case cc_21=>k_is)
   (case kk_21=>k_is)
   (case a_22=>k_is)
   (case l_22=>k_is)
   (case cc_22=>k_is)
   (case kk_22=>k_is)
   (case a_23=>k_is)
   (case l_23=>k_is)
   (case cc_23=>k_is)
   (case kk_23=>k_is)
   (case a_24=>k_is)
   (case l_24=>k_is)
   (case cc_24=>k_is)
   (case kk_24=>k_is)
   (case a_25=>k_is)
   (case l_25=>k_is)
   (case cc_25=>k_is)
   (case kk_25=>k_is)
   (case a_26=>k_is)
   (case l_26=>k_is)
   (case cc_26=>k_is)
   (case kk_26=>k_is)
   (case a_27=>k_is)
   (case l_27=>k_is)
   (case cc_27=>k_is)
   (case kk_27=>k_is)
   (case a_28=>k_is)
   (case l_28=>k_is)
   (case cc_28=>k_is)
   (case kk_28=>k_is)
   (case a_29=>k_is)
   (case l_29=>k_is)
   (case cc_29=>k_is)
   (case kk_29=>k_is)
   (case a_30=>k_is)
   (case l_30=>k_is)
   (case cc_30=>k_is)
   (case kk_30=>k_is)
   (case a_31=>k_is)
   (case l_31=>k_is)
   (case cc_31=>k_is)
   (case kk_31=>k_is)
   (case a_32=>k_is)
   (case l_32=>k_is)
   (case cc_32=>k_is)
   (case kk_32=>k_is)
   (case a_33=>k_is)
   (case l_33=>k_is)
   (case cc_33=>k_is)
   (case kk_33=>k_is)
   (case a_34=>k_is)
   (case l_34=>k_is)
   (case cc_34=>k_is)
   (case kk_34=>k_is)
   (case a_35=>k_is)
   (case i_35=>k_is)
   (case l_35=>k_is)
   (case cc_35=>k_is)
   (case kk_35=>k_is)
   (case a_36=>k_is)
   (case i_36=>k_is)
   (case l_36=>k_is)
   (case cc_36=>k_is)
   (case kk_36=>k_is)
   (case a_37=>k_is)
   (case i_37=>k_is)
   (case l_37=>k_is)
   (case cc_37=>k_is)
   (case kk_37=>k_is)
   (case a_38=>k_is)
   (case i_38=>k_is)
   (case l_38=>k_is)
   (case cc_38=>k_is)
   (case kk_38=>k_is)
   (case a_39=>k_is)
   (case i_39=>k_is)
   (case l_39=>k_is)
   (case cc_39=>k_is)
   (case kk_39=>k_is)
   (case a_40=>k_is)
   (case i_40=>k_is)
   (case l_40=>k_is)
   (case cc_40=>k_is)
   (case kk_40=>k_is)
   (case a_41=>k_is)
   (case i_41=>k_is)
   (case l_41=>k_is)
   (case cc_41=>k_is)
   (case kk_41=>k_is)
   (case a_42=>k_is)
   (case i_42=>k_is)
   (case l_42=>k_is)
   (case cc_42=>k_is)
   (case kk_42=>k_is)
   (case a_43=>k_is)
   (case i_43=>k_is)
   (case l_43=>k_is)
   (case cc_43=>k_is)
   (case kk_43=>k_is)
   (case a_44=>k_is)
   (case i_44=>k_is)
   (case l_44=>k_is)
   (case cc_44=>k_is)
   (case kk_44=>k_is)
   (case a_45=>k_is)
   (case i_45=>k_is)
   (case l_45=>k_is)
   (case cc_45=>k_is)
   (case kk_45=>k_is)
   (case a_46=>k_is)
   (case i_46=>k_is)
   (case l_46=>k_is)
   (case cc_46=>k_is)
   (case kk_46=>k_is)
   (case a_47=>k_is)
   (case i_47=>k_is)
   (case l_47=>k_is)
   (case cc_47=>k_is)
   (case kk_47=>k_is)
   (case a_48=>k_is)
   (case i_48=>k_is)
   (case l_48=>k_is)
   (case cc_48=>k_is)
   (case kk_48=>k_is)
   (case a_49=>k_is)
   (case i_49=>k_is)
   (case l_49=>k_is)
   (case cc_49=>k_is)
   (case kk_49=>k_is)
   (case a_50=>k_is)
   (case i_50=>k_is)
   (case l_50=>k_is)
   (case cc_50=>k_is)
   (case kk_50=>k_is)
   (case a_51=>k_is)
   (case i_51=>k_is)
   (case l_51=>k_is)
   (case cc_51=>k_is)
   (case kk_51=>k_is)
   (case a_52=>k_is)
   (case i_52=>k_is)
   (case l_52=>k_is)
   (case cc_52=>k_is)
   (case kk_52=>k_is)
   (case a_53=>k_is)
   (case i_53=>k_is)
   (case l_53=>k_is)
   (case cc_53=>k_is)
   (case kk_53=>k_is)
   (case a_54=>k_is)
   (case i_54=>k_is)
   (case l_54=>k_is)
   (case cc_54=>k_is)
   (case kk_54=>k_is)
   (case a_55=>k_is)
   (case i_55=>k_is)
   (case l_55=>k_is)
   (case cc_55=>k_is)
   (case kk_55=>k_is)
   (case a_56=>k_is)
   (case i_56=>k_is)
   (case l_56=>k_is)
   (case cc_56=>k_is)
   (case kk_56=>k_is)
   (case a_57=>k_is)
   (case i_57=>k_is)
   (case l_57=>k_is)
   (case cc_57=>k_is)
   (case kk_57=>k_is)
   (case a_58=>k_is)
   (case i_58=>k_is)
   (case l_58=>k_is)
   (case cc_58=>k_is)
   (case kk_58=>k_is)
   (case pg_Num=>k_is)
   (case hd_Num=>k_is)
   (case po_Num=>k_is)
   (case sa_Num=>k_is)
   (case mk_Num=>k_is)
   (case kc_Num=>k_is)
   (case ha_Num=>k_is)
   (case hm_Num=>k_is)
   (case na_Num_value=>k_is)
   (case pg_Name=>k_is)
   (case hd_Name=>k_is)
   (case po_Name=>k_is)
   (case sa_Name=>k_is)
   (case mk_Name=>k_is)
   (case kc_Name=>k_is)
   (case ha_Name=>k_is)
   (case hm_Name=>k_is)
   (case na_Name_word=>k_is)
   (case pg_Two=>k_is)
   (case hd_Two=>k_is)
   (case po_Two=>k_is)
   (case sa_Two=>k_is)
   (case mk_Two=>k_is)
   (case kc_Two=>k_is)
   (case ha_Two=>k_is)
   (case hm_Two=>k_is)
   (case na_Two_word=>k_is)
   (case na_Two_one=>k_is)
   (case na_Two_other=>k_is)
   (case pg_Mod=>k_is)
   (case hd_Mod=>k_is)
   (case po_Mod=>k_is)
   (case sa_Mod=>k_is)
   (case mk_Mod=>k_is)
   (case kc_Mod=>k_is)
   (case ha_Mod=>k_is)
   (case hm_Mod=>k_is)
   (case na_Mod_inner=>k_is)
   (case na_Mod_number=>k_is)
   (case pg_Less=>k_is)
   (case hd_Less=>k_is)
   (case po_Less=>k_is)
   (case sa_Less=>k_is)
   (case mk_Less=>k_is)
   (case kc_Less=>k_is)
   (case ha_Less=>k_is)
   (case hm_Less=>k_is)
   (case na_Less_one=>k_is)
   (case na_Less_other=>k_is)
   (case na_Less_third=>k_is)
   (case na_Less_fourth=>k_is)
   (case pg_Program=>k_is)
   (case hd_Program=>k_is)
   (case po_Program=>k_is)
   (case sa_Program=>k_is)
   (case mk_Program=>k_is)
   (case kc_Program=>k_is)
   (case ha_Program=>k_is)
   (case hm_Program=>k_is)
   (case na_Program_start=>k_is)
   (case na_Program_send=>k_is)
   (case na_Program_when=>k_is)
   (case na_Program_renew=>k_is)
   (case pg_Web=>k_is)
   (case hd_Web=>k_is)
   (case po_Web=>k_is)
   (case sa_Web=>k_is)
   (case mk_Web=>k_is)
   (case kc_Web=>k_is)
   (case ha_Web=>k_is)
   (case hm_Web=>k_is)
   (case na_Web_own_hands=>k_is)
   (case na_Web_own_lines=>k_is)
   (case na_Web_near=>k_is)
   (case hn=>k_is)
   (case htk=>k_is)
   (case k_Num_Num=>kit_is)
   (case k_Name_Num=>kit_is)
   (case k_Name_Name=>kit_is)
   (case k_Two_Num=>kit_is)
   (case k_Two_Name=>kit_is)
   (case k_Two_Two=>kit_is)
   (case k_Mod_Num=>kit_is)
   (case k_Mod_Name=>kit_is)
   (case k_Mod_Two=>kit_is)
   (case k_Mod_Mod=>kit_is)
   (case k_Less_Num=>kit_is)
   (case k_Less_Name=>kit_is)
   (case k_Less_Two=>kit_is)
   (case k_Less_Mod=>kit_is)
   (case k_Less_Less=>kit_is)
   (case k_tint_tint=>kit_is)
   (case k_tint_tbool=>kit_is)
   (case k_tstr_tstr=>kit_is)
   (case k_ttuple_ttuple=>kit_is)
   (case k_tint_ttuple=>kit_is)
   (case k_tstr_ttuple=>kit_is)
   (case k_tint_tstr=>kit_is)
   (case k_tstr_tint=>kit_is)
   (case k_tstr_tbool=>kit_is)
   (case k_Program_Program=>kit_is)
   (case k_tNoneType_tbool=>kit_is)
   (case k_tlist_tlist=>kit_is)
   (case G_START_NAMES=>k_is)
   (case L_START_NAMES=>k_is)
   (case G_SEND_NAMES=>k_is)
   (case L_SEND_NAMES=>k_is)
   (case G_RENEW_NAMES=>k_is)
   (case L_RENEW_NAMES=>k_is)
   (case G_TWO_WORDS=>k_is)
   (case L_TWO_WORDS=>k_is)
   (case G_MOST_WORDS=>k_is)
   (case G_MOST_DEEP=>k_is)
   (case G_MOST_HANDS=>k_is)
   (case G_LAST_HAND=>k_is)
  obtain⟨a,T⟩:=T
  have e0:=hmg.symm.trans T.g_qI
  cases e0
  exact⟨_,T.b0_qI,fun base kb nb=>K04.ok_law T⟩
 case S=>exact fun K H a ns hl hO hS=>K04.sp_law_of hl hO hS
 case C=>exact fun _ _ _ _ z=>z

