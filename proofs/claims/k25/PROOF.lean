import PyProof.Rows.All
import Wide.All
import OpenK.AllK
import Wide.FinOn
import PySem.Challenge.RW_beatless_k25_whole_no_word_goes_faster
import Lean
import PyProof.EqAt
import PyProof.EqKinds
import PyProof.TupleCall
import PyProof.ZipIter
import PyProof.WalksMore
import KE.KRevSl
import KE.KIntText
import KE.KRevIter
import PyProof.Draws
import PyProof.EnumFor
import PyProof.EnumStmt
import PyProof.AttrMissHeap
import PyProof.DictUpdate
set_option Elab.async false
set_option linter.all false
set_option maxRecDepth 100000
noncomputable section
namespace L2
open PySem PySem.Spec PyProof.Rows
abbrev Key:=Sum Int Str
noncomputable def ua:Key→Value→Bool
 |.inl k,v=>Value.isInt k v
 |.inr x,v=>Value.isStrOf x v
noncomputable def zxy (w:World):Key→Int
 |.inl k=>hashInt k
 |.inr x=>hashStr w x
theorem zK:∀ {k:Key}{v:Value},ua k v=true→(∃ i t,k=Sum.inl i∧v=Value.int i t)∨(∃ x t,k=Sum.inr x∧v=Value.str x t)
 |.inl i,v,h=>by
  obtain⟨t,e⟩:=Value.isInt_shape (k:=i) (v:=v) h
  exact .inl ⟨i,t,rfl,e⟩
 |.inr x,v,h=>by
  obtain⟨t,e⟩:=Value.isStrOf_shape (x:=x) (v:=v) h
  exact .inr ⟨x,t,rfl,e⟩
theorem Xk (i:Int) (t:Tok):ua (.inl i) (.int i t)=true:=by simp[ua,Value.isInt]
theorem Xj (x:Str) (t:Tok):ua (.inr x) (.str x t)=true:=by simp[ua,Value.isStrOf]
theorem zic (a b:Int):decide ((Sum.inl a:Key)=Sum.inl b)=(a == b):=by
 by_cases e:a=b
 ·subst e;simp
 ·have h:¬ (Sum.inl a:Key)=Sum.inl b:=fun q=>e (Sum.inl.inj q)
  rw[decide_eq_false h]
  exact(beq_eq_false_iff_ne.mpr e).symm
theorem zh9 (a b:Str):decide ((Sum.inr a:Key)=Sum.inr b)=decide (a=b):=by
 by_cases e:a=b
 ·subst e;simp
 ·have h:¬ (Sum.inr a:Key)=Sum.inr b:=fun q=>e (Sum.inr.inj q)
  rw[decide_eq_false h,decide_eq_false e]
theorem zib (a:Int) (b:Str):decide ((Sum.inl a:Key)=Sum.inr b)=false:=decide_eq_false (fun q=>nomatch q)
theorem zia (a:Str) (b:Int):decide ((Sum.inr a:Key)=Sum.inl b)=false:=decide_eq_false (fun q=>nomatch q)
noncomputable def zz (prog:Program) (w:World):PySem.KeyKind prog w Key where
 is:=ua
 hash:=zxy w
 inj:=fun v a b ha hb=>by
  rcases zK ha with⟨i,t,rfl,rfl⟩ | ⟨x,t,rfl,rfl⟩
  ·rcases zK hb with⟨j,u,rfl,e⟩ | ⟨y,u,rfl,e⟩
   ·injection e with e1 _;rw[e1]
   ·exact nomatch e
  ·rcases zK hb with⟨j,u,rfl,e⟩ | ⟨y,u,rfl,e⟩
   ·exact nomatch e
   ·injection e with e1 _;rw[e1]
 byValue:=fun k v h=>by
  rcases zK h with⟨i,t,rfl,rfl⟩ | ⟨x,t,rfl,rfl⟩<;>rfl
 pyHash:=fun hv h=>by
  rcases zK hv with⟨i,t,rfl,rfl⟩ | ⟨x,t,rfl,rfl⟩
  ·exact wpAny_pyHash_int h
  ·exact wpAny_pyHash_str h
 eqBool:=fun hu hv h=>by
  rcases zK hu with⟨i,t,rfl,rfl⟩ | ⟨x,t,rfl,rfl⟩
  ·rcases zK hv with⟨j,u,rfl,rfl⟩ | ⟨y,u,rfl,rfl⟩
   ·rw[zic] at h;exact wpAny_eqBool_int h
   ·rw[zib] at h;exact SeqAt.EqAt.int_str i t y u _ _ _ _ h
  ·rcases zK hv with⟨j,u,rfl,rfl⟩ | ⟨y,u,rfl,rfl⟩
   ·rw[zia] at h;exact SeqAt.EqAt.str_int x t j u _ _ _ _ h
   ·rw[zh9] at h;exact wpAny_eqBool_str h
 «strs»:=fun k x t v h=>by
  rcases zK h with⟨i,u,rfl,e⟩ | ⟨y,u,rfl,e⟩
  ·exact nomatch e
  ·injection e with e1 _
   subst e1
   cases v<;>rfl
theorem v7 (prog:Program) (w:World) (i:Int) (t:Tok):(zz prog w).is (.inl i) (.int i t)=true:=Xk i t
theorem v6 (prog:Program) (w:World) (x:Str) (t:Tok):(zz prog w).is (.inr x) (.str x t)=true:=Xj x t
end L2
namespace L2
open PySem PySem.Spec PyProof.Rows
inductive V where
 |non | bl (b:Bool) | int (i:Int) | str (x:Str) | byt (b:Array UInt8) | flt (b:UInt64) | ref (a:Addr) | ty (n:String)
 deriving DecidableEq
noncomputable def RelV:V→Value→Prop
 |.non,u=>u=Value.none
 |.bl b,u=>u=Value.bool b
 |.int i,u=>∃ t,u=Value.int i t
 |.str x,u=>∃ t,u=Value.str x t
 |.byt b,u=>∃ t,u=Value.bytes b t
 |.flt b,u=>∃ t,u=Value.float b t
 |.ref a,u=>u=Value.ref a
 |.ty n,u=>u=Value.type n
abbrev Vals:List V→List Value→Prop:=Paired RelV
theorem Vals.length {xs:List V}{us:List Value}(r:Vals xs us):xs.length=us.length:=Paired.length r
theorem Vals.get:∀ {xs:List V}{us:List Value}{i:Nat}{x:V},Vals xs us→xs[i]?=some x→∃ u,us[i]?=some u∧RelV x u
 |_,_,_,_,.nil,e=>by simp at e
 |_,_,0,_,.cons r _,e=>by simp at e;subst e;exact⟨_,rfl,r⟩
 |_,_,i+1,x,.cons _ t,e=>by
  obtain⟨u,h1,h2⟩:=Vals.get (i:=i) (x:=x) t (by simpa using e)
  exact⟨u,by simpa using h1,h2⟩
theorem Vals.set {x:V}{u:Value}(r:RelV x u):∀ {xs:List V}{us:List Value}(i:Nat),Vals xs us→Vals (xs.set i x) (us.set i u)
 |_,_,_,.nil=>.nil
 |_,_,0,.cons _ t=>.cons r t
 |_,_,i+1,.cons q t=>.cons q (Vals.set r i t)
theorem Vals.append:∀ {xs ys:List V}{us ws:List Value},Vals xs us→Vals ys ws→Vals (xs++ys) (us++ws)
 |_,_,_,_,.nil,s=>s
 |_,_,_,_,.cons r t,s=>.cons r (Vals.append t s)
theorem Vals.take:∀ {xs:List V}{us:List Value}(n:Nat),Vals xs us→Vals (xs.take n) (us.take n)
 |_,_,0,_=>.nil
 |_,_,_+1,.nil=>.nil
 |_,_,n+1,.cons r t=>.cons r (Vals.take n t)
theorem Vals.drop:∀ {xs:List V}{us:List Value}(n:Nat),Vals xs us→Vals (xs.drop n) (us.drop n)
 |_,_,0,r=>r
 |_,_,_+1,.nil=>.nil
 |_,_,n+1,.cons _ t=>Vals.drop n t
noncomputable def RelO:Option V→Option Value→Prop
 |some v,some u=>RelV v u
 |none,none=>True
 |_,_=>False
def KV {κ:Type}:List (κ×V)→List (κ×Value)→Prop:=Paired fun(p:κ×V) (q:κ×Value)=>p.1=q.1∧RelV p.2 q.2
def kV:Key→V
 |.inl i=>.int i
 |.inr x=>.str x
inductive HO where
 /-- a list -/
 |lst (xs:List V)
 /-- a tuple (never changes) -/
 |tup (xs:List V)
 /-- a dict whose keys are ints and texts;one whose keys are tuples of ints and texts (the empty one is both) -/
 |dK (kvs:List (Key×V)) | dT (kvs:List (List Key×V))
 /-- a set of ints: its members,its size -/
 |set (S:Int→Bool) (n:Nat)
 /-- an instance of the class at C,its dict at dx,its attributes -/
 |ins (C dx:Addr) (fs:List (Str×V))
 /-- the dict of the instance at x -/
 |own (x:Addr)
 /-- the dict of an exception -/
 |xd (fs:List (Str×V))
 /-- a bound method,f of x -/
 |met (f x:Addr)
 /-- a range object lo,lo+1,.. below hi -/
 |rng (lo hi:Int)
 /-- a thing that is known to the object (the script;a dict while a loop walks it): read,never written while it is so -/
 |frz (o:Obj) (u:HO)
 /-- a code object's table -/
 |tbl (ps:Array Value)
 /-- any other thing,by what is true of its one object (a def of one's own: SetO a S n:=HO.ext fun h=>..) -/
 |ext (φ:Heap→Prop)
abbrev Hp:=Addr→Option HO
noncomputable def upd (H:Hp) (a:Addr) (o:HO):Hp:=fun b=>if b=a then some o else H b
theorem zd {H:Hp}{a:Addr}{o:HO}:upd H a o a=some o:=by unfold upd;rw[if_pos rfl]
theorem upd_ne {H:Hp}{a b:Addr}{o:HO}(h:b≠a):upd H a o b=H b:=by unfold upd;rw[if_neg h]
theorem yp {H:Hp}{a:Addr}{o u:HO}:upd (upd H a o) a u=upd H a u:=by
 funext b;unfold upd;split<;>rfl
theorem ne_of {H:Hp}{a b:Addr}{o u:HO}(h:H a=some o) (h':H b=some u) (d:o≠u):a≠b:=by
 intro e;subst e;rw[h] at h';exact d (Option.some.inj h')
theorem ne_of_none {H:Hp}{a b:Addr}{o:HO}(h:H a=some o) (h':H b=none):a≠b:=by
 intro e;subst e;rw[h] at h';cases h'
section
variable (P:Program) (w:World)
noncomputable def ObjOk (H:Hp) (h:Heap) (a:Addr):HO→Prop
 |.lst xs=>xs.length≤sizeLine∧∃ (its:List Value) (n:Nat),Vals xs its∧h.get? a=some { cls:=.type "list",data:=.seq its.toArray n }
 |.tup xs=>xs.length≤sizeLine∧∃ its:List Value,Vals xs its∧IsTup h a its.toArray
 |.dK kvs=>kvs.length≤sizeLine∧(a == sysModules)=false∧∃ vs,KV kvs vs∧h.DictOf (zz P w) a vs
 |.dT kvs=>kvs.length≤sizeLine∧(a == sysModules)=false∧∃ xs:List (List Key×Addr×Value),
   Paired (fun(p:List Key×V) (q:List Key×Addr×Value)=>p.1=q.1∧H q.2.1=some (.tup (p.1.map kV))∧RelV p.2 q.2.2) kvs xs ∧
   ∃ o es ep,h.get? a=some o∧o.ExactDict∧o.data=.dict es ep∧es.toList=xs.map (entryOfKey (tupleKind (zz P w)))∧(xs.map (·.1)).Nodup
 |.set S n=>h.SetOf (intKind P w) a S n
 |.ins C dx fs=>H dx=some (.own a)∧fs.length≤1000∧dx≠a∧h.get? a=some (PySem.W.instObj C dx) ∧
   ∃ mA,h.Ns1 dx mA∧(∀ f,RelO (fs.lookup f) (mA f))∧PySem.Within mA (fs.map (·.1))
 |.own _=>∃ o,h.get? a=some o
 |.xd fs=>∃ mA,h.Ns1 a mA∧∀ f,RelO (fs.lookup f) (mA f)
 |.rng lo hi=>∃ t u v,h.get? a=some { cls:=.type "range",data:=.fields #[.int lo t,.int hi u,.int 1 v] }
 |.frz o u=>h.get? a=some o∧ObjOk H h a u
 |.tbl ps=>h.get? a=some { cls:=.none,data:=.fields ps }
 |.met f x=>h.get? a=some (PySem.W.methodObj (.ref f) (.ref x))
 |.ext φ=>φ h∧(∃ o,h.get? a=some o)∧∀ h1 h2:Heap,φ h1→(∀ o,h1.get? a=some o→h2.get? a=some o)→φ h2
def HOk (H:Hp) (h:Heap):Prop:=∀ a o,H a=some o→ObjOk P w H h a o
end
section
variable {P:Program}{w:World}{H H':Hp}{h h':Heap}{a:Addr}{o:HO}
theorem ObjOk.lt (x:ObjOk P w H h a o):a<h.objs.size:=by
 cases o with
 |lst xs=>obtain⟨_,_,_,_,e⟩:=x;exact Heap.lt_size e
 |tup xs=>obtain⟨_,_,_,p⟩:=x;exact p.lt
 |dK kvs=>obtain⟨_,_,_,_,o,_,_,e,_⟩:=x;exact Heap.lt_size e
 |dT kvs=>obtain⟨_,_,_,_,o,_,_,e,_⟩:=x;exact Heap.lt_size e
 |set S n=>obtain⟨o,_,_,_,e,_⟩:=x;exact Heap.lt_size e
 |ins C dx fs=>obtain⟨_,_,_,e,_⟩:=x;exact Heap.lt_size e
 |own y=>obtain⟨_,e⟩:=x;exact Heap.lt_size e
 |xd fs=>obtain⟨_,⟨_,_,_,e,_⟩,_⟩:=x;exact Heap.lt_size e
 |rng lo hi=>obtain⟨_,_,_,e⟩:=x;exact Heap.lt_size e
 |frz ob u=>obtain⟨e,_⟩:=x;exact Heap.lt_size e
 |tbl ps=>exact Heap.lt_size (show h.get? a=some _ from x)
 |met f y=>exact Heap.lt_size (show h.get? a=some _ from x)
 |ext φ=>obtain⟨_,⟨_,e⟩,_⟩:=x;exact Heap.lt_size e
theorem Paired.mapP {α β:Type}{F G:α→β→Prop}:∀ {l₁:List α}{l₂:List β},Paired F l₁ l₂→(∀ a b,F a b→G a b)→Paired G l₁ l₂
 |_,_,.nil,_=>.nil
 |_,_,.cons r t,f=>.cons (f _ _ r) (Paired.mapP t f)
theorem ObjOk.stay (x:ObjOk P w H h a o) (k:∀ b u,(b=a∨H b=some (.own a))→h.get? b=some u→h'.get? b=some u)
  (ho:∀ b,H b=some (.own a)→H' b=some (.own a)) (ht:∀ b xs,H b=some (.tup xs)→H' b=some (.tup xs)):ObjOk P w H' h' a o:=by
 induction o with
 |lst xs=>obtain⟨z,its,n,r,e⟩:=x;exact⟨z,its,n,r,k _ _ (.inl rfl) e⟩
 |tup xs=>obtain⟨z,its,r,ob,e,c⟩:=x;exact⟨z,its,r,ob,k _ _ (.inl rfl) e,c⟩
 |dK kvs=>obtain⟨z,y,vs,r,ob,es,ep,e,c⟩:=x;exact⟨z,y,vs,r,ob,es,ep,k _ _ (.inl rfl) e,c⟩
 |dT kvs =>
  obtain⟨z,y,xs,r,ob,es,ep,e,c⟩:=x
  exact⟨z,y,xs,Paired.mapP r fun p q z=>⟨z.1,ht _ _ z.2.1,z.2.2⟩,ob,es,ep,k _ _ (.inl rfl) e,c⟩
 |set S n=>obtain⟨ob,es,ep,t,e,c⟩:=x;exact⟨ob,es,ep,t,k _ _ (.inl rfl) e,c⟩
 |ins C dx fs =>
  obtain⟨d,z,ne,e,mA,⟨od,es,ep,e2,c⟩,r⟩:=x
  exact⟨ho _ d,z,ne,k _ _ (.inl rfl) e,mA,⟨od,es,ep,k _ _ (.inr d) e2,c⟩,r⟩
 |own y=>obtain⟨ob,e⟩:=x;exact⟨ob,k _ _ (.inl rfl) e⟩
 |xd fs=>obtain⟨mA,⟨od,es,ep,e,c⟩,r⟩:=x;exact⟨mA,⟨od,es,ep,k _ _ (.inl rfl) e,c⟩,r⟩
 |rng lo hi=>obtain⟨t,u,v,e⟩:=x;exact⟨t,u,v,k _ _ (.inl rfl) e⟩
 |frz ob u ih=>obtain⟨e,q⟩:=x;exact⟨k _ _ (.inl rfl) e,ih q⟩
 |tbl ps =>
  have e:h.get? a=some { cls:=.none,data:=.fields ps }:=x
  show h'.get? a=some { cls:=.none,data:=.fields ps }
  exact k a _ (.inl rfl) e
 |met f y =>
  have e:h.get? a=some (PySem.W.methodObj (.ref f) (.ref y)):=x
  show h'.get? a=some (PySem.W.methodObj (.ref f) (.ref y))
  exact k a _ (.inl rfl) e
 |ext φ=>obtain⟨p,⟨o,e⟩,st⟩:=x;exact⟨st _ _ p fun o q=>k _ _ (.inl rfl) q,⟨o,k _ _ (.inl rfl) e⟩,st⟩
theorem HOk.lt (x:HOk P w H h) (e:H a=some o):a<h.objs.size:=(x a o e).lt
theorem HOk.fresh (x:HOk P w H h) (e:h.objs.size≤a):H a=none:=by
 cases q:H a with
 |none=>rfl
 |some u=>exact absurd (Nat.lt_of_lt_of_le (x.lt q) e) (Nat.lt_irrefl _)
theorem HOk.kept (x:HOk P w H h) (k:∀ b u,h.get? b=some u→h'.get? b=some u):HOk P w H h':=fun a o e =>
 (x a o e).stay (fun b u _ q=>k b u q) (fun _ q=>q) fun _ _ q=>q
theorem HOk.laid (x:HOk P w H h) (k:∀ b u,h.get? b=some u→h'.get? b=some u) (hp:h.objs.size≤a) (new:ObjOk P w (upd H a o) h' a o):HOk P w (upd H a o) h':=fun b u e=>by
 have hn:=x.fresh hp
 by_cases hb:b=a
 ·subst hb;rw[zd] at e;cases e;exact new
 ·rw[upd_ne hb] at e
  exact(x b u e).stay (fun c v _ q=>k c v q) (fun c q=>by rw[upd_ne (ne_of_none q hn)];exact q) fun c xs q=>by rw[upd_ne (ne_of_none q hn)];exact q
end
def Rd (H:Hp) (a:Addr) (u:HO):Prop:=H a=some u∨∃ o,H a=some (.frz o u)
theorem Rd.ok {P:Program}{w:World}{H:Hp}{h:Heap}{a:Addr}{u:HO}(r:Rd H a u) (x:HOk P w H h):ObjOk P w H h a u:=by
 rcases r with r | ⟨o,r⟩
 ·exact x a u r
 ·obtain⟨_,q⟩:=x a _ r
  exact q
noncomputable def Mut:Option HO→Prop
 |some (.lst _)=>True
 |some (.dK _)=>True
 |some (.dT _)=>True
 |some (.set _ _)=>True
 |some (.ins _ _ _)=>True
 |some (.ext _)=>True
 |_=>False
section
variable {P:Program}{w:World}{H:Hp}{h h':Heap}{x e:Addr}{o':HO}
theorem HOk.write (ok:HOk P w H h) (mu:Mut (H x)) (he:e=x∨H e=some (.own x)) (k:∀ b u,b≠e→h.get? b=some u→h'.get? b=some u) (heo:∃ u,h'.get? e=some u)
  (new:ObjOk P w (upd H x o') h' x o'):HOk P w (upd H x o') h':=fun b u q=>by
 have nown:∀ c y,H c=some (.own y)→c≠x:=fun c y r z=>by subst z;rw[r] at mu;exact mu
 have ntup:∀ c xs,H c=some (.tup xs)→c≠x:=fun c xs r z=>by subst z;rw[r] at mu;exact mu
 by_cases hb:b=x
 ·subst hb;rw[zd] at q;cases q;exact new
 ·rw[upd_ne hb] at q
  by_cases hbe:b=e
  ·have q':H b=some (.own x):=by
    rcases he with z | z
    ·exact absurd (hbe.trans z) hb
    ·rw[hbe];exact z
   rw[q] at q';cases q'
   obtain⟨v,hv⟩:=heo
   exact⟨v,by rw[hbe];exact hv⟩
  ·refine(ok b u q).stay (fun c v hc r=>k c v ?_ r) (fun c r=>by rw[upd_ne (nown c b r)];exact r) fun c xs r=>by rw[upd_ne (ntup c xs r)];exact r
   rcases hc with rfl | hc
   ·exact hbe
   ·rintro rfl
    rcases he with z | z
    ·exact nown c b hc z
    ·rw[hc] at z;cases z;exact hb rfl
end
structure Un (fs ex:List Addr) (H H':Hp) (h h':Heap):Prop where
 keep:∀ b o,h.get? b=some o→H b=none→b∉fs→b∉ex→h'.get? b=some o
 slot:∀ b o,h.get? b=some o→H b=none→b∈fs→b∉ex→∃ sl,h'.get? b=some { o with slots:=sl }
 free:∀ b o,h.get? b=some o→H b=none→b∉ex→H' b=none
 there:∀ b o,h.get? b=some o→b∉ex→∃ o',h'.get? b=some o'
 tups:∀ b xs,H b=some (.tup xs)→H' b=some (.tup xs)
 frzs:∀ b o u,H b=some (.frz o u)→H' b=some (.frz o u)
 tbls:∀ b ps,H b=some (.tbl ps)→∃ more,H' b=some (.tbl (ps++more))
section
variable {fs fs' ex ex':List Addr}{H H1 H2:Hp}{h h1 h2 h':Heap}{a x e:Addr}{o:HO}
theorem Un.any (u:Un fs ex H H1 h h1){b:Addr}{ob:Obj}(q:h.get? b=some ob) (n:H b=none) (hx:b∉ex):∃ sl,h1.get? b=some { ob with slots:=sl }:=by
 by_cases hb:b∈fs
 ·exact u.slot b ob q n hb hx
 ·exact⟨ob.slots,u.keep b ob q n hb hx⟩
theorem Un.kept (k:∀ b u,h.get? b=some u→h'.get? b=some u):Un fs ex H H h h' :=
 ⟨fun b ob q _ _ _=>k b ob q,fun b ob q _ _ _=>⟨ob.slots,k b ob q⟩,fun _ _ _ n _=>n,fun b ob q _=>⟨ob,k b ob q⟩,fun _ _ q=>q,fun _ _ _ q=>q,fun _ ps q=>⟨#[],by rw[q];simp⟩⟩
theorem Un.refl:Un fs ex H H h h:=Un.kept fun _ _ q=>q
theorem Un.laid (k:∀ b u,h.get? b=some u→h'.get? b=some u) (hp:h.objs.size≤a) (hn:H a=none):Un fs ex H (upd H a o) h h' where
 keep:=fun b u q _ _ _=>k b u q
 slot:=fun b u q _ _ _=>⟨u.slots,k b u q⟩
 free:=fun b u q n _=>by rw[upd_ne (Nat.ne_of_lt (Nat.lt_of_lt_of_le (Heap.lt_size q) hp))];exact n
 there:=fun b u q _=>⟨u,k b u q⟩
 tups:=fun b xs q=>by rw[upd_ne (ne_of_none q hn)];exact q
 frzs:=fun b u xs q=>by rw[upd_ne (ne_of_none q hn)];exact q
 tbls:=fun b ps q=>⟨#[],by rw[upd_ne (ne_of_none q hn),q];simp⟩
theorem Un.write (mu:Mut (H x)) (he:e=x∨H e=some (.own x)) (k:∀ b u,b≠e→h.get? b=some u→h'.get? b=some u) (heo:∃ u,h'.get? e=some u):Un fs ex H (upd H x o) h h':=by
 have hx:∀ b,H b=none→b≠x:=fun b n z=>by subst z;rw[n] at mu;exact mu
 have hb:∀ b,H b=none→b≠e:=fun b n z=>by
  subst z
  rcases he with r | r
  ·exact hx b n r
  ·rw[n] at r;cases r
 have hm:∀ b u,H b=some u→¬ Mut (some u)→b≠x:=fun b u q nm z=>by subst z;rw[q] at mu;exact nm mu
 refine⟨fun b u q n _ _=>k b u (hb b n) q,fun b u q n _ _=>⟨u.slots,k b u (hb b n) q⟩,fun b u q n _=>by rw[upd_ne (hx b n)];exact n,fun b u q _=>?_,
  fun b xs q=>by rw[upd_ne (hm b _ q fun z=>z)];exact q,fun b u xs q=>by rw[upd_ne (hm b _ q fun z=>z)];exact q,fun b ps q=>⟨#[],by rw[upd_ne (hm b _ q fun z=>z),q];simp⟩⟩
 by_cases hbe:b=e
 ·subst hbe;exact heo
 ·exact⟨u,k b u hbe q⟩
end
noncomputable def trk (h:Heap) (H:Hp):List Addr:=(List.range h.objs.size).filter fun a=>(H a).isSome
def WK (h:Heap) (H:Hp):Heap:=PySem.W.hideAll h (trk h H)
theorem Xr (h:Heap) (H:Hp):(WK h H).objs.size=h.objs.size:=PySem.W.hideAll_size _ _
theorem WJ {h:Heap}{H:Hp}{b:Addr}{o:Obj}(e:h.get? b=some o) (n:H b=none):(WK h H).get? b=some o :=
 PySem.W.hideAll_get _ e fun hm=>by
  have q:(H b).isSome=true:=(List.mem_filter.mp hm).2
  rw[n] at q;simp at q
theorem V5 {h:Heap}{H:Hp}{b:Addr}{o:Obj}(e:(WK h H).get? b=some o):h.get? b=some o∧H b=none:=by
 have e':h.get? b=some o:=PySem.W.of_hideAll (trk h H) e
 refine⟨e',?_⟩
 cases q:H b with
 |none=>rfl
 |some x =>
  have hm:b∈trk h H:=List.mem_filter.mpr ⟨List.mem_range.mpr (Heap.lt_size e'),by simp[q]⟩
  have z:(WK h H).get? b=none:=PySem.W.hideAll_none (trk h H) hm
  rw[z] at e;cases e
end L2
namespace L2
open PySem PySem.Spec PyProof.Rows
structure Mod (K:PySem.W.Frag) (mg:Str→Option Value) (base:Heap):Prop where
 kin:K.In base
 glob:base.Ns mainGlobals mg
 blt:∃ mb,base.Ns builtinsNs mb∧∀ x:Str,x ≠ "__name__" → mb x=bootBuiltins x
 nolimit:base.NoLimit
structure Cx where
 prog:Program
 w:World
 K:PySem.W.Frag
 mg:Str→Option Value
 base:Heap
 A:Around
 N:List Str
 s₀:Shared
 H₀:Hp
 env:Env
 outer:List Env
 stack:List Env
 ex:List Addr
 fn:Str→Bool
 calm:Bool
 pn:List (Addr×Obj)
 xe:Value→Shared→Prop
def frs (l:List Env):List Addr:=l.filterMap (·.frame)
abbrev Cx.fs (X:Cx):List Addr:=frs X.outer
def Vis (sc:Scope) (x:Str):Prop:=sc.names.lookup x=some .local∨sc.names.lookup x=some .cell∨sc.names.lookup x=some .free
def Loc (sc:Scope) (x:Str):Prop:=sc.names.lookup x=some .local∨sc.names.lookup x=some .cell
noncomputable def zxE (env:Env) (h:Heap) (m:Str→Option Value) (x:Str) (u:Value):Prop :=
 (env.kindOf x=some .local∧m x=some u)∨((env.kindOf x=some .cell∨env.kindOf x=some .free)∧∃ c,env.cells.lookup x=some c∧h.IsCell c (some u))
structure Cx.Ok (X:Cx):Prop where
 mod:Mod X.K X.mg X.base
 kind:X.env.scope.kind=.function
 glob:X.env.globals=mainGlobals
 blt:X.env.builtins=builtinsNs
 above:X.s₀.heap.objs.size≤X.env.locals
 inj:∀ x y c,X.env.cells.lookup x=some c→X.env.cells.lookup y=some c→x=y
 has:∀ x,(X.env.kindOf x=some .cell∨X.env.kindOf x=some .free)→∃ c,X.env.cells.lookup x=some c
 cab:∀ x c,X.fn x=true→X.env.cells.lookup x=some c→X.s₀.heap.objs.size≤c
 hd:X.calm=true→X.A.handled=none
 frames:X.A.frames=some X.stack
 stk:X.stack=X.outer∨(X.stack=X.env::X.outer∧X.env.frame=some X.env.locals)
 exf:∀ b∈X.ex,b≠X.env.locals∧∀ x c,X.env.cells.lookup x=some c→c≠b
 bs:∀ b o,X.base.get? b=some o→X.s₀.heap.get? b=some o∧X.H₀ b=none
 bsz:X.base.objs.size≤X.s₀.heap.objs.size
 noex:∀ b o,X.base.get? b=some o→b∉X.ex
 exfs:∀ b∈X.ex,b∉X.fs
 funs:X.s₀.heap.FunFrames X.base X.outer
 frf:∀ b∈X.fs,X.H₀ b=none
structure Inv (X:Cx) (pins:List (Addr×Obj)) (σ:List (Option V)) (H:Hp) (s:Shared):Prop where
 ok:X.Ok
 os:s.os=X.s₀.os
 bare:AllBare s.gens
 base:Un X.fs X.ex X.H₀ H X.s₀.heap s.heap
 loc:∃ m,s.heap.Ns X.env.locals m∧∀ (i:Nat) (x:Str) (v:V),X.N[i]?=some x→σ[i]?=some (some v)→Vis X.env.scope x→∃ u,RelV v u∧zxE X.env s.heap m x u
 cell:∀ x c,X.env.cells.lookup x=some c→∃ v,s.heap.IsCell c v
 free:H X.env.locals=none
 freeC:∀ x c,X.env.cells.lookup x=some c→H c=none
 pin:∀ p∈X.pn++pins,s.heap.get? p.1=some p.2∧H p.1=none∧p.1≠X.env.locals∧p.1∉X.fs∧∀ v,p.2.data≠.cell v
 hok:HOk X.prog X.w H s.heap
 len:σ.length=X.N.length
section
variable {X:Cx}{pins:List (Addr×Obj)}{σ:List (Option V)}{H H':Hp}{s:Shared}{h':Heap}
theorem Cx.Ok.nofr (ok:X.Ok){b:Addr}{o:Obj}(e:X.base.get? b=some o):b∉X.fs:=fun hb=>by
 have:=(ok.funs.mem hb).1
 rw[e] at this;cases this
theorem Inv.bs (I:Inv X pins σ H s):∀ b o,X.base.get? b=some o→s.heap.get? b=some o∧H b=none:=fun b o e =>
 ⟨I.base.keep b o (I.ok.bs b o e).1 (I.ok.bs b o e).2 (I.ok.nofr e) (I.ok.noex b o e),I.base.free b o (I.ok.bs b o e).1 (I.ok.bs b o e).2 (I.ok.noex b o e)⟩
theorem Inv.bk (I:Inv X pins σ H s):∀ b o,X.base.get? b=some o→s.heap.get? b=some o:=fun b o e=>(I.bs b o e).1
theorem Inv.mod (I:Inv X pins σ H s):Mod X.K X.mg X.base:=I.ok.mod
theorem Inv.kIn (I:Inv X pins σ H s):X.K.In s.heap:=I.ok.mod.kin.keeps I.bk
theorem Inv.lt (I:Inv X pins σ H s):X.env.locals<s.heap.objs.size:=let ⟨_,hn,_⟩:=I.loc;hn.lt
theorem Inv.sz (I:Inv X pins σ H s):X.s₀.heap.objs.size≤s.heap.objs.size:=Nat.le_trans I.ok.above (Nat.le_of_lt I.lt)
theorem Inv.nofs (I:Inv X pins σ H s){a:Addr}(h:s.heap.objs.size≤a):a∉X.fs:=fun hb=>by
 obtain⟨_,o,ho,_⟩:=I.ok.funs.mem hb
 exact absurd (Nat.lt_of_lt_of_le (Heap.lt_size ho) (Nat.le_trans I.sz h)) (Nat.lt_irrefl _)
theorem Inv.cne (I:Inv X pins σ H s):∀ x c,X.env.cells.lookup x=some c→c≠X.env.locals:=fun x c e z=>by
 obtain⟨v,o,ho,hd⟩:=I.cell x c e
 obtain⟨m,⟨o',es,ep,ho',hd',_⟩,_⟩:=I.loc
 rw[z,ho'] at ho;cases ho;rw[hd'] at hd;cases hd
theorem Inv.funs (I:Inv X pins σ H s):s.heap.FunFrames X.base X.outer:=by
 have all:∀ (l:List Env),(∀ b∈frs l,b∈X.fs)→X.s₀.heap.FunFrames X.base l→s.heap.FunFrames X.base l:=by
  intro l
  induction l with
  |nil=>intro _ _;trivial
  |cons env r ih =>
   intro hs hl
   obtain⟨hk,⟨L,o,hf,hn,ho,hd⟩,hr⟩:=hl
   have hL:L∈X.fs:=hs L (by unfold frs;rw[List.filterMap_cons,hf];exact List.mem_cons_self)
   obtain⟨sl,e⟩:=I.base.slot L o ho (I.ok.frf L hL) hL fun z=>I.ok.exfs L z hL
   exact⟨hk,⟨L,_,hf,hn,e,hd⟩,ih (fun b hb=>hs b (by unfold frs;rw[List.filterMap_cons,hf];exact List.mem_cons_of_mem _ hb)) hr⟩
 exact all X.outer (fun _ hb=>hb) I.ok.funs
theorem Inv.stack (I:Inv X pins σ H s):s.heap.FunFrames X.base X.stack:=by
 rcases I.ok.stk with e | ⟨e,hf⟩
 ·rw[e];exact I.funs
 ·rw[e]
  obtain⟨m,hn,_⟩:=I.loc
  refine .cons (by rw[I.ok.kind];decide) hf hn ?_ I.funs
  exact Heap.get?_none_of_le (Nat.le_trans I.ok.bsz I.ok.above)
theorem Inv.stkSub (I:Inv X pins σ H s):∀ b∈frs X.stack,b∈X.env.locals::X.fs:=fun b hb=>by
 rcases I.ok.stk with e | ⟨e,hf⟩
 ·rw[e] at hb;exact List.mem_cons_of_mem _ hb
 ·rw[e] at hb
  unfold frs at hb
  rw[List.filterMap_cons,hf] at hb
  exact hb
theorem Inv.stkFree (I:Inv X pins σ H s):∀ b∈frs X.stack,H b=none:=fun b hb=>by
 rcases List.mem_cons.mp (I.stkSub b hb) with e | hb
 ·rw[e];exact I.free
 ·obtain⟨_,o,ho,_⟩:=I.ok.funs.mem hb
  exact I.base.free b o ho (I.ok.frf b hb) fun z=>I.ok.exfs b z hb
theorem Inv.step {g':Array GenState}{t':Nat}{d':Drawn}{ch:List Addr}(I:Inv X pins σ H s)
  (hch:∀ b∈ch,(b∈X.ex∨X.s₀.heap.objs.size≤b)∧b≠X.env.locals∧(∀ x c,X.env.cells.lookup x=some c→c≠b)∧∀ p∈X.pn++pins,p.1≠b)
  (keep:∀ b o,b≠X.env.locals→b∉X.fs→b∉ch→s.heap.get? b=some o→H b=none→h'.get? b=some o)
  (slot:∀ b o,b≠X.env.locals→b∈X.fs→b∉ch→s.heap.get? b=some o→H b=none→∃ sl,h'.get? b=some { o with slots:=sl }) (free:∀ b o,b∉ch→s.heap.get? b=some o→H b=none→H' b=none)
  (there:∀ b o,b∉ch→s.heap.get? b=some o→∃ o',h'.get? b=some o')
  (tups:∀ b xs,H b=some (.tup xs)→H' b=some (.tup xs)) (frzs:∀ b o u,H b=some (.frz o u)→H' b=some (.frz o u)) (tbls:∀ b ps,H b=some (.tbl ps)→∃ more,H' b=some (.tbl (ps++more)))
  (ns:∀ m,s.heap.Ns X.env.locals m→h'.Ns X.env.locals m) (hok:HOk X.prog X.w H' h') (hg:AllBare g') :
  Inv X pins σ H' { s with heap:=h',gens:=g',drawn:=d',toks:=t' }:=by
 have neL:∀ b o,X.s₀.heap.get? b=some o→b≠X.env.locals:=fun b o e=>Nat.ne_of_lt (Nat.lt_of_lt_of_le (Heap.lt_size e) I.ok.above)
 have neC:∀ b o,X.s₀.heap.get? b=some o→b∉X.ex→b∉ch:=fun b o e hx hb=>by
  rcases(hch b hb).1 with z | z
  ·exact hx z
  ·exact absurd (Nat.lt_of_lt_of_le (Heap.lt_size e) z) (Nat.lt_irrefl _)
 have cellK:∀ x c,X.env.cells.lookup x=some c→∀ v,s.heap.IsCell c v→h'.IsCell c v:=fun x c e v ⟨o,ho,hd⟩=>by
  have nch:c∉ch:=fun z=>(hch c z).2.2.1 x c e rfl
  by_cases hc:c∈X.fs
  ·obtain⟨sl,q⟩:=slot c o (I.cne x c e) hc nch ho (I.freeC x c e)
   exact⟨_,q,hd⟩
  ·exact⟨o,keep c o (I.cne x c e) hc nch ho (I.freeC x c e),hd⟩
 refine⟨I.ok,I.os,hg,⟨fun b o e n hb hx=>?_,fun b o e n hb hx=>?_,fun b o e n hx=>?_,fun b o e hx=>?_,fun b xs e=>tups b xs (I.base.tups b xs e),fun b o xs e=>frzs b o xs (I.base.frzs b o xs e),fun b ps e=>?_⟩,?_,fun x c e=>?_,?_,fun x c e=>?_,fun p hp=>?_,hok,I.len⟩
 ·exact keep b o (neL b o e) hb (neC b o e hx) (I.base.keep b o e n hb hx) (I.base.free b o e n hx)
 ·obtain⟨sl,e1⟩:=I.base.slot b o e n hb hx
  obtain⟨sl',e2⟩:=slot b _ (neL b o e) hb (neC b o e hx) e1 (I.base.free b o e n hx)
  exact⟨sl',e2⟩
 ·obtain⟨o',e1⟩:=I.base.there b o e hx
  exact free b o' (neC b o e hx) e1 (I.base.free b o e n hx)
 ·obtain⟨o',e1⟩:=I.base.there b o e hx
  exact there b o' (neC b o e hx) e1
 ·obtain⟨m1,e1⟩:=I.base.tbls b ps e
  obtain⟨m2,e2⟩:=tbls b _ e1
  exact⟨m1++m2,by rw[e2,Array.append_assoc]⟩
 ·obtain⟨m,hn,hl⟩:=I.loc
  refine⟨m,ns m hn,fun i x v e1 e2 e3=>?_⟩
  obtain⟨u,r,l⟩:=hl i x v e1 e2 e3
  refine⟨u,r,?_⟩
  rcases l with l | ⟨k,c,e,z⟩
  ·exact .inl l
  ·exact .inr ⟨k,c,e,cellK x c e _ z⟩
 ·obtain⟨v,z⟩:=I.cell x c e
  exact⟨v,cellK x c e v z⟩
 ·obtain⟨m,⟨o,_,_,ho,_⟩,_⟩:=I.loc
  exact free _ o (fun z=>(hch _ z).2.1 rfl) ho I.free
 ·obtain⟨v,o,ho,hd⟩:=I.cell x c e
  exact free c o (fun z=>(hch c z).2.2.1 x c e rfl) ho (I.freeC x c e)
 ·obtain⟨e,n,ne,nf,d⟩:=I.pin p hp
  have nch:p.1∉ch:=fun z=>(hch p.1 z).2.2.2 p hp rfl
  exact⟨keep p.1 p.2 ne nf nch e n,free p.1 p.2 nch e n,ne,nf,d⟩
theorem Inv.un {t':Nat}(I:Inv X pins σ H s) (u:Un X.fs [] H H' s.heap h') (hok:HOk X.prog X.w H' h'):Inv X pins σ H' { s with heap:=h',toks:=t' }:=by
 obtain⟨m,⟨o,es,ep,ho,r⟩,_⟩:=id I.loc
 obtain⟨sl,hL⟩:=u.any ho I.free (by simp)
 exact I.step (g':=s.gens) (d':=s.drawn) (ch:=[]) (fun _ z=>nomatch z) (fun b o _ hb _ e n=>u.keep b o e n hb (by simp)) (fun b o _ hb _ e n=>u.slot b o e n hb (by simp)) (fun b o _ e n=>u.free b o e n (by simp)) (fun b o _ e=>u.there b o e (by simp)) u.tups u.frzs u.tbls (fun m' hm=>by
  obtain⟨o',es',ep',ho',r'⟩:=hm
  rw[ho] at ho';cases ho'
  exact⟨_,es',ep',hL,r'⟩) hok I.bare
theorem Inv.call {g':Array GenState}{t':Nat}{d':Drawn}{ch:List Addr}(I:Inv X pins σ H s) (u:Un (frs X.stack) ch H H' s.heap h') (hok:HOk X.prog X.w H' h') (hg:AllBare g')
  (hch:∀ b∈ch,(b∈X.ex∨X.s₀.heap.objs.size≤b)∧b≠X.env.locals∧(∀ x c,X.env.cells.lookup x=some c→c≠b)∧∀ p∈X.pn++pins,p.1≠b) :
  Inv X pins σ H' { s with heap:=h',gens:=g',drawn:=d',toks:=t' }:=by
 obtain⟨m,⟨o,es,ep,ho,r⟩,_⟩:=id I.loc
 obtain⟨sl,hL⟩:=u.any ho I.free fun z=>(hch _ z).2.1 rfl
 exact I.step (ch:=ch) hch (fun b o hL hb hc e n=>u.keep b o e n (fun z=>(List.mem_cons.mp (I.stkSub b z)).elim hL hb) hc) (fun b o _ _ hc e n=>u.any e n hc) (fun b o hc e n=>u.free b o e n hc) (fun b o hc e=>u.there b o e hc) u.tups u.frzs u.tbls (fun m' hm=>by
  obtain⟨o',es',ep',ho',r'⟩:=hm
  rw[ho] at ho';cases ho'
  exact⟨_,es',ep',hL,r'⟩) hok hg
theorem Inv.turned {t':Nat}{it:Addr}(I:Inv X pins σ H s) (k:∀ b o,b≠it→s.heap.get? b=some o→h'.get? b=some o) (hn:H it=none) (hL:it≠X.env.locals)
  (h1:it∈X.ex∨X.s₀.heap.objs.size≤it) (h2:∀ x c,X.env.cells.lookup x=some c→c≠it) (h3:∀ p∈X.pn++pins,p.1≠it):Inv X pins σ H { s with heap:=h',toks:=t' }:=by
 have nit:∀ b u,H b=some u→b≠it:=fun b u e z=>by rw[z,hn] at e;cases e
 refine I.step (g':=s.gens) (d':=s.drawn) (ch:=[it]) (fun b hb=>?_) (fun b o _ _ hc e _=>k b o (fun z=>hc (by simp[z])) e) (fun b o _ _ hc e _=>⟨o.slots,k b o (fun z=>hc (by simp[z])) e⟩) (fun _ _ _ _ n=>n)
  (fun b o hc e=>⟨o,k b o (fun z=>hc (by simp[z])) e⟩) (fun _ _ e=>e) (fun _ _ _ e=>e) (fun b ps e=>⟨#[],by rw[e];simp⟩) (fun m hm=>?_) (fun b u e=>?_) I.bare
 ·have e:b=it:=by simpa using hb
  subst e
  exact⟨h1,hL,h2,h3⟩
 ·obtain⟨o,es,ep,ho,r⟩:=hm
  exact⟨o,es,ep,k _ o (Ne.symm hL) ho,r⟩
 ·refine(I.hok b u e).stay (fun c v hc q=>k c v ?_ q) (fun _ q=>q) fun _ _ q=>q
  rcases hc with z | z
  ·rw[z];exact nit b u e
  ·exact nit c _ z
theorem Inv.tok (I:Inv X pins σ H s) (t:Nat):Inv X pins σ H { s with toks:=t }:=I.un (h':=s.heap) (t':=t) Un.refl I.hok
theorem Inv.kept {t':Nat}(I:Inv X pins σ H s) (k:∀ b u,s.heap.get? b=some u→h'.get? b=some u):Inv X pins σ H { s with heap:=h',toks:=t' }:=I.un (Un.kept k) (I.hok.kept k)
theorem Inv.laid {a:Addr}{o:HO}{t':Nat}(I:Inv X pins σ H s) (k:∀ b u,s.heap.get? b=some u→h'.get? b=some u) (hp:s.heap.objs.size≤a) (new:ObjOk X.prog X.w (upd H a o) h' a o) :
  Inv X pins σ (upd H a o) { s with heap:=h',toks:=t' }:=I.un (Un.laid k hp (I.hok.fresh hp)) (I.hok.laid k hp new)
theorem Inv.write {x e:Addr}{o:HO}{t':Nat}(I:Inv X pins σ H s) (mu:Mut (H x)) (he:e=x∨H e=some (.own x)) (k:∀ b u,b≠e→s.heap.get? b=some u→h'.get? b=some u) (heo:∃ u,h'.get? e=some u)
  (new:ObjOk X.prog X.w (upd H x o) h' x o):Inv X pins σ (upd H x o) { s with heap:=h',toks:=t' }:=I.un (Un.write mu he k heo) (I.hok.write mu he k heo new)
theorem Inv.pins_of {pins':List (Addr×Obj)}(I:Inv X pins σ H s) (h:∀ p∈pins',s.heap.get? p.1=some p.2∧H p.1=none∧p.1≠X.env.locals∧p.1∉X.fs∧∀ v,p.2.data≠.cell v):Inv X pins' σ H s :=
 ⟨I.ok,I.os,I.bare,I.base,I.loc,I.cell,I.free,I.freeC,fun p hp=>(List.mem_append.mp hp).elim (fun z=>I.pin p (List.mem_append_left _ z)) (h p),I.hok,I.len⟩
theorem nodup_ix {N:List Str}(hN:N.Nodup){i j:Nat}{x:Str}(a:N[i]?=some x) (b:N[j]?=some x):i=j:=by
 obtain⟨h1,e1⟩:=List.getElem?_eq_some_iff.mp a
 obtain⟨h2,e2⟩:=List.getElem?_eq_some_iff.mp b
 exact(List.getElem_inj hN).mp (e1.trans e2.symm)
theorem vb {M:Model}{A:Around}{E:Value→Shared→Prop}{i:Nat}{x:Str}{v:V}{u:Value}{Q:Unit→Shared→Prop}(I:Inv X pins σ H s) (hN:X.N.Nodup) (hi:X.N[i]?=some x) (hx:Loc X.env.scope x) (r:RelV v u)
  (h:∀ s',Inv X pins (σ.set i (some v)) H s'→(∃ a,Heap.SameBut a s.heap s'.heap∧(a=X.env.locals∨X.env.cells.lookup x=some a))→Q () s') (hf:X.fn x=true∨X.env.scope.names.lookup x=some .local:=by first | exact .inl rfl | exact .inr rfl | assumption):wpAny M A (storeName X.env x u) Q E s:=by
 obtain⟨m,hn,hl⟩:=id I.loc
 have hcls:(X.env.scope.kind == .class||(X.env.scope.kind == .module&&X.env.locals != X.env.globals))=false:=by rw[I.ok.kind];rfl
 have hiσ:i<σ.length:=by rw[I.len];exact(List.getElem?_eq_some_iff.mp hi).1
 have cne:=I.cne
 have tracked:∀ {a:Addr}{h':Heap},(∃ o,s.heap.get? a=some o∧H a=none)→Heap.SameBut a s.heap h'→HOk X.prog X.w H h':=fun {a h'} ha hs b ob e=>by
  obtain⟨_,_,hfree⟩:=ha
  refine(I.hok b ob e).stay (fun c w' hc q=>(hs.2 c ?_).trans q) (fun _ q=>q) fun _ _ q=>q
  rintro rfl
  rcases hc with rfl | hc
  ·rw[hfree] at e;cases e
  ·rw[hfree] at hc;cases hc
 rcases hx with hk | hk
 ·refine wpAny_storeName_local hk hn (fun h' hn' hs=>?_) hcls
  obtain⟨oL,_,_,hoL,_⟩:=id hn
  refine h _ ⟨I.ok,I.os,I.bare,⟨fun b o e n hb hx=>?_,fun b o e n hb hx=>?_,I.base.free,fun b o e hx=>?_,I.base.tups,I.base.frzs,I.base.tbls⟩,⟨_,hn',fun j y v' e1 e2 e3=>?_⟩,fun y c e=>?_,I.free,I.freeC,fun p hp=>?_,tracked ⟨oL,hoL,I.free⟩ hs,by simpa using I.len⟩ ⟨_,hs,.inl rfl⟩
  ·exact(hs.2 b (Nat.ne_of_lt (Nat.lt_of_lt_of_le (Heap.lt_size e) I.ok.above))).trans (I.base.keep b o e n hb hx)
  ·obtain⟨sl,e1⟩:=I.base.slot b o e n hb hx
   exact⟨sl,(hs.2 b (Nat.ne_of_lt (Nat.lt_of_lt_of_le (Heap.lt_size e) I.ok.above))).trans e1⟩
  ·obtain⟨o',e1⟩:=I.base.there b o e hx
   exact⟨o',(hs.2 b (Nat.ne_of_lt (Nat.lt_of_lt_of_le (Heap.lt_size e) I.ok.above))).trans e1⟩
  ·by_cases hj:j=i
   ·subst hj
    rw[hi] at e1;cases e1
    rw[List.getElem?_set_self hiσ] at e2
    cases e2
    exact⟨u,r,.inl ⟨hk,by simp⟩⟩
   ·rw[List.getElem?_set_ne (Ne.symm hj)] at e2
    obtain⟨u',r',q⟩:=hl j y v' e1 e2 e3
    refine⟨u',r',?_⟩
    rcases q with⟨k,e⟩ | ⟨k,c,e,z⟩
    ·refine .inl ⟨k,?_⟩
     have:y≠x:=fun e=>hj (nodup_ix hN e1 (e ▸ hi))
     simp[this,e]
    ·exact .inr ⟨k,c,e,z.sameBut hs (cne y c e)⟩
  ·obtain⟨w',z⟩:=I.cell y c e
   exact⟨w',z.sameBut hs (cne y c e)⟩
  ·obtain⟨e,n,ne,nf,d⟩:=I.pin p hp
   exact⟨(hs.2 p.1 ne).trans e,n,ne,nf,d⟩
 ·have hfn:X.fn x=true:=by
   rcases hf with z | z
   ·exact z
   ·rw[z] at hk;cases hk
  obtain⟨c,hc⟩:=I.ok.has x (.inl hk)
  obtain⟨w',z⟩:=I.cell x c hc
  refine wpAny_storeName_cell I.ok.kind hk hc z (fun h' hc' hs=>?_)
  obtain⟨oc,hoc,hocd⟩:=id z
  refine h { s with heap:=h' } ⟨I.ok,I.os,I.bare,⟨fun b o e n hb hx=>?_,fun b o e n hb hx=>?_,I.base.free,fun b o e hx=>?_,I.base.tups,I.base.frzs,I.base.tbls⟩,⟨m,hn.sameBut hs (Ne.symm (cne x c hc)),fun j y v' e1 e2 e3=>?_⟩,fun y c' e=>?_,I.free,I.freeC,fun p hp=>?_,tracked ⟨oc,hoc,I.freeC x c hc⟩ hs,by simpa using I.len⟩ ⟨c,hs,.inr hc⟩
  ·exact(hs.2 b (Nat.ne_of_lt (Nat.lt_of_lt_of_le (Heap.lt_size e) (I.ok.cab x c hfn hc)))).trans (I.base.keep b o e n hb hx)
  ·obtain⟨sl,e1⟩:=I.base.slot b o e n hb hx
   exact⟨sl,(hs.2 b (Nat.ne_of_lt (Nat.lt_of_lt_of_le (Heap.lt_size e) (I.ok.cab x c hfn hc)))).trans e1⟩
  ·obtain⟨o',e1⟩:=I.base.there b o e hx
   exact⟨o',(hs.2 b (Nat.ne_of_lt (Nat.lt_of_lt_of_le (Heap.lt_size e) (I.ok.cab x c hfn hc)))).trans e1⟩
  ·by_cases hj:j=i
   ·subst hj
    rw[hi] at e1;cases e1
    rw[List.getElem?_set_self hiσ] at e2
    cases e2
    exact⟨u,r,.inr ⟨.inl hk,c,hc,hc'⟩⟩
   ·rw[List.getElem?_set_ne (Ne.symm hj)] at e2
    obtain⟨u',r',q⟩:=hl j y v' e1 e2 e3
    refine⟨u',r',?_⟩
    rcases q with q | ⟨k,c',e,z'⟩
    ·exact .inl q
    ·refine .inr ⟨k,c',e,z'.sameBut hs ?_⟩
     rintro rfl
     exact hj (nodup_ix hN e1 (I.ok.inj _ _ _ e hc ▸ hi))
  ·by_cases hcc:c'=c
   ·subst hcc;exact⟨_,hc'⟩
   ·obtain⟨w2,z2⟩:=I.cell y c' e
    exact⟨w2,z2.sameBut hs hcc⟩
  ·obtain⟨e,n,ne,nf,d⟩:=I.pin p hp
   refine⟨(hs.2 p.1 ?_).trans e,n,ne,nf,d⟩
   intro q
   rw[q,hoc] at e
   have q':oc=p.2:=Option.some.inj e
   exact d w' (by rw[← q'];exact hocd)
theorem store_ok {M:Model}{A:Around}{E:Value→Shared→Prop}{i:Nat}{x:Str}{v:V}{u:Value}{Q:Unit→Shared→Prop}(I:Inv X pins σ H s) (hN:X.N.Nodup) (hi:X.N[i]?=some x) (hx:Loc X.env.scope x) (r:RelV v u)
  (h:∀ s',Inv X pins (σ.set i (some v)) H s'→Q () s') (hf:X.fn x=true∨X.env.scope.names.lookup x=some .local:=by first | exact .inl rfl | exact .inr rfl | assumption):wpAny M A (storeName X.env x u) Q E s :=
 vb I hN hi hx r (fun s' I' _=>h s' I') hf
theorem Inv.call' {s':Shared}{ch:List Addr}(I:Inv X pins σ H s) (ho:s'.os=s.os) (u:Un (frs X.stack) ch H H' s.heap s'.heap) (hok:HOk X.prog X.w H' s'.heap) (hg:AllBare s'.gens)
  (hch:∀ b∈ch,(b∈X.ex∨X.s₀.heap.objs.size≤b)∧b≠X.env.locals∧(∀ x c,X.env.cells.lookup x=some c→c≠b)∧∀ p∈X.pn++pins,p.1≠b):Inv X pins σ H' s':=by
 obtain⟨h',g',d',t',o'⟩:=s'
 have e:o'=s.os:=ho
 subst e
 exact I.call (g':=g') (t':=t') (d':=d') u hok hg hch
end
abbrev XK:=Value→Option Addr→Hp→Prop
abbrev St:=List (Option V)
abbrev VK:=V→Hp→Prop
abbrev TE:=St→Hp→VK→Prop
abbrev TT:=St→Hp→(Bool→Hp→Prop)→Prop
abbrev TA:=St→Hp→(List V→Hp→Prop)→Prop
structure Ends where
 nx:St→Hp→Prop
 rt:VK
 bk:St→Hp→Prop:=fun _ _=>False
 ct:St→Hp→Prop:=fun _ _=>False
abbrev TS:=Ends→St→Hp→Prop
def EP (X:Cx) (pins:List (Addr×Obj)) (σ:St) (Q:VK) (u:Value) (s':Shared):Prop:=∃ v H',Inv X pins σ H' s'∧RelV v u∧Q v H'
def TP (X:Cx) (pins:List (Addr×Obj)) (σ:St) (Q:Bool→Hp→Prop) (b:Bool) (s':Shared):Prop:=∃ H',Inv X pins σ H' s'∧Q b H'
def AP (X:Cx) (pins:List (Addr×Obj)) (σ:St) (Q:List V→Hp→Prop) (us:List Value) (s':Shared):Prop:=∃ vs H',Inv X pins σ H' s'∧Vals vs us∧Q vs H'
noncomputable def SP (X:Cx) (pins:List (Addr×Obj)) (D:Ends) (f:Flow) (s':Shared):Prop :=
 match f with
 |.next=>∃ σ' H',Inv X pins σ' H' s'∧D.nx σ' H'
 |.brk=>∃ σ' H',Inv X pins σ' H' s'∧D.bk σ' H'
 |.cont=>∃ σ' H',Inv X pins σ' H' s'∧D.ct σ' H'
 |.ret u=>∃ v σ' H',Inv X pins σ' H' s'∧RelV v u∧D.rt v H'
def PE (X:Cx) (e:Expr) (t:TE):Prop :=
 ∀ (pins:List (Addr×Obj)) (s:Shared) (σ:St) (H:Hp) (Q:VK),Inv X pins σ H s→t σ H Q→wpAny (model X.prog X.w) X.A (eval e X.env) (EP X pins σ Q) X.xe s
def PT (X:Cx) (e:Expr) (t:TT):Prop :=
 ∀ (pins:List (Addr×Obj)) (s:Shared) (σ:St) (H:Hp) (Q:Bool→Hp→Prop),Inv X pins σ H s→t σ H Q→wpAny (model X.prog X.w) X.A (isTrue e X.env (eval e X.env)) (TP X pins σ Q) X.xe s
def PW (X:Cx) (e:Expr) (t:TT):Prop :=
 ∀ (whole:Sem Value) (pins:List (Addr×Obj)) (s:Shared) (σ:St) (H:Hp) (Q:Bool→Hp→Prop),Inv X pins σ H s→t σ H Q→wpAny (model X.prog X.w) X.A (isTrue e X.env whole) (TP X pins σ Q) X.xe s
theorem PW.pt {X:Cx}{e:Expr}{t:TT}(h:PW X e t):PT X e t:=h _
def PA (X:Cx) (es:List Expr) (t:TA):Prop :=
 ∀ (pos:Pos) (pins:List (Addr×Obj)) (s:Shared) (σ:St) (H:Hp) (Q:List V→Hp→Prop),Inv X pins σ H s→t σ H Q→wpAny (model X.prog X.w) X.A (spliced (backTo pos (starEach es X.env))) (AP X pins σ Q) X.xe s
def PS (X:Cx) (st:Stmt) (t:TS):Prop :=
 ∀ (pins:List (Addr×Obj)) (s:Shared) (σ:St) (H:Hp) (D:Ends),Inv X pins σ H s→t D σ H→wpAny (model X.prog X.w) X.A (exec st X.env) (SP X pins D) X.xe s
def PSs (X:Cx) (st:List Stmt) (t:TS):Prop :=
 ∀ (pins:List (Addr×Obj)) (s:Shared) (σ:St) (H:Hp) (D:Ends),Inv X pins σ H s→t D σ H→wpAny (model X.prog X.w) X.A (execs st X.env) (SP X pins D) X.xe s
theorem thn {α:Type}{t:Sem α}{Q Q':α→Shared→Prop}{M:Model}{A:Around}{E:Value→Shared→Prop}{s:Shared}(h:wpAny M A t Q E s) (hQ:∀ a s,Q a s→Q' a s):wpAny M A t Q' E s:=wpAny_mono h hQ fun _ _ x=>x
end L2
namespace L2
open PySem PySem.Spec PyProof.Rows
section
variable {X:Cx}
theorem bin {a b:Expr}{ta tb:TE}(ha:PE X a ta) (hb:PE X b tb){pins:List (Addr×Obj)}{s:Shared}{σ:St}{H:Hp}{R:V→V→Hp→Prop}(I:Inv X pins σ H s) (h:ta σ H fun x H1=>tb σ H1 fun y H2=>R x y H2)
  {α:Type}{Q:α→Shared→Prop}{f:Value→Value→Sem α}
  (hf:∀ v u s2 x y H2,Inv X pins σ H2 s2→RelV x v→RelV y u→R x y H2→wpAny (model X.prog X.w) X.A (f v u) Q X.xe s2) :
  wpAny (model X.prog X.w) X.A (eval a X.env) (fun v s₁=>wpAny (model X.prog X.w) X.A (eval b X.env) (fun u s₂=>wpAny (model X.prog X.w) X.A (f v u) Q X.xe s₂) X.xe s₁) X.xe s:=by
 refine thn (ha pins s σ H _ I h) fun v s1 hq0=>?_
 obtain⟨x,H1,I1,r1,q1⟩:=hq0
 refine thn (hb pins s1 σ H1 _ I1 q1) fun u s2 hq0=>?_
 obtain⟨y,H2,I2,r2,q2⟩:=hq0
 exact hf v u s2 x y H2 I2 r1 r2 q2
def zlz (i:Nat):TE:=fun σ H Q=>∃ v,σ[i]?=some (some v)∧Q v H
def tC (v:V):TE:=fun _ H Q=>Q v H
theorem zgc {i:Nat}{x:Str}{pos:Pos}(hN:X.N[i]?=some x) (hv:Vis X.env.scope x) (hd:(x == ("__debug__" : Str))=false:=by decide) (hcd:(x == ("__classdict__" : Str))=false:=by decide):PE X (.Name x pos) (zlz i):=by
 intro pins s σ H Q I h
 obtain⟨v,e,h⟩:=h
 obtain⟨m,hn,hl⟩:=I.loc
 obtain⟨u,r,l⟩:=hl i x v hN e hv
 have fin:EP X pins σ Q u s:=⟨v,H,I,r,h⟩
 rcases l with⟨hk,hm⟩ | ⟨hk,c,hc,hcell⟩
 ·exact wpAny_Name (wpAny_loadName_local I.ok.kind hk hn hm fin) hd
 ·rcases hk with hk | hk
  ·exact wpAny_Name (wpAny_loadName_cell I.ok.kind hk hc hcell fin) hd
  ·exact wpAny_Name (wpAny_loadName_free I.ok.kind hk hc hcell fin hcd) hd
theorem yL {i j pos}:PE X (.Constant (.int i) j pos) (tC (.int i)):=fun _ _ _ H _ I h=>wpAny_Constant_int ⟨.int i,H,I.tok _,⟨_,rfl⟩,h⟩
theorem xW {b j pos}:PE X (.Constant (.bool b) j pos) (tC (.bl b)):=fun _ _ _ H _ I h=>Constant_bool ⟨.bl b,H,I,rfl,h⟩
theorem zgh {j pos}:PE X (.Constant .none j pos) (tC .non):=fun _ _ _ H _ I h=>Constant_none ⟨.non,H,I,rfl,h⟩
theorem zgf {x j pos}:PE X (.Constant (.str x) j pos) (tC (.str x)):=fun _ _ _ H _ I h=>Calls.Constant_str ⟨.str x,H,I.tok _,⟨_,rfl⟩,h⟩
def Gl (X:Cx) (x:Str):Prop:=X.env.kindOf x=some .globalImplicit
theorem ld_glob {E:Value→Shared→Prop}{pins:List (Addr×Obj)}{s:Shared}{σ:St}{H:Hp}{x:Str}{u:Value}{pos:Pos}{Q:Value→Shared→Prop}(I:Inv X pins σ H s) (hg:Gl X x) (hm:X.mg x=some u) (h:Q u s)
  (hd:(x == ("__debug__" : Str))=false:=by decide):wpAny (model X.prog X.w) X.A (eval (.Name x pos) X.env) Q E s :=
 Calls.Name_function_global I.ok.kind hg (Calls.loadGlobal_global (by rw[I.ok.glob];exact I.mod.glob.keeps I.bk) hm h) hd
theorem ld_blt {E:Value→Shared→Prop}{pins:List (Addr×Obj)}{s:Shared}{σ:St}{H:Hp}{x:Str}{u:Value}{pos:Pos}{Q:Value→Shared→Prop}(I:Inv X pins σ H s) (hg:Gl X x) (hm:X.mg x=none) (hv:bootBuiltins x=some u) (h:Q u s)
  (hn:x ≠ "__name__" := by decide) (hd:(x == ("__debug__" : Str))=false:=by decide):wpAny (model X.prog X.w) X.A (eval (.Name x pos) X.env) Q E s:=by
 obtain⟨mb,h1,h2⟩:=I.mod.blt
 exact Calls.Name_function_global I.ok.kind hg (Calls.loadGlobal_builtin (by rw[I.ok.glob];exact I.mod.glob.keeps I.bk) hm (by rw[I.ok.blt];exact h1.keeps I.bk) ((h2 x hn).trans hv) h) hd
theorem wB {x:Str}{v:V}{u:Value}{pos:Pos}(hg:Gl X x) (hm:X.mg x=some u) (r:RelV v u) (hd:(x == ("__debug__" : Str))=false:=by decide):PE X (.Name x pos) (tC v) :=
 fun _ _ _ H _ I h=>ld_glob I hg hm ⟨v,H,I,r,h⟩ hd
theorem VW {x:Str}{v:V}{u:Value}{pos:Pos}(hg:Gl X x) (hm:X.mg x=none) (hv:bootBuiltins x=some u) (r:RelV v u) (hn:x ≠ "__name__" := by decide) (hd:(x == ("__debug__" : Str))=false:=by decide):PE X (.Name x pos) (tC v) :=
 fun _ _ _ H _ I h=>ld_blt I hg hm hv ⟨v,H,I,r,h⟩ hn hd
variable {a b:Expr}{ta tb:TE}{pos:Pos}
def PC (X:Cx) (op:CmpOp) (a b:Expr) (t:TE):Prop :=
 ∀ (pins:List (Addr×Obj)) (s:Shared) (σ:St) (H:Hp) (Q:VK),Inv X pins σ H s→t σ H Q →
  wpAny (model X.prog X.w) X.A (eval a X.env) (fun v s₁=>wpAny (model X.prog X.w) X.A (eval b X.env) (fun u s₂=>wpAny (model X.prog X.w) X.A (compareOp op v u) (EP X pins σ Q) X.xe s₂) X.xe s₁) X.xe s
def tB (t:TE):TT:=fun σ H Q=>t σ H fun x H1=>∃ c,x=.bl c∧Q c H1
theorem zgj {op:CmpOp}{t:TE}(h:PC X op a b t) (h1:behindInMarks op b=false:=by first | exact nobehind _ (by decide) (by decide) | rfl):PE X (.Compare a [op] [b] pos) t:=fun pins s σ H Q I hw=>wpAny_Compare1 (h pins s σ H Q I hw) h1
theorem W4 {op:CmpOp}{t:TE}(h:PC X op a b t) (h1:behindInMarks op b=false:=by first | exact nobehind _ (by decide) (by decide) | rfl):PT X (.Compare a [op] [b] pos) (tB t):=by
 intro pins s σ H Q I hw
 refine wpAny_isTrue_Compare1 (thn (h pins s σ H _ I hw) fun v s1 h1=>thn h1 fun u s2 h2=>thn h2 fun c s3 hq0=>?_) h1
 obtain⟨x,H1,I1,r1,q1⟩:=hq0
 obtain⟨d,rfl,q⟩:=q1
 cases r1
 exact wpAny_truthy_bool ⟨H1,I1,q⟩
theorem yI {e:Expr}{t:TE}(h:PE X e t) (he:∀ whole,isTrue e X.env whole=(do let v ← whole;standAt e.pos;holding [v] (truthy v)):=by intro _;rfl):PT X e (tB t):=by
 intro pins s σ H Q I hw
 refine isTrue_plain (thn (h pins s σ H _ I hw) fun v s1 hq0=>?_) (he _)
 obtain⟨x,H1,I1,r1,q1⟩:=hq0
 obtain⟨d,rfl,q⟩:=q1
 cases r1
 exact wpAny_truthy_bool ⟨H1,I1,q⟩
variable {tA tB':TT}{rest:List Expr}
def zok (t u:TT):TT:=fun σ H Q=>t σ H fun c H1=>if c=true then u σ H1 Q else Q false H1
def tOr (t u:TT):TT:=fun σ H Q=>t σ H fun c H1=>if c=true then Q true H1 else u σ H1 Q
def zoe (t:TT):TT:=fun σ H Q=>t σ H fun c H1=>Q (!c) H1
theorem VD (ha:PT X a tA):PW X (.BoolOp .And [a] pos) tA:=by
 intro wh pins s σ H Q I h
 refine isTrue_and (thn (ha pins s σ H Q I h) fun c s1 e=>?_)
 cases c with
 |true=>exact isTrue_and_nil e
 |false=>exact e
theorem we (ha:PT X a tA):PW X (.BoolOp .Or [a] pos) tA:=by
 intro wh pins s σ H Q I h
 refine isTrue_or (thn (ha pins s σ H Q I h) fun c s1 e=>?_)
 cases c with
 |false=>exact isTrue_or_nil e
 |true=>exact e
theorem zf8 (ha:PT X a tA) (hb:PW X (.BoolOp .And (b::rest) pos) tB'):PW X (.BoolOp .And (a::b::rest) pos) (zok tA tB'):=by
 intro wh pins s σ H Q I h
 refine isTrue_and (thn (ha pins s σ H _ I h) fun c s1 hq0=>?_)
 obtain⟨H1,I1,q1⟩:=hq0
 cases c with
 |true=>exact hb wh pins s1 σ H1 Q I1 q1
 |false=>exact⟨H1,I1,q1⟩
theorem vj (ha:PT X a tA) (hb:PW X (.BoolOp .Or (b::rest) pos) tB'):PW X (.BoolOp .Or (a::b::rest) pos) (tOr tA tB'):=by
 intro wh pins s σ H Q I h
 refine isTrue_or (thn (ha pins s σ H _ I h) fun c s1 hq0=>?_)
 obtain⟨H1,I1,q1⟩:=hq0
 cases c with
 |true=>exact⟨H1,I1,q1⟩
 |false=>exact hb wh pins s1 σ H1 Q I1 q1
theorem yJ (ha:PT X a tA):PT X (.UnaryOp .Not a pos) (zoe tA):=by
 intro pins s σ H Q I h
 exact isTrue_not (ha pins s σ H (fun c H1=>Q (!c) H1) I h)
def tAndV (ta tb:TE):TE:=fun σ H Q=>ta σ H fun x H1=>∃ c,x=.bl c∧if c=true then tb σ H1 Q else Q (.bl false) H1
def zod (ta tb:TE):TE:=fun σ H Q=>ta σ H fun x H1=>∃ c,x=.bl c∧if c=true then Q (.bl true) H1 else tb σ H1 Q
def zaK (ta:TE):TE:=fun σ H Q=>ta σ H fun x H1=>∃ c,x=.bl c∧Q (.bl (!c)) H1
theorem YG {op}{t:TE}(h:PE X a t):PE X (.BoolOp op [a] pos) t:=fun pins s σ H Q I hw=>BoolOp_one (h pins s σ H Q I hw)
theorem uF (ha:PE X a ta) (hb:PE X (.BoolOp .And (b::rest) pos) tb):PE X (.BoolOp .And (a::b::rest) pos) (tAndV ta tb):=by
 intro pins s σ H Q I h
 refine BoolOp_and (thn (ha pins s σ H _ I h) fun v s1 hq0=>?_)
 obtain⟨x,H1,I1,r1,q1⟩:=hq0
 obtain⟨c,rfl,q1⟩:=q1
 cases r1
 refine wpAny_truthy_bool ?_
 cases c with
 |true=>exact hb pins s1 σ H1 Q I1 q1
 |false=>exact⟨.bl false,H1,I1,rfl,q1⟩
theorem zmV (ha:PE X a ta) (hb:PE X (.BoolOp .Or (b::rest) pos) tb):PE X (.BoolOp .Or (a::b::rest) pos) (zod ta tb):=by
 intro pins s σ H Q I h
 refine BoolOp_or (thn (ha pins s σ H _ I h) fun v s1 hq0=>?_)
 obtain⟨x,H1,I1,r1,q1⟩:=hq0
 obtain⟨c,rfl,q1⟩:=q1
 cases r1
 refine wpAny_truthy_bool ?_
 cases c with
 |false=>exact hb pins s1 σ H1 Q I1 q1
 |true=>exact⟨.bl true,H1,I1,rfl,q1⟩
theorem W6 (ha:PE X a ta):PE X (.UnaryOp .Not a pos) (zaK ta):=by
 intro pins s σ H Q I h
 refine UnaryOp_ (thn (ha pins s σ H _ I h) fun v s1 hq0=>?_)
 obtain⟨x,H1,I1,r1,q1⟩:=hq0
 obtain⟨c,rfl,q1⟩:=q1
 cases r1
 exact not_of (wpAny_truthy_bool ⟨.bl (!c),H1,I1,rfl,q1⟩)
end
end L2
namespace L2
open PySem PySem.Spec PyProof.Rows
noncomputable def SqL (K:PySem.W.Frag) (H:Hp) (a:Addr) (xs:List V):Prop :=
 Rd H a (.lst xs) ∨
  ∃ (o:Obj) (its:Array Value) (n:Nat),K.lookup a=some o∧o.cls=.type "list" ∧ o.dict=none∧o.data=.seq its n∧its.size≤sizeLine∧Vals xs its.toList
noncomputable def SqT (K:PySem.W.Frag) (H:Hp) (a:Addr) (xs:List V):Prop :=
 Rd H a (.tup xs) ∨
  ∃ (o:Obj) (its:Array Value) (n:Nat),K.lookup a=some o∧o.cls=.type "tuple" ∧ o.data=.seq its n∧its.size≤sizeLine∧Vals xs its.toList
noncomputable def zxD:Value→Option V
 |.none=>some .non
 |.bool b=>some (.bl b)
 |.int i _=>some (.int i)
 |.str x _=>some (.str x)
 |.bytes b _=>some (.byt b)
 |.float b _=>some (.flt b)
 |.ref a=>some (.ref a)
 |.type n=>some (.ty n)
 |_=>none
theorem RelV.abs {x:V}{u:Value}(r:RelV x u):zxD u=some x:=by
 cases x with
 |non=>cases r;rfl
 |bl _=>cases r;rfl
 |int _=>obtain⟨t,rfl⟩:=r;rfl
 |str _=>obtain⟨t,rfl⟩:=r;rfl
 |byt _=>obtain⟨t,rfl⟩:=r;rfl
 |flt _=>obtain⟨t,rfl⟩:=r;rfl
 |ref _=>cases r;rfl
 |ty _=>cases r;rfl
theorem RelV.inj {x y:V}{u:Value}(r:RelV x u) (q:RelV y u):x=y:=Option.some.inj (r.abs.symm.trans q.abs)
theorem Vals.inj:∀ {xs ys:List V}{us:List Value},Vals xs us→Vals ys us→xs=ys
 |_,_,_,.nil,.nil=>rfl
 |_,_,_,.cons r t,.cons r' t'=>by rw[r.inj r',Vals.inj t t']
section
variable {X:Cx}{pins:List (Addr×Obj)}{σ:St}{H:Hp}{s:Shared}{a:Addr}{xs ys:List V}
theorem SqL.of {K:PySem.W.Frag}(h:H a=some (.lst xs)):SqL K H a xs:=.inl (.inl h)
theorem SqT.of {K:PySem.W.Frag}(h:H a=some (.tup xs)):SqT K H a xs:=.inl (.inl h)
theorem Inv.list (I:Inv X pins σ H s) (h:SqL X.K H a xs):∃ its:List Value,Vals xs its∧PlainL s.heap a its.toArray∧xs.length≤sizeLine:=by
 rcases h with h | ⟨o,its,n,hk,hc,hd,hs,hz,r⟩
 ·obtain⟨z,its,n,r,e⟩:=h.ok I.hok
  exact⟨its,r,⟨_,n,e,rfl,rfl,rfl⟩,z⟩
 ·refine⟨its.toList,r,⟨o,n,I.kIn a o hk,hc,hd,by simpa using hs⟩,?_⟩
  have e:=r.length
  simp only[Array.length_toList] at e
  omega
theorem Inv.tuple (I:Inv X pins σ H s) (h:SqT X.K H a xs):∃ its:List Value,Vals xs its∧IsTup s.heap a its.toArray∧xs.length≤sizeLine:=by
 rcases h with h | ⟨o,its,n,hk,hc,hs,hz,r⟩
 ·obtain⟨z,its,r,p⟩:=h.ok I.hok
  exact⟨its,r,p,z⟩
 ·refine⟨its.toList,r,⟨o,I.kIn a o hk,hc,n,by simpa using hs⟩,?_⟩
  have e:=r.length
  simp only[Array.length_toList] at e
  omega
theorem Inv.list_inj (I:Inv X pins σ H s) (h:SqL X.K H a xs) (h':SqL X.K H a ys):xs=ys:=by
 obtain⟨its,r,⟨o,n,e,_,_,d⟩,_⟩:=I.list h
 obtain⟨its',r',⟨o',n',e',_,_,d'⟩,_⟩:=I.list h'
 rw[e] at e';cases e'
 rw[d] at d'
 injection d' with d1 _
 have:its=its':=by simpa using congrArg Array.toList d1
 subst this
 exact r.inj r'
end
abbrev Cx.wish (X:Cx) (E:Value→Shared→Prop):Cx:={ X with xe:=E }
abbrev Cx.nox (X:Cx):Cx:=X.wish fun _ _=>False
theorem Cx.Ok.wish {X:Cx}(ok:X.Ok) (E:Value→Shared→Prop):(X.wish E).Ok :=
 ⟨ok.mod,ok.kind,ok.glob,ok.blt,ok.above,ok.inj,ok.has,ok.cab,ok.hd,ok.frames,ok.stk,ok.exf,ok.bs,ok.bsz,ok.noex,ok.exfs,ok.funs,ok.frf⟩
theorem Cx.Ok.unwish {X:Cx}{E:Value→Shared→Prop}(ok:(X.wish E).Ok):X.Ok :=
 ⟨ok.mod,ok.kind,ok.glob,ok.blt,ok.above,ok.inj,ok.has,ok.cab,ok.hd,ok.frames,ok.stk,ok.exf,ok.bs,ok.bsz,ok.noex,ok.exfs,ok.funs,ok.frf⟩
section
variable {X:Cx}{pins:List (Addr×Obj)}{σ:St}{H:Hp}{s:Shared}{E:Value→Shared→Prop}
theorem Inv.wish (I:Inv X pins σ H s) (E:Value→Shared→Prop):Inv (X.wish E) pins σ H s:=⟨I.ok.wish E,I.os,I.bare,I.base,I.loc,I.cell,I.free,I.freeC,I.pin,I.hok,I.len⟩
theorem Inv.unwish (I:Inv (X.wish E) pins σ H s):Inv X pins σ H s:=⟨I.ok.unwish,I.os,I.bare,I.base,I.loc,I.cell,I.free,I.freeC,I.pin,I.hok,I.len⟩
theorem SP.unwish {D:Ends}{f:Flow}{s':Shared}(h:SP (X.wish E) pins D f s'):SP X pins D f s':=by
 cases f with
 |next=>obtain⟨σ',H',I,q⟩:=h;exact⟨σ',H',I.unwish,q⟩
 |brk=>obtain⟨σ',H',I,q⟩:=h;exact⟨σ',H',I.unwish,q⟩
 |cont=>obtain⟨σ',H',I,q⟩:=h;exact⟨σ',H',I.unwish,q⟩
 |ret u=>obtain⟨v,σ',H',I,r,q⟩:=h;exact⟨v,σ',H',I.unwish,r,q⟩
theorem PSs.nox {st:List Stmt}{t:TS}(h:PSs X.nox st t):PSs X st t:=fun pins s σ H D I hw =>
 wpAny_mono (h pins s σ H D (I.wish _) hw) (fun _ _ q=>q.unwish) fun _ _ z=>False.elim z
end
section
variable {X:Cx}{st:Stmt}{rest:List Stmt}{t u:TS}{e:Expr}{te:TE}{pos:Pos}
def zaL:TS:=fun D σ H=>D.nx σ H
def zoa (t u:TS):TS:=fun D σ H=>t { D with nx:=u D } σ H
theorem yt:PSs X [] zaL:=fun _ _ σ H _ I h=>wpAny_execs_nil ⟨σ,H,I,h⟩
theorem zD (h1:PS X st t) (h2:PSs X rest u):PSs X (st::rest) (zoa t u):=by
 intro pins s σ H D I h
 refine wpAny_execs_cons (thn (h1 pins s σ H { D with nx:=u D } I h) fun f s1 q=>?_)
 cases f with
 |next =>
  obtain⟨σ',H',I',q⟩:=q
  exact h2 pins s1 σ' H' D I' q
 |ret v=>exact q
 |brk=>exact q
 |cont=>exact q
theorem zJ (h1:PS X st t):PSs X [st] t:=by
 intro pins s σ H D I h
 refine wpAny_execs_cons (thn (h1 pins s σ H D I h) fun f s1 q=>?_)
 cases f with
 |next=>exact wpAny_execs_nil q
 |ret v=>exact q
 |brk=>exact q
 |cont=>exact q
theorem Inv.quiet {pins:List (Addr×Obj)}{σ:St}{H:Hp}{s:Shared}(I:Inv X pins σ H s):interactive X.env=false:=by simp[interactive,I.ok.kind]
def zaP (te:TE):TS:=fun D σ H=>te σ H fun _ H1=>D.nx σ H1
theorem vT (he:PE X e te) (hs:swapsWith e none pos.line X.env=pure false:=by rfl):PS X (.Expr e pos) (zaP te):=by
 intro pins s σ H D I h
 exact wpAny_Expr_any (thn (he pins s σ H _ I h) fun v s1 ⟨x,H1,I1,r1,q1⟩=>⟨σ,H1,I1,q1⟩) I.quiet hs
def zoc (te:TE):TS:=fun D σ H=>te σ H D.rt
theorem yv (he:PE X e te):PS X (.Return (some e) pos) (zoc te):=by
 intro pins s σ H D I h
 exact wpAny_Return_some (thn (he pins s σ H _ I h) fun v s1 ⟨x,H1,I1,r1,q1⟩=>⟨x,σ,H1,I1,r1,q1⟩)
def zog (c:TT) (t u:TS):TS:=fun D σ H=>c σ H fun b H1=>if b=true then t D σ H1 else u D σ H1
theorem wz {c:Expr}{a b:List Stmt}{tc:TT}(hc:PT X c tc) (ha:PSs X a t) (hb:PSs X b u):PS X (.If c a b pos) (zog tc t u):=by
 intro pins s σ H D I h
 refine wpAny_If (thn (hc pins s σ H _ I h) fun d s1 hq0=>?_)
 obtain⟨H1,I1,q1⟩:=hq0
 cases d with
 |true=>exact ha pins s1 σ H1 D I1 q1
 |false=>exact hb pins s1 σ H1 D I1 q1
def WX:TS:=fun _ _ _=>False
theorem wy:PS X st WX:=fun _ _ _ _ _ _ h=>h.elim
end
abbrev TG:=V→St→Hp→(St→Hp→Prop)→Prop
abbrev TGs:=List V→St→Hp→(St→Hp→Prop)→Prop
def PG (X:Cx) (target:Expr) (t:TG):Prop :=
 ∀ (pins:List (Addr×Obj)) (s:Shared) (σ:St) (H:Hp) (v:V) (u:Value) (Q:St→Hp→Prop),Inv X pins σ H s→RelV v u→t v σ H Q →
  wpAny (model X.prog X.w) X.A (assign target X.env u) (fun _ s'=>∃ σ' H',Inv X pins σ' H' s'∧Q σ' H') X.xe s
noncomputable def PGs (X:Cx) (ts:List Expr) (t:TGs):Prop :=
 ∀ (pins:List (Addr×Obj)) (s:Shared) (σ:St) (H:Hp) (vs:List V) (us:List Value) (Q:St→Hp→Prop),Inv X pins σ H s→Vals vs us→t vs σ H Q →
  wpAny (model X.prog X.w) X.A (assignInOrder ((assignEach ts X.env).map (·.2)) us) (fun _ s'=>∃ σ' H',Inv X pins σ' H' s'∧Q σ' H') X.xe s
section
variable {X:Cx}{pos:Pos}
def uc (i:Nat):TG:=fun v σ H Q=>Q (σ.set i (some v)) H
theorem xi {i:Nat}{x:Str}(hN:X.N.Nodup) (hi:X.N[i]?=some x) (hx:Loc X.env.scope x) (hf:X.fn x=true∨X.env.scope.names.lookup x=some .local:=by first | exact .inl rfl | exact .inr rfl | assumption):PG X (.Name x pos) (uc i):=by
 intro pins s σ H v u Q I r h
 exact wpAny_assign_Name (store_ok I hN hi hx r (fun s' I'=>⟨_,H,I',h⟩) hf)
def gNil:TGs:=fun vs σ H Q=>vs=[]∧Q σ H
def zik (t:TG) (u:TGs):TGs:=fun vs σ H Q=>∃ v r,vs=v::r∧t v σ H fun σ' H'=>u r σ' H' Q
theorem YF:PGs X [] gNil:=by
 intro pins s σ H vs us Q I r h
 obtain⟨e,h⟩:=h
 subst e
 cases r
 exact assignInOrder_nil ⟨σ,H,I,h⟩
theorem wA {e:Expr}{es:List Expr}{t:TG}{u:TGs}(h1:PG X e t) (h2:PGs X es u)
  (hs:(assignEach (e::es) X.env).map (·.2)=assign e X.env::(assignEach es X.env).map (·.2):=by rfl):PGs X (e::es) (zik t u):=by
 intro pins s σ H vs us Q I r h
 obtain⟨v,vr,e1,h⟩:=h
 subst e1
 cases r with
 |cons r rr =>
  rw[hs]
  refine assignInOrder_cons (thn (h1 pins s σ H _ _ _ I r h) fun _ s1 hq0=>?_)
  obtain⟨σ1,H1,I1,q1⟩:=hq0
  exact h2 pins s1 σ1 H1 _ _ Q I1 rr q1
def zwy (K:PySem.W.Frag) (n:Nat) (t:TGs):TG:=fun v σ H Q=>∃ a xs,v=.ref a∧SqT K H a xs∧xs.length=n∧t xs σ H Q
theorem W5 {es:List Expr}{k:Nat}{t:TGs}{n:Nat}(hc:X.calm=true) (h:PGs X es t)
  (hn:(assignEach es X.env).length=n:=by rfl) (hst:(assignEach es X.env).findIdx? (·.1)=none:=by rfl):PG X (.Tuple es k pos) (zwy X.K n t):=by
 intro pins s σ H v u Q I r hw
 obtain⟨a,xs,e1,hq,hl,hw⟩:=hw
 subst e1
 cases r
 obtain⟨its,rv,ht,hz⟩:=I.tuple hq
 refine assign_Tuple_tuple (I.ok.hd hc) ht (by simp[hn,← hl,rv.length]) hst fun h' hx=>?_
 have I1:Inv X pins σ H { s with heap:=h' }:=I.kept (t':=s.toks) fun b o e=>hx b o (Nat.ne_of_lt (Heap.lt_size e)) e
 exact h pins _ σ H xs _ Q I1 (by simpa using rv) hw
def ziv (te:TE) (g:TG):TS:=fun D σ H=>te σ H fun x H1=>g x σ H1 D.nx
theorem vk {i:Nat}{x:Str}{e:Expr}{te:TE}{pos':Pos}(hN:X.N.Nodup) (hi:X.N[i]?=some x) (hx:Loc X.env.scope x) (he:PE X e te) (hs:swapsWith e (some (.Name x pos')) pos.line X.env=pure false:=by rfl) (hf:X.fn x=true∨X.env.scope.names.lookup x=some .local:=by first | exact .inl rfl | exact .inr rfl | assumption) :
  PS X (.Assign [.Name x pos'] e pos) (ziv te (uc i)):=by
 intro pins s σ H D I h
 refine wpAny_Assign_Name (thn (he pins s σ H _ I h) fun v s1 hq0=>?_) hs
 obtain⟨y,H1,I1,r1,q1⟩:=hq0
 exact store_ok I1 hN hi hx r1 (fun s2 I2=>⟨_,H1,I2,q1⟩) hf
end
section
variable {X:Cx}{pos:Pos}
def WV (c:TT) (tb:TS):TS:=fun D σ H=>∃ W:Nat→St→Hp→Prop,(∃ m,W m σ H)∧∀ m σ H,W m σ H →
 c σ H fun b H1=>if b=true then ∃ N:St→Hp→Prop,(∀ σ' H',N σ' H'→∃ m',m'<m∧W m' σ' H')∧tb { D with nx:=N,ct:=N,bk:=D.nx } σ H1 else D.nx σ H1
theorem Wa {c:Expr}{body:List Stmt}{tc:TT}{tb:TS}(hp:PassesOwn (model X.prog X.w) X.A X.env X.xe) (hc:PT X c tc) (hb:PSs X body tb):PS X (.While c body [] pos) (WV tc tb):=by
 intro pins s σ H D I h
 obtain⟨W,⟨m0,w0⟩,turn⟩:=h
 refine wpAny_While (codeAny_whileLoop (fun n s'=>∃ σ' H',Inv X pins σ' H' s'∧W n σ' H') ?_ m0 ⟨σ,H,I,w0⟩)
 rintro n s1 ⟨σ1,H1,I1,w1⟩
 refine wpAny_passesOwn hp (thn (hc pins s1 σ1 H1 _ I1 (turn n σ1 H1 w1)) fun b s2 hq0=>?_)
 obtain⟨H2,I2,q2⟩:=hq0
 cases b with
 |true =>
  obtain⟨N,hN,q2⟩:=q2
  rw[if_pos rfl]
  refine wpAny_passesOwn hp (thn (hb pins s2 σ1 H2 _ I2 q2) fun f s3 q3=>?_)
  cases f with
  |next =>
   obtain⟨σ3,H3,I3,n3⟩:=q3
   obtain⟨m',hm,w3⟩:=hN σ3 H3 n3
   exact⟨m',hm,σ3,H3,I3,w3⟩
  |cont =>
   obtain⟨σ3,H3,I3,n3⟩:=q3
   obtain⟨m',hm,w3⟩:=hN σ3 H3 n3
   exact⟨m',hm,σ3,H3,I3,w3⟩
  |brk=>exact q3
  |ret v=>exact q3
 |false =>
  rw[if_neg Bool.false_ne_true]
  exact wpAny_execs_nil ⟨σ1,H2,I2,q2⟩
end
structure It where
 go:Nat→Hp→Prop
 yld:Nat→Hp→V→Hp→Prop
 stop:Nat→Hp→Prop
noncomputable def FpOk (X:Cx) (pins:List (Addr×Obj)) (H:Hp) (b:Addr):Prop :=
 H b=none∧b≠X.env.locals∧b∉X.fs∧(b∈X.ex∨X.s₀.heap.objs.size≤b)∧(∀ x c,X.env.cells.lookup x=some c→c≠b)∧∀ p∈X.pn++pins,p.1≠b
theorem Inv.fpOk {X:Cx}{pins:List (Addr×Obj)}{σ:St}{H H':Hp}{s:Shared}{b:Addr}(I:Inv X pins σ H s) (hb:s.heap.objs.size≤b) (hn:H' b=none):FpOk X pins H' b:=by
 refine⟨hn,Nat.ne_of_gt (Nat.lt_of_lt_of_le I.lt hb),I.nofs hb,.inr (Nat.le_trans I.sz hb),fun x c e z=>?_,fun p hp z=>?_⟩
 ·obtain⟨v,q⟩:=I.cell x c e
  exact absurd (Nat.lt_of_lt_of_le q.lt (by rw[z];exact hb)) (Nat.lt_irrefl _)
 ·exact absurd (Nat.lt_of_lt_of_le (Heap.lt_size (I.pin p hp).1) (by rw[z];exact hb)) (Nat.lt_irrefl _)
structure Turn (P:Program) (w:World) (K:PySem.W.Frag) (tg:Expr) (J:It) (fp:List Addr) (it:Addr) (tn:Nat→Heap→Prop):Prop where
 mem:it∈fp
 obj:∀ i h,tn i h→∀ b∈fp,∃ o,h.get? b=some o∧∀ v,o.data≠.cell v
 keep:∀ i h h',tn i h→(∀ b∈fp,∀ o,h.get? b=some o→h'.get? b=some o)→tn i h'
 item:∀ (X:Cx),X.prog=P→X.w=w→X.K=K→X.calm=true→∀ (i:Nat) (pins:List (Addr×Obj)) (s:Shared) (σ:St) (H:Hp) (E:Value→Shared→Prop),Inv X pins σ H s→(∀ b∈fp,FpOk X pins H b)→tn i s.heap→J.go i H →
  wpAny (model P w) X.A (pyNext (.ref it)) (fun r s1=>∃ u,r=some u ∧
   wpAny (model P w) X.A (letOwnedTupleGo tg (.ref it) u) (fun _ s2=>∃ x H',Inv X pins σ H' s2∧RelV x u∧J.yld i H x H'∧tn (i+1) s2.heap∧∀ b∈fp,H' b=none) E s1) E s
 done:∀ (X:Cx),X.prog=P→X.w=w→X.K=K→X.calm=true→∀ (i:Nat) (pins:List (Addr×Obj)) (s:Shared) (σ:St) (H:Hp) (E:Value→Shared→Prop),Inv X pins σ H s→(∀ b∈fp,FpOk X pins H b)→tn i s.heap→J.stop i H →
  wpAny (model P w) X.A (pyNext (.ref it)) (fun r s1=>r=none∧Inv X pins σ H s1) E s
 self:∀ (A:Around) (i:Nat) (s:Shared) (Q:Value→Shared→Prop) (E:Value→Shared→Prop),tn i s.heap→Q (.ref it) s→wpAny (model P w) A (pyIter (.ref it)) Q E s
abbrev TI:=St→Hp→(It→Hp→Prop)→Prop
noncomputable def PIE (X:Cx) (pins:List (Addr×Obj)) (σ:St) (tg:Expr) (R:It→Hp→Prop) (itv:Value) (s2:Shared):Prop :=
 ∃ (it:Addr) (fp:List Addr) (tn:Nat→Heap→Prop) (J:It) (H':Hp),itv=.ref it∧Inv X pins σ H' s2∧Turn X.prog X.w X.K tg J fp it tn∧tn 0 s2.heap∧(∀ b∈fp,FpOk X pins H' b)∧R J H'
def PI (X:Cx) (tg iter:Expr) (wi:TI):Prop :=
 ∀ (pins:List (Addr×Obj)) (s:Shared) (σ:St) (H:Hp) (R:It→Hp→Prop),Inv X pins σ H s→wi σ H R →
  wpAny (model X.prog X.w) X.A (eval iter X.env) (fun v s1=>wpAny (model X.prog X.w) X.A (pyIter v) (PIE X pins σ tg R) X.xe s1) X.xe s
theorem zii {M:Model}{A:Around}{E:Value→Shared→Prop}{s:Shared}{tg:Expr}{it:Addr}{u:Value}{o:Obj}{n:String}{vs:Array Value}{Q:Unit→Shared→Prop}(ho:s.heap.get? it=some o) (hc:o.cls=.type n) (hd:o.data=.fields vs)
  (hn:["enumerate", "zip", "dict_itemiterator", "dict_reverseitemiterator", "odict_iterator", "itertools.zip_longest", "itertools.pairwise"].contains n=false) (hQ:Q () s):wpAny M A (letOwnedTupleGo tg (.ref it) u) Q E s:=by
 unfold letOwnedTupleGo
 cases tg<;>first
  |exact wpAny_pure hQ
  |(cases u<;>first
    |exact wpAny_pure hQ
    |(refine wpAny_bind (wpAny_load ho ?_)
      rw[hc,hd]
      show wpAny M A (if (["enumerate", "zip", "dict_itemiterator", "dict_reverseitemiterator", "odict_iterator", "itertools.zip_longest", "itertools.pairwise"].contains n&&vs[0]? == some (rawInt _))=true then _ else _) Q E s
      rw[if_neg (by intro h;rw[hn,Bool.false_and] at h;cases h)]
      exact wpAny_pure hQ))
noncomputable def Itl (K:PySem.W.Frag) (a:Addr):It :=
 ⟨fun i H=>∃ xs x,SqL K H a xs∧xs[i]?=some x,fun i H x H'=>H'=H∧∀ xs,SqL K H a xs→xs[i]?=some x,fun i H=>∃ xs,SqL K H a xs∧xs.length≤i⟩
noncomputable def Itr (lo:Int) (n:Nat):It:=⟨fun i _=>i<n,fun i H x H'=>H'=H∧x=.int (lo+i),fun i _=>n≤i⟩
theorem Zv {P:Program}{w:World}{K:PySem.W.Frag}{tg:Expr} (a it:Addr):Turn P w K tg (Itl K a) [it] it (fun i h=>h.IsListIter it a i) where
 mem:=by simp
 obj:=fun i h st b hb=>by
  have e:b=it:=by simpa using hb
  subst e
  obtain⟨o,e,c,d⟩:=st
  exact⟨o,e,fun v z=>by rw[d] at z;cases z⟩
 keep:=fun i h h' st k=>st.at fun o e=>k it (by simp) o e
 item:=by
  intro X hP hw hK hc i pins s σ H E I hf st hg
  subst hP hw hK
  obtain⟨xs,x,hq,hx⟩:=hg
  obtain⟨its,rv,p,hz⟩:=I.list hq
  obtain⟨u,hu,ru⟩:=rv.get hx
  obtain⟨f0,f1,f2,f3,f4,f5⟩:=hf it (by simp)
  refine wpAny_pyNext_list_item st p.isList (x:=u) (by simpa using hu) fun h' st' sb=>?_
  have I1:Inv X pins σ H { s with heap:=h' }:=I.turned (t':=s.toks) (fun b o hb e=>(sb.2 b hb).trans e) f0 f1 f3 f4 f5
  obtain⟨o,e,c,d⟩:=id st'
  exact⟨u,rfl,zii (s:={ s with heap:=h' }) e c d (by decide) ⟨x,H,I1,ru,⟨rfl,fun ys hy=>by rw[I.list_inj hy hq];exact hx⟩,st',fun b hb=>(hf b hb).1⟩⟩
 done:=by
  intro X hP hw hK hc i pins s σ H E I hf st hg
  subst hP hw hK
  obtain⟨xs,hq,hx⟩:=hg
  obtain⟨its,rv,p,hz⟩:=I.list hq
  obtain⟨f0,f1,f2,f3,f4,f5⟩:=hf it (by simp)
  have hl:=rv.length
  exact wpAny_pyNext_list_end (I.ok.hd hc) st p.isList (by simp;omega) fun h' eb=>⟨rfl,I.turned (t':=s.toks) (fun b o hb e=>eb b o hb e) f0 f1 f3 f4 f5⟩
 self:=fun _ _ _ _ _ st h=>wpAny_pyIter_listiter st h
theorem uU {P:Program}{w:World}{K:PySem.W.Frag}{tg:Expr}(it:Addr) (lo:Int) (n:Nat):Turn P w K tg (Itr lo n) [it] it (fun i h=>IsRangeIter h it (lo+(i:Nat)*1) ((n:Int)-(i:Nat)) 1) where
 mem:=by simp
 obj:=fun i h st b hb=>by
  have e:b=it:=by simpa using hb
  subst e
  exact⟨_,st,fun v z=>by
   have z':Data.fields _=Data.cell v:=z
   cases z'⟩
 keep:=fun i h h' st k=>k it (by simp) _ st
 item:=by
  intro X hP hw hK hc i pins s σ H E I hf st hg
  subst hP hw hK
  obtain⟨f0,f1,f2,f3,f4,f5⟩:=hf it (by simp)
  have W:=Walks.range (prog:=X.prog) (w:=X.w) (I.ok.hd hc) it lo 1 n
  refine W.item i s _ _ hg st fun v h' tk hv st' kk=>?_
  obtain⟨t,rfl⟩:=hv
  have I1:Inv X pins σ H { s with heap:=h',toks:=tk }:=I.turned (fun b o hb e=>kk b o (by simpa using hb) e) f0 f1 f3 f4 f5
  refine⟨_,rfl,zii (s:={ s with heap:=h',toks:=tk }) (n := "range_iterator") st' rfl rfl (by decide) ⟨.int (lo+i),H,I1,⟨t,?_⟩,⟨rfl,rfl⟩,st',fun b hb=>(hf b hb).1⟩⟩
  rw[Int.mul_one]
 done:=by
  intro X hP hw hK hc i pins s σ H E I hf st hg
  subst hP hw hK
  obtain⟨f0,f1,f2,f3,f4,f5⟩:=hf it (by simp)
  exact wpAny_pyNext_range_end (I.ok.hd hc) st (by have:n≤i:=hg;omega) fun h' eb=>⟨rfl,I.turned (t':=s.toks) (fun b o hb e=>eb b o hb e) f0 f1 f3 f4 f5⟩
 self:=fun _ _ _ _ _ st h=>wpAny_pyIter_rangeiter st h
end L2
namespace L2
open PySem PySem.Spec PyProof.Rows
section
variable {X:Cx}{tg:Expr}
def zig (K:PySem.W.Frag) (tl:TE):TI:=fun σ H R=>tl σ H fun x H1=>∃ a,x=.ref a∧(∃ xs,SqL K H1 a xs)∧R (Itl K a) H1
theorem xH {l:Expr}{tl:TE}(hl:PE X l tl):PI X tg l (zig X.K tl):=by
 intro pins s σ H R I h
 refine thn (hl pins s σ H _ I h) fun v s1 hq0=>?_
 obtain⟨x,H1,I1,r1,q1⟩:=hq0
 obtain⟨a,e,⟨xs,hq⟩,q⟩:=q1
 subst e
 cases r1
 obtain⟨its,rv,p,hz⟩:=I1.list hq
 refine wpAny_pyIter_list p.isList ?_
 refine⟨s1.heap.objs.size,[s1.heap.objs.size],_,_,H1,rfl,I1.kept (t':=s1.toks) fun b o e=>Heap.get?_push_of_some _ e,Zv a _,⟨_,Heap.get?_push_size _ rfl,rfl,rfl⟩,fun b hb=>?_,q⟩
 have e:b=s1.heap.objs.size:=by simpa using hb
 subst e
 exact I1.fpOk (Nat.le_refl _) (I1.hok.fresh (Nat.le_refl _))
theorem uB {pins:List (Addr×Obj)}{σ:St}{H:Hp}{s:Shared}{R:It→Hp→Prop}{E:Value→Shared→Prop}{lo hi:Int}{t u v:Tok}{tk:Nat}(I:Inv X pins σ H s) (h1 : -(2 ^ 62)≤lo) (h2:lo<2 ^ 62) (h3 : -(2 ^ 62)≤hi) (h4:hi<2 ^ 62)
  (q:R (Itr lo (hi-lo).toNat) H):wpAny (model X.prog X.w) X.A (pyIter (.ref s.heap.objs.size)) (PIE X pins σ tg R) E { s with heap:=s.heap.push { cls:=.type "range",data:=.fields #[.int lo t,.int hi u,.int 1 v] },toks:=tk }:=by
 refine wpAny_pyIter_range (IsRange.new ..) (small_one h1 h2 h3 h4) ?_
 have I1:Inv X pins σ H { s with heap:=s.heap.push { cls:=.type "range",data:=.fields #[.int lo t,.int hi u,.int 1 v] },toks:=tk }:=I.kept fun b o e=>Heap.get?_push_of_some _ e
 refine⟨(s.heap.push { cls:=.type "range",data:=.fields #[.int lo t,.int hi u,.int 1 v] }).objs.size,[(s.heap.push { cls:=.type "range",data:=.fields #[.int lo t,.int hi u,.int 1 v] }).objs.size],_,_,H,rfl,
  I1.kept (t':=tk) fun b o e=>Heap.get?_push_of_some _ e,uU _ lo (hi-lo).toNat,?_,fun b hb=>?_,q⟩
 ·have e1:lo+((0:Nat):Int)*1=lo:=by simp
  have e2:(((hi-lo).toNat:Nat):Int)-((0:Nat):Int)=Builtin.Range.rangeSize lo hi 1:=by rw[rangeSize_one];split<;>omega
  show IsRangeIter _ _ (lo+((0:Nat):Int)*1) ((((hi-lo).toNat:Nat):Int)-((0:Nat):Int)) 1
  rw[e1,e2]
  exact Heap.get?_push_size _ rfl
 ·have e:b=(s.heap.push { cls:=.type "range",data:=.fields #[.int lo t,.int hi u,.int 1 v] }).objs.size:=by simpa using hb
  subst e
  exact I1.fpOk (Nat.le_refl _) (I1.hok.fresh (Nat.le_refl _))
def zif (ta:TA):TI:=fun σ H R=>ta σ H fun vs H1=>∃ j:Int,vs=[.int j]∧-(2 ^ 62)≤j∧j<2 ^ 62∧R (Itr 0 j.toNat) H1
def zie (ta:TA):TI:=fun σ H R=>ta σ H fun vs H1=>∃ i j:Int,vs=[.int i,.int j]∧(-(2 ^ 62)≤i∧i<2 ^ 62∧-(2 ^ 62)≤j∧j<2 ^ 62)∧R (Itr i (j-i).toNat) H1
theorem YE {a:Expr}{ta:TA}{p pos:Pos}(hg:Gl X "range") (hm:X.mg "range" = none) (ha:PA X [a] ta) (hs:starEach [a] X.env=[(false,eval a X.env)]:=by rfl):PI X tg (.Call (.Name "range" p) [a] [] pos) (zif ta):=by
 intro pins s σ H R I h
 refine Call_ (ld_blt I hg hm boot_range (PyProof.Rows.callWith_type1 (thn (ha pos pins s σ H _ I h) fun us s1 hq0=>?_) hs rfl))
 obtain⟨vs,H1,I1,r1,q1⟩:=hq0
 obtain⟨j,e,q1,q2,q⟩:=q1
 subst e
 cases r1 with
 |cons r rr =>
  cases rr
  obtain⟨t,rfl⟩:=r
  exact call_range_1 (uB I1 (by omega) (by omega) q1 q2 (by simpa using q))
theorem YD {a b:Expr}{ta:TA}{p pos:Pos}(hg:Gl X "range") (hm:X.mg "range" = none) (ha:PA X [a,b] ta) (hs:starEach [a,b] X.env=[(false,eval a X.env),(false,eval b X.env)]:=by rfl) (hs2:starEach [b] X.env=[(false,eval b X.env)]:=by rfl) :
  PI X tg (.Call (.Name "range" p) [a,b] [] pos) (zie ta):=by
 intro pins s σ H R I h
 refine Call_ (ld_blt I hg hm boot_range (PyProof.Rows.callWith_type1 (thn (ha pos pins s σ H _ I h) fun us s1 hq0=>?_) (by rw[hs,hs2]) (by rw[hs2];rfl)))
 obtain⟨vs,H1,I1,r1,q1⟩:=hq0
 obtain⟨i,j,e,⟨q1,q2,q3,q4⟩,q⟩:=q1
 subst e
 cases r1 with
 |cons r rr =>
  cases rr with
  |cons r' rr =>
   cases rr
   obtain⟨t,rfl⟩:=r
   obtain⟨t',rfl⟩:=r'
   exact call_range_2 (uB I1 q1 q2 q3 q4 q)
def zoh (wi:TI) (g:TG) (tb:TS):TS:=fun D σ H=>wi σ H fun J H1=>∃ W:Nat→Nat→St→Hp→Prop,(∃ m,W 0 m σ H1)∧∀ i m σ H,W i m σ H →
 (J.stop i H∧D.nx σ H)∨(J.go i H∧∃ N:St→Hp→Prop,(∀ σ' H',N σ' H'→∃ m',m'<m∧W (i+1) m' σ' H')∧∀ x H',J.yld i H x H'→g x σ H' fun σ2 H2=>tb { D with nx:=N,ct:=N,bk:=D.nx } σ2 H2)
noncomputable def vn (fp:List Addr) (h:Heap):List (Addr×Obj):=fp.filterMap fun b=>(h.get? b).map fun o=>(b,o)
theorem yE {fp:List Addr}{h:Heap}{b:Addr}{o:Obj}(hb:b∈fp) (e:h.get? b=some o):(b,o)∈vn fp h:=List.mem_filterMap.mpr ⟨b,hb,by rw[e];rfl⟩
theorem YT {fp:List Addr}{h:Heap}{p:Addr×Obj}(hp:p∈vn fp h):p.1∈fp∧h.get? p.1=some p.2:=by
 obtain⟨b,hb,e⟩:=List.mem_filterMap.mp hp
 cases q:h.get? b with
 |none=>rw[q] at e;cases e
 |some o =>
  rw[q] at e
  have e':(b,o)=p:=Option.some.inj e
  subst e'
  exact⟨hb,q⟩
theorem Inv.pinned {pins:List (Addr×Obj)}{σ:St}{H:Hp}{s:Shared}{fp:List Addr}(I:Inv X pins σ H s) (hf:∀ b∈fp,FpOk X pins H b) (ho:∀ b∈fp,∃ o,s.heap.get? b=some o∧∀ v,o.data≠.cell v):Inv X (pins++vn fp s.heap) σ H s :=
 I.pins_of fun p hp=>(List.mem_append.mp hp).elim (fun z=>I.pin p (List.mem_append_right _ z)) fun z=>by
  obtain⟨hb,e⟩:=YT z
  obtain⟨f0,f1,f2,_⟩:=hf p.1 hb
  obtain⟨o,e',d⟩:=ho p.1 hb
  rw[e] at e';cases e'
  exact⟨e,f0,f1,f2,d⟩
theorem Inv.unpinned {pins pl:List (Addr×Obj)}{σ:St}{H:Hp}{s:Shared}(I:Inv X (pins++pl) σ H s):Inv X pins σ H s:=I.pins_of fun p hp=>I.pin p (List.mem_append_right _ (List.mem_append_left _ hp))
theorem vm {iter:Expr}{body:List Stmt}{wi:TI}{g:TG}{tb:TS}{pos:Pos}(hp:PassesOwn (model X.prog X.w) X.A X.env X.xe) (hc:X.calm=true) (hi:PI X tg iter wi) (hg:PG X tg g) (hb:PSs X body tb)
  (hs:∀ x,foldedSetIterable iter X.env x=pure x:=by intro _;rfl):PS X (.For tg iter body [] pos) (zoh wi g tb):=by
 intro pins s σ H D I h
 refine wpAny_For (thn (hi pins s σ H _ I h) fun v s1 h1=>thn h1 fun itv s2 h2=>?_) hs
 obtain⟨it,fp,tn,J,H2,e,I2,T,st2,f2,W,⟨m0,w0⟩,turn⟩:=h2
 subst e
 -- what stays true of the iterator's objects through the loop
 have stat:∀ {H':Hp},(∀ b∈fp,H' b=none)→∀ b∈fp,FpOk X pins H' b:=fun hn b hb=>⟨hn b hb,(f2 b hb).2⟩
 refine codeAny_forLoop_any (fun n s'=>∃ i σ' H',Inv X pins σ' H' s'∧tn i s'.heap∧(∀ b∈fp,H' b=none)∧W i n σ' H') ?_ m0 ⟨0,σ,H2,I2,st2,fun b hb=>(f2 b hb).1,w0⟩
 rintro n s3 ⟨i,σ3,H3,I3,st3,fr3,w3⟩
 rcases turn i n σ3 H3 w3 with⟨stop,qn⟩ | ⟨go,N,hN,step⟩
 ·refine wpAny_passesOwn hp (thn (T.done X rfl rfl rfl hc i pins s3 σ3 H3 X.xe I3 (stat fr3) st3 stop) fun r s4 ⟨hr,I4⟩=>?_)
  subst hr
  exact wpAny_execs_nil ⟨σ3,H3,I4,qn⟩
 ·refine wpAny_passesOwn hp (thn (T.item X rfl rfl rfl hc i pins s3 σ3 H3 X.xe I3 (stat fr3) st3 go) fun r s4 ⟨u,hr,h4⟩=>?_)
  subst hr
  refine wpAny_passesOwn hp (thn h4 fun _ s5 hq0=>?_)
  obtain⟨x,H5,I5,r5,y5,st5,fr5⟩:=hq0
  have I5':=I5.pinned (stat fr5) (T.obj _ _ st5)
  refine wpAny_passesOwn hp (thn (hg _ s5 σ3 H5 x u _ I5' r5 (step x H5 y5)) fun _ s6 hq0=>?_)
  obtain⟨σ6,H6,I6,q6⟩:=hq0
  refine wpAny_passesOwn hp (thn (hb _ s6 σ6 H6 _ I6 q6) fun f s7 q7=>?_)
  have again:∀ {σ7:St}{H7:Hp},Inv X (pins++vn fp s5.heap) σ7 H7 s7→N σ7 H7→∃ m,m<n∧∃ i σ' H',Inv X pins σ' H' s7∧tn i s7.heap∧(∀ b∈fp,H' b=none)∧W i m σ' H':=fun {σ7 H7} I7 n7=>by
   obtain⟨m',hm,w7⟩:=hN σ7 H7 n7
   refine⟨m',hm,i+1,σ7,H7,I7.unpinned,T.keep _ _ _ st5 fun b hb o e=>(I7.pin (b,o) (List.mem_append_right _ (List.mem_append_right _ (yE hb e)))).1,fun b hb=>?_,w7⟩
   obtain⟨o,e,d⟩:=T.obj _ _ st5 b hb
   exact(I7.pin (b,o) (List.mem_append_right _ (List.mem_append_right _ (yE hb e)))).2.1
  cases f with
  |next=>obtain⟨σ7,H7,I7,n7⟩:=q7;exact again I7 n7
  |cont=>obtain⟨σ7,H7,I7,n7⟩:=q7;exact again I7 n7
  |brk=>obtain⟨σ7,H7,I7,q7⟩:=q7;exact⟨σ7,H7,I7.unpinned,q7⟩
  |ret v=>obtain⟨x7,σ7,H7,I7,r7,q7⟩:=q7;exact⟨x7,σ7,H7,I7.unpinned,r7,q7⟩
end
theorem zY {K:PySem.W.Frag}{a:Addr}{xs:List V}{g:TG}{tb:TS}{D:Ends}{σ:St}{H:Hp}(Pv:Nat→St→Hp→Prop) (h0:Pv 0 σ H) (hl:∀ i σ H,i≤xs.length→Pv i σ H→SqL K H a xs)
  (hs:∀ i x σ H,xs[i]?=some x→Pv i σ H→g x σ H fun σ2 H2=>tb { D with nx:=Pv (i+1),ct:=Pv (i+1),bk:=D.nx } σ2 H2) (hd:∀ σ H,Pv xs.length σ H→D.nx σ H) :
  ∃ W:Nat→Nat→St→Hp→Prop,(∃ m,W 0 m σ H)∧∀ i m σ H,W i m σ H →
   ((Itl K a).stop i H∧D.nx σ H)∨((Itl K a).go i H∧∃ N:St→Hp→Prop,(∀ σ' H',N σ' H'→∃ m',m'<m∧W (i+1) m' σ' H')∧∀ x H',(Itl K a).yld i H x H'→g x σ H' fun σ2 H2=>tb { D with nx:=N,ct:=N,bk:=D.nx } σ2 H2):=by
 refine⟨fun i m σ H=>m=xs.length-i∧i≤xs.length∧Pv i σ H,⟨xs.length,by simp,Nat.zero_le _,h0⟩,?_⟩
 rintro i m σ H ⟨rfl,hi,p⟩
 have q:=hl i σ H hi p
 by_cases hlt:i<xs.length
 ·refine .inr ⟨⟨xs,xs[i],q,by simp[hlt]⟩,Pv (i+1),fun σ' H' p'=>⟨xs.length-(i+1),by omega,rfl,hlt,p'⟩,fun x H' y=>?_⟩
  obtain⟨e,y⟩:=y
  subst e
  exact hs i x σ _ (y xs q) p
 ·have e:i=xs.length:=by omega
  subst e
  exact .inl ⟨⟨xs,q,Nat.le_refl _⟩,hd σ H p⟩
theorem for_range {lo:Int}{n:Nat}{g:TG}{tb:TS}{D:Ends}{σ:St}{H:Hp}(Pv:Nat→St→Hp→Prop) (h0:Pv 0 σ H)
  (hs:∀ i σ H,i<n→Pv i σ H→g (.int (lo+i)) σ H fun σ2 H2=>tb { D with nx:=Pv (i+1),ct:=Pv (i+1),bk:=D.nx } σ2 H2) (hd:∀ σ H,Pv n σ H→D.nx σ H) :
  ∃ W:Nat→Nat→St→Hp→Prop,(∃ m,W 0 m σ H)∧∀ i m σ H,W i m σ H →
   ((Itr lo n).stop i H∧D.nx σ H)∨((Itr lo n).go i H∧∃ N:St→Hp→Prop,(∀ σ' H',N σ' H'→∃ m',m'<m∧W (i+1) m' σ' H')∧∀ x H',(Itr lo n).yld i H x H'→g x σ H' fun σ2 H2=>tb { D with nx:=N,ct:=N,bk:=D.nx } σ2 H2):=by
 refine⟨fun i m σ H=>m=n-i∧i≤n∧Pv i σ H,⟨n,by simp,Nat.zero_le _,h0⟩,?_⟩
 rintro i m σ H ⟨rfl,hi,p⟩
 by_cases hlt:i<n
 ·refine .inr ⟨hlt,Pv (i+1),fun σ' H' p'=>⟨n-(i+1),by omega,rfl,hlt,p'⟩,fun x H' y=>?_⟩
  obtain⟨e,y⟩:=y
  subst e y
  exact hs i σ _ hlt p
 ·have e:i=n:=by omega
  subst e
  exact .inl ⟨Nat.le_refl _,hd σ H p⟩
end L2
namespace L2
open PySem PySem.Spec PyProof.Rows
abbrev R2:=V→V→Hp→VK→Prop
def OpR (X:Cx) (f:Value→Value→Sem Value) (r:R2):Prop :=
 ∀ (pins:List (Addr×Obj)) (s:Shared) (σ:St) (H:Hp) (x y:V) (v u:Value) (Q:VK),Inv X pins σ H s→RelV x v→RelV y u→r x y H Q →
  wpAny (model X.prog X.w) X.A (f v u) (EP X pins σ Q) X.xe s
noncomputable def UnR (X:Cx) (f:Value→Sem Value) (r:V→Hp→VK→Prop):Prop :=
 ∀ (pins:List (Addr×Obj)) (s:Shared) (σ:St) (H:Hp) (x:V) (v:Value) (Q:VK),Inv X pins σ H s→RelV x v→r x H Q →
  wpAny (model X.prog X.w) X.A (f v) (EP X pins σ Q) X.xe s
noncomputable def yC (X:Cx) (f:Value) (r:List V→Hp→VK→Prop):Prop :=
 ∀ (pins:List (Addr×Obj)) (s:Shared) (σ:St) (H:Hp) (xs:List V) (us:List Value) (Q:VK),Inv X pins σ H s→Vals xs us→r xs H Q →
  wpAny (model X.prog X.w) X.A (call f us) (EP X pins σ Q) X.xe s
def tOp (r:R2) (ta tb:TE):TE:=fun σ H Q=>ta σ H fun x H1=>tb σ H1 fun y H2=>r x y H2 Q
def tUn (r:V→Hp→VK→Prop) (ta:TE):TE:=fun σ H Q=>ta σ H fun x H1=>r x H1 Q
def rI (C:Int→Int→Prop) (g:Int→Int→V):R2:=fun x y H Q=>∃ i j,x=.int i∧y=.int j∧C i j∧Q (g i j) H
def rI0 (g:Int→Int→V):R2:=fun x y H Q=>∃ i j,x=.int i∧y=.int j∧Q (g i j) H
def rU (g:Int→V):V→Hp→VK→Prop:=fun x H Q=>∃ i,x=.int i∧Q (g i) H
section
variable {X:Cx}{a b c:Expr}{ta tb tc:TE}{pos:Pos}
theorem binT (ha:PE X a ta) (hb:PE X b tb){pins:List (Addr×Obj)}{s:Shared}{σ:St}{H:Hp}{R:V→V→Hp→Prop}(I:Inv X pins σ H s)
  (h:ta σ H fun x H1=>tb σ H1 fun y H2=>R x y H2){Q:Value→Shared→Prop}{f:Value→Value→Sem Value}
  (hf:∀ v u s2 x y H2,Inv X pins σ H2 s2→RelV x v→RelV y u→R x y H2→wpAny (model X.prog X.w) X.A (f v u) Q X.xe s2) :
  wpAny (model X.prog X.w) X.A (eval a X.env) (fun v s₁=>wpAny (model X.prog X.w) X.A (eval b X.env) (fun u s₂=>wpAny (model X.prog X.w) X.A (f v u) Q X.xe s₂) X.xe s₁) X.xe s:=by
 refine thn (ha pins s σ H _ I h) fun v s1 hq0=>?_
 obtain⟨x,H1,I1,r1,q1⟩:=hq0
 refine thn (hb pins s1 σ H1 _ I1 q1) fun u s2 hq0=>?_
 obtain⟨y,H2,I2,r2,q2⟩:=hq0
 exact hf v u s2 x y H2 I2 r1 r2 q2
theorem zmW {op:Operator}{r:R2}(ho:OpR X (binaryOp op) r) (ha:PE X a ta) (hb:PE X b tb):PE X (.BinOp a op b pos) (tOp r ta tb):=by
 intro pins s σ H Q I h
 exact wpAny_BinOp (binT ha hb I h fun v u s2 x y H2 I2 rx ry q=>ho pins s2 σ H2 x y v u Q I2 rx ry q)
theorem zgd {op:UnaryOp}{r:V→Hp→VK→Prop}(ho:UnR X (unaryOp op) r) (ha:PE X a ta):PE X (.UnaryOp op a pos) (tUn r ta):=by
 intro pins s σ H Q I h
 exact UnaryOp_ (thn (ha pins s σ H _ I h) fun v s1 ⟨x,H1,I1,r1,q1⟩=>ho pins s1 σ H1 x v Q I1 r1 q1)
theorem opI {f:Value→Value→Sem Value}{C:Int→Int→Prop}{g:Int→Int→Int}
  (rule:∀ (i j:Int) (t u:Tok) (s:Shared) (Q:Value→Shared→Prop) (E:Value→Shared→Prop),C i j→Q (.int (g i j) s.toks) { s with toks:=s.toks+1 }→wpAny (model X.prog X.w) X.A (f (.int i t) (.int j u)) Q E s) :
  OpR X f (rI C fun i j=>.int (g i j)):=by
 intro pins s σ H x y v u Q I rx ry h
 obtain⟨i,j,rfl,rfl,hc,q⟩:=h
 obtain⟨t,rfl⟩:=rx
 obtain⟨t',rfl⟩:=ry
 exact rule i j t t' s _ _ hc ⟨.int (g i j),H,I.tok _,⟨_,rfl⟩,q⟩
theorem zu4 {f:Value→Value→Sem Value}{g:Int→Int→Int}
  (rule:∀ (i j:Int) (t u:Tok) (s:Shared) (Q:Value→Shared→Prop) (E:Value→Shared→Prop),Q (.int (g i j) s.toks) { s with toks:=s.toks+1 }→wpAny (model X.prog X.w) X.A (f (.int i t) (.int j u)) Q E s) :
  OpR X f (rI0 fun i j=>.int (g i j)):=by
 intro pins s σ H x y v u Q I rx ry h
 obtain⟨i,j,rfl,rfl,q⟩:=h
 obtain⟨t,rfl⟩:=rx
 obtain⟨t',rfl⟩:=ry
 exact rule i j t t' s _ _ ⟨.int (g i j),H,I.tok _,⟨_,rfl⟩,q⟩
theorem zix {f:Value→Value→Sem Value}{g:Int→Int→Bool}
  (rule:∀ (i j:Int) (t u:Tok) (s:Shared) (Q:Value→Shared→Prop) (E:Value→Shared→Prop),Q (.bool (g i j)) s→wpAny (model X.prog X.w) X.A (f (.int i t) (.int j u)) Q E s) :
  OpR X f (rI0 fun i j=>.bl (g i j)):=by
 intro pins s σ H x y v u Q I rx ry h
 obtain⟨i,j,rfl,rfl,q⟩:=h
 obtain⟨t,rfl⟩:=rx
 obtain⟨t',rfl⟩:=ry
 exact rule i j t t' s _ _ ⟨.bl (g i j),H,I,rfl,q⟩
def zxF (i j:Int):Prop:=0≤j∧j≤1000000∧i.natAbs<2 ^ 64
def CMul (i j:Int):Prop:=(-(2 ^ 64)<i∧i<2 ^ 64)∨(-(2 ^ 64)<j∧j<2 ^ 64)
theorem CMul.ok {i j:Int}(h:CMul i j):IntMulOk i j:=by
 rcases h with⟨h1,h2⟩ | ⟨h1,h2⟩
 ·exact .of_left (intBits_le_64 h1 h2)
 ·exact .of_right (intBits_le_64 h1 h2)
theorem yf:OpR X (binaryOp .Add) (rI0 fun i j=>.int (i+j)):=zu4 fun _ _ _ _ _ _ _ q=>add_int q
theorem ya:OpR X (binaryOp .Sub) (rI0 fun i j=>.int (i-j)):=zu4 fun _ _ _ _ _ _ _ q=>sub_int q
theorem wg:OpR X (binaryOp .Mult) (rI CMul fun i j=>.int (i*j)):=opI fun _ _ _ _ _ _ _ hc q=>mul_int q hc.ok
theorem yW:OpR X (binaryOp .Mod) (rI (fun _ j=>0<j) fun i j=>.int (i%j)):=opI fun i j _ _ _ _ _ hc q=>by
 have h1:(0:Int)<j:=hc
 exact mod_int' (by omega) (by rw[Int.fmod_eq_emod_of_nonneg i (by omega)];exact q)
theorem yV:OpR X (binaryOp .Pow) (rI zxF fun i j=>.int (i ^ j.toNat)):=opI fun _ _ _ _ _ _ _ hc q=>pow_int_small hc.1 hc.2.1 hc.2.2 q
theorem unI {f:Value→Sem Value}{g:Int→Int}
  (rule:∀ (i:Int) (t:Tok) (s:Shared) (Q:Value→Shared→Prop) (E:Value→Shared→Prop),Q (.int (g i) s.toks) { s with toks:=s.toks+1 }→wpAny (model X.prog X.w) X.A (f (.int i t)) Q E s) :
  UnR X f (rU fun i=>.int (g i)):=by
 intro pins s σ H x v Q I rx h
 obtain⟨i,rfl,q⟩:=h
 obtain⟨t,rfl⟩:=rx
 exact rule i t s _ _ ⟨.int (g i),H,I.tok _,⟨_,rfl⟩,q⟩
theorem va:UnR X (unaryOp .USub) (rU fun i=>.int (-i)):=unI fun _ _ _ _ _ q=>neg_int q
end
noncomputable def zuX:V→V→Bool
 |.non,.non=>true | .non,.int _=>true | .int _,.non=>true | .non,.bl _=>true | .bl _,.non=>true | .non,.str _=>true | .str _,.non=>true
 |.int _,.int _=>true | .bl _,.bl _=>true | .str _,.str _=>true | .byt _,.byt _=>true
 |.int _,.str _=>true | .str _,.int _=>true | .bl _,.str _=>true | .str _,.bl _=>true
 |_,_=>false
def rEq:R2:=fun x y H Q=>zuX x y=true∧Q (.bl (decide (x=y))) H
def rNe:R2:=fun x y H Q=>zuX x y=true∧Q (.bl (!decide (x=y))) H
theorem Xy {i j:Int}:decide (V.int i=V.int j)=(i == j):=by
 rw[Bool.eq_iff_iff]
 simp
theorem Vm {i j:Bool}:decide (V.bl i=V.bl j)=(i == j):=by
 rw[Bool.eq_iff_iff]
 simp
theorem Xx {i j:Str}:decide (V.str i=V.str j)=(i == j):=by
 rw[Bool.eq_iff_iff]
 simp
theorem Xz {i j:Array UInt8}:decide (V.byt i=V.byt j)=(i.toList == j.toList):=by
 rw[Bool.eq_iff_iff]
 cases i
 cases j
 simp
section
variable {X:Cx}{a b c:Expr}{ta tb tc:TE}{pos:Pos}
theorem zE {pins:List (Addr×Obj)}{σ:St}{H:Hp}{s:Shared}{Q:VK}{k k':Bool}(I:Inv X pins σ H s) (q:Q (.bl k) H) (e:k=k'):EP X pins σ Q (.bool k') s:=by
 subst e
 exact⟨.bl k,H,I,rfl,q⟩
theorem yu:OpR X (compareOp .Eq) rEq:=by
 intro pins s σ H x y v u Q I rx ry h
 obtain⟨hs,q⟩:=h
 cases x with
 |non =>
  cases rx
  cases y with
  |non=>cases ry;exact PySem.EqNone.eq_none_none (zE I q (by simp))
  |bl j=>cases ry;exact PySem.EqNone.eq_none_bool (zE I q (by simp))
  |int j=>obtain⟨t',rfl⟩:=ry;exact PySem.EqNone.eq_none_int (zE I q (by simp))
  |str j=>obtain⟨t',rfl⟩:=ry;exact PySem.EqNone.eq_none_str (zE I q (by simp))
  |_=>exact absurd (show false=true from hs) Bool.false_ne_true
 |bl i =>
  cases rx
  cases y with
  |non=>cases ry;exact PySem.EqNone.eq_bool_none (zE I q (by simp))
  |bl j=>cases ry;exact eq_bool (zE I q Vm)
  |str j=>obtain⟨t',rfl⟩:=ry;exact PySem.EqMixed.eq_bool_str (zE I q (by simp))
  |_=>exact absurd (show false=true from hs) Bool.false_ne_true
 |int i =>
  obtain⟨t,rfl⟩:=rx
  cases y with
  |non=>cases ry;exact PySem.EqNone.eq_int_none (zE I q (by simp))
  |int j=>obtain⟨t',rfl⟩:=ry;exact eq_int (zE I q Xy)
  |str j=>obtain⟨t',rfl⟩:=ry;exact PySem.EqMixed.eq_int_str (zE I q (by simp))
  |_=>exact absurd (show false=true from hs) Bool.false_ne_true
 |str i =>
  obtain⟨t,rfl⟩:=rx
  cases y with
  |non=>cases ry;exact PySem.EqNone.eq_str_none (zE I q (by simp))
  |bl j=>cases ry;exact PySem.EqMixed.eq_str_bool (zE I q (by simp))
  |int j=>obtain⟨t',rfl⟩:=ry;exact PySem.EqMixed.eq_str_int (zE I q (by simp))
  |str j=>obtain⟨t',rfl⟩:=ry;exact eq_str (zE I q Xx)
  |_=>exact absurd (show false=true from hs) Bool.false_ne_true
 |byt i =>
  obtain⟨t,rfl⟩:=rx
  cases y with
  |byt j=>obtain⟨t',rfl⟩:=ry;exact PySem.W.eq_bytes (zE I q Xz)
  |_=>exact absurd (show false=true from hs) Bool.false_ne_true
 |_=>cases y<;>exact absurd (show false=true from hs) Bool.false_ne_true
theorem zgm:OpR X (compareOp .NotEq) rNe:=by
 intro pins s σ H x y v u Q I rx ry h
 obtain⟨hs,q⟩:=h
 cases x with
 |non =>
  cases rx
  cases y with
  |non=>cases ry;exact PySem.EqNone.ne_none_none (zE I q (by simp))
  |bl j=>cases ry;exact PySem.EqNone.ne_none_bool (zE I q (by simp))
  |int j=>obtain⟨t',rfl⟩:=ry;exact PySem.EqNone.ne_none_int (zE I q (by simp))
  |str j=>obtain⟨t',rfl⟩:=ry;exact PySem.EqNone.ne_none_str (zE I q (by simp))
  |_=>exact absurd (show false=true from hs) Bool.false_ne_true
 |bl i =>
  cases rx
  cases y with
  |non=>cases ry;exact PySem.EqNone.ne_bool_none (zE I q (by simp))
  |bl j=>cases ry;exact ne_bool (zE I q (congrArg not Vm))
  |str j=>obtain⟨t',rfl⟩:=ry;exact PySem.EqMixed.ne_bool_str (zE I q (by simp))
  |_=>exact absurd (show false=true from hs) Bool.false_ne_true
 |int i =>
  obtain⟨t,rfl⟩:=rx
  cases y with
  |non=>cases ry;exact PySem.EqNone.ne_int_none (zE I q (by simp))
  |int j=>obtain⟨t',rfl⟩:=ry;exact ne_int (zE I q (congrArg not Xy))
  |str j=>obtain⟨t',rfl⟩:=ry;exact PySem.EqMixed.ne_int_str (zE I q (by simp))
  |_=>exact absurd (show false=true from hs) Bool.false_ne_true
 |str i =>
  obtain⟨t,rfl⟩:=rx
  cases y with
  |non=>cases ry;exact PySem.EqNone.ne_str_none (zE I q (by simp))
  |bl j=>cases ry;exact PySem.EqMixed.ne_str_bool (zE I q (by simp))
  |int j=>obtain⟨t',rfl⟩:=ry;exact PySem.EqMixed.ne_str_int (zE I q (by simp))
  |str j=>obtain⟨t',rfl⟩:=ry;exact ne_str (zE I q (congrArg not Xx))
  |_=>exact absurd (show false=true from hs) Bool.false_ne_true
 |byt i =>
  obtain⟨t,rfl⟩:=rx
  cases y with
  |byt j=>obtain⟨t',rfl⟩:=ry;exact PySem.W.ne_bytes (zE I q (congrArg not Xz))
  |_=>exact absurd (show false=true from hs) Bool.false_ne_true
 |_=>cases y<;>exact absurd (show false=true from hs) Bool.false_ne_true
theorem xI:OpR X (compareOp .Lt) (rI0 fun i j=>.bl (decide (i<j))):=zix fun _ _ _ _ _ _ _ q=>lt_int q
theorem zgn:OpR X (compareOp .LtE) (rI0 fun i j=>.bl (decide (i≤j))):=zix fun _ _ _ _ _ _ _ q=>le_int q
theorem op_gt:OpR X (compareOp .Gt) (rI0 fun i j=>.bl (decide (j<i))):=zix fun _ _ _ _ _ _ _ q=>gt_int q
theorem zgo:OpR X (compareOp .GtE) (rI0 fun i j=>.bl (decide (j≤i))):=zix fun _ _ _ _ _ _ _ q=>ge_int q
theorem VX:OpR X (compareOp .IsNot) (fun x y H Q=>y=.non∧Q (.bl (!decide (x=.non))) H):=by
 intro pins s σ H x y v u Q I rx ry h
 obtain⟨rfl,q⟩:=h
 cases ry
 refine isnot_none_gen (zE I q ?_)
 cases x<;>first
  |(cases rx;rfl)
  |(obtain⟨t,rfl⟩:=rx;rfl)
theorem zw (b:Expr){op:CmpOp}(h:op≠.In:=by decide) (h2:op≠.NotIn:=by decide):behindInMarks op b=false:=by
 have e1:(op == CmpOp.In)=false:=by cases op<;>first | rfl | exact absurd rfl h
 have e2:(op == CmpOp.NotIn)=false:=by cases op<;>first | rfl | exact absurd rfl h2
 cases b<;>simp[behindInMarks,e1,e2]
theorem wC {op:CmpOp}{r:R2}(ho:OpR X (compareOp op) r) (ha:PE X a ta) (hb:PE X b tb) (hm:behindInMarks op b=false):PE X (.Compare a [op] [b] pos) (tOp r ta tb):=by
 intro pins s σ H Q I h
 exact wpAny_Compare1 (binT ha hb I h fun v u s2 x y H2 I2 rx ry q=>ho pins s2 σ H2 x y v u Q I2 rx ry q) hm
def zaH (t:TE):TT:=fun σ H Q=>t σ H fun x H'=>∃ k,x=.bl k∧Q k H'
theorem xh {op:CmpOp}{r:R2}(ho:OpR X (compareOp op) r) (ha:PE X a ta) (hb:PE X b tb) (hm:behindInMarks op b=false):PT X (.Compare a [op] [b] pos) (zaH (tOp r ta tb)):=by
 intro pins s σ H Q I h
 refine wpAny_isTrue_Compare1 (thn (ha pins s σ H _ I h) fun v s1 ⟨x,H1,I1,r1,q1⟩=>thn (hb pins s1 σ H1 _ I1 q1) fun u s2 ⟨y,H2,I2,r2,q2⟩ =>
  thn (ho pins s2 σ H2 x y v u _ I2 r1 r2 q2) fun c s3 ⟨z,H3,I3,r3,k,e,q3⟩=>?_) hm
 subst e
 cases r3
 exact wpAny_truthy_bool ⟨H3,I3,q3⟩
theorem Xh:(sizeLine:Nat)<2 ^ 63:=by rw[sizeLine_eq];decide
theorem Zu {x:V}{us:List Value}(r:Vals [x] us):∃ u,us=[u]∧RelV x u:=by
 cases r with
 |cons r1 r2=>cases r2;exact⟨_,rfl,r1⟩
theorem zaB {x y:V}{us:List Value}(r:Vals [x,y] us):∃ u w',us=[u,w']∧RelV x u∧RelV y w':=by
 cases r with
 |cons r1 r2 =>
  cases r2 with
  |cons r3 r4=>cases r4;exact⟨_,_,rfl,r1,r3⟩
theorem WS:yC X (.builtin "abs") (fun xs H Q=>∃ i,xs=[.int i]∧Q (.int (if i<0 then -i else i)) H):=by
 intro pins s σ H xs us Q I r h
 obtain⟨i,rfl,q⟩:=h
 obtain⟨u,rfl,t,rfl⟩:=Zu r
 exact call_abs_int fun u tk=>⟨.int (if i<0 then -i else i),H,I.tok _,⟨_,rfl⟩,q⟩
theorem XE (hc:X.calm=true):yC X (.builtin "max") (fun xs H Q=>∃ i j,xs=[.int i,.int j]∧Q (.int (if j>i then j else i)) H):=by
 intro pins s σ H xs us Q I r h
 obtain⟨i,j,rfl,q⟩:=h
 obtain⟨u,w',rfl,⟨t,rfl⟩,⟨t',rfl⟩⟩:=zaB r
 refine max_two_ints (I.ok.hd hc) fun h' tk k=>⟨_,H,I.kept k,?_,q⟩
 by_cases hj:j>i
 ·rw[if_pos hj,if_pos hj];exact⟨_,rfl⟩
 ·rw[if_neg hj,if_neg hj];exact⟨_,rfl⟩
theorem xT (hc:X.calm=true):yC X (.builtin "min") (fun xs H Q=>∃ i j,xs=[.int i,.int j]∧Q (.int (if j<i then j else i)) H):=by
 intro pins s σ H xs us Q I r h
 obtain⟨i,j,rfl,q⟩:=h
 obtain⟨u,w',rfl,⟨t,rfl⟩,⟨t',rfl⟩⟩:=zaB r
 refine min_two_ints (I.ok.hd hc) fun h' tk k=>⟨_,H,I.kept k,?_,q⟩
 by_cases hj:j<i
 ·rw[if_pos hj,if_pos hj];exact⟨_,rfl⟩
 ·rw[if_neg hj,if_neg hj];exact⟨_,rfl⟩
theorem xq:yC X (.type "str") (fun xs H Q=>∃ i,xs=[.int i]∧i.natAbs.log2<1920∧Q (.str (toString i)) H):=by
 intro pins s σ H xs us Q I r h
 obtain⟨i,rfl,hz,q⟩:=h
 obtain⟨u,rfl,t,rfl⟩:=Zu r
 exact PySem.P.str_of_int hz ⟨.str _,H,I.tok _,⟨_,rfl⟩,q⟩
end
end L2
namespace L2
open PySem PySem.Spec PyProof.Rows
structure ObjM (h:Heap) (x dx C:Addr) (mA:Str→Option Value):Prop where
 obj:h.get? x=some (PySem.W.instObj C dx)
 ns:h.Ns1 dx mA
 ne:dx≠x
theorem Xf {h:Heap}{dx:Addr}{mA:Str→Option Value}(n:h.Ns1 dx mA):∃ od,h.get? dx=some od∧∀ name,PySem.W.lookIn name od=some (mA name):=by
 obtain⟨o,es,ep,ho,hd,hk,_,hm⟩:=n
 refine⟨o,ho,fun name=>?_⟩
 have e:=hm name
 unfold nsFind findBy at e
 rw[← Array.find?_toList] at e
 unfold PySem.W.lookIn
 rw[hd]
 dsimp only
 split
 ·rename_i y q
  rw[q] at e
  exact congrArg some e
 ·rename_i q
  rw[q] at e
  have a:es.toList.any (·.refKey)=false:=by
   rw[List.any_eq_false]
   intro y hy
   obtain⟨z,t,hkey⟩:=hk y (Array.mem_toList_iff.mp hy)
   simp[DictEntry.refKey,hkey]
  have a':¬ es.toList.any (·.refKey)=true:=by rw[a];exact Bool.false_ne_true
  rw[if_neg a']
  exact congrArg some e
theorem ObjM.look {h:Heap}{x dx C:Addr}{mA:Str→Option Value}(I:ObjM h x dx C mA):∃ od,PySem.W.InstAt h x (PySem.W.instObj C dx) C (some od)∧∀ name,PySem.W.lookIn name od=some (mA name) :=
 let ⟨od,ho,hl⟩:=Xf I.ns
 ⟨od,⟨I.obj,rfl,rfl,ho⟩,hl⟩
section
variable {prog:Program}{w:World}{A:Around}{E:Value→Shared→Prop}{s:Shared}{K:PySem.W.Frag}{x dx C f:Addr}{mA:Str→Option Value}{name:Str}{v:Value}
theorem zae {expr:Bool}{Q:Value→Shared→Prop}(X:K.In s.heap) (I:ObjM s.heap x dx C mA) (hg:PySem.W.plainGet K C name=true) (hh:PySem.W.hasDictIn K C=true)
  (ha:PySem.W.findIn K (.ref C) name=some none) (hv:mA name=some v) (hv':PySem.W.handedIn v=true) (h:Q v { s with toks:=s.toks+1 }) :
  wpAny (model prog w) A (getAttr (.ref x) name expr) Q E s:=by
 obtain⟨od,J,hl⟩:=I.look
 exact PySem.W.get_value X J (PySem.W.plainGet_of hg).1 (PySem.W.findObj_own hh ha rfl (by rw[hl,hv])) hv' h
theorem WM {pl:Sem Bool}{Q:Value×List Value→Shared→Prop}(X:K.In s.heap) (I:ObjM s.heap x dx C mA) (hg:PySem.W.plainGet K C name=true)
  (hf:PySem.W.findIn K (.ref C) name=some (some (.ref f))) (ht:PySem.W.isFn K (.ref f)=true) (hv:mA name=none) (h:Q (.ref f,[.ref x]) s) :
  wpAny (model prog w) A (getMethod (.ref x) name pl) Q E s:=by
 obtain⟨od,J,hl⟩:=I.look
 exact PySem.W.method_fn X J (PySem.W.plainGet_of hg).1 (PySem.W.plainGet_of hg).2 hf (beq_iff_eq.mp ht) (by show(PySem.W.lookIn name od).map (·.isSome)=some false;rw[hl,hv];rfl) h
theorem Vz {ns:List Str}{Q:Unit→Shared→Prop}(X:K.In s.heap) (I:ObjM s.heap x dx C mA)
  (hs:PySem.W.findIn K (.ref C) "__setattr__" = some (some (.builtin "object.__setattr__"))) (hp:PySem.W.plainOver K C=true) (ht:PySem.W.takerIn K C name=some none) (hh:PySem.W.hasDictIn K C=true)
  (hw:PySem.Within mA ns) (hsz:ns.length≤sizeLine)
  (h:∀ h',ObjM h' x dx C (fun y=>if y=name then some v else mA y)→Heap.SameBut dx s.heap h'→Q () { s with heap:=h',toks:=s.toks+2 }) :
  wpAny (model prog w) A (setAttr (.ref x) name v) Q E s:=by
 obtain⟨od,J,hl⟩:=I.look
 refine PySem.W.set_plain X J hs (PySem.W.osa_open (s:={ s with toks:=s.toks+1 }) (r:=none) X J hp ht fun b=>?_)
 obtain⟨cd,hc,hd'⟩:=PySem.W.any_some hh
 have hx:s.heap.get? x=some ⟨.ref C,some dx,.plain,#[]⟩:=I.obj
 refine wpAny_bind (wpAny_pure (wpAny_bind (wpAny_bind (wpAny_loadPart hx (wpAny_bind (PySem.W.Looks.here (s:={ s with toks:=s.toks+1 }) (PySem.W.looks_clsIn X hc) ?_))))))
 rw[hd']
 refine wpAny_pure (a:=some dx) (wpAny_bind (wpAny_pure (wpAny_bind ?_)))
 refine wpAny_nsSet1 (s:={ s with toks:=s.toks+1 }) I.ns fun h' hn2 hs2=>?_
 obtain⟨oD,esD,epD,hoD,hdD,hcD⟩:=hn2.count (PySem.Within.cons name v hw)
 refine wpAny_bind (wpAny_lookBehind hoD (by rw[hdD];exact pastItsLine_dict (Nat.le_trans hcD (by rw[List.length_cons];omega))) ?_)
 exact wpAny_pure (h _ ⟨(hs2.2 _ (Ne.symm I.ne)).trans I.obj,hn2,I.ne⟩ hs2)
theorem WB {R:Result→Shared→Prop}{vs:List Value}{kw:List (Str×Value)}(X:K.In s.heap) (hm:PySem.W.makesIn K C=true)
  (hi:PySem.W.findIn K (.ref C) "__init__" = some (some (.ref f))) (hf:PySem.W.typeIn K (.ref f)=some (.type "function"))
  (h:codeAny (model prog w) (A.under (.builtin "type.__call__" ⟨.ref C::vs,kw⟩)) (.call (.ref f) ⟨.ref (s.heap.objs.size+1)::vs,kw⟩) (PySem.W.InitBack (s.heap.objs.size+1) R)
   { s with heap:=(s.heap.push PySem.W.emptyDict).push (PySem.W.instObj C s.heap.objs.size) }) :
  codeAny (model prog w) A (.call (.ref C) ⟨vs,kw⟩) R s:=by
 obtain⟨hh,g,d,t,os⟩:=s
 exact PySem.W.make_core (PySem.W.makes_of X hm) (PySem.W.looks_findIn X hi) (fun self=>PySem.W.bind_fn X self hf) (.inl rfl) h
end
noncomputable def vM (f:Str) (v:V):List (Str×V)→List (Str×V)
 |[]=>[(f,v)]
 |(g,x)::r=>if g=f then(g,v)::r else(g,x)::vM f v r
theorem xN (f g:Str) (v:V):∀ fs:List (Str×V),(vM f v fs).lookup g=if g=f then some v else fs.lookup g
 |[]=>by
  show List.lookup g [(f,v)]=_
  by_cases h:g=f
  ·have hb:(g == f)=true:=beq_iff_eq.mpr h
   simp only[List.lookup,hb,if_pos h]
  ·have hb:(g == f)=false:=beq_eq_false_iff_ne.mpr h
   simp only[List.lookup,hb,if_neg h]
 |(k,x)::r=>by
  have ih:=xN f g v r
  rw[show vM f v ((k,x)::r)=(if k=f then(k,v)::r else(k,x)::vM f v r) from rfl]
  by_cases hk:k=f
  ·rw[if_pos hk]
   by_cases h:g=k
   ·have hb:(g == k)=true:=beq_iff_eq.mpr h
    simp only[List.lookup,hb,if_pos (h.trans hk)]
   ·have hb:(g == k)=false:=beq_eq_false_iff_ne.mpr h
    simp only[List.lookup,hb,if_neg (fun e:g=f=>h (e.trans hk.symm))]
  ·rw[if_neg hk]
   by_cases h:g=k
   ·have hb:(g == k)=true:=beq_iff_eq.mpr h
    simp only[List.lookup,hb,if_neg (fun e:g=f=>hk (h.symm.trans e))]
   ·have hb:(g == k)=false:=beq_eq_false_iff_ne.mpr h
    simp only[List.lookup,hb]
    exact ih
theorem xP (f:Str) (v:V):∀ fs:List (Str×V),f∈(vM f v fs).map (·.1)∧∀ g,g∈fs.map (·.1)→g∈(vM f v fs).map (·.1)
 |[]=>⟨by simp[vM],fun g h=>by simp at h⟩
 |(k,x)::r=>by
  obtain⟨i1,i2⟩:=xP f v r
  rw[show vM f v ((k,x)::r)=(if k=f then(k,v)::r else(k,x)::vM f v r) from rfl]
  by_cases hk:k=f
  ·rw[if_pos hk]
   subst hk
   exact⟨by simp,fun g h=>by simpa using h⟩
  ·rw[if_neg hk]
   refine⟨?_,fun g h=>?_⟩
   ·rw[List.map_cons]
    exact List.mem_cons_of_mem _ i1
   ·rw[List.map_cons] at h ⊢
    rcases List.mem_cons.mp h with e | e
    ·exact List.mem_cons.mpr (.inl e)
    ·exact List.mem_cons_of_mem _ (i2 g e)
theorem xO (f:Str) (v:V):∀ fs:List (Str×V),(vM f v fs).length≤fs.length+1
 |[]=>by simp[vM]
 |(k,x)::r=>by
  have ih:=xO f v r
  rw[show vM f v ((k,x)::r)=(if k=f then(k,v)::r else(k,x)::vM f v r) from rfl]
  by_cases hk:k=f
  ·rw[if_pos hk,List.length_cons,List.length_cons];omega
  ·rw[if_neg hk,List.length_cons,List.length_cons];omega
theorem RelO.some_of {v:V}{o:Option Value}(r:RelO (some v) o):∃ u,o=some u∧RelV v u:=by
 cases o with
 |none=>exact(show False from r).elim
 |some u=>exact⟨u,rfl,r⟩
theorem RelO.none_of {o:Option Value}(r:RelO none o):o=none:=by
 cases o with
 |none=>rfl
 |some u=>exact(show False from r).elim
theorem Xv {v:V}{u:Value}(r:RelV v u):PySem.W.handedIn u=true:=by
 cases v with
 |non=>cases (show u=Value.none from r);rfl
 |bl b=>cases (show u=Value.bool b from r);rfl
 |int i=>obtain⟨t,e⟩:=(show ∃ t,u=Value.int i t from r);cases e;rfl
 |str x=>obtain⟨t,e⟩:=(show ∃ t,u=Value.str x t from r);cases e;rfl
 |byt b=>obtain⟨t,e⟩:=(show ∃ t,u=Value.bytes b t from r);cases e;rfl
 |flt b=>obtain⟨t,e⟩:=(show ∃ t,u=Value.float b t from r);cases e;rfl
 |ref a=>cases (show u=Value.ref a from r);rfl
 |ty n=>cases (show u=Value.type n from r);rfl
section
variable {P:Program}{w:World}{H H':Hp}{h h':Heap}{a C dx:Addr}{fs fs':List (Str×V)}
theorem wO (hok:HOk P w H h) (e:H a=some (.ins C dx fs)):∃ mA,ObjM h a dx C mA∧(∀ f,RelO (fs.lookup f) (mA f))∧PySem.Within mA (fs.map (·.1))∧fs.length≤1000∧H dx=some (.own a):=by
 obtain⟨d,z,ne,ob,mA,n,r,q⟩:=(show ObjOk P w H h a (.ins C dx fs) from hok a _ e)
 exact⟨mA,⟨ob,n,ne⟩,r,q,z,d⟩
end
structure Cls (K:PySem.W.Frag) (C:Addr):Prop where
 pg:PySem.W.plainGet K C Str.empty=true
 hd:PySem.W.hasDictIn K C=true
 po:PySem.W.plainOver K C=true
 sa:PySem.W.findIn K (.ref C) "__setattr__" = some (some (.builtin "object.__setattr__"))
theorem Cls.get {K:PySem.W.Frag}{C:Addr}(c:Cls K C) (f:Str):PySem.W.plainGet K C f=true:=c.pg
def NoAttr (K:PySem.W.Frag) (C:Addr) (f:Str):Prop:=PySem.W.findIn K (.ref C) f=some none
theorem NoAttr.taker {K:PySem.W.Frag}{C:Addr}{f:Str}(n:NoAttr K C f):PySem.W.takerIn K C f=some none:=by
 unfold PySem.W.takerIn
 rw[show PySem.W.findIn K (.ref C) f=some none from n]
 rfl
structure Meth (K:PySem.W.Frag) (C:Addr) (m:Str) (f:Addr):Prop where
 at_:PySem.W.findIn K (.ref C) m=some (some (.ref f))
 fn:PySem.W.isFn K (.ref f)=true
 kp:PySem.W.keepIn K (.ref f)=true
section
variable {X:Cx}{pins:List (Addr×Obj)}{σ:St}{H:Hp}{s:Shared}{a C dx:Addr}{fs:List (Str×V)}{f:Str}{v:V}{A:Around}{E:Value→Shared→Prop}
theorem Zh {b:Bool}{Q:Value→Shared→Prop}(I:Inv X pins σ H s) (e:H a=some (.ins C dx fs)) (c:Cls X.K C) (n:NoAttr X.K C f) (l:fs.lookup f=some v)
  (h:∀ u s',Inv X pins σ H s'→RelV v u→Q u s'):wpAny (model X.prog X.w) A (getAttr (.ref a) f b) Q E s:=by
 obtain⟨mA,O,r,_,_,_⟩:=wO I.hok e
 obtain⟨u,hu,ru⟩:=RelO.some_of (v:=v) (o:=mA f) (by rw[← l];exact r f)
 exact zae I.kIn O (c.get f) c.hd n hu (Xv ru) (h u _ (I.tok _) ru)
theorem yF {m:Str}{g:Addr}{pl:Sem Bool}{Q:Value×List Value→Shared→Prop}(I:Inv X pins σ H s) (e:H a=some (.ins C dx fs)) (c:Cls X.K C) (k:Meth X.K C m g) (l:fs.lookup m=none)
  (h:Q (.ref g,[.ref a]) s):wpAny (model X.prog X.w) A (getMethod (.ref a) m pl) Q E s:=by
 obtain⟨mA,O,r,_,_,_⟩:=wO I.hok e
 have hn:mA m=none:=RelO.none_of (by rw[← l];exact r m)
 exact WM I.kIn O (c.get m) k.at_ k.fn hn h
theorem Za {y:V}{u:Value}{Q:Unit→Shared→Prop}(I:Inv X pins σ H s) (e:H a=some (.ins C dx fs)) (c:Cls X.K C) (n:NoAttr X.K C f) (hl:fs.length<1000) (ry:RelV y u)
  (h:∀ s',Inv X pins σ (upd H a (.ins C dx (vM f y fs))) s'→Q () s'):wpAny (model X.prog X.w) A (setAttr (.ref a) f u) Q E s:=by
 obtain⟨mA,O,r,wi,_,ho⟩:=wO I.hok e
 have hz:(fs.map (·.1)).length≤sizeLine:=by rw[List.length_map,sizeLine_eq];omega
 refine Vz I.kIn O c.sa c.po n.taker c.hd wi hz fun h' O' sb=>h _ ?_
 have hd:∃ o,h'.get? dx=some o:=let ⟨o,_,_,e',_⟩:=O'.ns;⟨o,e'⟩
 refine I.write (x:=a) (e:=dx) (by rw[e];exact True.intro) (.inr ho) (fun b q hb z=>(sb.2 b hb).trans z) hd ?_
 refine⟨by rw[upd_ne O.ne];exact ho,?_,O.ne,O'.obj,_,O'.ns,fun g=>?_,fun g hg=>?_⟩
 ·have:=xO f y fs;omega
 ·show RelO ((vM f y fs).lookup g) (if g=f then some u else mA g)
  rw[xN]
  by_cases q:g=f
  ·rw[if_pos q,if_pos q];exact ry
  ·rw[if_neg q,if_neg q];exact r g
 ·by_cases q:g=f
  ·rw[q];exact(xP f y fs).1
  ·refine(xP f y fs).2 g (wi g fun z=>hg ?_)
   show(if g=f then some u else mA g)=none
   rw[if_neg q];exact z
theorem Inv.made (I:Inv X pins σ H s):Inv X pins σ (upd (upd H s.heap.objs.size (.own (s.heap.objs.size+1))) (s.heap.objs.size+1) (.ins C s.heap.objs.size []))
  { s with heap:=(s.heap.push PySem.W.emptyDict).push (PySem.W.instObj C s.heap.objs.size) }:=by
 have e1:(s.heap.push PySem.W.emptyDict).get? s.heap.objs.size=some PySem.W.emptyDict:=Heap.get?_push_size s.heap rfl
 have e2:((s.heap.push PySem.W.emptyDict).push (PySem.W.instObj C s.heap.objs.size)).get? (s.heap.objs.size+1)=some (PySem.W.instObj C s.heap.objs.size):=by
  have:=Heap.get?_push_size (s.heap.push PySem.W.emptyDict) (o:=PySem.W.instObj C s.heap.objs.size) rfl
  rwa [Heap.size_push] at this
 have e3:(s.heap.push PySem.W.emptyDict).Ns s.heap.objs.size (fun _=>none):=⟨PySem.W.emptyDict,#[],_,e1,rfl,(fun e he=>absurd he (by simp)),fun _=>rfl⟩
 have I1:=I.laid (a:=s.heap.objs.size) (o:=.own (s.heap.objs.size+1)) (h':=s.heap.push PySem.W.emptyDict) (t':=s.toks) (fun b u q=>Heap.get?_push_of_some _ q) (Nat.le_refl _) ⟨_,e1⟩
 refine I1.laid (a:=s.heap.objs.size+1) (o:=.ins C s.heap.objs.size []) (t':=s.toks) (fun b u q=>Heap.get?_push_of_some _ q) (Nat.le_of_eq (Heap.size_push _ _)) ?_
 have ne:s.heap.objs.size≠s.heap.objs.size+1:=Nat.ne_of_lt (Nat.lt_succ_self _)
 refine⟨by rw[upd_ne ne,zd],Nat.zero_le _,ne,e2,fun _=>none,(Heap.Ns1.of_empty e3).at fun o q=>Heap.get?_push_of_some _ q,fun _=>True.intro,fun y hy=>absurd rfl hy⟩
theorem attr_of {prog:Program}{w:World}{env:Env}{e:Expr}{f:Str}{pos:Pos}{s:Shared}{Q:Value→Shared→Prop}(hb:attributeBase e f env (eval e env)=eval e env)
  (h:wpAny (model prog w) A (eval e env) (fun o s₁=>wpAny (model prog w) A (getAttr o f true) Q E s₁) E s):wpAny (model prog w) A (eval (.Attribute e f pos) env) Q E s :=
 Attribute_any_ h (by rw[arm_eval_Attribute,hb])
end
def zoi (K:PySem.W.Frag) (ta:TE) (f:Str):TE:=fun σ H Q=>ta σ H fun x H1=>∃ a C dx fs v,x=.ref a∧H1 a=some (.ins C dx fs)∧Cls K C∧NoAttr K C f∧fs.lookup f=some v∧Q v H1
def zu0 (K:PySem.W.Frag) (ta tv:TE) (f:Str):TS:=fun D σ H=>tv σ H fun y H1=>ta σ H1 fun x H2=>∃ a C dx fs,x=.ref a∧H2 a=some (.ins C dx fs)∧Cls K C∧NoAttr K C f∧fs.length<1000 ∧
 D.nx σ (upd H2 a (.ins C dx (vM f y fs)))
section
variable {X:Cx}{o e value:Expr}{f:Str}{pos pos' tpos:Pos}{ta tv:TE}
theorem zgi (he:PE X e ta) (hb:attributeBase e f X.env (eval e X.env)=eval e X.env):PE X (.Attribute e f pos) (zoi X.K ta f):=by
 intro pins s σ H Q I h
 refine attr_of hb (thn (he pins s σ H _ I h) fun u s1 hq0=>?_)
 obtain⟨x,H1,I1,rx,a,C,dx,fs,v,ex,ea,c,n,l,q⟩:=hq0
 subst ex
 obtain rfl:u=Value.ref a:=rx
 exact Zh I1 ea c n l fun u' s2 I2 ru=>⟨v,H1,I2,ru,q⟩
theorem uC (ha:PE X o ta) (hv:PE X value tv) (hs:swapsWith value (some (.Attribute o f pos')) pos.line X.env=pure false):PS X (.Assign [.Attribute o f pos'] value pos) (zu0 X.K ta tv f):=by
 intro pins s σ H D I h
 refine plainObj_wpAny_Assign_Attribute (thn (hv pins s σ H _ I h) fun u s1 ⟨y,H1,I1,ry,q⟩=>thn (ha pins s1 σ H1 _ I1 q) fun ov s2 hq0=>?_) hs
 obtain⟨x,H2,I2,rx,a,C,dx,fs,ex,ea,c,n,l,q2⟩:=hq0
 subst ex
 obtain rfl:ov=Value.ref a:=rx
 exact Za I2 ea c n l ry fun s3 I3=>⟨σ,_,I3,q2⟩
theorem U9 {pl:Sem Bool}{m:Str}{apos:Pos}{args:List Expr}{pins:List (Addr×Obj)}{s:Shared}{σ:St}{H:Hp}{Q:Value→Shared→Prop}{te:TE}(he:PE X e te) (I:Inv X pins σ H s)
  (h:te σ H fun x H1=>∃ a C dx fs g,x=.ref a∧H1 a=some (.ins C dx fs)∧Cls X.K C∧Meth X.K C m g∧fs.lookup m=none ∧
   ∀ s1,Inv X pins σ H1 s1→wpAny (model X.prog X.w) X.A (callWith pos (.ref g) [.ref a] (backTo pos (starEach args X.env)) (backToKw pos (keywordEach [] X.env))) Q X.xe s1)
  (ht:eval (.Call (.Attribute e m apos) args [] pos) X.env=(do
   let ov ← eval e X.env
   standAt apos.atName
   let (f,first) ← holding [ov] (getMethod ov m pl)
   callWith pos f first (backTo pos (starEach args X.env)) (backToKw pos (keywordEach [] X.env)))) :
  wpAny (model X.prog X.w) X.A (eval (.Call (.Attribute e m apos) args [] pos) X.env) Q X.xe s:=by
 refine PySem.W.methodCall_KW (pl:=pl) (thn (he pins s σ H _ I h) fun u s1 hq0=>?_) ht
 obtain⟨x,H1,I1,rx,a,C,dx,fs,g,ex,ea,c,k,l,q⟩:=hq0
 subst ex
 obtain rfl:u=Value.ref a:=rx
 exact yF I1 ea c k l (q s1 I1)
end
section
variable {X:Cx}{pins:List (Addr×Obj)}{σ:St}{H:Hp}{s:Shared}{A:Around}{E:Value→Shared→Prop}{Q:Value→Shared→Prop}{c:Value}{b:Bool}
inductive TyOf (K:PySem.W.Frag) (H:Hp):V→Value→Prop where
 |non:TyOf K H .non (.type "NoneType")
 |bl (x:Bool):TyOf K H (.bl x) (.type "bool")
 |int (i:Int):TyOf K H (.int i) (.type "int")
 |str (x:Str):TyOf K H (.str x) (.type "str")
 |flt (x:UInt64):TyOf K H (.flt x) (.type "float")
 |lst {a:Addr}{xs:List V}(e:H a=some (.lst xs)):TyOf K H (.ref a) (.type "list")
 |frz {a:Addr}{o:Obj}{xs:List V}(e:H a=some (.frz o (.lst xs))):TyOf K H (.ref a) (.type "list")
 |tup {a:Addr}{xs:List V}(e:H a=some (.tup xs)):TyOf K H (.ref a) (.type "tuple")
 |dK {a:Addr}{kvs:List (Key×V)}(e:H a=some (.dK kvs)):TyOf K H (.ref a) (.type "dict")
 |dT {a:Addr}{kvs:List (List Key×V)}(e:H a=some (.dT kvs)):TyOf K H (.ref a) (.type "dict")
 |ins {a C dx:Addr}{fs:List (Str×V)}(e:H a=some (.ins C dx fs)) (cl:Cls K C) (ha:PySem.W.findIn K (.ref C) "__class__" = some (some (.builtin "object.__class__")))
   (hn:PySem.W.specialIn K (.builtin "object.__class__") "__get__" = some (some (.builtin "getset_descriptor.__get__"))) (htk:PySem.W.takesIn K (.builtin "object.__class__")=some true)
   (hm:PySem.W.mroIn K C (.type "object")=some true):TyOf K H (.ref a) (.ref C)
theorem Xl {x:V}{u t:Value}(I:Inv X pins σ H s) (rx:RelV x u) (ty:TyOf X.K H x t) (e:PySem.W.kitOne X.K t c=some b) (h:∀ tk,Q (.bool b) { s with toks:=tk }) :
  wpAny (model X.prog X.w) A (call (.builtin "isinstance") [u,c]) Q E s:=by
 cases ty with
 |non=>cases (show u=Value.none from rx);exact PySem.W.kia_one PySem.W.kitx_none I.kIn True.intro e (fun z=>nomatch z) h
 |bl y=>cases (show u=Value.bool y from rx);exact PySem.W.kia_one PySem.W.kitx_bool I.kIn True.intro e (fun z=>nomatch z) h
 |int i=>obtain⟨t,q⟩:=(show ∃ t,u=Value.int i t from rx);cases q;exact PySem.W.kia_one PySem.W.kitx_int I.kIn True.intro e (fun z=>nomatch z) h
 |str y=>obtain⟨t,q⟩:=(show ∃ t,u=Value.str y t from rx);cases q;exact PySem.W.kia_one PySem.W.kitx_str I.kIn True.intro e (fun z=>nomatch z) h
 |flt y=>obtain⟨t,q⟩:=(show ∃ t,u=Value.float y t from rx);cases q;exact PySem.W.kia_one PySem.W.kitx_float I.kIn True.intro e (fun z=>nomatch z) h
 | @lst a xs ea =>
  cases (show u=Value.ref a from rx)
  obtain⟨_,_,n,_,h1⟩:=(show ObjOk X.prog X.w H s.heap a (.lst xs) from I.hok a _ ea)
  exact PySem.W.kia_one PySem.W.kitx_list I.kIn ⟨_,h1,rfl⟩ e (fun z=>nomatch z) h
 | @frz a ob xs ea =>
  cases (show u=Value.ref a from rx)
  obtain⟨_,_,_,n,_,h1⟩:=(show ObjOk X.prog X.w H s.heap a (.frz ob (.lst xs)) from I.hok a _ ea)
  exact PySem.W.kia_one PySem.W.kitx_list I.kIn ⟨_,h1,rfl⟩ e (fun z=>nomatch z) h
 | @tup a xs ea =>
  cases (show u=Value.ref a from rx)
  obtain⟨_,_,_,p⟩:=(show ObjOk X.prog X.w H s.heap a (.tup xs) from I.hok a _ ea)
  obtain⟨o,h1,h2,_⟩:=p
  exact PySem.W.kia_one PySem.W.kitx_tuple I.kIn ⟨o,h1,h2⟩ e (fun z=>nomatch z) h
 | @dK a kvs ea =>
  cases (show u=Value.ref a from rx)
  obtain⟨_,_,vs,_,p⟩:=(show ObjOk X.prog X.w H s.heap a (.dK kvs) from I.hok a _ ea)
  obtain⟨o,es,ep,h1,h2,_⟩:=p
  exact PySem.W.kia_one PySem.W.kitx_dict I.kIn ⟨o,h1,h2.1⟩ e (fun z=>nomatch z) h
 | @dT a kvs ea =>
  cases (show u=Value.ref a from rx)
  obtain⟨_,_,xs,_,o,es,ep,h1,h2,_⟩:=(show ObjOk X.prog X.w H s.heap a (.dT kvs) from I.hok a _ ea)
  exact PySem.W.kia_one PySem.W.kitx_dict I.kIn ⟨o,h1,h2.1⟩ e (fun z=>nomatch z) h
 | @ins a C dx fs ea cl ha hn htk hm =>
  cases (show u=Value.ref a from rx)
  obtain⟨mA,O,_⟩:=wO I.hok ea
  obtain⟨od,J,_⟩:=O.look
  exact PySem.W.kia_one (PySem.W.kitx_own (cl.get _) cl.hd ha hn htk hm) I.kIn J e (fun z=>nomatch z) h
end
end L2
namespace L2
open PySem PySem.Spec PyProof.Rows
structure Room (k:Nat) (A:Around):Prop where
 hd:A.handled=none
 dp:A.depth+3*k+5<recursionLimit
 un:A.units+16*k+200<cLine
theorem Room.mono {j k:Nat}{A:Around}(r:Room k A) (h:j≤k):Room j A:=⟨r.hd,by have:=r.dp;omega,by have:=r.un;omega⟩
theorem Room.deeper {k:Nat}{A:Around}(r:Room (k+1) A) (env:Env):Room k (A.deeper env) :=
 ⟨r.hd,by have:=r.dp;show A.depth+1+3*k+5<_;omega,by have:=r.un;show A.units+3+16*k+200<_;omega⟩
theorem Zg {A:Around}{C:Addr}{us:List Value}{kw:List (Str×Value)}:(A.under (.builtin "type.__call__" ⟨.ref C::us,kw⟩)).depth=A.depth+1:=by
 first | rfl | simp[Around.under,Code.weight,Code.isCreation,Code.isGuard,Code.isCaller,Code.frames,Code.isFrame,guardIds]
theorem Zf {A:Around}{C:Addr}{us:List Value}{kw:List (Str×Value)}:(A.under (.builtin "type.__call__" ⟨.ref C::us,kw⟩)).units=A.units+1:=by
 first | rfl | simp[Around.under,Code.cUnits,Code.frames,Code.isFrame]
theorem Room.make {k:Nat}{A:Around}(r:Room (k+1) A) (C:Addr) (us:List Value) (kw:List (Str×Value)):Room k (A.under (.builtin "type.__call__" ⟨.ref C::us,kw⟩)) :=
 ⟨r.hd,by have:=r.dp;rw[Zg];omega,by have:=r.un;rw[Zf];omega⟩
theorem Room.depth {k:Nat}{A:Around}(r:Room k A):A.depth<recursionLimit:=by have:=r.dp;omega
theorem Room.units {k:Nat}{A:Around}(r:Room k A):A.units+64<cLine:=by have:=r.un;omega
def zaj:TA:=fun _ H Q=>Q [] H
def xt (ta:TE) (tr:TA):TA:=fun σ H Q=>ta σ H fun x H1=>tr σ H1 fun xs H2=>Q (x::xs) H2
section
variable {X:Cx}{e:Expr}{es:List Expr}{te:TE}{t:TA}{pos:Pos}
theorem zS:PA X [] zaj:=fun _ _ _ _ H Q I h=>Calls.spliced_nil ⟨[],H,I,.nil,h⟩
theorem yz (ha:PE X e te) (hr:PA X es t) (hs:starEach (e::es) X.env=(false,eval e X.env)::starEach es X.env:=by rfl):PA X (e::es) (xt te t):=by
 intro pos pins s σ H Q I h
 rw[hs]
 show wpAny _ _ (spliced ((false,eval e X.env)::backTo pos (starEach es X.env))) _ _ s
 refine Calls.spliced_cons (thn (ha pins s σ H _ I h) fun u s1 hq0=>?_)
 obtain⟨x,H1,I1,r1,q1⟩:=hq0
 exact thn (hr pos pins s1 σ H1 _ I1 q1) fun us s2 ⟨xs,H2,I2,r2,q2⟩=>⟨x::xs,H2,I2,.cons r1 r2,q2⟩
def zn9 (t:TA):TE:=fun σ H Q=>t σ H fun xs H1=>xs.length≤sizeLine∧∀ p,H1 p=none→Q (.ref p) (upd H1 p (.tup xs))
def zof (t:TA):TE:=fun σ H Q=>t σ H fun xs H1=>xs.length≤sizeLine∧∀ p,H1 p=none→Q (.ref p) (upd H1 p (.lst xs))
theorem zge {x1}(h:PA X es t):PE X (.Tuple es x1 pos) (zn9 t):=by
 intro pins s σ H Q I hq
 refine wpAny_Tuple_spliced (thn (h pos pins s σ H _ I hq) fun us s1 ⟨xs,H1,I1,r,z,q⟩=>⟨by rw[← r.length];exact z,?_⟩)
 have hf:H1 s1.heap.objs.size=none:=I1.hok.fresh (Nat.le_refl _)
 refine⟨.ref s1.heap.objs.size,upd H1 s1.heap.objs.size (.tup xs),I1.laid (t':=s1.toks) (fun b u e=>Heap.get?_push_of_some _ e) (Nat.le_refl _) ?_,rfl,q _ hf⟩
 exact⟨z,us,r,⟨_,Heap.get?_push_size _ rfl,rfl,_,rfl⟩⟩
theorem W8 (h:PA X es t):PE X (.List es pos) (zof t):=by
 intro pins s σ H Q I hq
 refine wpAny_List_spliced (thn (h pos pins s σ H _ I hq) fun us s1 ⟨xs,H1,I1,r,z,q⟩=>⟨by rw[← r.length];exact z,?_⟩)
 have hf:H1 s1.heap.objs.size=none:=I1.hok.fresh (Nat.le_refl _)
 refine⟨.ref s1.heap.objs.size,upd H1 s1.heap.objs.size (.lst xs),I1.laid (t':=s1.toks) (fun b u e=>Heap.get?_push_of_some _ e) (Nat.le_refl _) ?_,rfl,q _ hf⟩
 exact⟨z,us,0,r,Heap.get?_push_size _ rfl⟩
end
abbrev Sp:=List V→Hp→VK→XK→Prop
abbrev CXT:=List Env→Hp→Shared→XK→Value→Shared→Prop
structure Env0 (P:Program) (w:World) (K:PySem.W.Frag) (mg:Str→Option Value) (base:Heap) (A:Around) (outer:List Env) (s:Shared) (H:Hp):Prop where
 frames:A.frames=some outer
 mod:Mod K mg base
 bs:∀ b o,base.get? b=some o→s.heap.get? b=some o∧H b=none
 bsz:base.objs.size≤s.heap.objs.size
 funs:s.heap.FunFrames base outer
 frf:∀ b∈frs outer,H b=none
 hok:HOk P w H s.heap
 bare:AllBare s.gens
def CE (outer:List Env) (P:Program) (w:World) (H:Hp) (s:Shared) (Q:VK) (u:Value) (s':Shared):Prop :=
 ∃ v H',s'.os=s.os∧AllBare s'.gens∧Un (frs outer) [] H H' s.heap s'.heap∧HOk P w H' s'.heap∧RelV v u∧Q v H'
def CR (CX:CXT) (outer:List Env) (P:Program) (w:World) (H:Hp) (s:Shared) (Q:VK) (E:XK) (r:Result) (s':Shared):Prop :=
 match r with
 |.ok (.ret u)=>CE outer P w H s Q u s'
 |.ok _=>False
 |.error e=>CX outer H s E e s'
structure FnOk (P:Program) (w:World) (K:PySem.W.Frag) (mg:Str→Option Value) (base:Heap) (CX:CXT) (k:Nat) (f:Addr) (fd:FuncData) (ps:List Str) (sp:Sp):Prop where
 len:∀ vs H Q E,sp vs H Q E→vs.length=ps.length
 run:∀ (A:Around) (outer:List Env) (s:Shared) (H:Hp) (args:Args) (us:List Value) (vs:List V) (Q:VK) (E:XK),Room k A→Env0 P w K mg base A outer s H→BindsTo s fd args (ps.zip us)→Vals vs us→sp vs H Q E →
  codeAny (model P w) A (.call (.ref f) args) (CR CX outer P w H s Q E) s
theorem Env0.make {P:Program}{w:World}{K:PySem.W.Frag}{mg:Str→Option Value}{base:Heap}{A:Around}{outer:List Env}{s:Shared}{H:Hp}(e:Env0 P w K mg base A outer s H) (C:Addr) (us:List Value) (kw:List (Str×Value)) :
  Env0 P w K mg base (A.under (.builtin "type.__call__" ⟨.ref C::us,kw⟩)) outer s H:=⟨by first | exact e.frames | (simpa[Around.under,Code.envs,Code.isFrame,pushEnvs] using e.frames),e.mod,e.bs,e.bsz,e.funs,e.frf,e.hok,e.bare⟩
section
variable {X:Cx}{pins:List (Addr×Obj)}{σ:St}{H:Hp}{s s':Shared}
theorem Inv.env0 (I:Inv X pins σ H s):Env0 X.prog X.w X.K X.mg X.base X.A X.stack s H :=
 ⟨I.ok.frames,I.ok.mod,I.bs,Nat.le_trans I.ok.bsz I.sz,I.stack,I.stkFree,I.hok,I.bare⟩
theorem Inv.after {Q:VK}{u:Value}(I:Inv X pins σ H s) (h:CE X.stack X.prog X.w H s Q u s'):EP X pins σ Q u s':=by
 obtain⟨v,H',os,bare,un,hok,r,q⟩:=h
 obtain⟨hh,g,d,t,os'⟩:=s'
 obtain rfl:os'=s.os:=os
 exact⟨v,H',I.call (h':=hh) (g':=g) (d':=d) (t':=t) (ch:=[]) un hok bare (fun b z=>absurd z (by simp)),r,q⟩
end
def ZH (sp:Sp) (dvs:List V) (E:XK) (t:TA):TE:=fun σ H Q=>t σ H fun vs H1=>sp (vs++dvs) H1 Q E
def zaN (C:Addr) (m:Str) (sp:Sp) (dvs:List V) (E:XK) (ta:TE) (t:TA):TE:=fun σ H Q=>ta σ H fun x H1=>∃ a dx fs,x=.ref a∧H1 a=some (.ins C dx fs)∧fs.lookup m=none ∧
 t σ H1 fun vs H2=>sp (x::(vs++dvs)) H2 Q E
def Vv (C:Addr) (sp:Sp) (dvs:List V) (E:XK) (t:TA):TE:=fun σ H Q=>t σ H fun vs H1=>∀ x dx,H1 x=none→H1 dx=none→dx≠x →
 sp (.ref x::(vs++dvs)) (upd (upd H1 dx (.own x)) x (.ins C dx [])) (fun v H2=>v=.non∧Q (.ref x) H2) E
noncomputable def Binds (K:PySem.W.Frag) (fd:FuncData) (ps:List Str) (ds:List Value):Prop :=
 ∀ (s:Shared) (us:List Value),K.In s.heap→(us++ds).length=ps.length→BindsTo s fd ⟨us,[]⟩ (ps.zip (us++ds))
theorem Binds.all {K:PySem.W.Frag}{fd:FuncData}{ps:List Str}(h:∀ us:List Value,us.length=ps.length→bindArgs fd ⟨us,[]⟩=pure (ps.zip us)):Binds K fd ps []:=fun s us _ hl=>by
 rw[List.append_nil] at hl ⊢
 exact .of_eq (h us hl)
def xa (CX:CXT) (X:Cx) (E:XK):Prop:=∀ (pins:List (Addr×Obj)) (σ:St) (H:Hp) (s:Shared) (e:Value) (s':Shared),Inv X pins σ H s→CX X.stack H s E e s'→X.xe e s'
section
variable {X:Cx}{CX:CXT}{k:Nat}{f C:Addr}{fd:FuncData}{ps:List Str}{sp:Sp}{dvs:List V}{ds:List Value}{E:XK}{x m:Str}{p pos apos:Pos}{e o:Expr}{es:List Expr}{ta:TE}{t:TA}
theorem run_fn {pins:List (Addr×Obj)}{σ:St}{H:Hp}{s:Shared}{Q:VK}{us:List Value}{vs:List V}(F:FnOk X.prog X.w X.K X.mg X.base CX k f fd ps sp) (hr:Room k X.A) (hb:Binds X.K fd ps ds) (hd:Vals dvs ds) (hx:xa CX X E)
  (I:Inv X pins σ H s) (r:Vals vs us) (h:sp (vs++dvs) H Q E):wpAny (model X.prog X.w) X.A (call (.ref f) us) (EP X pins σ Q) X.xe s:=by
 have r2:Vals (vs++dvs) (us++ds):=r.append hd
 have hl:(us++ds).length=ps.length:=by rw[← r2.length];exact F.len _ _ _ _ h
 refine wpAny_call (codeAny_mono (F.run X.A X.stack s H ⟨us,[]⟩ (us++ds) (vs++dvs) Q E hr I.env0 (hb s us I.kIn hl) r2 h) fun r s' hq=>?_)
 cases r with
 |error e=>exact hx pins σ H s e s' I hq
 |ok fl =>
  cases fl with
  |ret u=>exact I.after hq
  |next=>exact False.elim hq
  |brk=>exact False.elim hq
  |cont=>exact False.elim hq
theorem VT (F:FnOk X.prog X.w X.K X.mg X.base CX k f fd ps sp) (hr:Room k X.A) (hg:Gl X x) (hm:X.mg x=some (.ref f)) (hk:PySem.W.keepIn X.K (.ref f)=true) (hb:Binds X.K fd ps ds) (hd:Vals dvs ds) (hx:xa CX X E)
  (ha:PA X (e::es) t) (hdb:(x == ("__debug__" : Str))=false:=by decide) (he:starEach (e::es) X.env=(false,eval e X.env)::starEach es X.env:=by rfl) (hpl:(backTo pos (starEach es X.env)).any (·.1)=false:=by rfl) :
  PE X (.Call (.Name x p) (e::es) [] pos) (ZH sp dvs E t):=by
 intro pins s σ H Q I h
 refine wpAny_Call_Name_kw (ld_glob I hg hm ?_ hdb)
 refine PySem.W.callWith_K (h₀:=X.base) I.ok.mod.kin hk (thn (ha pos pins s σ H _ I h) fun us s1 ⟨vs,H1,I1,r,q⟩=>⟨I1.kIn,?_⟩) he hpl
 exact run_fn F hr hb hd hx I1 r q
theorem Wh (F:FnOk X.prog X.w X.K X.mg X.base CX k f fd ps sp) (hr:Room k X.A) (hg:Gl X x) (hm:X.mg x=some (.ref f)) (hk:PySem.W.keepIn X.K (.ref f)=true) (hb:Binds X.K fd ps ds) (hd:Vals dvs ds) (hx:xa CX X E)
  (hdb:(x == ("__debug__" : Str))=false:=by decide):PE X (.Call (.Name x p) [] [] pos) (ZH sp dvs E zaj):=by
 intro pins s σ H Q I h
 refine wpAny_Call_Name_kw (ld_glob I hg hm ?_ hdb)
 exact PySem.W.callWith_K0 I.kIn hk (run_fn (us:=[]) F hr hb hd hx I .nil h)
theorem VN {pl:Sem Bool}(he:PE X o ta) (c:Cls X.K C) (hm:Meth X.K C m f) (F:FnOk X.prog X.w X.K X.mg X.base CX k f fd ps sp) (hr:Room k X.A) (hb:Binds X.K fd ps ds) (hd:Vals dvs ds) (hx:xa CX X E) (ha:PA X (e::es) t)
  (hst:starEach (e::es) X.env=(false,eval e X.env)::starEach es X.env:=by rfl) (hpl:(backTo pos (starEach es X.env)).any (·.1)=false:=by rfl)
  (ht:eval (.Call (.Attribute o m apos) (e::es) [] pos) X.env=(do
   let ov ← eval o X.env
   standAt apos.atName
   let (f,first) ← holding [ov] (getMethod ov m pl)
   callWith pos f first (backTo pos (starEach (e::es) X.env)) (backToKw pos (keywordEach [] X.env))):=by rfl) :
  PE X (.Call (.Attribute o m apos) (e::es) [] pos) (zaN C m sp dvs E ta t):=by
 intro pins s σ H Q I h
 refine PySem.W.methodCall_KW (pl:=pl) (thn (he pins s σ H _ I h) fun u s1 hq0=>?_) ht
 obtain⟨x,H1,I1,rx,a,dx,fs,ex,ea,l,q⟩:=hq0
 subst ex
 obtain rfl:u=Value.ref a:=rx
 refine yF I1 ea c hm l ?_
 refine PySem.W.callWith_K (first:=[.ref a]) (h₀:=X.base) I.ok.mod.kin hm.kp (thn (ha pos pins s1 σ H1 _ I1 q) fun us s2 ⟨vs,H2,I2,r,q2⟩=>⟨I2.kIn,?_⟩) hst hpl
 exact run_fn (us:=.ref a::us) (vs:=.ref a::vs) F hr hb hd hx I2 (.cons rfl r) q2
structure Mk (K:PySem.W.Frag) (C f:Addr):Prop where
 makes:PySem.W.makesIn K C=true
 init:PySem.W.findIn K (.ref C) "__init__" = some (some (.ref f))
 fn:PySem.W.isFn K (.ref f)=true
 kp:PySem.W.keepIn K (.ref C)=true
theorem X8 {pins:List (Addr×Obj)}{σ:St}{H:Hp}{s:Shared}{Q:VK}{us:List Value}{vs:List V}(M:Mk X.K C f) (F:FnOk X.prog X.w X.K X.mg X.base CX k f fd ps sp) (hr:Room (k+1) X.A) (hb:Binds X.K fd ps ds) (hd:Vals dvs ds)
  (hx:xa CX X E) (I:Inv X pins σ H s) (r:Vals vs us)
  (h:∀ x dx,H x=none→H dx=none→dx≠x→sp (.ref x::(vs++dvs)) (upd (upd H dx (.own x)) x (.ins C dx [])) (fun v H2=>v=.non∧Q (.ref x) H2) E) :
  wpAny (model X.prog X.w) X.A (call (.ref C) us) (EP X pins σ Q) X.xe s:=by
 have hq:=h (s.heap.objs.size+1) s.heap.objs.size (I.hok.fresh (Nat.le_succ _)) (I.hok.fresh (Nat.le_refl _)) (Nat.ne_of_lt (Nat.lt_succ_self _))
 have I2:=Inv.made (C:=C) I
 have r2:Vals (V.ref (s.heap.objs.size+1)::(vs++dvs)) (Value.ref (s.heap.objs.size+1)::(us++ds)):=.cons rfl (r.append hd)
 have hl:(Value.ref (s.heap.objs.size+1)::us++ds).length=ps.length:=by
  have e:=r2.length
  rw[F.len _ _ _ _ hq] at e
  exact e.symm
 refine wpAny_call (WB (f:=f) I.kIn M.makes M.init (beq_iff_eq.mp M.fn) (codeAny_mono (F.run _ X.stack _ _ ⟨Value.ref (s.heap.objs.size+1)::us,[]⟩ (Value.ref (s.heap.objs.size+1)::(us++ds)) _ _ E (hr.make C us [])
  (I2.env0.make C us []) (hb _ (Value.ref (s.heap.objs.size+1)::us) I2.kIn hl) r2 hq) fun r s' hq'=>?_))
 cases r with
 |error e=>exact hx pins σ _ _ e s' I2 hq'
 |ok fl =>
  cases fl with
  |ret u =>
   obtain⟨v,H',I3,rv,ev,q3⟩:=I2.after hq'
   subst ev
   exact⟨rv,⟨V.ref (s.heap.objs.size+1),H',I3,rfl,q3⟩⟩
  |next=>exact False.elim hq'
  |brk=>exact False.elim hq'
  |cont=>exact False.elim hq'
theorem VP (M:Mk X.K C f) (F:FnOk X.prog X.w X.K X.mg X.base CX k f fd ps sp) (hr:Room (k+1) X.A) (hg:Gl X x) (hm:X.mg x=some (.ref C)) (hb:Binds X.K fd ps ds) (hd:Vals dvs ds) (hx:xa CX X E)
  (ha:PA X (e::es) t) (hdb:(x == ("__debug__" : Str))=false:=by decide) (he:starEach (e::es) X.env=(false,eval e X.env)::starEach es X.env:=by rfl) (hpl:(backTo pos (starEach es X.env)).any (·.1)=false:=by rfl) :
  PE X (.Call (.Name x p) (e::es) [] pos) (Vv C sp dvs E t):=by
 intro pins s σ H Q I h
 refine wpAny_Call_Name_kw (ld_glob I hg hm ?_ hdb)
 refine PySem.W.callWith_K (h₀:=X.base) I.ok.mod.kin M.kp (thn (ha pos pins s σ H _ I h) fun us s1 ⟨vs,H1,I1,r,q⟩=>⟨I1.kIn,?_⟩) he hpl
 exact X8 M F hr hb hd hx I1 r q
end
structure FnScope (N P:List Str) (sc:Scope):Prop where
 kind:sc.kind=.function
 co:sc.isCoroutine=false
 gen:sc.isGenerator=false
 nd:N.Nodup
 pre:N.take P.length=P
 par:∀ x∈P,sc.names.lookup x=some .local∨sc.names.lookup x=some .cell
 nofree:∀ y∈sc.names,y.2≠.free
theorem vK {kindOf:Str→Option NameKind}{x:Str}:∀ {binds:List (Str×Value)}{m:Str→Option Value},(∀ v,(x,v)∉binds)→bindL kindOf binds m x=m x
 |[],_,_=>rfl
 |(n,v)::r,m,h=>by
  unfold bindL
  rw[vK fun w hw=>h w (List.mem_cons_of_mem _ hw)]
  split
  ·have:x≠n:=by rintro rfl;exact h v List.mem_cons_self
   simp[this]
  ·rfl
theorem bindC_out {kindOf:Str→Option NameKind}{x:Str}:∀ {binds:List (Str×Value)}{m:Str→Option Value},(∀ v,(x,v)∉binds)→bindC kindOf binds m x=m x
 |[],_,_=>rfl
 |(n,v)::r,m,h=>by
  unfold bindC
  rw[bindC_out fun w hw=>h w (List.mem_cons_of_mem _ hw)]
  split
  ·rfl
  ·have:x≠n:=by rintro rfl;exact h v List.mem_cons_self
   simp[this]
theorem bindL_get {kindOf:Str→Option NameKind}{x:Str}{v:Value}:∀ {P:List Str}{vs:List Value}{i:Nat}{m:Str→Option Value},P.Nodup→P[i]?=some x→vs[i]?=some v→kindOf x=some .local →
  bindL kindOf (P.zip vs) m x=some v
 |[],_,_,_,_,h,_,_=>by simp at h
 |_::_,[],_,_,_,_,h,_=>by simp at h
 |p::P,w::vs,0,m,nd,h1,h2,hk=>by
  simp at h1 h2;subst h1;subst h2
  show bindL kindOf ((p,w)::P.zip vs) m p=_
  unfold bindL
  rw[vK fun v hv=>(List.nodup_cons.mp nd).1 (List.of_mem_zip hv).1,if_pos hk]
  simp
 |p::P,w::vs,i+1,m,nd,h1,h2,hk=>by
  show bindL kindOf ((p,w)::P.zip vs) m x=_
  unfold bindL
  exact bindL_get (i:=i) (List.nodup_cons.mp nd).2 (by simpa using h1) (by simpa using h2) hk
theorem vL {kindOf:Str→Option NameKind}{x:Str}{v:Value}:∀ {P:List Str}{vs:List Value}{i:Nat}{m:Str→Option Value},P.Nodup→P[i]?=some x→vs[i]?=some v→kindOf x≠some .local →
  bindC kindOf (P.zip vs) m x=some v
 |[],_,_,_,_,h,_,_=>by simp at h
 |_::_,[],_,_,_,_,h,_=>by simp at h
 |p::P,w::vs,0,m,nd,h1,h2,hk=>by
  simp at h1 h2;subst h1;subst h2
  show bindC kindOf ((p,w)::P.zip vs) m p=_
  unfold bindC
  rw[bindC_out fun v hv=>(List.nodup_cons.mp nd).1 (List.of_mem_zip hv).1,if_neg hk]
  simp
 |p::P,w::vs,i+1,m,nd,h1,h2,hk=>by
  show bindC kindOf ((p,w)::P.zip vs) m x=_
  unfold bindC
  exact vL (i:=i) (List.nodup_cons.mp nd).2 (by simpa using h1) (by simpa using h2) hk
noncomputable def start (N:List Str) (vs:List V):St:=vs.map some++List.replicate (N.length-vs.length) none
def zay (CX:CXT) (P:Program) (w:World) (K:PySem.W.Frag) (mg:Str→Option Value) (base:Heap) (N:List Str) (qual:Str) (scope:Scope) (f:Addr) (cd:Value) (A:Around) (outer:List Env) (s:Shared) (H:Hp) (E:XK):Cx where
 prog:=P
 w:=w
 K:=K
 mg:=mg
 base:=base
 A:=A.deeper (envOfC qual scope s.heap.objs.size f cd)
 N:=N
 s₀:=s
 H₀:=H
 env:=envOfC qual scope s.heap.objs.size f cd
 outer:=outer
 stack:=envOfC qual scope s.heap.objs.size f cd::outer
 ex:=[]
 calm:=true
 fn:=fun _=>true
 pn:=[]
 xe:=fun e s'=>wpAny (model P w) (A.deeper (envOfC qual scope s.heap.objs.size f cd)) (leaving (envOfC qual scope s.heap.objs.size f cd) e) (fun _ s''=>CX outer H s E e s'') (fun e' s''=>CX outer H s E e' s'') s'
theorem uN {sc:Scope}{n:Nat}{x:Str}(h:sc.names.lookup x=some .cell):∃ c,(cellsFrom n sc.names []).lookup x=some c:=by
 have q:=PySem.W.cellsFrom_some sc.names n [] (.inl h)
 exact Option.isSome_iff_exists.mp q
theorem Xn {CX:CXT}{P:Program}{w:World}{K:PySem.W.Frag}{mg:Str→Option Value}{base:Heap}{N ps:List Str}{qual:Str}{scope:Scope}{f:Addr}{cd:Value}{A:Around}{outer:List Env}{s s1:Shared}{H:Hp}{E:XK}{us:List Value}{vs:List V}
  (S:FnScope N ps scope) (hd:A.handled=none) (e0:Env0 P w K mg base A outer s H) (hl:vs.length=ps.length) (r:Vals vs us)
  (x:InCallC s s.heap.objs.size (bindL (envOfC qual scope s.heap.objs.size f cd).kindOf (ps.zip us) fun _=>none) (cellsFrom (s.heap.objs.size+1) scope.names []) (bindC (envOfC qual scope s.heap.objs.size f cd).kindOf (ps.zip us) fun _=>none) s1) :
  Inv (zay CX P w K mg base N qual scope f cd A outer s H E) [] (start N vs) H s1:=by
 have hpl:ps.length≤N.length:=by have:=congrArg List.length S.pre;rw[List.length_take] at this;omega
 obtain⟨h1,tk,rfl,hk⟩:=x.done
 have noA:∀ b:Addr,b∉(zay CX P w K mg base N qual scope f cd A outer s H E).ex:=fun b z=>absurd (show b∈([]:List Addr) from z) (by simp)
 refine⟨⟨e0.mod,S.kind,rfl,rfl,Nat.le_refl _,fun y z c h1 h2=>?_,fun y hy=>?_,fun y c _ h=>?_,fun _=>hd,Around.frames_deeper e0.frames,.inr ⟨rfl,rfl⟩,fun b z=>absurd z (noA b),e0.bs,e0.bsz,fun b _ _=>noA b,fun b z=>absurd z (noA b),e0.funs,e0.frf⟩,
  rfl,e0.bare,Un.kept hk,⟨_,x.toInCall.ns,fun i y v h1 h2 h3=>?_⟩,fun y c h=>⟨_,x.cell y c h⟩,e0.hok.fresh (Nat.le_refl _),fun y c h=>?_,fun p hp=>absurd (show p∈([]:List (Addr×Obj)) from hp) (by simp),e0.hok.kept hk,?_⟩
 ·exact name_of_addr x.apart (PySem.mem_of_lookup h1) (PySem.mem_of_lookup h2)
 ·have hy:scope.names.lookup y=some .cell∨scope.names.lookup y=some .free:=hy
  rcases hy with hy | hy
  ·exact uN hy
  ·exact absurd rfl (S.nofree _ (PySem.mem_of_lookup hy))
 ·exact Nat.le_of_lt (x.above y c (PySem.mem_of_lookup h))
 ·have hi:i<vs.length:=by
   unfold start at h2
   by_cases hi:i<vs.length
   ·exact hi
   ·rw[List.getElem?_append_right (by simpa using hi)] at h2
    rw[List.getElem?_replicate] at h2
    split at h2<;>cases h2
  have ha:vs[i]?=some v:=by
   unfold start at h2
   rw[List.getElem?_append_left (by simpa using hi),List.getElem?_map] at h2
   cases e:vs[i]? with
   |none=>rw[e] at h2;cases h2
   |some a=>rw[e] at h2;cases h2;rfl
  obtain⟨u,hu,rv⟩:=r.get ha
  have hp:ps[i]?=some y:=by
   rw[← S.pre,List.getElem?_take_of_lt (by omega)];exact h1
  have ndP:ps.Nodup:=by rw[← S.pre];exact S.nd.sublist (List.take_sublist _ _)
  refine⟨u,rv,?_⟩
  rcases S.par y (List.mem_of_getElem? hp) with k | k
  ·exact .inl ⟨k,bindL_get ndP hp hu k⟩
  ·obtain⟨c,e⟩:=uN (n:=s.heap.objs.size+1) k
   refine .inr ⟨.inl k,c,e,?_⟩
   have q:=x.cell y c e
   rw[vL ndP hp hu (by show scope.names.lookup y≠_;rw[k];decide)] at q
   exact q
 ·exact e0.hok.fresh (Nat.le_of_lt (x.above y c (PySem.mem_of_lookup h)))
 ·unfold start
  show _=N.length
  rw[List.length_append,List.length_map,List.length_replicate]
  omega
theorem znZ {CX:CXT}{P:Program}{w:World}{K:PySem.W.Frag}{mg:Str→Option Value}{base:Heap}{k:Nat}{f:Addr}{name qual:Str}{params:Arguments}{body:List Stmt}{scope:Scope}{dV kV doc pm cdv ct oc:Value}{an od:Option Addr}
  {osl:Array (Option Value)}{N ps:List Str}{sp:Sp}(lk:K.lookup f=some ⟨oc,od,.func (PySem.W.fnOf name qual params body scope dV kV doc pm an cdv ct),osl⟩) (hcd:PySem.W.codeIn K cdv qual=true) (S:FnScope N ps scope)
  (len:∀ vs H Q E,sp vs H Q E→vs.length=ps.length)
  (hbody:∀ (A:Around) (outer:List Env) (s:Shared) (H:Hp) (vs:List V) (Q:VK) (E:XK),Room k (A.deeper (envOfC qual scope s.heap.objs.size f cdv))→sp vs H Q E →
   ∃ t,PSs (zay CX P w K mg base N qual scope f cdv A outer s H E) body t∧t { nx:=fun _ H'=>Q .non H',rt:=Q } (start N vs) H) :
  FnOk P w K mg base CX (k+1) f (PySem.W.fnOf name qual params body scope dV kV doc pm an cdv ct) ps sp:=by
 refine⟨len,fun A outer s H args us vs Q E hr e0 hb r hsp=>?_⟩
 have hl:=len _ _ _ _ hsp
 have KX:K.In s.heap:=e0.mod.kin.keeps fun b o e=>(e0.bs b o e).1
 have lim:s.heap.NoLimit:=e0.mod.nolimit.keeps fun b o e=>(e0.bs b o e).1
 have hkind:∀ y∈ps.zip us,scope.names.lookup y.1=some .local∨(scope.names.lookup y.1=some .cell∧((cellsFrom (s.heap.objs.size+1) scope.names []).lookup y.1).isSome=true):=fun⟨n,v⟩ hy=>by
  rcases S.par n (List.of_mem_zip hy).1 with q | q
  ·exact .inl q
  ·exact .inr ⟨q,PySem.W.cellsFrom_some _ _ _ (.inl q)⟩
 refine codeAny_call_function hr.depth (KX _ _ lk) rfl S.co S.gen rfl (PySem.W.codeRec_of KX hcd) (hb _ _ _ _ ?_)
 refine wpAny_newFunctionEnv_cells S.kind hkind fun env he s1 x=>?_
 subst he
 refine⟨lim.keeps x.toInCall.keep,codeAny_func ?_⟩
 obtain⟨t,ht,hq⟩:=hbody A outer s H vs Q E (hr.deeper _) hsp
 have I:Inv (zay CX P w K mg base N qual scope f cdv A outer s H E) [] (start N vs) H s1:=Xn S hr.hd e0 hl r x
 refine wpAny_mono (ht [] s1 (start N vs) H _ I hq) (fun fl s' hs=>?_) fun e s' hs=>hs
 have fin:∀ {σ':St}{H':Hp}{v:V}{u:Value},Inv (zay CX P w K mg base N qual scope f cdv A outer s H E) [] σ' H' s'→RelV v u→Q v H'→CE outer P w H s Q u s' :=
  fun {σ' H' v u} J rv q=>⟨v,H',J.os,J.bare,J.base,J.hok,rv,q⟩
 cases fl with
 |ret u =>
  obtain⟨v,σ',H',J,rv,q⟩:=hs
  exact fin J rv q
 |next =>
  obtain⟨σ',H',J,q⟩:=hs
  exact fin (v:=V.non) (u:=Value.none) J rfl q
 |brk =>
  obtain⟨_,_,_,q⟩:=hs
  exact False.elim q
 |cont =>
  obtain⟨_,_,_,q⟩:=hs
  exact False.elim q
end L2
namespace L2
open PySem PySem.Spec PyProof.Rows
section
variable {X:Cx}{x:Str}{p pos:Pos}{e:Expr}{es:List Expr}{t:TA}{id T:String}{r:List V→Hp→VK→Prop}
def tCB (r:List V→Hp→VK→Prop) (t:TA):TE:=fun σ H Q=>t σ H fun vs H1=>r vs H1 Q
theorem yc (hc:yC X (.builtin id) r) (hg:Gl X x) (hm:X.mg x=none) (hv:bootBuiltins x=some (.builtin id)) (ha:PA X (e::es) t) (hn:x ≠ "__name__" := by decide) (hdb:(x == ("__debug__" : Str))=false:=by decide)
  (he:starEach (e::es) X.env=(false,eval e X.env)::starEach es X.env:=by rfl) (hpl:(backTo pos (starEach es X.env)).any (·.1)=false:=by rfl):PE X (.Call (.Name x p) (e::es) [] pos) (tCB r t):=by
 intro pins s σ H Q I h
 refine wpAny_Call_Name_kw (ld_blt I hg hm hv ?_ hn hdb)
 exact PyProof.Rows.callWith_builtin1 (thn (ha pos pins s σ H _ I h) fun us s1 ⟨vs,H1,I1,r1,q1⟩=>hc pins s1 σ H1 vs us Q I1 r1 q1) he hpl
theorem vo (hc:yC X (.type T) r) (hg:Gl X x) (hm:X.mg x=none) (hv:bootBuiltins x=some (.type T)) (ha:PA X (e::es) t) (hn:x ≠ "__name__" := by decide) (hdb:(x == ("__debug__" : Str))=false:=by decide)
  (he:starEach (e::es) X.env=(false,eval e X.env)::starEach es X.env:=by rfl) (hpl:(backTo pos (starEach es X.env)).any (·.1)=false:=by rfl):PE X (.Call (.Name x p) (e::es) [] pos) (tCB r t):=by
 intro pins s σ H Q I h
 refine wpAny_Call_Name_kw (ld_blt I hg hm hv ?_ hn hdb)
 exact PyProof.Rows.callWith_type1 (thn (ha pos pins s σ H _ I h) fun us s1 ⟨vs,H1,I1,r1,q1⟩=>hc pins s1 σ H1 vs us Q I1 r1 q1) he hpl
end
end L2
namespace HT
open PySem PyProof.Rows
section
variable {prog:Program}{w:World}{A:Around}{E:Value→Shared→Prop}{s:Shared}
theorem cat_tup {t b:Addr}{vs ws:List Value}{Q:Value→Shared→Prop}(ht:IsTup s.heap t vs.toArray) (hb:IsTup s.heap b ws.toArray) (hv:vs≠[])
  (h1:ws=[]→Q (.ref t) s) (h2:ws≠[]→Q (.ref s.heap.objs.size) { s with heap:=s.heap.push { cls:=.type "tuple",data:=.seq (vs++ws).toArray } })
  (hsz:vs.length+ws.length≤sizeLine):wpAny (model prog w) A (binaryOp .Add (.ref t) (.ref b)) Q E s:=by
 obtain⟨⟨cls,dd,data,sl⟩,ho,hc,n,hd⟩:=id ht
 obtain⟨⟨cls2,dd2,data2,sl2⟩,ho2,hc2,n2,hd2⟩:=id hb
 simp only at hc hd hc2 hd2
 subst hc hd hc2 hd2
 have e:vs.toArray++ws.toArray=(vs++ws).toArray:=by simp
 by_cases hw:ws=[]
 ·exact concat_meets ⟨_,ho,rfl⟩ ⟨_,ho2,rfl⟩ noFill_tuple_add seq_tuple_add PySem.F.slot_tuple_add PySem.F.entry_tuple_add (PySem.F.args_tuple_add_2 _ _)
   (tuple_addW1 t b vs.toArray ws.toArray n n2 dd dd2 sl sl2 (by simpa using hv) (by simp[hw])) ⟨ho,ho2,h1 hw⟩
 ·refine concat_meets ⟨_,ho,rfl⟩ ⟨_,ho2,rfl⟩ noFill_tuple_add seq_tuple_add PySem.F.slot_tuple_add PySem.F.entry_tuple_add (PySem.F.args_tuple_add_2 _ _)
   (tuple_addW2 t b vs.toArray ws.toArray n n2 dd dd2 sl sl2 (by simpa using hv) (by simpa using hw) (by rw[List.size_toArray,List.size_toArray];exact hsz)) ⟨ho,ho2,?_⟩
  rw[e]
  exact h2 hw
noncomputable def sIx (n d:Nat):Option Int→Nat
 |none=>d
 |some v=>if v<0 then(v+(n:Int)).toNat else min v.toNat n
end
end HT
namespace L2
open PySem PySem.Spec PyProof.Rows
abbrev TO:=St→Hp→(Option Int→Hp→Prop)→Prop
noncomputable def PO (X:Cx) (e:Option Expr) (t:TO):Prop :=
 ∀ (pins:List (Addr×Obj)) (s:Shared) (σ:St) (H:Hp) (Q:Option Int→Hp→Prop),Inv X pins σ H s→t σ H Q →
  wpAny (model X.prog X.w) X.A (evalPart e X.env) (fun u s'=>∃ o H',Inv X pins σ H' s'∧IsPart u o∧Q o H') X.xe s
def ZF:TO:=fun _ H Q=>Q none H
def zaJ (t:TE):TO:=fun σ H Q=>t σ H fun x H1=>∃ i,x=.int i∧Q (some i) H1
section
variable {X:Cx}{e:Expr}{te:TE}{lo hi:Option Expr}{tl th:TO}{pos p2:Pos}
theorem VL:PO X none ZF:=by
 intro pins s σ H Q I h
 rw[evalPart_none]
 exact wpAny_pure ⟨none,H,I,.none,h⟩
theorem po_some (h:PE X e te):PO X (some e) (zaJ te):=by
 intro pins s σ H Q I hw
 rw[evalPart_some]
 refine thn (h pins s σ H _ I hw) fun u s1 hq0=>?_
 obtain⟨x,H1,I1,r1,q1⟩:=hq0
 obtain⟨i,rfl,q⟩:=q1
 obtain⟨t,rfl⟩:=r1
 exact⟨some i,H1,I1,.int i t,q⟩
noncomputable def SlR (X:Cx) (r:V→Option Int→Option Int→Hp→VK→Prop):Prop :=
 ∀ (pins:List (Addr×Obj)) (s:Shared) (σ:St) (H:Hp) (x:V) (v vl vu:Value) (lo hi:Option Int) (sl:Addr) (Q:VK),Inv X pins σ H s→RelV x v→s.heap.IsSliceOf sl vl vu .none→IsPart vl lo→IsPart vu hi→r x lo hi H Q →
  ∃ T id,typeLookup (.type T) "__getitem__" = pure (some (.builtin id))∧s.TypeIs v T∧wpAny (model X.prog X.w) X.A (getItem v (.ref sl)) (EP X pins σ Q) X.xe s
def tSl (r:V→Option Int→Option Int→Hp→VK→Prop) (te:TE) (tl th:TO):TE:=fun σ H Q=>te σ H fun x H1=>tl σ H1 fun l H2=>th σ H2 fun u H3=>r x l u H3 Q
theorem Wd {r:V→Option Int→Option Int→Hp→VK→Prop}(hr:SlR X r) (he:PE X e te) (hl:PO X lo tl) (hu:PO X hi th):PE X (.Subscript e (.Slice lo hi none p2) pos) (tSl r te tl th):=by
 intro pins s σ H Q I h
 refine Subscript_ (thn (he pins s σ H _ I h) fun v s1 hq0=>?_)
 obtain⟨x,H1,I1,r1,q1⟩:=hq0
 refine wpAny_Slice (thn (hl pins s1 σ H1 _ I1 q1) fun vl s2 ⟨l,H2,I2,pl,q2⟩=>thn (hu pins s2 σ H2 _ I2 q2) fun vu s3 hq0=>?_)
 obtain⟨u,H3,I3,pu,q3⟩:=hq0
 rw[evalPart_none]
 refine wpAny_pure ?_
 have I4:Inv X pins σ H3 { s3 with heap:=s3.heap.push { cls:=.type "slice",data:=.fields #[vl,vu,.none] } }:=I3.kept (t':=s3.toks) fun b ob q=>Heap.get?_push_of_some _ q
 obtain⟨T,id,hT,ht,hg⟩:=hr pins { s3 with heap:=s3.heap.push { cls:=.type "slice",data:=.fields #[vl,vu,.none] } } σ H3 x v vl vu l u s3.heap.objs.size Q I4 r1 (Heap.IsSliceOf.new ..) pl pu q3
 show wpAny (model X.prog X.w) X.A (subscriptTail e (.Slice lo hi none p2) v (.ref s3.heap.objs.size)) (EP X pins σ Q) X.xe { s3 with heap:=s3.heap.push { cls:=.type "slice",data:=.fields #[vl,vu,.none] } }
 exact tail_any (ops:=[.ref s3.heap.objs.size,v]) ht hT hg (by with_unfolding_all rfl)
noncomputable def Zm (xs:List V) (lo hi:Option Int):List V:=(xs.drop (HT.sIx xs.length 0 lo)).take (HT.sIx xs.length xs.length hi-HT.sIx xs.length 0 lo)
theorem yR (xs:List V) (lo hi:Option Int):(Zm xs lo hi).length≤xs.length:=by
 unfold Zm
 rw[List.length_take,List.length_drop]
 omega
def zmQ (K:PySem.W.Frag):R2:=fun x y H Q=>∃ a b xs ys,x=.ref a∧y=.ref b∧SqT K H a xs∧SqT K H b ys∧xs≠[]∧xs.length+ys.length≤sizeLine ∧
 (ys=[]→Q (.ref a) H)∧(ys≠[]→∀ p,H p=none→Q (.ref p) (upd H p (.tup (xs++ys))))
theorem Vals.nil_iff {xs:List V}{us:List Value}(r:Vals xs us):us=[]↔xs=[]:=by
 cases r with
 |nil=>simp
 |cons _ _=>simp
theorem VY:OpR X (binaryOp .Add) (zmQ X.K):=by
 intro pins s σ H x y v u Q I rx ry h
 obtain⟨a,b,xs,ys,rfl,rfl,ha,hb,hx,hz,q1,q2⟩:=h
 cases rx
 cases ry
 obtain⟨its,r1,p1,_⟩:=I.tuple ha
 obtain⟨its2,r2,p2,_⟩:=I.tuple hb
 refine HT.cat_tup p1 p2 (fun z=>hx (r1.nil_iff.mp z)) (fun z=>⟨.ref a,H,I,rfl,q1 (r2.nil_iff.mp z)⟩) (fun z=>?_) (by rw[← r1.length,← r2.length];exact hz)
 refine⟨.ref s.heap.objs.size,_,I.laid (t':=s.toks) (o:=.tup (xs++ys)) (fun b ob q=>Heap.get?_push_of_some _ q) (Nat.le_refl _) ?_,rfl,q2 (fun w=>z (r2.nil_iff.mpr w)) _ (I.hok.fresh (Nat.le_refl _))⟩
 exact⟨by rw[List.length_append];exact hz,_,r1.append r2,IsTup.new _ _⟩
end
end L2
namespace L2
open PySem PySem.Spec PyProof.Rows
noncomputable def ixN (n:Nat) (i:Int):Option Nat:=if 0≤i then(if i<n then some i.toNat else none) else if -(n:Int)≤i then some (i+n).toNat else none
noncomputable def atI {α:Type}(xs:List α) (i:Int):Option α:=(ixN xs.length i).bind fun j=>xs[j]?
theorem zad {n:Nat}{i:Int}{j:Nat}(h:ixN n i=some j):seqIndex? i n=some j∧j<n∧-(n:Int)≤i∧i<n:=by
 unfold ixN at h
 by_cases h0:0≤i
 ·rw[if_pos h0] at h
  by_cases h1:i<n
  ·rw[if_pos h1] at h
   have e:i.toNat=j:=Option.some.inj h
   exact⟨by rw[seqIndex_of h0 h1,e],by omega,by omega,h1⟩
  ·rw[if_neg h1] at h;cases h
 ·rw[if_neg h0] at h
  by_cases h1 : -(n:Int)≤i
  ·rw[if_pos h1] at h
   have e:(i+n).toNat=j:=Option.some.inj h
   exact⟨by rw[seqIndex_neg (by omega) h1,e],by omega,h1,by omega⟩
  ·rw[if_neg h1] at h;cases h
theorem XM {α:Type}{xs:List α}{i:Int}{v:α}(h:atI xs i=some v):∃ j,seqIndex? i xs.length=some j∧xs[j]?=some v∧j<xs.length∧-(xs.length:Int)≤i∧i<xs.length:=by
 unfold atI at h
 cases e:ixN xs.length i with
 |none=>rw[e] at h;cases h
 |some j =>
  rw[e] at h
  obtain⟨h1,h2,h3,h4⟩:=zad e
  exact⟨j,h1,h,h2,h3,h4⟩
theorem yB {α:Type}{xs:List α}{j:Nat}{v:α}(h:xs[j]?=some v):atI xs (j:Int)=some v:=by
 have hj:j<xs.length:=(List.getElem?_eq_some_iff.mp h).1
 have e:ixN xs.length (j:Int)=some j:=by
  unfold ixN
  rw[if_pos (by omega),if_pos (by omega)];simp
 unfold atI;rw[e];exact h
def XR (b:Expr):Prop:=∀ o i,subscripted b false o i=operate [o,i] (getItem o i)
def IxR (X:Cx) (r:R2):Prop :=
 ∀ (value slice:Expr) (pins:List (Addr×Obj)) (s:Shared) (σ:St) (H:Hp) (x y:V) (v u:Value) (Q:VK),Inv X pins σ H s→RelV x v→RelV y u→r x y H Q →
  subscripted slice false v u=operate [v,u] (getItem v u)→wpAny (model X.prog X.w) X.A (subscriptTail value slice v u) (EP X pins σ Q) X.xe s
noncomputable def MtR (X:Cx) (id:String) (r:V→List V→Hp→VK→Prop):Prop :=
 ∀ (pins:List (Addr×Obj)) (s:Shared) (σ:St) (H:Hp) (x:V) (xs:List V) (v:Value) (us:List Value) (Q:VK),Inv X pins σ H s→RelV x v→Vals xs us→r x xs H Q →
  wpAny (model X.prog X.w) X.A (call (.builtin id) (v::us)) (EP X pins σ Q) X.xe s
section
variable {X:Cx}{a b:Expr}{ta tb:TE}{pos:Pos}
theorem vV {r:R2}(hr:IxR X r) (ha:PE X a ta) (hb:PE X b tb) (hs:XR b):PE X (.Subscript a b pos) (tOp r ta tb):=by
 intro pins s σ H Q I h
 exact Subscript_ (binT ha hb I h fun v u s2 x y H2 I2 rx ry q=>hr a b pins s2 σ H2 x y v u Q I2 rx ry q (hs _ _))
def zw3 (K:PySem.W.Frag):R2:=fun x y H Q=>∃ p xs i v,x=.ref p∧y=.int i∧SqL K H p xs∧atI xs i=some v∧Q v H
def zw2 (K:PySem.W.Frag):R2:=fun x y H Q=>∃ p xs i v,x=.ref p∧y=.int i∧SqT K H p xs∧atI xs i=some v∧Q v H
theorem zF:IxR X (zw3 X.K):=by
 intro value slice pins s σ H x y v u Q I rx ry h hs
 obtain⟨p,xs,i,z,rfl,rfl,hq,he,q⟩:=h
 cases rx
 obtain⟨t,rfl⟩:=ry
 obtain⟨its,r,pl,hz⟩:=I.list hq
 obtain⟨j,h1,h2,h3,h4,h5⟩:=XM he
 obtain⟨w,ew,rw'⟩:=r.get h2
 have hl:=r.length
 have hn:=Xh
 have fin:EP X pins σ Q w s:=⟨z,H,I,rw',q⟩
 by_cases h0:0≤i
 ·have hj:i.toNat=j:=by
   rw[seqIndex_of h0 h5] at h1
   exact Option.some.inj h1
  exact item_listR pl.isList h0 (by omega) (by rw[hj];simpa using ew) fin hs
 ·have hj:(i+(its.toArray.size:Int)).toNat=j:=by
   rw[seqIndex_neg (by omega) h4] at h1
   rw[List.size_toArray,← hl]
   exact Option.some.inj h1
  exact subscriptTail_builtinR (x:=w) pl.isList.typeIs slot_list_getitem.lookup
   (wpAny_getItem_list_neg (Q:=fun r s'=>r=w∧EP X pins σ Q r s') pl.isList (by omega) (by rw[List.size_toArray]<;>omega) (by omega) (by rw[hj];simpa using ew) ⟨rfl,fin⟩) hs
theorem zL:IxR X (zw2 X.K):=by
 intro value slice pins s σ H x y v u Q I rx ry h hs
 obtain⟨p,xs,i,z,rfl,rfl,hq,he,q⟩:=h
 cases rx
 obtain⟨t,rfl⟩:=ry
 obtain⟨its,r,pl,hz⟩:=I.tuple hq
 obtain⟨j,h1,h2,h3,h4,h5⟩:=XM he
 obtain⟨w,ew,rw'⟩:=r.get h2
 have hl:=r.length
 have hn:=Xh
 have fin:EP X pins σ Q w s:=⟨z,H,I,rw',q⟩
 exact subscriptTail_builtinR (x:=w) pl.typeIs slot_tuple_getitem.lookup
  (getItem_tuple (j:=j) (Q:=fun r s'=>r=w∧EP X pins σ Q r s') pl (by omega) (by omega) (by rw[List.size_toArray,← hl];exact h1) (by simpa using ew) ⟨rfl,fin⟩) hs
theorem vh (lo hi:Option Int) (n:Nat):(sliceBounds lo hi none n).1=((HT.sIx n 0 lo:Nat):Int)∧(sliceBounds lo hi none n).2.1=((HT.sIx n n hi:Nat):Int)∧(sliceBounds lo hi none n).2.2=1:=by
 refine⟨?_,?_,rfl⟩
 ·cases lo with
  |none=>simp[sliceBounds,HT.sIx]
  |some i =>
   simp only[sliceBounds,HT.sIx,Option.getD_none,show(1:Int)>0 by decide,if_true]
   by_cases h:i<0
   ·simp only[h,if_true]<;>omega
   ·simp only[h,if_false]<;>omega
 ·cases hi with
  |none=>simp[sliceBounds,HT.sIx]
  |some i =>
   simp only[sliceBounds,HT.sIx,Option.getD_none,show(1:Int)>0 by decide,if_true]
   by_cases h:i<0
   ·simp only[h,if_true]<;>omega
   ·simp only[h,if_false]<;>omega
theorem wx (its:List Value) (lo hi:Option Int):slicePick its.toArray lo hi none=((its.drop (HT.sIx its.length 0 lo)).take (HT.sIx its.length its.length hi-HT.sIx its.length 0 lo)).toArray:=by
 obtain⟨h1,h2,h3⟩:=vh lo hi its.toArray.size
 unfold slicePick
 rw[h1,h2,h3]
 simp only[sliceRange_one,pick_run,List.size_toArray]<;>rfl
def zw0 (K:PySem.W.Frag):V→Option Int→Option Int→Hp→VK→Prop:=fun x lo hi H Q=>∃ a xs,x=.ref a∧SqL K H a xs∧∀ p,H p=none→Q (.ref p) (upd H p (.lst (Zm xs lo hi)))
theorem Yy:SlR X (zw0 X.K):=by
 intro pins s σ H x v vl vu lo hi sl Q I rx hs pl pu h
 obtain⟨a,xs,rfl,hx,q⟩:=h
 cases rx
 obtain⟨its,r,ht,hz⟩:=I.list hx
 have hlen:=r.length
 refine⟨"list",_,slot_list_getitem.lookup,ht.isList.typeIs,?_⟩
 refine wpAny_getItem_list_slice ht.isList hs pl pu .none (by simp) ?_ (by rw[List.size_toArray]<;>omega)
 rw[wx,← hlen]
 refine⟨.ref s.heap.objs.size,_,I.laid (t':=s.toks) (o:=.lst (Zm xs lo hi)) (fun b ob q=>Heap.get?_push_of_some _ q) (Nat.le_refl _) ?_,rfl,q _ (I.hok.fresh (Nat.le_refl _))⟩
 exact⟨Nat.le_trans (yR xs lo hi) hz,_,0,(r.drop (HT.sIx xs.length 0 lo)).take (HT.sIx xs.length xs.length hi-HT.sIx xs.length 0 lo),Heap.get?_push_size _ rfl⟩
noncomputable def yQ:V→Bool
 |.non=>true
 |.bl _=>true
 |.int _=>true
 |.str _=>true
 |_=>false
noncomputable def eqV:V→V→Bool
 |.non,.non=>true
 |.bl a,.bl b=>a == b
 |.bl a,.int b=>(if a then 1 else 0) == b
 |.int a,.bl b=>a == (if b then 1 else 0)
 |.int a,.int b=>a == b
 |.str a,.str b=>a == b
 |_,_=>false
theorem eqAt_V {A:Around}{s:Shared}{y x:V}{u v:Value}(ry:RelV y u) (rx:RelV x v) (fy:yQ y=true) (fx:yQ x=true):SeqAt.EqAt A s u v (eqV y x):=by
 cases y with
 |non =>
  cases ry
  cases x with
  |non=>cases rx;exact SeqAt.EqAt.same _
  |bl b=>cases rx;exact SeqAt.EqAt.none_bool b
  |int b=>obtain⟨t,rfl⟩:=rx;exact SeqAt.EqAt.none_int b t
  |str b=>obtain⟨t,rfl⟩:=rx;exact SeqAt.EqAt.none_str b t
  |_=>exact absurd (show false=true from fx) Bool.false_ne_true
 |bl a =>
  cases ry
  cases x with
  |non=>cases rx;exact SeqAt.EqAt.bool_none a
  |bl b=>cases rx;exact SeqAt.EqAt.bool_bool a b
  |int b=>obtain⟨t,rfl⟩:=rx;exact SeqAt.EqAt.bool_int a b t
  |str b=>obtain⟨t,rfl⟩:=rx;exact SeqAt.EqAt.bool_str a b t
  |_=>exact absurd (show false=true from fx) Bool.false_ne_true
 |int a =>
  obtain⟨t',rfl⟩:=ry
  cases x with
  |non=>cases rx;exact SeqAt.EqAt.int_none a t'
  |bl b=>cases rx;exact SeqAt.EqAt.int_bool a t' b
  |int b=>obtain⟨t,rfl⟩:=rx;exact SeqAt.EqAt.int_int a t' b t
  |str b=>obtain⟨t,rfl⟩:=rx;exact SeqAt.EqAt.int_str a t' b t
  |_=>exact absurd (show false=true from fx) Bool.false_ne_true
 |str a =>
  obtain⟨t',rfl⟩:=ry
  cases x with
  |non=>cases rx;exact SeqAt.EqAt.str_none a t'
  |bl b=>cases rx;exact SeqAt.EqAt.str_bool a t' b
  |int b=>obtain⟨t,rfl⟩:=rx;exact SeqAt.EqAt.str_int a t' b t
  |str b=>obtain⟨t,rfl⟩:=rx;exact SeqAt.EqAt.str_str a t' b t
  |_=>exact absurd (show false=true from fx) Bool.false_ne_true
 |_=>exact absurd (show false=true from fy) Bool.false_ne_true
noncomputable def eqU (x:V) (u:Value):Bool:=match u with
 |.none=>eqV .non x
 |.bool b=>eqV (.bl b) x
 |.int i _=>eqV (.int i) x
 |.str z _=>eqV (.str z) x
 |_=>false
theorem Vl {x y:V}{u:Value}(r:RelV y u) (f:yQ y=true):eqU x u=eqV y x:=by
 cases y with
 |non=>cases r;rfl
 |bl b=>cases r;rfl
 |int i=>obtain⟨t,rfl⟩:=r;rfl
 |str z=>obtain⟨t,rfl⟩:=r;rfl
 |_=>exact absurd (show false=true from f) Bool.false_ne_true
theorem ui {x:V}:∀ {xs:List V}{us:List Value},Vals xs us→xs.all yQ=true→us.any (eqU x)=xs.any fun y=>eqV y x
 |_,_,.nil,_=>rfl
 |y::xs,u::us,.cons r t,f=>by
  rw[List.all_cons,Bool.and_eq_true] at f
  rw[List.any_cons,List.any_cons,Vl r f.1,ui t f.2]
theorem wM {A:Around}{s:Shared}{x:V}{v:Value}(rx:RelV x v) (fx:yQ x=true):∀ {xs:List V}{us:List Value},Vals xs us→xs.all yQ=true→∀ u∈us,SeqAt.EqAt A s u v (eqU x u)
 |_,_,.nil,_=>fun u hu=>by cases hu
 |y::xs,u::us,.cons r t,f=>fun u' hu=>by
  rw[List.all_cons,Bool.and_eq_true] at f
  rcases List.mem_cons.mp hu with rfl | hu
  ·rw[Vl r f.1];exact eqAt_V r rx f.1 fx
  ·exact wM rx fx t f.2 u' hu
def inV (x:V) (xs:List V):Bool:=xs.any fun y=>eqV y x
def rIn (K:PySem.W.Frag) (neg:Bool):R2:=fun x y H Q=>∃ p xs,y=.ref p∧(SqL K H p xs∨SqT K H p xs)∧yQ x=true∧xs.all yQ=true∧Q (.bl (if neg then !inV x xs else inV x xs)) H
theorem xJ:OpR X (compareOp .In) (rIn X.K false):=by
 intro pins s σ H x y v u Q I rx ry h
 obtain⟨p,xs,rfl,hq,fx,fs,q⟩:=h
 cases ry
 rcases hq with hq | hq
 ·obtain⟨its,r,pl,hz⟩:=I.list hq
  refine SeqAt.in_listAt (eqU x) pl.isList (fun w hw=>wM rx fx r fs w (by simpa using hw)) ⟨.bl _,H,I,rfl,?_⟩
  rw[show its.toArray.any (eqU x)=its.any (eqU x) by simp,ui r fs]
  exact q
 ·obtain⟨its,r,pl,hz⟩:=I.tuple hq
  refine SeqAt.in_tupleAt (eqU x) pl (fun w hw=>wM rx fx r fs w (by simpa using hw)) ⟨.bl _,H,I,rfl,?_⟩
  rw[show its.toArray.any (eqU x)=its.any (eqU x) by simp,ui r fs]
  exact q
theorem zr:yC X (.builtin "len") (fun xs H Q=>∃ p ys,xs=[.ref p]∧(SqL X.K H p ys∨SqT X.K H p ys)∧Q (.int ys.length) H):=by
 intro pins s σ H xs us Q I r h
 obtain⟨p,ys,rfl,hq,q⟩:=h
 obtain⟨u,rfl,rx⟩:=Zu r
 cases rx
 have hn:=Xh
 rcases hq with hq | hq
 ·obtain⟨its,r',pl,hz⟩:=I.list hq
  have hlen:=r'.length
  exact Calls.call_len_list pl.isList (by simp only[List.size_toArray]<;>omega) ⟨.int ys.length,H,I.tok _,⟨s.toks+1,by rw[List.size_toArray,hlen]⟩,q⟩
 ·obtain⟨its,r',pl,hz⟩:=I.tuple hq
  have hlen:=r'.length
  exact len_tuple pl (by simp only[List.size_toArray]<;>omega) ⟨.int ys.length,H,I.tok _,⟨s.toks+1,by rw[List.size_toArray,hlen]⟩,q⟩
theorem ym:yC X (.type "list") (fun xs H Q=>∃ p ys,xs=[.ref p]∧(SqL X.K H p ys∨SqT X.K H p ys)∧∀ l,H l=none→Q (.ref l) (upd H l (.lst ys))):=by
 intro pins s σ H xs us Q I r h
 obtain⟨p,ys,rfl,hq,q⟩:=h
 obtain⟨u,rfl,rx⟩:=Zu r
 cases rx
 have fin:∀ (its:List Value),Vals ys its→ys.length≤sizeLine→∀ (h':Heap) (c':Nat),(∀ b o',s.heap.get? b=some o'→h'.get? b=some o') →
   h'.get? s.heap.objs.size=some { cls:=.type "list",dict:=none,data:=.seq its.toArray c',slots:=#[] }→EP X pins σ Q (.ref s.heap.objs.size) { s with heap:=h' }:=fun its r' hz h' c' kp e =>
  ⟨.ref s.heap.objs.size,_,I.laid (t':=s.toks) kp (Nat.le_refl _) (show ObjOk X.prog X.w _ h' _ (.lst ys) from⟨hz,its,c',r',e⟩),rfl,q _ (I.hok.fresh (Nat.le_refl _))⟩
 rcases hq with hq | hq
 ·obtain⟨its,r',pl,hz⟩:=I.list hq
  have hlen:=r'.length
  obtain⟨o,ho,hc,n,hd⟩:=pl.isList
  exact call_list_seq p (.inl rfl) ho hc hd (fun h' c' kp e=>fin its r' hz h' c' kp e) (by simp only[List.size_toArray]<;>omega)
 ·obtain⟨its,r',pl,hz⟩:=I.tuple hq
  have hlen:=r'.length
  obtain⟨o,ho,hc,n,hd⟩:=pl
  exact call_list_seq p (.inr rfl) ho hc hd (fun h' c' kp e=>fin its r' hz h' c' kp e) (by simp only[List.size_toArray]<;>omega)
theorem wT:yC X (.type "tuple") (fun xs H Q=>∃ p ys,xs=[.ref p]∧((SqL X.K H p ys∧∀ l,H l=none→Q (.ref l) (upd H l (.tup ys)))∨(SqT X.K H p ys∧Q (.ref p) H))):=by
 intro pins s σ H xs us Q I r h
 obtain⟨p,ys,rfl,h⟩:=h
 obtain⟨u,rfl,rx⟩:=Zu r
 cases rx
 rcases h with⟨hq,q⟩ | ⟨hq,q⟩
 ·obtain⟨its,r',pl,hz⟩:=I.list hq
  have hlen:=r'.length
  refine call_tuple_list pl.isList (fun h' kp=>?_) (by simp only[List.size_toArray]<;>omega)
  have I1:Inv X pins σ H { s with heap:=h' }:=I.kept (t':=s.toks) kp
  have I2:Inv X pins σ (upd H h'.objs.size (.tup ys)) { s with heap:=h'.push { cls:=.type "tuple",data:=.seq its.toArray } } :=
   I1.laid (t':=s.toks) (fun b o e=>Heap.get?_push_of_some _ e) (Nat.le_refl _) (show ObjOk X.prog X.w _ _ _ (.tup ys) from⟨hz,its,r',IsTup.new _ _⟩)
  exact⟨.ref h'.objs.size,_,I2,rfl,q _ (I1.hok.fresh (Nat.le_refl _))⟩
 ·obtain⟨its,r',pl,hz⟩:=I.tuple hq
  exact call_tuple_same pl ⟨.ref p,H,I,rfl,q⟩
def tyV (K:PySem.W.Frag) (T:String) (x:V) (H:Hp):Prop:=match x with
 |.str _=>T = "str"
 |.int _=>T = "int"
 |.ref p=>(T = "list" ∧ ∃ xs,SqL K H p xs)∨(T = "tuple" ∧ ∃ o,K.lookup p=some o∧o.cls=.type "tuple" ∧ o.dict=none) ∨
   (T = "dict" ∧ ((∃ kvs,H p=some (.dK kvs))∨∃ kvs,H p=some (.dT kvs)))∨(T = "set" ∧ ∃ S n,H p=some (.set S n))
 |_=>False
theorem zaC {pins:List (Addr×Obj)}{σ:St}{H:Hp}{s:Shared}{T:String}{x:V}{v:Value}(I:Inv X pins σ H s) (r:RelV x v) (ty:tyV X.K T x H) :
  s.TypeIs v T∧∀ a,v=.ref a→∃ ob,s.heap.get? a=some ob∧ob.dict=none:=by
 cases x with
 |str z =>
  obtain⟨t,rfl⟩:=r
  cases (show T = "str" from ty)
  exact⟨typeIs_str s z t,fun _ e=>nomatch e⟩
 |int i =>
  obtain⟨t,rfl⟩:=r
  cases (show T = "int" from ty)
  exact⟨typeIs_int s i t,fun _ e=>nomatch e⟩
 |ref p =>
  cases r
  rcases ty with⟨rfl,xs,hq⟩ | ⟨rfl,o,hk,hc,hd⟩ | ⟨rfl,hk⟩ | ⟨rfl,S,n,hk⟩
  ·obtain⟨its,_,pl,_⟩:=I.list hq
   refine⟨pl.isList.typeIs,fun a e=>?_⟩
   cases e
   obtain⟨o,n,e,c,hd,_⟩:=pl
   exact⟨o,e,hd⟩
  ·refine⟨⟨o,I.kIn p o hk,hc⟩,fun a e=>?_⟩
   cases e
   exact⟨o,I.kIn _ o hk,hd⟩
  ·have z:∃ o,s.heap.get? p=some o∧o.ExactDict:=by
    rcases hk with⟨kvs,hk⟩ | ⟨kvs,hk⟩
    ·obtain⟨_,_,_,_,o,_,_,e,ex,_⟩:=I.hok p _ hk
     exact⟨o,e,ex⟩
    ·obtain⟨_,_,_,_,o,_,_,e,ex,_⟩:=I.hok p _ hk
     exact⟨o,e,ex⟩
   obtain⟨o,e,ex⟩:=z
   refine⟨⟨o,e,ex.1⟩,fun a e2=>?_⟩
   cases e2
   exact⟨o,e,ex.2.1⟩
  ·obtain⟨o,_,_,_,e,ex,_⟩:=I.hok p _ hk
   refine⟨⟨o,e,ex.1⟩,fun a e2=>?_⟩
   cases e2
   exact⟨o,e,ex.2.1⟩
 |_=>exact False.elim ty
def tBM (K:PySem.W.Frag) (T:String) (r:V→List V→Hp→VK→Prop) (to:TE) (t:TA):TE:=fun σ H Q=>to σ H fun x H1=>tyV K T x H1∧t σ H1 fun xs H2=>r x xs H2 Q
variable {o e:Expr}{es:List Expr}{to:TE}{t:TA}{name:Str}{apos cpos:Pos}{T id:String}{r:V→List V→Hp→VK→Prop}
theorem VU (pa:PlainAttrs T) (slot:Slot T name id) (hty:typeOf (.builtin id)=pure (.type "method_descriptor")) (hm:MtR X id r) (ho:PE X o to) (ha:PA X (e::es) t)
  (hbase:attributeBase o name X.env (eval o X.env)=eval o X.env:=by rfl)
  (hfew:((backTo cpos (starEach (e::es) X.env)).all (fun x=>!x.1)&&(backToKw cpos (keywordEach [] X.env)).all (fun x=>x.1.isSome)
   && decide ((e::es).length+([]:List Keyword).length+(if ([]:List Keyword).isEmpty then 0 else 1)<30))=true:=by rfl)
  (hline:(apos.endLine == cpos.line)=true:=by rfl) (hs:starEach (e::es) X.env=(false,eval e X.env)::starEach es X.env:=by rfl) (hplain:(backTo cpos (starEach es X.env)).any (·.1)=false:=by rfl) :
  PE X (.Call (.Attribute o name apos) (e::es) [] cpos) (tBM X.K T r to t):=by
 intro pins s σ H Q I h
 refine wpAny_Call_method_late hbase hfew hline rfl (thn (ho pins s σ H _ I h) fun v s1 hq0=>?_)
 obtain⟨x,H1,I1,r1,ty,q1⟩:=hq0
 obtain⟨h1,h2⟩:=zaC I1 r1 ty
 refine⟨T,id,pa,slot,hty,h1,h2,?_⟩
 have hA:=ha cpos pins s1 σ H1 _ I1 q1
 rw[hs] at hA ⊢
 refine Calls.callWith_builtin (by show(false||(backTo cpos (starEach es X.env)).any (·.1))=false;rw[hplain]<;>rfl) (Calls.evalArgs_plain ?_)
 exact thn hA fun us s2 ⟨vs,H2,I2,r2,q2⟩=>hm pins s2 σ H2 x vs v us Q I2 r1 r2 q2
end
end L2
namespace L2
open PySem PySem.Spec PyProof.Rows
noncomputable def MtM (X:Cx) (id:String) (r:V→List V→Hp→VK→Prop):Prop :=
 ∀ (pins:List (Addr×Obj)) (s:Shared) (σ:St) (H:Hp) (x:V) (xs:List V) (v:Value) (us:List Value) (Q:VK),Inv X pins σ H s→RelV x v→Vals xs us→r x xs H Q →
  wpAny (model X.prog X.w) X.A (call (.builtin id) (v::us)) (EP X pins σ Q) X.xe s
theorem Vals.one:∀ {x:V}{us:List Value},Vals [x] us→∃ u,us=[u]∧RelV x u
 |_,_,.cons r .nil=>⟨_,rfl,r⟩
theorem Vals.two:∀ {x y:V}{us:List Value},Vals [x,y] us→∃ u v,us=[u,v]∧RelV x u∧RelV y v
 |_,_,_,.cons r (.cons q .nil)=>⟨_,_,rfl,r,q⟩
theorem Vals.eraseIdx:∀ {xs:List V}{us:List Value}(i:Nat),Vals xs us→Vals (xs.eraseIdx i) (us.eraseIdx i)
 |_,_,_,.nil=>.nil
 |_,_,0,.cons _ t=>t
 |_,_,i+1,.cons r t=>.cons r (Vals.eraseIdx i t)
theorem Vals.reverse {xs:List V}{us:List Value}(h:Vals xs us):Vals xs.reverse us.reverse:=by
 induction h with
 |nil=>exact .nil
 |cons r t ih=>rw[List.reverse_cons,List.reverse_cons];exact Vals.append ih (.cons r .nil)
theorem vz {α:Type}:∀ (l:List α) (i:Nat),(l.eraseIdx i).length≤l.length
 |[],_=>Nat.le_refl _
 |_::_,0=>Nat.le_succ _
 |_::r,i+1=>Nat.succ_le_succ (vz r i)
section
variable {X:Cx}{pins:List (Addr×Obj)}{σ:St}{H:Hp}{s:Shared}{l b:Addr}{xs ys zs:List V}
theorem Inv.lset {its its':List Value}{n:Nat}{f:Array Value→Array Value}{t':Nat}(I:Inv X pins σ H s) (hH:H l=some (.lst xs))
  (e:s.heap.get? l=some { cls:=.type "list",data:=.seq its.toArray n }) (hf:f its.toArray=its'.toArray) (hv:Vals ys its') (hz:ys.length≤sizeLine) :
  Inv X pins σ (upd H l (.lst ys)) { s with heap:=s.heap.update l (Obj.mapSeq f),toks:=t' }:=by
 have q:=PySem.IsL.update e f
 rw[hf] at q
 refine I.write (x:=l) (e:=l) (by rw[hH];exact trivial) (.inl rfl) (fun b' u hb hu=>(Heap.get?_update_other s.heap (Obj.mapSeq f) (Ne.symm hb)).trans hu) ⟨_,q⟩ ?_
 exact⟨hz,its',_,hv,q⟩
theorem Inv.lnew {its:List Value}{t':Nat}(I:Inv X pins σ H s) (hv:Vals ys its) (hz:ys.length≤sizeLine) :
  Inv X pins σ (upd H s.heap.objs.size (.lst ys)) { s with heap:=s.heap.push { cls:=.type "list",data:=.seq its.toArray },toks:=t' } :=
 I.laid (fun _ _ q=>Heap.get?_push_of_some _ q) (Nat.le_refl _) ⟨hz,its,0,hv,Heap.get?_push_size _ rfl⟩
theorem Inv.fresh (I:Inv X pins σ H s):H s.heap.objs.size=none:=I.hok.fresh (Nat.le_refl _)
theorem Inv.lstM (I:Inv X pins σ H s) (hH:H l=some (.lst xs)):xs.length≤sizeLine∧∃ (its:List Value) (n:Nat),Vals xs its∧xs.length=its.length∧s.heap.get? l=some { cls:=.type "list",data:=.seq its.toArray n }:=by
 obtain⟨z,its,n,r,e⟩:=I.hok l _ hH
 exact⟨z,its,n,r,r.length,e⟩
theorem Wu {n:Nat}(h:n≤sizeLine):Builtin.List.listTooLong n=false:=by
 unfold Builtin.List.listTooLong
 exact decide_eq_false (by omega)
end
section
variable {X:Cx}
def VC:V→List V→Hp→VK→Prop:=fun x vs H Q=>∃ l xs y,x=.ref l∧vs=[y]∧H l=some (.lst xs)∧xs.length<sizeLine∧Q .non (upd H l (.lst (xs++[y])))
theorem zQ:MtM X "list.append" VC:=by
 intro pins s σ H x vs v us Q I rx rv h
 obtain⟨l,xs,y,rfl,rfl,hH,hz,q⟩:=h
 cases rx
 obtain⟨u,rfl,ru⟩:=rv.one
 obtain⟨z,its,n,r,hl,e⟩:=I.lstM hH
 refine call_meets F.slot_list_append ⟨_,e,rfl⟩ F.entry_list_append (F.args_list_append_2 _ _) (PySem.list_append l its.toArray n u (by rw[List.size_toArray];omega)) ⟨e,?_⟩
 refine⟨.non,_,I.lset (its':=its++[u]) hH e (by simp) (r.append (.cons ru .nil)) ?_,rfl,q⟩
 rw[List.length_append,List.length_singleton]
 omega
def VB:V→List V→Hp→VK→Prop:=fun x vs H Q=>∃ l b xs zs,x=.ref l∧vs=[.ref b]∧H l=some (.lst xs)∧H b=some (.lst zs)∧xs.length+zs.length≤sizeLine∧Q .non (upd H l (.lst (xs++zs)))
theorem zh7:MtM X "list.extend" VB:=by
 intro pins s σ H x vs v us Q I rx rv h
 obtain⟨l,b,xs,zs,rfl,rfl,hH,hB,hz,q⟩:=h
 cases rx
 obtain⟨u,rfl,ru⟩:=rv.one
 cases ru
 obtain⟨z,its,n,r,hl,e⟩:=I.lstM hH
 obtain⟨z2,its2,n2,r2,hl2,e2⟩:=I.lstM hB
 have hsz:its.toArray.size+its2.toArray.size≤sizeLine:=by rw[List.size_toArray,List.size_toArray];omega
 have hlong:¬ (!its.toArray.isEmpty&&Builtin.List.listTooLong (its.toArray.size+its2.toArray.size))=true:=by
  rw[Wu hsz,Bool.and_false]
  exact Bool.false_ne_true
 refine call_meets F.slot_list_extend ⟨_,e,rfl⟩ F.entry_list_extend (F.args_list_extend_2 _ _)
  (AutoSeq1.list_extend_list_list_0 l its.toArray n b its2.toArray n2 hlong (by rw[List.size_toArray];omega) (by omega)) ⟨e,e2,?_⟩
 refine⟨.non,_,I.lset (its':=its++its2) hH e (by simp) (r.append r2) ?_,rfl,q⟩
 rw[List.length_append]
 omega
def zf6:V→List V→Hp→VK→Prop:=fun x vs H Q=>∃ l xs i k y,x=.ref l∧vs=[.int i]∧H l=some (.lst xs)∧-(2 ^ 63)≤i∧i<2 ^ 63∧seqIndex? i xs.length=some k∧xs[k]?=some y∧Q y (upd H l (.lst (xs.eraseIdx k)))
theorem uH:MtM X "list.pop" zf6:=by
 intro pins s σ H x vs v us Q I rx rv h
 obtain⟨l,xs,i,k,y,rfl,rfl,hH,h1,h2,hk,hy,q⟩:=h
 cases rx
 obtain⟨u,rfl,ru⟩:=rv.one
 obtain⟨t,rfl⟩:=ru
 obtain⟨z,its,n,r,hl,e⟩:=I.lstM hH
 obtain⟨w,hw,rw'⟩:=r.get hy
 refine call_meets F.slot_list_pop ⟨_,e,rfl⟩ F.entry_list_pop (F.args_list_pop_2 _ _)
  (MeetsSeq.list_pop_at l its.toArray n i t k w (fitsIndex_both h1 h2) (by rw[List.size_toArray,← hl];exact hk) (by rw[← Array.getElem?_toList];exact hw) (by rw[List.size_toArray];omega)) ⟨e,?_⟩
 refine⟨y,_,I.lset (its':=its.eraseIdx k) hH e ?_ (r.eraseIdx k) ?_,rw',q⟩
 ·show its.toArray.eraseIdxIfInBounds k=(its.eraseIdx k).toArray
  rw[List.eraseIdxIfInBounds_toArray]
 ·have:=vz xs k
  omega
def zw6:R2:=fun x y H Q=>∃ l b xs zs,x=.ref l∧y=.ref b∧H l=some (.lst xs)∧H b=some (.lst zs)∧xs.length+zs.length≤sizeLine∧∀ p,H p=none→Q (.ref p) (upd H p (.lst (xs++zs)))
theorem yM:OpR X (binaryOp .Add) zw6:=by
 intro pins s σ H x y v u Q I rx ry h
 obtain⟨l,b,xs,zs,rfl,rfl,hH,hB,hz,q⟩:=h
 cases rx
 cases ry
 obtain⟨z,its,n,r,hl,e⟩:=I.lstM hH
 obtain⟨z2,its2,n2,r2,hl2,e2⟩:=I.lstM hB
 refine PySem.P.add_list e e2 ?_ (by rw[List.size_toArray,List.size_toArray];omega)
 have ea:its.toArray++its2.toArray=(its++its2).toArray:=by simp
 rw[ea]
 exact⟨.ref _,_,I.lnew (t':=s.toks) (r.append r2) (by rw[List.length_append];omega),rfl,q _ I.fresh⟩
end
end L2
namespace L2
open PySem PySem.Spec PyProof.Rows
section
variable {κ:Type} [DecidableEq κ]
noncomputable def xr (kvs:List (κ×V)) (k:κ):Option V:=(kvs.find? fun kv=>decide (kv.1=k)).map (·.2)
noncomputable def putK (kvs:List (κ×V)) (k:κ) (v:V):List (κ×V) :=
 if (kvs.any fun kv=>decide (kv.1=k))=true then kvs.map (fun kv=>if kv.1=k then(kv.1,v) else kv) else kvs++[(k,v)]
theorem xu {p:κ×V}{r:List (κ×V)}{k:κ}(e:p.1=k):xr (p::r) k=some p.2:=by simp[xr,List.find?_cons,e]
theorem xv {p:κ×V}{r:List (κ×V)}{k:κ}(e:¬ p.1=k):xr (p::r) k=xr r k:=by simp[xr,List.find?_cons,e]
theorem xw (k:κ):∀ kvs:List (κ×V),(kvs.any fun kv=>decide (kv.1=k))=(xr kvs k).isSome
 |[]=>rfl
 |p::r=>by
  rw[List.any_cons]
  by_cases e:p.1=k
  ·simp only[xu e,decide_eq_true e,Bool.true_or,Option.isSome_some]
  ·rw[xv e,decide_eq_false e,Bool.false_or];exact xw k r
theorem yO (kvs:List (κ×V)) (k:κ) (v:V):(putK kvs k v).length≤kvs.length+1:=by
 unfold putK
 split
 ·rw[List.length_map];omega
 ·rw[List.length_append,List.length_cons,List.length_nil];omega
theorem RelO.isSome_eq {o:Option V}{u:Option Value}(r:RelO o u):o.isSome=u.isSome:=by
 cases o with
 |none=>cases u with
  |none=>rfl
  |some _=>exact(show False from r).elim
 |some _=>cases u with
  |none=>exact(show False from r).elim
  |some _=>rfl
theorem RelO.getD {o:Option V}{u:Option Value}{d:V}{d':Value}(r:RelO o u) (rd:RelV d d'):RelV (o.getD d) (u.getD d'):=by
 cases o with
 |none=>cases u with
  |none=>exact rd
  |some _=>exact(show False from r).elim
 |some _=>cases u with
  |none=>exact(show False from r).elim
  |some _=>exact r
theorem KV.val {kvs:List (κ×V)}{vs:List (κ×Value)}(r:KV kvs vs) (k:κ):RelO (xr kvs k) (valueAt vs k):=by
 unfold KV at r
 induction r with
 |nil=>exact True.intro
 | @cons p q ps qs h t ih =>
  obtain⟨h1,h2⟩:=h
  by_cases e:p.1=k
  ·have e':q.1=k:=h1.symm.trans e
   have b:valueAt (q::qs) k=some q.2:=by simp[valueAt,List.find?_cons,e']
   rw[xu e,b];exact h2
  ·have e':¬ q.1=k:=fun z=>e (h1.trans z)
   have b:valueAt (q::qs) k=valueAt qs k:=by simp[valueAt,List.find?_cons,e']
   rw[xv e,b];exact ih
theorem KV.any {kvs:List (κ×V)}{vs:List (κ×Value)}(r:KV kvs vs) (k:κ):(kvs.any fun kv=>decide (kv.1=k))=vs.any fun kv=>decide (kv.1=k):=by
 unfold KV at r
 induction r with
 |nil=>rfl
 |cons h t ih=>rw[List.any_cons,List.any_cons,ih,h.1]
theorem KV.repl {kvs:List (κ×V)}{vs:List (κ×Value)}(r:KV kvs vs) (k:κ){y:V}{u:Value}(ry:RelV y u) :
  KV (kvs.map fun kv=>if kv.1=k then(kv.1,y) else kv) (vs.map fun kv=>if kv.1=k then(kv.1,u) else kv):=by
 unfold KV at r ⊢
 induction r with
 |nil=>exact .nil
 | @cons p q ps qs h t ih =>
  rw[List.map_cons,List.map_cons]
  refine .cons ?_ ih
  obtain⟨h1,h2⟩:=h
  by_cases e:p.1=k
  ·rw[if_pos e,if_pos (h1.symm.trans e)];exact⟨h1,ry⟩
  ·rw[if_neg e,if_neg (fun z=>e (h1.trans z))];exact⟨h1,h2⟩
theorem KV.put {kvs:List (κ×V)}{vs:List (κ×Value)}(r:KV kvs vs) (k:κ){y:V}{u:Value}(ry:RelV y u):KV (putK kvs k y) (stored vs k u):=by
 unfold putK stored
 rw[r.any k]
 by_cases e:(vs.any fun kv=>decide (kv.1=k))=true
 ·rw[if_pos e,if_pos e];exact r.repl k ry
 ·rw[if_neg e,if_neg e];exact Paired.snoc r ⟨rfl,ry⟩
theorem KV.length {kvs:List (κ×V)}{vs:List (κ×Value)}(r:KV kvs vs):kvs.length=vs.length:=Paired.length r
end
theorem vA {P:Program}{w:World}{k:Key}{u:Value}(r:RelV (kV k) u):(zz P w).is k u=true:=by
 cases k with
 |inl i=>obtain⟨t,e⟩:=(show ∃ t,u=Value.int i t from r);subst e;exact v7 P w i t
 |inr x=>obtain⟨t,e⟩:=(show ∃ t,u=Value.str x t from r);subst e;exact v6 P w x t
theorem vB {P:Program}{w:World}:∀ {ks:List Key}{us:List Value},Vals (ks.map kV) us→ItemsAre (zz P w) ks us
 |[],_,r=>by rw[List.map_nil] at r;cases r;exact .nil
 |k::ks,_,r=>by
  rw[List.map_cons] at r
  cases r with
  |cons h t=>exact .cons (vA h) (vB t)
abbrev KT (H:Hp):List (List Key×V)→List (List Key×Addr×Value)→Prop:=Paired fun p q=>p.1=q.1∧H q.2.1=some (.tup (p.1.map kV))∧RelV p.2 q.2.2
theorem KT.val {H:Hp}{kvs:List (List Key×V)}{xs:List (List Key×Addr×Value)}(r:KT H kvs xs) (k:List Key):RelO (xr kvs k) ((atKey xs k).map (·.2)):=by
 induction r with
 |nil=>exact True.intro
 | @cons p q ps qs h t ih =>
  obtain⟨h1,_,h2⟩:=h
  by_cases e:p.1=k
  ·have e':q.1=k:=h1.symm.trans e
   have b:atKey (q::qs) k=some q.2:=by simp[atKey,List.find?_cons,e']
   rw[xu e,b];exact h2
  ·have e':¬ q.1=k:=fun z=>e (h1.trans z)
   have b:atKey (q::qs) k=atKey qs k:=by simp[atKey,List.find?_cons,e']
   rw[xv e,b];exact ih
theorem KT.repl {H:Hp}{kvs:List (List Key×V)}{xs:List (List Key×Addr×Value)}(r:KT H kvs xs) (k:List Key){y:V}{u:Value}(ry:RelV y u) :
  KT H (kvs.map fun kv=>if kv.1=k then(kv.1,y) else kv) (xs.map (putAt k u)):=by
 induction r with
 |nil=>exact .nil
 | @cons p q ps qs h t ih =>
  rw[List.map_cons,List.map_cons]
  refine .cons ?_ ih
  obtain⟨h1,h2,h3⟩:=h
  unfold putAt
  by_cases e:p.1=k
  ·rw[if_pos e,if_pos (h1.symm.trans e)];exact⟨h1,h2,ry⟩
  ·rw[if_neg e,if_neg (fun z=>e (h1.trans z))];exact⟨h1,h2,h3⟩
theorem KT.put {H:Hp}{kvs:List (List Key×V)}{xs:List (List Key×Addr×Value)}(r:KT H kvs xs) (k:List Key){b:Addr}{y:V}{u:Value}(hb:H b=some (.tup (k.map kV))) (ry:RelV y u) :
  KT H (putK kvs k y) (storedH xs k b u):=by
 have e:(kvs.any fun kv=>decide (kv.1=k))=(atKey xs k).isSome:=by
  rw[xw,(r.val k).isSome_eq,Option.isSome_map]
 unfold putK storedH
 rw[e]
 by_cases q:(atKey xs k).isSome=true
 ·rw[if_pos q,if_pos q];exact r.repl k ry
 ·rw[if_neg q,if_neg q];exact Paired.snoc r ⟨rfl,hb,ry⟩
theorem KT.keeps {H H':Hp}{kvs:List (List Key×V)}{xs:List (List Key×Addr×Value)}(r:KT H kvs xs) (ht:∀ b ys,H b=some (.tup ys)→H' b=some (.tup ys)):KT H' kvs xs :=
 Paired.mapP r fun _ _ z=>⟨z.1,ht _ _ z.2.1,z.2.2⟩
section
variable {P:Program}{w:World}{H:Hp}{h:Heap}{a:Addr}
theorem zf3 {u:HO}(ok:HOk P w H h) (e:Rd H a u):ObjOk P w H h a u:=e.ok ok
theorem vG {kvs:List (Key×V)}(ok:HOk P w H h) (e:Rd H a (.dK kvs)):kvs.length≤sizeLine∧(a == sysModules)=false∧∃ vs,KV kvs vs∧h.DictOf (zz P w) a vs :=
 show ObjOk P w H h a (.dK kvs) from zf3 ok e
theorem WO {kvs:List (Key×V)}(ok:HOk P w H h) (e:H a=some (.dK kvs)):kvs.length≤sizeLine∧(a == sysModules)=false∧∃ vs,KV kvs vs∧h.DictOf (zz P w) a vs:=vG ok (.inl e)
theorem wj {ks:List Key}(ok:HOk P w H h) (e:H a=some (.tup (ks.map kV))):(tupleKind (zz P w)).is h ks a:=by
 obtain⟨_,its,r,o,h1,h2,n,h3⟩:=(show ObjOk P w H h a (.tup (ks.map kV)) from ok a _ e)
 exact⟨o,its.toArray,n,h1,h2,h3,by simpa using vB r⟩
theorem ud {kvs:List (List Key×V)}(ok:HOk P w H h) (e:Rd H a (.dT kvs)):kvs.length≤sizeLine∧(a == sysModules)=false ∧
  ∃ xs,KT H kvs xs∧h.DictOfH (tupleKind (zz P w)) a xs:=by
 obtain⟨z,y,xs,r,o,es,ep,h1,h2,h3,h4,h5⟩:=(show ObjOk P w H h a (.dT kvs) from zf3 ok e)
 refine⟨z,y,xs,r,o,es,ep,h1,h2,h3,h4,fun x hx=>?_,h5⟩
 have all:∀ {l:List (List Key×V)}{m:List (List Key×Addr×Value)},KT H l m→∀ x∈m,(tupleKind (zz P w)).is h x.1 x.2.1:=by
  intro l m q
  induction q with
  |nil=>intro x hx;exact nomatch hx
  | @cons p q ps qs hq t ih =>
   intro x hx
   rcases List.mem_cons.mp hx with e | hx
   ·subst e
    exact wj ok (by rw[← hq.1];exact hq.2.1)
   ·exact ih x hx
 exact all r x hx
theorem zn2 {kvs:List (List Key×V)}(ok:HOk P w H h) (e:H a=some (.dT kvs)):kvs.length≤sizeLine∧(a == sysModules)=false ∧
  ∃ xs,KT H kvs xs∧h.DictOfH (tupleKind (zz P w)) a xs:=ud ok (.inl e)
end
noncomputable def DGet (H:Hp) (a:Addr) (y:V) (r:Option V):Prop :=
 (∃ kvs k,Rd H a (.dK kvs)∧y=kV k∧r=xr kvs k)∨∃ kvs k b,Rd H a (.dT kvs)∧y=.ref b∧H b=some (.tup (k.map kV))∧r=xr kvs k
noncomputable def DPut (H:Hp) (a:Addr) (y v:V) (H':Hp):Prop :=
 (∃ kvs k,H a=some (.dK kvs)∧y=kV k∧kvs.length<sizeLine∧H'=upd H a (.dK (putK kvs k v))) ∨
 ∃ kvs k b,H a=some (.dT kvs)∧y=.ref b∧H b=some (.tup (k.map kV))∧kvs.length<sizeLine∧H'=upd H a (.dT (putK kvs k v))
theorem DGet.k {H:Hp}{a:Addr}{kvs:List (Key×V)}{k:Key}(e:H a=some (.dK kvs)):DGet H a (kV k) (xr kvs k):=.inl ⟨kvs,k,.inl e,rfl,rfl⟩
theorem DGet.t {H:Hp}{a b:Addr}{kvs:List (List Key×V)}{k:List Key}(e:H a=some (.dT kvs)) (eb:H b=some (.tup (k.map kV))):DGet H a (.ref b) (xr kvs k):=.inr ⟨kvs,k,b,.inl e,rfl,eb,rfl⟩
theorem DPut.k {H:Hp}{a:Addr}{kvs:List (Key×V)}{k:Key}{v:V}(e:H a=some (.dK kvs)) (hl:kvs.length<sizeLine):DPut H a (kV k) v (upd H a (.dK (putK kvs k v))):=.inl ⟨kvs,k,e,rfl,hl,rfl⟩
theorem DPut.t {H:Hp}{a b:Addr}{kvs:List (List Key×V)}{k:List Key}{v:V}(e:H a=some (.dT kvs)) (eb:H b=some (.tup (k.map kV))) (hl:kvs.length<sizeLine) :
  DPut H a (.ref b) v (upd H a (.dT (putK kvs k v))):=.inr ⟨kvs,k,b,e,rfl,eb,hl,rfl⟩
section
variable {X:Cx}{pins:List (Addr×Obj)}{σ:St}{H:Hp}{s:Shared}{a:Addr}{y v:V}{u r:Value}{o:Option V}{A:Around}{E:Value→Shared→Prop}
theorem Inv.big (I:Inv X pins σ H s):sysModules<s.heap.objs.size:=by
 have h:mainGlobals<s.heap.objs.size:=(I.mod.glob.keeps I.bk).lt
 exact Nat.lt_trans (by decide) h
theorem XB {Q:Value→Shared→Prop}(hu:A.units+1<cLine) (I:Inv X pins σ H s) (g:DGet H a y (some v)) (ry:RelV y u) (h:∀ w' s',Inv X pins σ H s'→RelV v w'→Q w' s') :
  wpAny (model X.prog X.w) A (getItem (.ref a) u) Q E s:=by
 rcases g with⟨kvs,k,e,ey,l⟩ | ⟨kvs,k,b,e,ey,eb,l⟩
 ·subst ey
  obtain⟨z,hd,vs,rel,dd⟩:=vG I.hok e
  obtain⟨w',hw,rw'⟩:=RelO.some_of (v:=v) (o:=valueAt vs k) (by rw[l];exact rel.val k)
  exact wpAny_getItem_of (vA ry) dd.mapOf hw (h w' _ (I.tok _) rw')
 ·subst ey
  cases (show u=Value.ref b from ry)
  obtain⟨z,hd,xs,rel,dd⟩:=ud I.hok e
  obtain⟨w',hw,rw'⟩:=RelO.some_of (v:=v) (o:=(atKey xs k).map (·.2)) (by rw[l];exact rel.val k)
  obtain⟨p,hp,hp2⟩:=Option.map_eq_some_iff.mp hw
  refine wpAny_getItem_heap (tupleKind_room_in1 hu) (wj I.hok eb) dd hp ?_
  rw[hp2]
  exact h w' _ (I.tok _) rw'
theorem zxC {Q:Value→Shared→Prop}(hu:A.units+1<cLine) (I:Inv X pins σ H s) (g:DGet H a y o) (ry:RelV y u) (h:∀ s',Inv X pins σ H s'→Q (.bool o.isSome) s') :
  wpAny (model X.prog X.w) A (compareOp .In u (.ref a)) Q E s:=by
 rcases g with⟨kvs,k,e,ey,l⟩ | ⟨kvs,k,b,e,ey,eb,l⟩
 ·subst ey
  obtain⟨z,hd,vs,rel,dd⟩:=vG I.hok e
  refine wpAny_in_of (vA ry) hd dd.mapOf ?_
  rw[← (rel.val k).isSome_eq,← l]
  exact h _ (I.tok _)
 ·subst ey
  cases (show u=Value.ref b from ry)
  obtain⟨z,hd,xs,rel,dd⟩:=ud I.hok e
  refine wpAny_in_heap (tupleKind_room_in1 hu) (wj I.hok eb) hd dd ?_
  have q:=(rel.val k).isSome_eq
  rw[Option.isSome_map] at q
  rw[← q,← l]
  exact h _ (I.tok _)
theorem zag {Q:Value→Shared→Prop}(hu:A.units+1<cLine) (I:Inv X pins σ H s) (g:DGet H a y o) (ry:RelV y u) (h:∀ s',Inv X pins σ H s'→Q (.bool (!o.isSome)) s') :
  wpAny (model X.prog X.w) A (compareOp .NotIn u (.ref a)) Q E s:=by
 rcases g with⟨kvs,k,e,ey,l⟩ | ⟨kvs,k,b,e,ey,eb,l⟩
 ·subst ey
  obtain⟨z,hd,vs,rel,dd⟩:=vG I.hok e
  refine wpAny_notIn_of (vA ry) hd dd.mapOf ?_
  rw[← (rel.val k).isSome_eq,← l]
  exact h _ (I.tok _)
 ·subst ey
  cases (show u=Value.ref b from ry)
  obtain⟨z,hd,xs,rel,dd⟩:=ud I.hok e
  refine wpAny_notIn_heap (tupleKind_room_in1 hu) (wj I.hok eb) hd dd ?_
  have q:=(rel.val k).isSome_eq
  rw[Option.isSome_map] at q
  rw[← q,← l]
  exact h _ (I.tok _)
theorem wS {h':Heap}{t':Nat}{ob:HO}(I:Inv X pins σ H s) (mu:Mut (H a)) (hs:Heap.SameBut a s.heap h') (he:∃ q,h'.get? a=some q) (new:ObjOk X.prog X.w (upd H a ob) h' a ob) :
  Inv X pins σ (upd H a ob) { s with heap:=h',toks:=t' } :=
 I.write (x:=a) (e:=a) mu (.inl rfl) (fun b q hb z=>(hs.2 b hb).trans z) he new
theorem vH {P:Program}{w:World}{H':Hp}{h':Heap}{kvs:List (Key×V)}{vs:List (Key×Value)}(z:kvs.length≤sizeLine) (hd:(a == sysModules)=false) (rel:KV kvs vs) (dd:h'.DictOf (zz P w) a vs) :
  ObjOk P w H' h' a (.dK kvs):=⟨z,hd,vs,rel,dd⟩
theorem XA {H':Hp}{Q:Unit→Shared→Prop}(hu:A.units+1<cLine) (I:Inv X pins σ H s) (g:DPut H a y v H') (ry:RelV y u) (rv:RelV v r) (h:∀ s',Inv X pins σ H' s'→Q () s') :
  wpAny (model X.prog X.w) A (setItem (.ref a) u r) Q E s:=by
 rcases g with⟨kvs,k,e,ey,l,eH⟩ | ⟨kvs,k,b,e,ey,eb,l,eH⟩
 ·subst ey eH
  obtain⟨z,hd,vs,rel,dd⟩:=WO I.hok e
  have hz:vs.length≤sizeLine:=by rw[← rel.length];exact z
  have hl:(putK kvs k v).length≤sizeLine:=by have:=yO kvs k v;omega
  refine wpAny_setItem_pairs (hsz:=hz) (vA ry) dd fun h' dd' hs=>h _ ?_
  have he:∃ q,h'.get? a=some q:=let ⟨q,_,_,hq,_⟩:=dd';⟨q,hq⟩
  exact wS I (by rw[e];exact True.intro) hs he (vH hl hd (rel.put k rv) dd')
 ·subst ey eH
  cases (show u=Value.ref b from ry)
  obtain⟨z,hd,xs,rel,dd⟩:=zn2 I.hok e
  have hz:xs.length≤sizeLine:=by rw[← Paired.length rel];exact z
  have hl:(putK kvs k v).length≤sizeLine:=by have:=yO kvs k v;omega
  refine wpAny_setItem_heap (hsz:=hz) (tupleKind_room_in1 hu) (wj I.hok eb) dd fun h' dd' hs=>h _ ?_
  obtain⟨q,es,ep,hq,h2,h3,h4,_,h5⟩:=dd'
  refine wS I (by rw[e];exact True.intro) hs ⟨q,hq⟩ ⟨hl,hd,_,(rel.put k eb rv).keeps fun c ys ec=>?_,q,es,ep,hq,h2,h3,h4,h5⟩
  rw[upd_ne (ne_of ec e (fun z=>nomatch z))]
  exact ec
end
def zn7 (i:Expr):Prop:=∀ ov iv,subscripted i false ov iv=operate [ov,iv] (getItem ov iv)
theorem subD_of {prog:Program}{w:World}{A:Around}{E:Value→Shared→Prop}{s:Shared}{env:Env}{value slice:Expr}{pos:Pos}{T id:String}{Q:Value→Shared→Prop}
  (hl:typeLookup (.type T) "__getitem__" = pure (some (.builtin id))) (hs:zn7 slice)
  (h:wpAny (model prog w) A (eval value env) (fun o s₁=>wpAny (model prog w) A (eval slice env) (fun i s₂=>s₂.TypeIs o T∧wpAny (model prog w) A (getItem o i) Q E s₂) E s₁) E s) :
  wpAny (model prog w) A (eval (.Subscript value slice pos) env) Q E s:=by
 refine Subscript_ (wpAny_mono h (fun o s₁ h₁=>wpAny_mono h₁ (fun i s₂ h₂=>?_) fun _ _ x=>x) fun _ _ x=>x)
 obtain⟨hT,h₂⟩:=h₂
 unfold subscriptTail
 refine wpAny_bind ?_
 rw[getitemInPython_of_ne hT.not_modules]
 refine wpAny_bind (wpAny_specialOf hT hl ?_)
 have fin:wpAny (model prog w) A (subscripted slice false o i) (fun r s₃=>wpAny (model prog w) A (letTemporaryGo value o r >>= fun _=>pure r) Q E s₃) E s₂:=by
  rw[hs o i]
  exact wpAny_operating (wpAny_mono h₂ (fun r s₃ h₃=>wpAny_bind (wpAny_letTemporaryGo (wpAny_pure h₃))) fun _ _ x=>x)
 first
  |exact wpAny_pure (wpAny_bind fin)
  |exact wpAny_bind (wpAny_pure (wpAny_bind fin))
  |exact wpAny_bind fin
theorem ue {X:Cx}{pins:List (Addr×Obj)}{σ:St}{H:Hp}{s:Shared}{a:Addr}{y:V}{o:Option V}(I:Inv X pins σ H s) (g:DGet H a y o):s.TypeIs (.ref a) "dict" := by
 rcases g with⟨kvs,k,e,_,_⟩ | ⟨kvs,k,b,e,_,_,_⟩
 ·obtain⟨_,_,vs,_,dd⟩:=vG I.hok e
  exact dd.typeIs
 ·obtain⟨_,_,xs,_,dd⟩:=ud I.hok e
  exact dd.typeIs
def zaT (td ty:TE):TE:=fun σ H Q=>td σ H fun x H1=>ty σ H1 fun y H2=>∃ a v,x=.ref a∧DGet H2 a y (some v)∧Q v H2
def zoj (ty td:TE):TE:=fun σ H Q=>ty σ H fun y H1=>td σ H1 fun x H2=>∃ a o,x=.ref a∧DGet H2 a y o∧Q (.bl o.isSome) H2
def ZG (ty td:TE):TE:=fun σ H Q=>ty σ H fun y H1=>td σ H1 fun x H2=>∃ a o,x=.ref a∧DGet H2 a y o∧Q (.bl (!o.isSome)) H2
def zf2 (td ty tv:TE):TS:=fun D σ H=>tv σ H fun v H1=>td σ H1 fun x H2=>ty σ H2 fun y H3=>∃ a H4,x=.ref a∧DPut H3 a y v H4∧D.nx σ H4
section
variable {X:Cx}{o i e value:Expr}{pos pos' tpos:Pos}{td ty tv:TE}
theorem vW (hu:X.A.units+1<cLine) (ho:PE X o td) (hi:PE X i ty) (hs:zn7 i):PE X (.Subscript o i pos) (zaT td ty):=by
 intro pins s σ H Q I h
 refine subD_of PySem.F.slot_dict_getitem.lookup hs (thn (ho pins s σ H _ I h) fun u s1 ⟨x,H1,I1,rx,q1⟩=>thn (hi pins s1 σ H1 _ I1 q1) fun iv s2 hq0=>?_)
 obtain⟨y,H2,I2,ry,a,v,ex,g,q2⟩:=hq0
 subst ex
 obtain rfl:u=Value.ref a:=rx
 exact⟨ue I2 g,XB hu I2 g ry fun w' s3 I3 rw'=>⟨v,H2,I3,rw',q2⟩⟩
theorem Vb (hu:X.A.units+1<cLine) (hi:PE X i ty) (ho:PE X o td):PC X .In i o (zoj ty td):=by
 intro pins s σ H Q I h
 refine thn (hi pins s σ H _ I h) fun iv s1 ⟨y,H1,I1,ry,q1⟩=>thn (ho pins s1 σ H1 _ I1 q1) fun u s2 hq0=>?_
 obtain⟨x,H2,I2,rx,a,ov,ex,g,q2⟩:=hq0
 subst ex
 obtain rfl:u=Value.ref a:=rx
 exact zxC hu I2 g ry fun s3 I3=>⟨.bl ov.isSome,H2,I3,rfl,q2⟩
theorem YI (hu:X.A.units+1<cLine) (hi:PE X i ty) (ho:PE X o td):PC X .NotIn i o (ZG ty td):=by
 intro pins s σ H Q I h
 refine thn (hi pins s σ H _ I h) fun iv s1 ⟨y,H1,I1,ry,q1⟩=>thn (ho pins s1 σ H1 _ I1 q1) fun u s2 hq0=>?_
 obtain⟨x,H2,I2,rx,a,ov,ex,g,q2⟩:=hq0
 subst ex
 obtain rfl:u=Value.ref a:=rx
 exact zag hu I2 g ry fun s3 I3=>⟨.bl (!ov.isSome),H2,I3,rfl,q2⟩
theorem vU (hu:X.A.units+1<cLine) (ho:PE X o td) (hi:PE X i ty) (hv:PE X value tv) (hs:swapsWith value (some (.Subscript o i pos')) pos.line X.env=pure false) :
  PS X (.Assign [.Subscript o i pos'] value pos) (zf2 td ty tv):=by
 intro pins s σ H D I h
 refine wpAny_Assign_Subscript (thn (hv pins s σ H _ I h) fun r s1 ⟨v,H1,I1,rv,q1⟩=>thn (ho pins s1 σ H1 _ I1 q1) fun u s2 ⟨x,H2,I2,rx,q2⟩=>thn (hi pins s2 σ H2 _ I2 q2) fun iv s3 hq0=>?_) hs
 obtain⟨y,H3,I3,ry,a,H4,ex,g,q3⟩:=hq0
 subst ex
 obtain rfl:u=Value.ref a:=rx
 exact XA hu I3 g ry rv fun s4 I4=>⟨σ,H4,I4,q3⟩
end
theorem uM {P:Program}{w:World}{H:Hp}(h:Heap) (hb:sysModules<h.objs.size):ObjOk P w H (h.push { cls:=.type "dict",data:=.dict #[] }) h.objs.size (.dK []) :=
 ⟨Nat.zero_le _,beq_eq_false_iff_ne.mpr (Ne.symm (Nat.ne_of_lt hb)),[],.nil,Heap.DictOf.new h⟩
theorem WN {P:Program}{w:World}{H:Hp}(h:Heap) (hb:sysModules<h.objs.size):ObjOk P w H (h.push { cls:=.type "dict",data:=.dict #[] }) h.objs.size (.dT []) :=
 ⟨Nat.zero_le _,beq_eq_false_iff_ne.mpr (Ne.symm (Nat.ne_of_lt hb)),[],.nil,_,#[],0,Heap.get?_push_size _ rfl,⟨rfl,rfl,rfl⟩,rfl,rfl,List.nodup_nil⟩
def WY:TE:=fun _ H Q=>∀ p,H p=none→Q (.ref p) (upd H p (.dK []))
def zaS:TE:=fun _ H Q=>∀ p,H p=none→Q (.ref p) (upd H p (.dT []))
section
variable {X:Cx}{pos:Pos}
theorem uE:PE X (.Dict [] [] pos) WY:=fun pins s σ H Q I h =>
 wpAny_Dict_empty ⟨.ref s.heap.objs.size,_,I.laid (a:=s.heap.objs.size) (o:=.dK []) (t':=s.toks) (fun _ _ q=>Heap.get?_push_of_some _ q) (Nat.le_refl _) (uM s.heap I.big),rfl,h _ (I.hok.fresh (Nat.le_refl _))⟩
theorem Wf:PE X (.Dict [] [] pos) zaS:=fun pins s σ H Q I h =>
 wpAny_Dict_empty ⟨.ref s.heap.objs.size,_,I.laid (a:=s.heap.objs.size) (o:=.dT []) (t':=s.toks) (fun _ _ q=>Heap.get?_push_of_some _ q) (Nat.le_refl _) (WN s.heap I.big),rfl,h _ (I.hok.fresh (Nat.le_refl _))⟩
end
noncomputable def ZE:List (TE×TE)→St→Hp→(List (V×V)→Hp→Prop)→Prop
 |[],_,H,Q=>Q [] H
 |(tk,tv)::r,σ,H,Q=>tk σ H fun x H1=>tv σ H1 fun y H2=>ZE r σ H2 fun ps H3=>Q ((x,y)::ps) H3
abbrev VV:List (V×V)→List (Value×Value)→Prop:=Paired fun p q=>RelV p.1 q.1∧RelV p.2 q.2
noncomputable def PPs (X:Cx) (pos:Pos) (keys:List (Option Expr)) (values:List Expr) (trs:List (TE×TE)):Prop :=
 ∀ (pins:List (Addr×Obj)) (s:Shared) (σ:St) (H:Hp) (Q:List (V×V)→Hp→Prop),Inv X pins σ H s→ZE trs σ H Q →
  wpAny (model X.prog X.w) X.A (evalPairs (pairTrees keys values X.env pos)) (fun vs s'=>∃ ps H',Inv X pins σ H' s'∧VV ps vs∧Q ps H') X.xe s
theorem VJ {X:Cx}{pos:Pos}:PPs X pos [] [] []:=fun pins s σ H Q I h=>pairTrees_nil_walk ⟨[],H,I,.nil,h⟩
theorem Wc {X:Cx}{pos:Pos}{k v:Expr}{ks:List (Option Expr)}{vs:List Expr}{tk tv:TE}{trs:List (TE×TE)}(hk:PE X k tk) (hv:PE X v tv) (hr:PPs X pos ks vs trs) :
  PPs X pos (some k::ks) (v::vs) ((tk,tv)::trs):=fun pins s σ H Q I h =>
 pairTrees_cons_walk (thn (hk pins s σ H _ I h) fun u s1 ⟨x,H1,I1,rx,q1⟩=>thn (hv pins s1 σ H1 _ I1 q1) fun w2 s2 ⟨y,H2,I2,ry,q2⟩ =>
  thn (hr pins s2 σ H2 _ I2 q2) fun ws s3 ⟨ps,H3,I3,rel,q3⟩=>⟨(x,y)::ps,H3,I3,.cons ⟨rx,ry⟩ rel,q3⟩)
noncomputable def mergeK (kvs more:List (Key×V)):List (Key×V):=more.foldl (fun acc kv=>putK acc kv.1 kv.2) kvs
theorem KV.merge:∀ {more:List (Key×V)}{rs:List (Key×Value)}{kvs:List (Key×V)}{vs:List (Key×Value)},KV more rs→KV kvs vs→KV (mergeK kvs more) (merged vs rs):=by
 intro more rs kvs vs r
 unfold KV at r
 induction r generalizing kvs vs with
 |nil=>intro q;exact q
 | @cons p q ps qs h t ih =>
  intro r0
  have e:KV (putK kvs p.1 p.2) (stored vs q.1 q.2):=by
   have:=r0.put p.1 h.2
   rw[← h.1];exact this
  exact ih e
theorem yZ:∀ (more kvs:List (Key×V)),(mergeK kvs more).length≤kvs.length+more.length
 |[],kvs=>by show kvs.length≤kvs.length+0;omega
 |p::r,kvs=>by
  have h1:=yZ r (putK kvs p.1 p.2)
  have h2:=yO kvs p.1 p.2
  show(mergeK (putK kvs p.1 p.2) r).length≤_
  rw[List.length_cons];omega
theorem wm {P:Program}{w:World}:∀ {kvs:List (Key×V)}{ws:List (Value×Value)},VV (kvs.map fun kv=>(kV kv.1,kv.2)) ws→∃ rs,Carries (zz P w) ws rs∧KV kvs rs
 |[],_,r=>by rw[List.map_nil] at r;cases r;exact⟨[],True.intro,.nil⟩
 |p::kvs,_,r=>by
  rw[List.map_cons] at r
  cases r with
  | @cons a b as bs h t =>
   obtain⟨rs,c,q⟩:=wm (P:=P) (w:=w) t
   obtain⟨b1,b2⟩:=b
   exact⟨(p.1,b2)::rs,⟨vA h.1,rfl,c⟩,.cons ⟨rfl,h.2⟩ q⟩
def zaQ (trs:List (TE×TE)):TE:=fun σ H Q=>∀ p,H p=none→ZE trs σ (upd H p (.dK [])) fun ps H2=>H2 p=some (.dK [])∧∃ kvs:List (Key×V),ps=kvs.map (fun kv=>(kV kv.1,kv.2))∧kvs.length≤15∧Q (.ref p) (upd H2 p (.dK (mergeK [] kvs)))
theorem VR {X:Cx}{pos:Pos}{keys:List (Option Expr)}{values:List Expr}{trs:List (TE×TE)}(h:PPs X pos keys values trs) (hall:keys.all (·.isSome)=true) (hl:keys.length=values.length) (h0:keys≠[])
  (h15:keys.length≤15):PE X (.Dict keys values pos) (zaQ trs):=by
 intro pins s σ H Q I q
 have hn:=I.hok.fresh (Nat.le_refl s.heap.objs.size)
 have I1:=I.laid (a:=s.heap.objs.size) (o:=.dK []) (h':=s.heap.push { cls:=.type "dict",data:=.dict #[] }) (t':=s.toks) (fun _ _ q=>Heap.get?_push_of_some _ q) (Nat.le_refl _) (uM s.heap I.big)
 refine wpAny_Dict_walk (knd:=zz X.prog X.w) hall hl h0 h15 (thn (h pins _ σ _ _ I1 (q _ hn)) fun ws s2 hq0=>?_)
 obtain⟨ps,H2,I2,rel,e,kvs,ep,lk,q2⟩:=hq0
 subst ep
 obtain⟨rs,c,rk⟩:=wm (P:=X.prog) (w:=X.w) rel
 obtain⟨z,hd,vs0,r0,dd⟩:=WO I2.hok e
 cases r0
 refine⟨rs,c,dd,fun h' dd' hs=>⟨.ref s.heap.objs.size,_,?_,rfl,q2⟩⟩
 have hz:(mergeK [] kvs).length≤sizeLine:=by
  have h1:=yZ kvs []
  rw[List.length_nil] at h1
  rw[sizeLine_eq];omega
 have he:∃ q,h'.get? s.heap.objs.size=some q:=let ⟨q,_,_,hq,_⟩:=dd';⟨q,hq⟩
 exact wS I2 (by rw[e];exact True.intro) hs he (vH hz hd (rk.merge .nil) dd')
structure M1 (X:Cx) (o:Expr) (m:Str) (apos:Pos) (e:Expr) (cpos:Pos):Prop where
 base:attributeBase o m X.env (eval o X.env)=eval o X.env
 few:((backTo cpos (starEach [e] X.env)).all (fun x=>!x.1)&&(backToKw cpos (keywordEach [] X.env)).all (fun x=>x.1.isSome)
  && decide (([e]:List Expr).length+([]:List Keyword).length+(if ([]:List Keyword).isEmpty then 0 else 1)<30))=true
 line:(apos.endLine == cpos.line)=true
 trees:backTo cpos (starEach [e] X.env)=[(false,eval e X.env)]
structure M2 (X:Cx) (o:Expr) (m:Str) (apos:Pos) (e f:Expr) (cpos:Pos):Prop where
 base:attributeBase o m X.env (eval o X.env)=eval o X.env
 few:((backTo cpos (starEach [e,f] X.env)).all (fun x=>!x.1)&&(backToKw cpos (keywordEach [] X.env)).all (fun x=>x.1.isSome)
  && decide (([e,f]:List Expr).length+([]:List Keyword).length+(if ([]:List Keyword).isEmpty then 0 else 1)<30))=true
 line:(apos.endLine == cpos.line)=true
 trees:backTo cpos (starEach [e,f] X.env)=[(false,eval e X.env),(false,eval f X.env)]
def IsD (H:Hp) (a:Addr):Prop:=(∃ kvs,Rd H a (.dK kvs))∨∃ kvs,Rd H a (.dT kvs)
theorem Vk {X:Cx}{pins:List (Addr×Obj)}{σ:St}{H:Hp}{s:Shared}{a:Addr}(I:Inv X pins σ H s) (d:IsD H a) :
  s.TypeIs (.ref a) "dict" ∧ (∀ b,Value.ref a=.ref b→∃ ob,s.heap.get? b=some ob∧ob.dict=none)∧(a == sysModules)=false:=by
 rcases d with⟨kvs,e⟩ | ⟨kvs,e⟩
 ·obtain⟨_,hd,vs,_,dd⟩:=vG I.hok e
  refine⟨dd.typeIs,fun b q=>?_,hd⟩
  cases q
  obtain⟨ob,_,_,h1,h2,_⟩:=dd
  exact⟨ob,h1,h2.2.1⟩
 ·obtain⟨_,hd,xs,_,dd⟩:=ud I.hok e
  refine⟨dd.typeIs,fun b q=>?_,hd⟩
  cases q
  obtain⟨ob,_,_,h1,h2,_⟩:=dd
  exact⟨ob,h1,h2.2.1⟩
section
variable {X:Cx}{pins:List (Addr×Obj)}{σ:St}{H:Hp}{s:Shared}{a:Addr}{y d:V}{u r:Value}{o:Option V}{A:Around}{E:Value→Shared→Prop}
theorem zim {Q:Value→Shared→Prop}(hu:A.units+1<cLine) (I:Inv X pins σ H s) (g:DGet H a y o) (ry:RelV y u) (rd:RelV d r) (h:∀ w' s',Inv X pins σ H s'→RelV (o.getD d) w'→Q w' s') :
  wpAny (model X.prog X.w) A (call (.builtin "dict.get") [.ref a,u,r]) Q E s:=by
 rcases g with⟨kvs,k,e,ey,l⟩ | ⟨kvs,k,b,e,ey,eb,l⟩
 ·subst ey
  obtain⟨z,hd,vs,rel,dd⟩:=vG I.hok e
  refine call_meetsIn PySem.F.slot_dict_get dd.typeIs PySem.F.entry_dict_get (PySem.F.args_dict_get_3 _ _ _) (meets_dict_get_default (zz X.prog X.w) a (vA ry) hd r) ⟨_,dd.mapOf,h _ _ (I.tok _) ?_⟩
  rw[l]
  exact(rel.val k).getD rd
 ·subst ey
  cases (show u=Value.ref b from ry)
  obtain⟨z,hd,xs,rel,dd⟩:=ud I.hok e
  refine call_meetsIn PySem.F.slot_dict_get dd.typeIs PySem.F.entry_dict_get (PySem.F.args_dict_get_3 _ _ _) (meetsH_dict_get_default (tupleKind (zz X.prog X.w)) a b hd r) ⟨tupleKind_room_in1 hu,k,xs,wj I.hok eb,dd,h _ _ (I.tok _) ?_⟩
  rw[l]
  exact(rel.val k).getD rd
end
def WZ (td ty tx:TE):TE:=fun σ H Q=>td σ H fun x H1=>∃ a,x=.ref a∧IsD H1 a∧ty σ H1 fun y H2=>tx σ H2 fun z H3=>∃ o,DGet H3 a y o∧Q (o.getD z) H3
section
variable {X:Cx}{o e f:Expr}{apos cpos:Pos}{td ty tx:TE}
theorem Wg (hu:X.A.units+1<cLine) (ho:PE X o td) (he:PE X e ty) (hf:PE X f tx) (m:M2 X o "get" apos e f cpos):PE X (.Call (.Attribute o "get" apos) [e,f] [] cpos) (WZ td ty tx):=by
 intro pins s σ H Q I h
 refine wpAny_Call_method m.base m.few m.line PySem.F.plainAttrs_dict PySem.F.slot_dict_get PySem.F.type_dict_get (thn (ho pins s σ H _ I h) fun u s1 hq0=>?_)
 obtain⟨x,H1,I1,rx,a,ex,d,q1⟩:=hq0
 subst ex
 obtain rfl:u=Value.ref a:=rx
 obtain⟨t1,t2,_⟩:=Vk I1 d
 refine⟨t1,t2,?_⟩
 rw[m.trees]
 refine Calls.callWith_builtin rfl (Calls.evalArgs_plain (Calls.spliced_cons (thn (he pins s1 σ H1 _ I1 q1) fun iv s2 ⟨y,H2,I2,ry,q2⟩ =>
  Calls.spliced_cons (thn (hf pins s2 σ H2 _ I2 q2) fun fv s3 ⟨z,H3,I3,rz,ov,g,q3⟩=>Calls.spliced_nil ?_))))
 exact zim hu I3 g ry rz fun w' s4 I4 rw'=>⟨_,H3,I4,rw',q3⟩
end
section
variable {X:Cx}{pins:List (Addr×Obj)}{σ:St}{H:Hp}{s:Shared}{a:Addr}{kvs:List (Key×V)}{A:Around}{E:Value→Shared→Prop}
theorem WP {Q:Value→Shared→Prop}(I:Inv X pins σ H s) (e:Rd H a (.dK kvs)) (h:∀ p s',H p=none→Inv X pins σ (upd H p (.dK kvs)) s'→Q (.ref p) s'):wpAny (model X.prog X.w) A (call (.type "dict") [.ref a]) Q E s:=by
 obtain⟨z,hd,vs,rel,dd⟩:=vG I.hok e
 refine kt_call_dict hd dd (by rw[← rel.length];exact z) fun h' dd' hs=>?_
 refine h _ _ (I.hok.fresh (Nat.le_refl _)) (I.laid (a:=s.heap.objs.size) (o:=.dK kvs) (t':=s.toks) (fun b q hq=>?_) (Nat.le_refl _) (vH z (beq_eq_false_iff_ne.mpr (Ne.symm (Nat.ne_of_lt I.big))) rel dd'))
 exact(hs.2 b (Nat.ne_of_lt (Heap.lt_size hq))).trans (Heap.get?_push_of_some _ hq)
end
end L2
namespace Att
open PySem PySem.W PySem.Calls PyProof.Rows
theorem xQ {P:Params}{h:Heap}:∀ (ns:List Int) (vs:List Value),WellAll P h vs (ns.map WData.int)→IntsAre vs ns:=by
 intro ns
 induction ns with
 |nil =>
  intro vs w
  rw[List.map_nil] at w
  cases w
  exact .nil
 |cons n ns ih =>
  intro vs w
  rw[List.map_cons] at w
  cases w with
  |cons a b =>
   cases a
   exact .cons _ _ (ih _ b)
theorem YA {l:OpenLaw}{n:Nat}(hn:l.most=some n){P:Params}{h:Heap}{args:List WData}{vals:List Value}
  (hpre:l.row.toRowW.claim.pre args=true) (hwl:WellAll P h vals args) :
  ∃ a vs ns,vals=[Value.ref a]∧args=[WData.list (ns.map WData.int)]∧h.get? a=some { cls:=.type "list",data:=.seq vs.toArray }∧IntsAre vs ns∧ns.length≤n:=by
 have hsh:WShape.hasAll [] args [.list .int]=true:=(pre_splitW hpre).1
 have hc:l.pre.holds [] { args:=args }=true:=(pre_splitW hpre).2
 obtain⟨d,r,rfl,h1,h2⟩:=hasAllW_cons hsh
 obtain rfl:=hasAllW_nil h2
 obtain⟨xs,rfl,h3⟩:=hasW_list h1
 obtain⟨ns,rfl⟩:=items_int h3
 have hlen:ns.length≤n:=by
  unfold OpenLaw.pre at hc
  have h4:(WTm.not (.lt (.lit (.int (n:Int))) (.len (.arg 0)))).holds [] { args:=[.list (ns.map .int)] }=true:=by
   have h4:=(holds_andW hc).1
   rw[hn] at h4
   exact h4
  have h5:=condW_of h4 (w_not (w_lt w_lit (w_len_list (w_arg rfl))))
  rw[List.length_map] at h5
  refine Nat.le_of_not_lt fun q=>?_
  have q':(n:Int)<((ns.length:Nat):Int):=by omega
  first
   |(rw[decide_eq_true q'] at h5;exact absurd h5 (by decide))
   |(simp at h5;omega)
 cases hwl with
 |cons w1 w2 =>
  cases w2
  cases w1 with
  |list ho hall=>exact⟨_,_,ns,rfl,rfl,ho,xQ ns _ hall,hlen⟩
theorem YC (l:OpenLaw) (args:List WData):l.row.toRowW.claim.post args (.bool true) args=true :=
 postW_of (r:=l.row.toRowW) (X:=(true == true))
  (show WShape.has [] (.bool true) .bool=true by first | rfl | decide | simp[WShape.has,WShape.arms,WShape.armsAll])
  (show(WTm.eq .res (.lit (.bool true))).value [] { args:=args,res:=some (.bool true),after:=args }=some (.bool (true == true)) from w_eq_bool (w_res rfl) w_lit) rfl
theorem attach_call {l:OpenLaw}{n:Nat}{q:Program}{loose:List Str}{XP:(Str→Option Value)→Heap→Prop}{YP:World→Heap→Prop}{d:DefRec}
  (hn:l.most=some n) (hdf:d.params.defaults=[])
  (call:∀ (w:World) (s₀ s₁:Shared) (mg mb:Str→Option Value) (fa:Addr) (o:Obj) (pm cd doc:Value) (a:Addr) (vs:List Value) (ns:List Int),
   Ground q loose [] XP w s₀ mg mb s₁.heap→YP w s₁.heap →
   s₁.heap.get? fa=some o→o.data=.func (docDef d.name d.params d.body d.scope pm cd doc)→s₁.heap.CodeRec cd d.name→mg d.name=some (.ref fa) →
   s₁.heap.get? a=some { cls:=.type "list",data:=.seq vs.toArray }→IntsAre vs ns→ns.length≤n→s₁.gens = #[] →
   codeAny (model l.prog w) callerA (.call (.ref fa) ⟨[.ref a],[]⟩) (fun r s'=>r=.ok (.ret (.bool true))∧OldK s₁.heap s'.heap∧s'.os=s₁.os∧AllBare s'.gens) s₁) :
  WalkO q loose XP YP l.row.toRowW d [] (fun f vs=>PySem.call f vs):=by
 intro w s₀ s₁ mg mb G Y fa o pm cd doc dV kV ho hd hcd hD hmg hg args vals as hpre hlay hrd hwl hlo
 obtain rfl:dV=.none:=Dflts.none hD hdf
 obtain rfl:kV=.none:=Dflts.noKw hD
 obtain⟨a,vs,ns,rfl,rfl,hobj,hints,hlen⟩:=YA hn hpre hwl
 refine enter_call (codeAny_mono (call w s₀ s₁ mg mb fa o pm cd doc a vs ns G Y ho (fd_plain hd) hcd hmg hobj hints hlen hg) fun r s' hq=>?_)
 obtain⟨rfl,h2,h3,h4⟩:=hq
 exact⟨.inl ⟨.bool true,.bool true,[],rfl,fun _=>rfl,.bool true,YC l _,fun _=>⟨List.Pairwise.nil,fun _ hm=>(nomatch hm)⟩⟩,h2,h3,h4⟩
end Att
namespace L2
open PySem PySem.Spec PyProof.Rows
theorem w6:∀ {vs:List Value}{ns:List Int},IntsAre vs ns→Vals (ns.map V.int) vs
 |_,_,.nil=>.nil
 |_,_,.cons n t h=>.cons ⟨t,rfl⟩ (w6 h)
def zis (H:Hp):Prop:=∀ b,H b=none∨∃ o xs,H b=some (.frz o (.lst xs))
theorem WD {P:Program}{w:World}{K:PySem.W.Frag}{mg mb:Str→Option Value}{CX:CXT}{k:Nat}{fa a:Addr}{fd:FuncData}{x:Str}{sp:Sp}{s₁:Shared}{vs:List Value}{ns:List Int}
  (KX:K.In s₁.heap) (hns:s₁.heap.Ns mainGlobals mg) (hb:s₁.heap.Ns builtinsNs mb) (hbb:∀ x:Str,x ≠ "__name__" → mb x=bootBuiltins x) (hlim:s₁.heap.NoLimit) (hg:s₁.gens = #[])
  (ha:s₁.heap.get? a=some { cls:=.type "list",data:=.seq vs.toArray }) (hi:IntsAre vs ns) (hl:ns.length≤sizeLine) (hr:Room k callerA)
  (F:∀ base:Heap,K.In base→base.Ns mainGlobals mg→FnOk P w K mg base CX k fa fd [x] sp) (hbind:∀ (s:Shared) (u:Value),BindsTo s fd ⟨[u],[]⟩ [(x,u)])
  (hsp:∀ H:Hp,zis H→SqL K H a (ns.map V.int)→sp [.ref a] H (fun v _=>v=.bl true) fun _ _ _=>False)
  (hCX:∀ H e s',CX [] H s₁ (fun _ _ _=>False) e s'→False) :
  codeAny (model P w) callerA (.call (.ref fa) ⟨[.ref a],[]⟩) (fun r s'=>r=.ok (.ret (.bool true))∧OldK s₁.heap s'.heap∧s'.os=s₁.os∧AllBare s'.gens) s₁:=by
 have rv:=w6 hi
 have lenV:=hi.length
 -- from an abstract heap in which nothing but the script may be tracked
 have core:∀ H:Hp,zis H→SqL K H a (ns.map V.int)→HOk P w H s₁.heap→(∀ b,H b≠none→b=a)→(H a≠none→K.lookup a=none) →
   codeAny (model P w) callerA (.call (.ref fa) ⟨[.ref a],[]⟩) (fun r s'=>r=.ok (.ret (.bool true))∧OldK s₁.heap s'.heap∧s'.os=s₁.os∧AllBare s'.gens) s₁:=by
  intro H hO hS hok hA hK
  have base_of:∀ {b:Addr}{o:Obj},s₁.heap.get? b=some o→H b=none→(WK s₁.heap H).get? b=some o:=fun e n=>WJ e n
  have noA:∀ {b:Addr}{o:Obj}{es:Array DictEntry}{ep:Nat},s₁.heap.get? b=some o→o.data=.dict es ep→H b=none:=fun {b o es ep} e d=>by
   cases q:H b with
   |none=>rfl
   |some u =>
    have e':b=a:=hA b (by rw[q];simp)
    subst e'
    rw[ha] at e;cases e
    have d':Data.seq vs.toArray _=Data.dict es ep:=d
    cases d'
  have nsK:∀ {b:Addr}{m:Str→Option Value},s₁.heap.Ns b m→(WK s₁.heap H).Ns b m:=fun {b m} ⟨o,es,ep,e,d,r⟩=>⟨o,es,ep,base_of e (noA e d),d,r⟩
  have hKb:K.In (WK s₁.heap H):=fun b o e=>base_of (KX b o e) (by
   cases q:H b with
   |none=>rfl
   |some u =>
    have e':b=a:=hA b (by rw[q];simp)
    subst e'
    rw[hK (by rw[q];simp)] at e;cases e)
  have hM:Mod K mg (WK s₁.heap H):=⟨hKb,nsK hns,⟨mb,nsK hb,hbb⟩,let ⟨mc,h1,h2⟩:=hlim;⟨mc,nsK h1,h2⟩⟩
  have e0:Env0 P w K mg (WK s₁.heap H) callerA [] s₁ H:=⟨rfl,hM,fun b o e=>V5 e,Nat.le_of_eq (Xr _ _),trivial,fun b hb=>absurd (show b∈([]:List Addr) from hb) (by simp),hok,.of_eq hg⟩
  refine codeAny_mono ((F _ hKb (nsK hns)).run callerA [] s₁ H ⟨[.ref a],[]⟩ [.ref a] [.ref a] _ _ hr e0 (hbind s₁ (.ref a)) (.cons rfl .nil) (hsp H hO hS)) fun r s' h=>?_
  cases r with
  |error e=>exact(hCX H e s' h).elim
  |ok fl =>
   cases fl with
   |next=>exact False.elim h
   |brk=>exact False.elim h
   |cont=>exact False.elim h
   |ret u =>
    obtain⟨v,H',os,bare,un,hok',r',q⟩:=h
    have q':v=.bl true:=q
    subst q'
    obtain rfl:u=Value.bool true:=r'
    refine⟨rfl,OldK.of_keep fun b o e=>?_,os,bare⟩
    cases q:H b with
    |none=>exact un.keep b o e q (by intro z;exact absurd (show b∈([]:List Addr) from z) (by simp)) (by simp)
    |some u =>
     rcases hO b with z | ⟨ob,xs,z⟩
     ·rw[q] at z;cases z
     ·have z2:=un.frzs b ob _ z
      obtain⟨e1,_⟩:=hok b _ z
      obtain⟨e2,_⟩:=hok' b _ z2
      rw[e] at e1;cases e1
      exact e2
 cases hk:K.lookup a with
 |some o =>
  -- the script is one of the module's own objects
  have e:=KX a o hk
  rw[ha] at e
  cases e
  refine core (fun _=>none) (fun _=>.inl rfl) (.inr ⟨_,vs.toArray,_,hk,rfl,rfl,rfl,by rw[List.size_toArray,lenV];exact hl,by simpa using rv⟩) (fun b u z=>by have z':(none:Option HO)=some u:=z;cases z') (fun b z=>absurd rfl z) fun z=>absurd rfl z
 |none =>
  refine core (fun b=>if b=a then some (.frz { cls:=.type "list",data:=.seq vs.toArray } (.lst (ns.map V.int))) else none) (fun b=>?_) (.inl (.inr ⟨{ cls:=.type "list",data:=.seq vs.toArray },if_pos rfl⟩)) (fun b u z=>?_) (fun b z=>?_) fun _=>hk
  ·by_cases hb:b=a
   ·exact .inr ⟨_,_,if_pos hb⟩
   ·exact .inl (if_neg hb)
  ·by_cases hb:b=a
   ·have z':=(if_pos hb).symm.trans z
    cases z'
    subst hb
    exact⟨ha,by rw[List.length_map];exact hl,vs,_,rv,ha⟩
   ·have z':=(if_neg hb).symm.trans z
    cases z'
  ·by_cases hb:b=a
   ·exact hb
   ·exact absurd (if_neg hb) z
end L2
namespace L2
open PySem PySem.Spec PyProof.Rows
abbrev KOf {K:PySem.W.Frag}{h:Heap}(_:K.In h):PySem.W.Frag:=K
theorem Vr {l:PySem.W.OpenLaw}{n k:Nat}{q:Program}{loose:List Str}{XP:(Str→Option Value)→Heap→Prop}{YP:World→Heap→Prop}{d:DefRec}{K:Params→PySem.W.Frag}{CX:World→CXT}{sp:World→Sp}{x:Str}
  (hn:l.most=some n) (hn2:n≤sizeLine) (hdf:d.params.defaults=[]) (hr:Room k callerA)
  (hY:∀ (w:World) (h:Heap),YP w h→(K w.params).In h)
  (F:∀ (w:World) (mg:Str→Option Value) (fa:Addr) (h:Heap),(K w.params).In h→h.Ns mainGlobals mg→mg d.name=some (.ref fa) →
   ∃ fd:FuncData,(∀ (s:Shared) (u:Value),BindsTo s fd ⟨[u],[]⟩ [(x,u)]) ∧
    ∀ base:Heap,(K w.params).In base→base.Ns mainGlobals mg→FnOk l.prog w (K w.params) mg base (CX w) k fa fd [x] (sp w))
  (hsp:∀ (w:World) (H:Hp) (a:Addr) (ns:List Int),ns.length≤n→zis H→SqL (K w.params) H a (ns.map V.int)→sp w [.ref a] H (fun v _=>v=.bl true) fun _ _ _=>False)
  (hCX:∀ (w:World) (H:Hp) (s:Shared) (e:Value) (s':Shared),CX w [] H s (fun _ _ _=>False) e s'→False) :
  PySem.W.WalkO q loose XP YP l.row.toRowW d [] (fun f vs=>PySem.call f vs):=by
 refine Att.attach_call hn hdf fun w s₀ s₁ mg mb fa o pm cd doc a vs ns G Y ho hd hcd hmg hobj hints hlen hg=>?_
 have KX:=hY w _ Y
 obtain⟨fd,hb,hF⟩:=F w mg fa _ KX G.T.g hmg
 exact WD KX G.T.g G.T.b G.T.builtins G.T.nolimit hg hobj hints (Nat.le_trans hlen hn2) hr hF hb (fun H hO hS=>hsp w H a ns hlen hO hS) fun H e s'=>hCX w H s₁ e s'
theorem walk_ofK {l:PySem.W.OpenLaw}{n k:Nat}{q:Program}{loose:List Str}{XP:(Str→Option Value)→Heap→Prop}{YP:World→Heap→Prop}{d:DefRec}{K:Params→PySem.W.Frag}{CX:CXT}{sp:PySem.W.Frag→Sp}{x:Str}
  (hn:l.most=some n) (hn2:n≤sizeLine) (hdf:d.params.defaults=[]) (hr:Room k callerA)
  (hY:∀ (w:World) (h:Heap),YP w h→(K w.params).In h)
  (F:∀ (w:World) (mg:Str→Option Value) (fa:Addr) (h:Heap),(K w.params).In h→h.Ns mainGlobals mg→mg d.name=some (.ref fa) →
   ∃ fd:FuncData,(∀ (s:Shared) (u:Value),BindsTo s fd ⟨[u],[]⟩ [(x,u)]) ∧
    ∀ base:Heap,(K w.params).In base→base.Ns mainGlobals mg→FnOk l.prog w (K w.params) mg base CX k fa fd [x] (sp (K w.params)))
  (hsp:∀ (K:PySem.W.Frag) (H:Hp) (a:Addr) (ns:List Int),ns.length≤n→zis H→SqL K H a (ns.map V.int)→sp K [.ref a] H (fun v _=>v=.bl true) fun _ _ _=>False)
  (hCX:∀ (H:Hp) (s:Shared) (e:Value) (s':Shared),CX [] H s (fun _ _ _=>False) e s'→False) :
  PySem.W.WalkO q loose XP YP l.row.toRowW d [] (fun f vs=>PySem.call f vs) :=
 Vr (K:=K) (CX:=fun _=>CX) (sp:=fun w=>sp (K w.params)) hn hn2 hdf hr hY F (fun w H a ns h1 h2 h3=>hsp (K w.params) H a ns h1 h2 h3) fun _ H s e s'=>hCX H s e s'
end L2
namespace L2
open PySem PySem.Spec PyProof.Rows
noncomputable def inClass (s:Stmt) (j:Nat):Stmt:=match s with
 |.ClassDef _ _ _ body _ _ _ _ _ _ _=>body.getD j (.Pass ⟨0,0,0,0⟩)
 |_=>.Pass ⟨0,0,0,0⟩
noncomputable def defArgs (s:Stmt):Arguments:=match s with
 |.FunctionDef _ a _ _ _ _ _ _ _ _=>a
 |_=>{ posonlyargs:=[],args:=[],vararg:=none,kwonlyargs:=[],kw_defaults:=[],kwarg:=none,defaults:=[] }
noncomputable def defBody (s:Stmt):List Stmt:=match s with
 |.FunctionDef _ _ b _ _ _ _ _ _ _=>b
 |_=>[]
noncomputable def defScope (s:Stmt):Scope:=match s with
 |.FunctionDef _ _ _ _ _ _ sc _ _ _=>sc
 |_=>{ kind:=.function,names:=[],isGenerator:=false,isCoroutine:=false }
abbrev CX0:CXT:=fun _ _ _ _ _ _=>False
abbrev E0:XK:=fun _ _ _=>False
theorem YJ {X:Cx}:xa CX0 X E0:=fun _ _ _ _ _ _ _ h=>h.elim
structure Fun (K:PySem.W.Frag) (x qual:Str) (st:Stmt) (f:Addr) (fd:FuncData):Prop where
 ex:∃ (oc:Value) (od:Option Addr) (kV doc pm:Value) (an:Option Addr) (cdv ct:Value) (osl:Array (Option Value)),
  fd=PySem.W.fnOf x qual (defArgs st) (defBody st) (defScope st) .none kV doc pm an cdv ct∧K.lookup f=some ⟨oc,od,.func fd,osl⟩∧PySem.W.codeIn K cdv qual=true
 kp:PySem.W.keepIn K (.ref f)=true
section
variable {P:Program}{w:World}{K:PySem.W.Frag}{mg:Str→Option Value}{base:Heap}
theorem Fun.ok {x qual:Str}{st:Stmt}{f:Addr}{fd:FuncData}{N ps:List Str}{k:Nat}{sp:Sp}(F:Fun K x qual st f fd) (S:FnScope N ps (defScope st)) (len:∀ vs H Q E,sp vs H Q E→vs.length=ps.length)
  (hbody:∀ (cdv:Value) (A:Around) (outer:List Env) (s:Shared) (H:Hp) (vs:List V) (Q:VK) (E:XK),Room k (A.deeper (envOfC qual (defScope st) s.heap.objs.size f cdv))→sp vs H Q E →
   ∃ t,PSs (zay CX0 P w K mg base N qual (defScope st) f cdv A outer s H E).nox (defBody st) t∧t { nx:=fun _ H'=>Q .non H',rt:=Q } (start N vs) H):FnOk P w K mg base CX0 (k+1) f fd ps sp:=by
 obtain⟨oc,od,kV,doc,pm,an,cdv,ct,osl,rfl,lk,hcd⟩:=F.ex
 refine znZ lk hcd S len fun A outer s H vs Q E hr hsp=>?_
 obtain⟨t,h,q⟩:=hbody cdv A outer s H vs Q E hr hsp
 exact⟨t,h.nox,q⟩
theorem Fun.binds {x qual:Str}{st:Stmt}{f:Addr}{fd:FuncData}{ps:List Str}(F:Fun K x qual st f fd)
  (h:∀ (kV doc pm:Value) (an:Option Addr) (cdv ct:Value) (us:List Value),us.length=ps.length→bindArgs (PySem.W.fnOf x qual (defArgs st) (defBody st) (defScope st) .none kV doc pm an cdv ct) ⟨us,[]⟩=pure (ps.zip us)):Binds K fd ps []:=by
 obtain⟨oc,od,kV,doc,pm,an,cdv,ct,osl,rfl,lk,hcd⟩:=F.ex
 exact .all (h kV doc pm an cdv ct)
theorem zq {x qual:Str}{st:Stmt}{f:Addr}{oc:Value}{od an:Option Addr}{osl:Array (Option Value)}{kV doc pm cdv ct:Value}(l:K.lookup f=some ⟨oc,od,.func (PySem.W.fnOf x qual (defArgs st) (defBody st) (defScope st) .none kV doc pm an cdv ct),osl⟩)
  (c:PySem.W.codeIn K cdv qual=true) (k:PySem.W.keepIn K (.ref f)=true):Fun K x qual st f (PySem.W.fnOf x qual (defArgs st) (defBody st) (defScope st) .none kV doc pm an cdv ct):=⟨⟨oc,od,kV,doc,pm,an,cdv,ct,osl,rfl,l,c⟩,k⟩
end
theorem xk {A:Around}{k:Nat}(hr:Room k A):A.units+1<cLine:=Nat.lt_of_le_of_lt (Nat.add_le_add_left (by decide:1≤64) _) hr.units
theorem zo {n:Nat}(h:n≤1000):n<sizeLine:=Nat.lt_of_le_of_lt h (by decide)
section
variable {X:Cx}
theorem pv (i:Nat){x:Str}{pos:Pos}(hN:X.N[i]?=some x:=by rfl) (hv:Vis X.env.scope x:=by first | exact Or.inl rfl | exact Or.inr (Or.inl rfl) | exact Or.inr (Or.inr rfl)) (hd:(x == ("__debug__" : Str))=false:=by decide)
  (hcd:(x == ("__classdict__" : Str))=false:=by decide):PE X (.Name x pos) (zlz i):=zgc hN hv hd hcd
end
theorem vN {A B:Prop}(h:B):if false=true then A else B:=by
 rw[if_neg Bool.false_ne_true]
 exact h
theorem Zl {A B:Prop}(h:A):if true=true then A else B:=by
 rw[if_pos rfl]
 exact h
theorem ite2 {c A B:Prop} [Decidable c] (h1:c→A) (h2:¬ c→B):if c then A else B:=by
 by_cases h:c
 ·rw[if_pos h]
  exact h1 h
 ·rw[if_neg h]
  exact h2 h
def Same (H H':Hp):Prop:=∀ b o,H b=some o→H' b=some o
theorem Same.refl (H:Hp):Same H H:=fun _ _ h=>h
theorem Same.trans {H H1 H2:Hp}(a:Same H H1) (b:Same H1 H2):Same H H2:=fun c o h=>b c o (a c o h)
theorem Same.free {H H':Hp}(e:Same H H'){l:Addr}(h:H' l=Option.none):H l=Option.none:=by
 cases q:H l with
 |none=>rfl
 |some o =>
  rw[e l o q] at h
  cases h
end L2

set_option maxHeartbeats 4000000
namespace L2
open PySem PySem.Spec PyProof.Rows
def zaI (t u:TS):TS:=fun D σ H=>∃ M:St→Hp→Prop,t { D with nx:=M } σ H∧∀ σ' H',M σ' H'→u D σ' H'
theorem VG {X:Cx}{st:Stmt}{rest:List Stmt}{t u:TS}(h1:PS X st t) (h2:PSs X rest u):PSs X (st::rest) (zaI t u):=by
 intro pins s σ H D I h
 obtain⟨M,h,hM⟩:=h
 refine wpAny_execs_cons (thn (h1 pins s σ H { D with nx:=M } I h) fun f s1 q=>?_)
 cases f with
 |next =>
  obtain⟨σ',H',I',q⟩:=q
  exact h2 pins s1 σ' H' D I' (hM σ' H' q)
 |brk=>exact q
 |cont=>exact q
 |ret u=>exact q
theorem iteB {c:Bool}{A B:Prop}(hc:c=true) (h:A):if c=true then A else B:=by rw[if_pos hc];exact h
theorem yh {c:Bool}{A B:Prop}(hc:c=false) (h:B):if c=true then A else B:=by rw[hc];exact vN h
def PTs (X:Cx) (ifs:List Expr) (t:TT):Prop :=
 ∀ (pins:List (Addr×Obj)) (s:Shared) (σ:St) (H:Hp) (Q:Bool→Hp→Prop),Inv X pins σ H s→t σ H Q →
  wpAny (model X.prog X.w) X.A (forIn ifs true fun c r=>if r=true then do let ok ← isTrue c X.env (eval c X.env);pure (ForInStep.yield ok) else pure (ForInStep.yield r)) (TP X pins σ Q) X.xe s
def zly:TT:=fun _ H Q=>Q true H
theorem VF {X:Cx}:PTs X [] zly:=fun _ _ _ H _ I h=>wpAny_tests_nil ⟨H,I,h⟩
theorem VE {X:Cx}{c:Expr}{t:TT}(h:PT X c t):PTs X [c] t:=fun pins s σ H Q I hw=>wpAny_tests_one (h pins s σ H Q I hw)
section
variable {prog:Program}{w:World}{A:Around}{R:Result→Shared→Prop}{s:Shared}
abbrev NoE:Value→Shared→Prop:=fun _ _=>False
theorem zm8 {α:Type}{m:Sem α}{Q:α→Shared→Prop}{E:Value→Shared→Prop}{s:Shared}(h:wpAny (model prog w) A m Q NoE s):wpAny (model prog w) A m Q E s :=
 wpAny_mono h (fun _ _ q=>q) fun _ _ z=>z.elim
noncomputable def XQ (prog:Program) (w:World) (A:Around) (env:Env) (tg:Expr) (ifs:List Expr) (elt:Expr) (it acc:Value) (again:Shared→Prop) (v:Value) (s1:Shared):Prop :=
 wpAny (model prog w) A (letOwnedTupleGo tg it v) (fun _ s2=>wpAny (model prog w) A (assign tg env v) (fun _ s3 =>
  wpAny (model prog w) A (forIn ifs true fun c r=>if r=true then do let ok ← isTrue c env (eval c env);pure (ForInStep.yield ok) else pure (ForInStep.yield r)) (fun ok s4 =>
   if ok=true then wpAny (model prog w) A (eval elt env) (fun x s5=>wpAny (model prog w) A (call (.builtin "list.append") [acc,x]) (fun _ s6=>again s6) NoE s5) NoE s4
   else again s4) NoE s3) NoE s2) NoE s1
theorem Zk {elt tg iter:Expr}{ifs:List Expr}{scope:Scope}{pos:Pos}{it acc:Value}{env:Env}(J:Nat→Shared→Prop)
  (turn:∀ n s,J n s→wpAny (model prog w) A (pyNext it) (fun r s1=>match r with
   |none=>R (.ok .next) s1
   |some v=>XQ prog w A env tg ifs elt it acc (fun s6=>∃ m,m<n∧J m s6) v s1) NoE s)
  (n:Nat) (h:J n s):codeAny (model prog w) A (.compLoop (.ListComp elt [⟨tg,iter,ifs,0⟩] scope pos) 0 it acc env) R s:=by
 refine codeAny_loop rfl J (fun n s hJ=>?_) n h
 show wpAny _ A ((compTurn (.ListComp elt [⟨tg,iter,ifs,0⟩] scope pos) 0 it acc env).onRaise (fun x=>do noteFrame x env;theTreesLotGoes x)) _ _ s
 refine wpAny_noted (zm8 ?_)
 rw[compTurn_list]
 refine wpAny_bind (wpAny_standAt (wpAny_bind (thn (turn n s hJ) fun r s1 h1=>?_)))
 cases r with
 |none=>exact wpAny_pure h1
 |some v =>
  refine wpAny_bind (thn h1 fun _ s2 h2=>wpAny_bind (thn h2 fun _ s3 h3=>wpAny_bind (thn h3 fun ok s4 h4=>?_)))
  cases ok with
  |false=>exact wpAny_pure ⟨rfl,h4⟩
  |true=>exact wpAny_bind (wpAny_bind (thn h4 fun x s5 h5=>wpAny_bind (thn h5 fun _ s6 h6=>wpAny_pure (wpAny_pure ⟨rfl,h6⟩))))
end
theorem ug {env:Env}:∀ (names:List (Str×NameKind)) (acc:List (Str×Addr)),(∀ y∈names,y.2=.free→∃ c,env.cells.lookup y.1=some c)→(∀ x c,acc.lookup x=some c→env.cells.lookup x=some c) →
  ∃ cl,(forIn names acc (fun(y:Str×NameKind) (cs:List (Str×Addr))=>(if (y.2 == NameKind.free)=true then(do let c ← cellOf env y.1;pure (ForInStep.yield ((y.1,c)::cs))) else pure (ForInStep.yield cs):Sem (ForInStep (List (Str×Addr))))))=(pure cl:Sem (List (Str×Addr))) ∧
   (∀ x c,cl.lookup x=some c→env.cells.lookup x=some c)∧(∀ x,(acc.lookup x).isSome=true→(cl.lookup x).isSome=true)∧(∀ y∈names,y.2=.free→(cl.lookup y.1).isSome=true)
 |[],acc,_,h2=>⟨acc,rfl,h2,fun _ h=>h,fun y hy=>by cases hy⟩
 |(n,k)::r,acc,h1,h2=>by
  have h1':∀ y∈r,y.2=.free→∃ c,env.cells.lookup y.1=some c:=fun y hy=>h1 y (List.mem_cons_of_mem _ hy)
  by_cases hk:k=.free
  ·subst hk
   obtain⟨c,hc⟩:=h1 (n,.free) List.mem_cons_self rfl
   have h2':∀ x c',(((n,c)::acc:List (Str×Addr)).lookup x)=some c'→env.cells.lookup x=some c':=fun x c' e=>by
    rw[List.lookup_cons] at e
    by_cases hx:(x == n)=true
    ·rw[hx] at e
     cases e
     rw[beq_iff_eq.mp hx]
     exact hc
    ·rw[Bool.not_eq_true] at hx
     rw[hx] at e
     exact h2 x c' e
   obtain⟨cl,e,p1,p2,p3⟩:=ug r ((n,c)::acc) h1' h2'
   refine⟨cl,?_,p1,fun x hx=>p2 x ?_,fun y hy hf=>?_⟩
   ·rw[List.forIn_cons]
    have q:cellOf env n=pure c:=by unfold cellOf;rw[hc]
    simp only[beq_self_eq_true,if_true,q,pure_bind]
    exact e
   ·rw[List.lookup_cons]
    cases q:x == n with
    |true=>rfl
    |false=>exact hx
   ·rcases List.mem_cons.mp hy with rfl | hy
    ·exact p2 n (by rw[List.lookup_cons,beq_self_eq_true];rfl)
    ·exact p3 y hy hf
  ·obtain⟨cl,e,p1,p2,p3⟩:=ug r acc h1' h2
   have hb:(k == NameKind.free)=false:=by simpa using hk
   refine⟨cl,?_,p1,p2,fun y hy hf=>?_⟩
   ·rw[List.forIn_cons]
    simp only[hb,Bool.false_eq_true,if_false,pure_bind]
    exact e
   ·rcases List.mem_cons.mp hy with rfl | hy
    ·exact absurd hf hk
    ·exact p3 y hy hf
structure Clos (env:Env) (scope:Scope) (cl:List (Str×Addr)):Prop where
 eq:closureFor scope env=pure cl
 sub:∀ x c,cl.lookup x=some c→env.cells.lookup x=some c
 all:∀ y∈scope.names,y.2=.free→(cl.lookup y.1).isSome=true
theorem XD {env:Env}{scope:Scope}(h:∀ y∈scope.names,y.2=.free→∃ c,env.cells.lookup y.1=some c):∃ cl,Clos env scope cl:=by
 obtain⟨cl,e,p1,p2,p3⟩:=ug (env:=env) scope.names [] h (fun x c z=>by simp at z)
 refine⟨cl,⟨?_,p1,p3⟩⟩
 have q:closureFor scope env=(forIn scope.names [] (fun(y:Str×NameKind) (cs:List (Str×Addr))=>(if (y.2 == NameKind.free)=true then(do let c ← cellOf env y.1;pure (ForInStep.yield ((y.1,c)::cs))) else pure (ForInStep.yield cs):Sem (ForInStep (List (Str×Addr))))) >>= fun s=>pure s):=rfl
 rw[q,e,pure_bind]
abbrev yN (X:Cx) (scope:Scope) (N':List Str) (cl:List (Str×Addr)) (C:Addr) (s₀:Shared) (H₀:Hp) (fp:List Addr):Cx :=
 { X with N:=N',s₀:=s₀,H₀:=H₀,env:=compEnvC scope cl C X.env,outer:=X.stack,ex:=fp,fn:=fun _=>false,pn:=[],xe:=NoE }
structure Blk where
 cl:List (Str×Addr)
 C:Addr
 s₀:Shared
 H₀:Hp
 fp:List Addr
abbrev cxB (X:Cx) (scope:Scope) (N':List Str) (b:Blk):Cx:=yN X scope N' b.cl b.C b.s₀ b.H₀ b.fp
noncomputable def Xm:Option NameKind→Bool
 |some .cell=>true
 |some .free=>true
 |_=>false
theorem xz {k:Option NameKind}(h:Xm k=true):k=some .cell∨k=some .free:=by
 cases k with
 |none=>cases h
 |some k=>cases k<;>first | exact .inl rfl | exact .inr rfl | cases h
noncomputable def WR (N:List Str) (kd kd':Str→Option NameKind) (N':List Str) (t:Nat):List Nat→Nat→Bool
 |[],k=>N'.length == t+k
 |j::r,k=>(match N[j]?,N'[t+k]? with
  |some x,some y=>(x == y)&&Xm (kd x)&&Xm (kd' x)
  |_,_=>false)&&WR N kd kd' N' t r (k+1)
theorem vJ {N:List Str}{kd kd':Str→Option NameKind}{N':List Str}{t:Nat}:∀ {caps:List Nat}{k:Nat},WR N kd kd' N' t caps k=true→N'.length=t+k+caps.length
 |[],k,h=>by
  have:=beq_iff_eq.mp h
  simpa using this
 |j::r,k,h=>by
  have:=vJ (Bool.and_eq_true_iff.mp h).2
  rw[List.length_cons]
  omega
theorem uP {N:List Str}{kd kd':Str→Option NameKind}{N':List Str}{t:Nat}:∀ {caps:List Nat}{k i j:Nat},WR N kd kd' N' t caps k=true→caps[i]?=some j →
  ∃ x,N[j]?=some x∧N'[t+k+i]?=some x∧Xm (kd x)=true∧Xm (kd' x)=true
 |[],_,_,_,_,e=>by simp at e
 |j::r,k,0,j',h,e=>by
  simp at e
  subst e
  have h1:=(Bool.and_eq_true_iff.mp h).1
  cases q:N[j]? with
  |none=>rw[q] at h1;cases h1
  |some x =>
   cases q':N'[t+k]? with
   |none=>rw[q,q'] at h1;cases h1
   |some y =>
    rw[q,q'] at h1
    obtain⟨h2,h3⟩:=Bool.and_eq_true_iff.mp h1
    obtain⟨h4,h5⟩:=Bool.and_eq_true_iff.mp h2
    obtain rfl:x=y:=beq_iff_eq.mp h4
    exact⟨x,rfl,rfl,h5,h3⟩
 |j::r,k,i+1,j',h,e=>by
  obtain⟨x,a,b,c,d⟩:=uP (i:=i) (Bool.and_eq_true_iff.mp h).2 (by simpa using e)
  refine⟨x,a,?_,c,d⟩
  have q:t+(k+1)+i=t+k+(i+1):=by omega
  rw[← q]
  exact b
structure CompOk (X:Cx) (scope:Scope) (N':List Str) (t:Nat) (caps:List Nat):Prop where
 kind:scope.kind=.function
 shape:(scope.names.all fun y=>(y.2 == .local&&scope.names.lookup y.1 == some .local)||(y.2 == .free&&Xm (X.env.kindOf y.1))||(y.2 == .globalImplicit))=true
 cap:WR X.N X.env.kindOf (compEnvC scope [] 0 X.env).kindOf N' t caps 0=true
theorem CompOk.at {X:Cx}{scope:Scope}{N':List Str}{t:Nat}{caps:List Nat}(S:CompOk X scope N' t caps){y:Str×NameKind}(hy:y∈scope.names) :
  y.2≠.cell∧(y.2=.local→scope.names.lookup y.1=some .local)∧(y.2=.free→Xm (X.env.kindOf y.1)=true):=by
 have h:=List.all_eq_true.mp S.shape y hy
 obtain⟨n,k⟩:=y
 cases k<;>simp at h<;>simp[h]
noncomputable def zin (t:Nat) (caps:List Nat) (σ:St):St:=List.replicate t none++caps.map fun j=>(σ[j]?).join
theorem xf {scope:Scope}{env:Env}{x:Str}:∀ {names:List (Str×NameKind)},(∀ y∈names,y.2≠.cell)→Xm ((names.map fun(y:Str×NameKind)=>if (y.2 == NameKind.free&&env.scope.kind == .function&&env.kindOf y.1 == some .cell)=true then(y.1,NameKind.cell) else(y.1,y.2)).lookup x)=true →
  (x,NameKind.free)∈names
 |[],_,h=>by simp[Xm] at h
 |(n,k)::r,hn,h=>by
  have hr:∀ y∈r,y.2≠.cell:=fun y hy=>hn y (List.mem_cons_of_mem _ hy)
  have hk:k≠.cell:=hn (n,k) List.mem_cons_self
  rw[List.map_cons] at h
  by_cases hx:(x == n)=true
  ·obtain rfl:x=n:=beq_iff_eq.mp hx
   have q:k=.free:=by
    by_cases hf:k=.free
    ·exact hf
    ·exfalso
     have hb:(k == NameKind.free)=false:=by simpa using hf
     simp only[hb,Bool.false_and,Bool.false_eq_true,if_false,List.lookup_cons,beq_self_eq_true] at h
     cases k<;>simp[Xm] at h hk hf
   subst q
   exact List.mem_cons_self
  ·rw[Bool.not_eq_true] at hx
   refine List.mem_cons_of_mem _ (xf (scope:=scope) (env:=env) hr ?_)
   by_cases hc:(k == NameKind.free&&env.scope.kind == .function&&env.kindOf n == some .cell)=true
   ·simp only[hc,if_true,List.lookup_cons,hx] at h
    exact h
   ·rw[Bool.not_eq_true] at hc
    simp only[hc,Bool.false_eq_true,if_false,List.lookup_cons,hx] at h
    exact h
def XS (J:It) (g:TG) (tc:TT) (te:TE) (Q:VK) (D:Addr) (τ0:St) (H0:Hp):Prop :=
 ∃ W:Nat→Nat→List V→St→Hp→Prop,(∃ m,W 0 m [] τ0 H0)∧∀ i m ys τ H,W i m ys τ H →
  (J.stop i H∧Q (.ref D) H)∨(J.go i H∧∃ N:List V→St→Hp→Prop,(∀ zs τ' H',N zs τ' H'→∃ m',m'<m∧W (i+1) m' zs τ' H')∧∀ x H3,J.yld i H x H3→g x τ H3 fun τ2 H4=>tc τ2 H4 fun b H5 =>
   if b=true then te τ2 H5 fun y H6=>H6 D=some (.lst ys)∧ys.length<sizeLine∧N (ys++[y]) τ2 (upd H6 D (.lst (ys++[y]))) else N ys τ2 H5)
def X1 (wi:TI) (g:Blk→TG) (tc:Blk→TT) (te:Blk→TE) (t:Nat) (caps:List Nat):TE:=fun σ H Q =>
 wi σ H fun J H1=>∀ D,H1 D=none→∀ b:Blk,XS J (g b) (tc b) (te b) Q D (zin t caps σ) (upd H1 D (.lst []))
theorem XC {J:It}{g:TG}{tc:TT}{te:TE}{Q:VK}{D:Addr}{τ0:St}{H0:Hp}(n:Nat) (Pv:Nat→List V→St→Hp→Prop) (h0:Pv 0 [] τ0 H0)
  (hst:∀ zs τ H,Pv n zs τ H→J.stop n H∧Q (.ref D) H)
  (hgo:∀ i zs τ H,i<n→Pv i zs τ H→J.go i H∧∀ x H3,J.yld i H x H3→g x τ H3 fun τ2 H4=>tc τ2 H4 fun b H5 =>
   if b=true then te τ2 H5 fun y H6=>H6 D=some (.lst zs)∧zs.length<sizeLine∧Pv (i+1) (zs++[y]) τ2 (upd H6 D (.lst (zs++[y]))) else Pv (i+1) zs τ2 H5):XS J g tc te Q D τ0 H0:=by
 refine⟨fun i m zs τ H=>m=n-i∧i≤n∧Pv i zs τ H,⟨n,by simp,Nat.zero_le _,h0⟩,?_⟩
 rintro i m zs τ H ⟨rfl,hi,p⟩
 by_cases hlt:i<n
 ·obtain⟨go,step⟩:=hgo i zs τ H hlt p
  exact .inr ⟨go,Pv (i+1),fun zs' τ' H' p'=>⟨n-(i+1),by omega,rfl,hlt,p'⟩,step⟩
 ·have e:i=n:=by omega
  subst e
  exact .inl (hst zs τ H p)
theorem zZ {K:PySem.W.Frag}{a:Addr}{xs:List V}{g:TG}{tc:TT}{te:TE}{Q:VK}{D:Addr}{τ0:St}{H0:Hp}(Pv:Nat→List V→St→Hp→Prop) (h0:Pv 0 [] τ0 H0) (hl:∀ i zs τ H,Pv i zs τ H→SqL K H a xs)
  (hs:∀ i x zs τ H,xs[i]?=some x→Pv i zs τ H→g x τ H fun τ2 H4=>tc τ2 H4 fun b H5 =>
   if b=true then te τ2 H5 fun y H6=>H6 D=some (.lst zs)∧zs.length<sizeLine∧Pv (i+1) (zs++[y]) τ2 (upd H6 D (.lst (zs++[y]))) else Pv (i+1) zs τ2 H5)
  (hd:∀ zs τ H,Pv xs.length zs τ H→Q (.ref D) H):XS (Itl K a) g tc te Q D τ0 H0 :=
 XC xs.length Pv h0 (fun zs τ H p=>⟨⟨xs,hl _ _ _ _ p,Nat.le_refl _⟩,hd zs τ H p⟩) fun i zs τ H hi p=>⟨⟨xs,xs[i],hl _ _ _ _ p,by simp[hi]⟩,fun x H3 y=>by
  obtain⟨e,y⟩:=y
  subst e
  exact hs i x zs τ _ (y xs (hl _ _ _ _ p)) p⟩
theorem Zi {lo:Int}{n:Nat}{g:TG}{tc:TT}{te:TE}{Q:VK}{D:Addr}{τ0:St}{H0:Hp}(Pv:Nat→List V→St→Hp→Prop) (h0:Pv 0 [] τ0 H0)
  (hs:∀ i zs τ H,i<n→Pv i zs τ H→g (.int (lo+i)) τ H fun τ2 H4=>tc τ2 H4 fun b H5 =>
   if b=true then te τ2 H5 fun y H6=>H6 D=some (.lst zs)∧zs.length<sizeLine∧Pv (i+1) (zs++[y]) τ2 (upd H6 D (.lst (zs++[y]))) else Pv (i+1) zs τ2 H5)
  (hd:∀ zs τ H,Pv n zs τ H→Q (.ref D) H):XS (Itr lo n) g tc te Q D τ0 H0 :=
 XC n Pv h0 (fun zs τ H p=>⟨Nat.le_refl _,hd zs τ H p⟩) fun i zs τ H hi p=>⟨hi,fun x H3 y=>by
  obtain⟨e,y⟩:=y
  subst e y
  exact hs i zs τ _ hi p⟩
section
variable {X:Cx}{tg iter elt:Expr}{ifs:List Expr}{scope:Scope}{pos:Pos}{N':List Str}{t:Nat}{caps:List Nat}{g:Blk→TG}{tc:Blk→TT}{te:Blk→TE}{wi:TI}
theorem FpOk.heap {pins:List (Addr×Obj)}{H H':Hp}{b:Addr}(f:FpOk X pins H b) (h:H' b=none):FpOk X pins H' b:=⟨h,f.2⟩
theorem vI {cl:List (Str×Addr)}{J:It}{fp:List Addr}{it:Addr}{tn:Nat→Heap→Prop}{pins:List (Addr×Obj)}{σ:St}{H2:Hp}{s2:Shared}{Q:VK}{E:Value→Shared→Prop}
  (hc:X.calm=true) (S:CompOk X scope N' t caps) (L:Clos X.env scope cl)
  (hg:∀ b,PG (cxB X scope N' b) tg (g b)) (ht:∀ b,PTs (cxB X scope N' b) ifs (tc b)) (he:∀ b,PE (cxB X scope N' b) elt (te b))
  (I2:Inv X pins σ H2 s2) (T:Turn X.prog X.w X.K tg J fp it tn) (st2:tn 0 s2.heap) (f2:∀ b∈fp,FpOk X pins H2 b)
  (R:∀ D,H2 D=none→∀ b,XS J (g b) (tc b) (te b) Q D (zin t caps σ) (upd H2 D (.lst []))) :
  wpAny (model X.prog X.w) X.A (newList []) (fun acc s3=>wpAny (model X.prog X.w) X.A (newFunctionEnv scope X.env.globals cl [] X.env.qual none .none (some X.env)) (fun cenv s4 =>
   codeAny (model X.prog X.w) X.A (.compStart (.ListComp elt [⟨tg,iter,ifs,0⟩] scope pos) 0 (.ref it) acc { cenv with scope:=relabel scope X.env })
    (fun r s'=>∃ (D:Addr) (H':Hp) (m:Str→Option Value),acc=.ref D∧r=.ok .next∧Inv X pins σ H' s'∧s'.heap.Ns cenv.locals m∧FpOk X pins H' cenv.locals∧Q (.ref D) H') s4) E s3) E s2:=by
 refine wpAny_newObj_type ?_
 have I3:Inv X pins σ (upd H2 s2.heap.objs.size (.lst [])) { s2 with heap:=s2.heap.push { cls:=.type "list",data:=.seq ([]:List Value).toArray } }:=I2.lnew (t':=s2.toks) .nil (Nat.zero_le _)
 have hD:H2 s2.heap.objs.size=none:=I2.fresh
 have R:=R _ hD
 generalize hs3:({ s2 with heap:=s2.heap.push { cls:=.type "list",data:=.seq ([]:List Value).toArray } }:Shared)=s3 at I3 ⊢
 generalize hH3:upd H2 s2.heap.objs.size (.lst [])=H3 at I3 R
 generalize hDD:s2.heap.objs.size=D at R ⊢
 have k3:∀ b o,s2.heap.get? b=some o→s3.heap.get? b=some o:=fun b o e=>by rw[← hs3];exact Heap.get?_push_of_some _ e
 have st3:tn 0 s3.heap:=T.keep 0 _ _ st2 fun b _ o e=>k3 b o e
 have fpn:∀ b∈fp,H3 b=none:=fun b hb=>by
  obtain⟨o,e,_⟩:=T.obj 0 _ st2 b hb
  rw[← hH3,upd_ne (Nat.ne_of_lt (Heap.lt_size e))]
  exact(f2 b hb).1
 have f3:∀ b∈fp,FpOk X pins H3 b:=fun b hb=>(f2 b hb).heap (fpn b hb)
 refine wpAny_newFunctionEnv (fun y hy=>(S.at hy).1) (by intro y hy;simp at hy) (fun h4 hns hsb=>?_) S.kind
 generalize hC:s3.heap.objs.size=C at hns hsb ⊢
 have k4:∀ b o,s3.heap.get? b=some o→h4.get? b=some o:=fun b o e=>hsb.extBut b o (by rw[← hC];exact Nat.ne_of_lt (Heap.lt_size e)) (Heap.get?_push_of_some _ e)
 have cellsub:∀ x c,(yN X scope N' cl C s3 H3 fp).env.cells.lookup x=some c→X.env.cells.lookup x=some c:=L.sub
 have hnc:∀ y∈scope.names,y.2≠.cell:=fun y hy=>(S.at hy).1
 have fC:∀ {H':Hp},H' C=none→FpOk X pins H' C:=fun h=>by rw[← hC] at h ⊢;exact I3.fpOk (Nat.le_refl _) h
 have I4:Inv (yN X scope N' cl C s3 H3 fp) [] (zin t caps σ) H3 { s3 with heap:=h4,toks:=s3.toks+([]:List (Str×Value)).length }:=by
  refine⟨⟨I3.ok.mod,S.kind,I3.ok.glob,I3.ok.blt,Nat.le_of_eq hC,fun x y c h1 h2=>I3.ok.inj x y c (L.sub _ _ h1) (L.sub _ _ h2),fun x hx=>?_,fun x c h _=>absurd (show false=true from h) Bool.false_ne_true,I3.ok.hd,I3.ok.frames,.inl rfl,fun b hb=>⟨?_,fun x c e=>(f3 b hb).2.2.2.2.1 x c (L.sub x c e)⟩,
    I3.bs,Nat.le_trans I3.ok.bsz I3.sz,fun b o e hb=>?_,fun b hb z=>?_,I3.stack,I3.stkFree⟩,
   rfl,I3.bare,Un.kept k4,⟨_,hns,fun i x v e1 e2 e3=>?_⟩,fun x c e=>?_,(by rw[← hC];exact I3.fresh),fun x c e=>I3.freeC x c (L.sub x c e),fun p hp=>?_,I3.hok.kept k4,?_⟩
  ·have hx':Xm ((relabel scope X.env).names.lookup x)=true:=by
    rcases hx with q | q
    ·rw[show(relabel scope X.env).names.lookup x=some .cell from q];rfl
    ·rw[show(relabel scope X.env).names.lookup x=some .free from q];rfl
   exact Option.isSome_iff_exists.mp (L.all _ (xf (scope:=scope) hnc hx') rfl)
  ·obtain⟨o,e,_⟩:=T.obj 0 _ st3 b hb
   rw[← hC]
   exact Nat.ne_of_lt (Heap.lt_size e)
  ·rcases(f3 b hb).2.2.2.1 with z | z
   ·exact I3.ok.noex b o e z
   ·exact absurd (Nat.lt_of_lt_of_le (Nat.lt_of_lt_of_le (Heap.lt_size e) I3.ok.bsz) z) (Nat.lt_irrefl _)
  ·rcases List.mem_cons.mp (I3.stkSub b z) with q | q
   ·exact(f3 b hb).2.1 q
   ·exact(f3 b hb).2.2.1 q
  ·-- a name that was taken over
   unfold zin at e2
   by_cases hi:i<t
   ·rw[List.getElem?_append_left (by simpa using hi),List.getElem?_replicate] at e2
    simp[hi] at e2
   ·rw[List.getElem?_append_right (by simpa using hi),List.length_replicate,List.getElem?_map] at e2
    cases q:caps[i-t]? with
    |none=>rw[q] at e2;simp at e2
    |some j =>
     rw[q] at e2
     obtain⟨y,c1,c2,c3,c4⟩:=uP S.cap q
     have ei:t+0+(i-t)=i:=by omega
     rw[ei] at c2
     have exy:x=y:=Option.some.inj ((show N'[i]?=some x from e1).symm.trans c2)
     subst exy
     have e2':σ[j]?=some (some v):=by
      have e2:(σ[j]?).join=some v:=Option.some.inj e2
      cases r:σ[j]? with
      |none=>rw[r] at e2;cases e2
      |some z =>
       rw[r] at e2
       have e2:z=some v:=e2
       rw[e2]
     obtain⟨m,hn,hl⟩:=I3.loc
     have cf:=xz c3
     obtain⟨u,ru,lk⟩:=hl j x v c1 e2' (.inr (by
      rcases cf with z | z
      ·exact .inl z
      ·exact .inr z))
     refine⟨u,ru,.inr ⟨xz c4,?_⟩⟩
     rcases lk with⟨z,_⟩ | ⟨_,c,ec,zc⟩
     ·rcases cf with w | w<;>(rw[z] at w;cases w)
     ·have hfree:=xf (scope:=scope) (env:=X.env) (x:=x) hnc c4
      obtain⟨c',ec'⟩:=Option.isSome_iff_exists.mp (L.all _ hfree rfl)
      have:=L.sub _ _ ec'
      rw[show X.env.cells.lookup x=some c from ec] at this
      cases this
      obtain⟨o,ho,hd⟩:=zc
      exact⟨c,ec',o,k4 _ _ ho,hd⟩
  ·obtain⟨v,o,ho,hd⟩:=I3.cell x c (L.sub x c e)
   exact⟨v,o,k4 _ _ ho,hd⟩
  ·exact absurd (show p∈([]:List (Addr×Obj)) from hp) (by simp)
  ·unfold zin
   rw[List.length_append,List.length_replicate,List.length_map,vJ S.cap]
   omega
 obtain⟨W,⟨m0,w0⟩,turn⟩:=R ⟨cl,C,s3,H3,fp⟩
 -- back to the frame outside
 have back:∀ {τ:St}{H':Hp}{s':Shared},Inv (yN X scope N' cl C s3 H3 fp) [] τ H' s'→Inv X pins σ H' s':=fun {τ H' s'} J=>by
  refine I3.call' (ch:=fp) (J.os.trans ?_) J.base J.hok J.bare fun b hb=>⟨(f3 b hb).2.2.2.1,(f3 b hb).2.1,(f3 b hb).2.2.2.2.1,(f3 b hb).2.2.2.2.2⟩
  rfl
 have stat:∀ {H':Hp},(∀ b∈fp,H' b=none)→∀ b∈fp,FpOk (yN X scope N' cl C s3 H3 fp) [] H' b:=fun {H'} hn b hb=>by
  refine⟨hn b hb,(I4.ok.exf b hb).1,I4.ok.exfs b hb,.inl hb,(I4.ok.exf b hb).2,fun p hp=>?_⟩
  exact absurd (show p∈([]:List (Addr×Obj)) from hp) (by simp)
 have loop:codeAny (model X.prog X.w) X.A (.compLoop (.ListComp elt [⟨tg,iter,ifs,0⟩] scope pos) 0 (.ref it) (.ref D) (compEnvC scope cl C X.env))
   (fun r s'=>∃ (D':Addr) (H':Hp) (m:Str→Option Value),Value.ref D=.ref D'∧r=.ok .next∧Inv X pins σ H' s'∧s'.heap.Ns C m∧FpOk X pins H' C∧Q (.ref D') H') { s3 with heap:=h4,toks:=s3.toks+([]:List (Str×Value)).length }:=by
  refine Zk (fun n s'=>∃ i ys τ H',Inv (yN X scope N' cl C s3 H3 fp) [] τ H' s'∧tn i s'.heap∧(∀ b∈fp,H' b=none)∧W i n ys τ H') ?_ m0 ⟨0,[],_,H3,I4,T.keep 0 _ _ st3 fun b _ o e=>k4 b o e,fpn,w0⟩
  rintro n s5 ⟨i,ys,τ,H5,I5,st5,fr5,w5⟩
  rcases turn i n ys τ H5 w5 with⟨stop,q⟩ | ⟨go,N,hN,step⟩
  ·refine thn (T.done (yN X scope N' cl C s3 H3 fp) rfl rfl rfl hc i [] s5 τ H5 NoE I5 (stat fr5) st5 stop) fun r s6 ⟨hr,I6⟩=>?_
   subst hr
   obtain⟨m,hm,_⟩:=id I6.loc
   exact⟨D,H5,m,rfl,rfl,back I6,hm,fC I6.free,q⟩
  ·refine thn (T.item (yN X scope N' cl C s3 H3 fp) rfl rfl rfl hc i [] s5 τ H5 NoE I5 (stat fr5) st5 go) fun r s6 ⟨u,hr,h6⟩=>?_
   subst hr
   refine thn h6 fun _ s7 hq0=>?_
   obtain⟨x,H7,I7,r7,y7,st7,fr7⟩:=hq0
   have I7':=I7.pinned (stat fr7) (T.obj _ _ st7)
   have again:∀ {τ9:St}{H9:Hp}{s9:Shared}{ys9:List V}{m':Nat},Inv (yN X scope N' cl C s3 H3 fp) ([]++vn fp s7.heap) τ9 H9 s9→m'<n→W (i+1) m' ys9 τ9 H9 →
     ∃ m,m<n∧∃ i ys τ H',Inv (yN X scope N' cl C s3 H3 fp) [] τ H' s9∧tn i s9.heap∧(∀ b∈fp,H' b=none)∧W i m ys τ H':=fun {τ9 H9 s9 ys9 m'} I9 hm w9=>by
    refine⟨m',hm,i+1,ys9,τ9,H9,I9.unpinned,T.keep _ _ _ st7 fun b hb o e=>(I9.pin (b,o) (List.mem_append_right _ (List.mem_append_right _ (yE hb e)))).1,fun b hb=>?_,w9⟩
    obtain⟨o,e,_⟩:=T.obj _ _ st7 b hb
    exact(I9.pin (b,o) (List.mem_append_right _ (List.mem_append_right _ (yE hb e)))).2.1
   refine thn (hg ⟨cl,C,s3,H3,fp⟩ _ s7 τ H7 x u _ I7' r7 (step x H7 y7)) fun _ s8 hq0=>?_
   obtain⟨τ8,H8,I8,q8⟩:=hq0
   refine thn (ht ⟨cl,C,s3,H3,fp⟩ _ s8 τ8 H8 _ I8 q8) fun ok s9 hq0=>?_
   obtain⟨H9,I9,q9⟩:=hq0
   cases ok with
   |false =>
    obtain⟨m',hm,w9⟩:=hN _ _ _ (show N ys τ8 H9 from q9)
    exact again I9 hm w9
   |true =>
    refine thn (he ⟨cl,C,s3,H3,fp⟩ _ s9 τ8 H9 _ I9 q9) fun y s10 hq0=>?_
    obtain⟨z,H10,I10,r10,hl,hz,q10⟩:=hq0
    refine thn (zQ _ s10 τ8 H10 (.ref D) [z] (.ref D) [y] (fun v H11=>v=.non∧H11=upd H10 D (.lst (ys++[z]))) I10 rfl (.cons r10 .nil) ⟨D,ys,z,rfl,rfl,hl,hz,rfl,rfl⟩) fun _ s11 hq0=>?_
    obtain⟨v,H11,I11,_,_,e11⟩:=hq0
    subst e11
    obtain⟨m',hm,w10⟩:=hN _ _ _ q10
    exact again I11 hm w10
 exact codeAny_compStart_list loop (T.self _ 0 _ _ _ (T.keep 0 _ _ st3 fun b _ o e=>k4 b o e) loop)
theorem VS (hc:X.calm=true) (S:CompOk X scope N' t caps) (hi:PI X tg iter wi)
  (hg:∀ b,PG (cxB X scope N' b) tg (g b)) (ht:∀ b,PTs (cxB X scope N' b) ifs (tc b)) (he:∀ b,PE (cxB X scope N' b) elt (te b))
  (hs:∀ x,foldedSetIterable iter X.env x=pure x:=by intro _;rfl):PE X (.ListComp elt [⟨tg,iter,ifs,0⟩] scope pos) (X1 wi g tc te t caps):=by
 intro pins s σ H Q I h
 obtain⟨cl,L⟩:=XD (env:=X.env) (scope:=scope) fun y hy hf=>I.ok.has y.1 (xz ((S.at hy).2.2 hf))
 rw[eval_ListComp]
 refine wpAny_comprehension_free (use:=none) rfl hs L.eq S.kind (fun y hy=>(S.at hy).2.1) (thn (hi pins s σ H _ I h) fun x s1 h1=>thn h1 fun itv s2 h2=>?_)
 obtain⟨it,fp,tn,J,H2,rfl,I2,T,st2,f2,R⟩:=h2
 refine thn (vI hc S L hg ht he I2 T st2 f2 R) fun acc s3 h3=>thn h3 fun cenv s4 h4=>codeAny_mono h4 fun r s' hr=>?_
 obtain⟨D,H',m,rfl,rfl,I',hm,fC,q⟩:=hr
 obtain⟨c0,c1,c2,c3,c4,c5⟩:=fC
 exact⟨m,hm,fun h' sb=>⟨.ref D,H',I'.turned (t':=s'.toks) (fun b o hb e=>sb.extBut b o hb e) c0 c1 c3 c4 c5,rfl,q⟩⟩
theorem Zb {i:Nat}{y:Str}{py spos:Pos}(hc:X.calm=true) (hN:X.N.Nodup) (hiy:X.N[i]?=some y) (hy:Loc X.env.scope y) (S:CompOk X scope N' t caps) (hi:PI X tg iter wi)
  (hg:∀ b,PG (cxB X scope N' b) tg (g b)) (ht:∀ b,PTs (cxB X scope N' b) ifs (tc b)) (he:∀ b,PE (cxB X scope N' b) elt (te b))
  (hsw:swapsWith (.ListComp elt [⟨tg,iter,ifs,0⟩] scope pos) (some (.Name y py)) spos.line X.env=pure true:=by rfl)
  (hs:∀ x,foldedSetIterable iter X.env x=pure x:=by intro _;rfl) (hf:X.fn y=true∨X.env.scope.names.lookup y=some .local:=by first | exact .inl rfl | exact .inr rfl | assumption) :
  PS X (.Assign [.Name y py] (.ListComp elt [⟨tg,iter,ifs,0⟩] scope pos) spos) (ziv (X1 wi g tc te t caps) (uc i)):=by
 intro pins s σ H D' I h
 obtain⟨cl,L⟩:=XD (env:=X.env) (scope:=scope) fun y hy hf=>I.ok.has y.1 (xz ((S.at hy).2.2 hf))
 rw[exec_Assign_Name_used _ _ _ _ hsw]
 refine wpAny_bind (wpAny_standAt (wpAny_bind ?_))
 show wpAny _ X.A (comprehension (.ListComp elt [⟨tg,iter,ifs,0⟩] scope pos) scope X.env _ (newList []) false (eval iter X.env) (some (assign (.Name y py) X.env)) >>= fun _=>pure ()) _ _ s
 refine wpAny_bind (thn (Q:=fun _ s'=>SP X pins D' .next s') ?_ fun _ s' hq=>wpAny_pure (wpAny_pure hq))
 refine wpAny_comprehension_free (use:=some (assign (.Name y py) X.env)) rfl hs L.eq S.kind (fun y hy=>(S.at hy).2.1) (thn (hi pins s σ H _ I h) fun x s1 h1=>thn h1 fun itv s2 h2=>?_)
 obtain⟨it,fp,tn,J,H2,rfl,I2,T,st2,f2,R⟩:=h2
 refine thn (vI hc S L hg ht he I2 T st2 f2 R) fun acc s3 h3=>thn h3 fun cenv s4 h4=>codeAny_mono h4 fun r s' hr=>?_
 obtain⟨D,H',m,rfl,rfl,I',hm,fC,q⟩:=hr
 obtain⟨c0,c1,c2,c3,c4,c5⟩:=fC
 show wpAny _ X.A (assign (.Name y py) X.env (.ref D)) _ _ _
 refine wpAny_assign_Name (vb I' hN hiy hy (show RelV (.ref D) (.ref D) from rfl) (fun s'' I'' hq0=>?_) hf)
 obtain⟨a,sb,ha⟩:=hq0
 have hne:cenv.locals≠a:=by
  rcases ha with z | z
  ·rw[z];exact c1
  ·exact fun z'=>c4 y a z z'.symm
 refine⟨m,hm.sameBut sb hne,fun h' sb'=>?_⟩
 exact⟨_,H',I''.turned (t':=s''.toks) (fun b o hb e=>sb'.extBut b o hb e) c0 c1 c3 c4 c5,q⟩
end
end L2

namespace L2
open PySem PySem.Spec PyProof.Rows
def zn8 (i j:Int):Prop:=0<j∧j.natAbs.log2<9000
section
variable {X:Cx}
theorem yX:OpR X (binaryOp .FloorDiv) (rI zn8 fun i j=>.int (i/j)):=opI fun i j _ _ _ _ _ hc q=>by
 have e:i.fdiv j=i/j:=Int.fdiv_eq_ediv_of_nonneg i (Int.le_of_lt hc.1)
 exact floordiv_int (Ne.symm (Int.ne_of_lt hc.1)) (by rw[e];exact q) (.inl (PyProof.noPylong_of_log2 hc.2))
noncomputable def zn5:V→Option Value
 |.ty n=>some (.type n)
 |.ref a=>some (.ref a)
 |_=>none
theorem WQ {c:V}{cv u:Value}(h:zn5 c=some cv) (r:RelV c u):u=cv:=by
 cases c<;>simp[zn5] at h
 ·exact(show u=Value.ref _ from r).trans h
 ·exact(show u=Value.type _ from r).trans h
def zw4 (K:PySem.W.Frag):List V→Hp→VK→Prop:=fun xs H Q=>∃ x c t cv b,xs=[x,c]∧zn5 c=some cv∧TyOf K H x t∧PySem.W.kitOne K t cv=some b∧Q (.bl b) H
theorem zR:yC X (.builtin "isinstance") (zw4 X.K):=by
 intro pins s σ H xs us Q I r h
 obtain⟨x,c,t,cv,b,rfl,hc,ty,e,q⟩:=h
 obtain⟨u,v,rfl,r1,r2⟩:=r.two
 obtain rfl:=WQ hc r2
 exact Xl I r1 ty e fun tk=>⟨.bl b,H,I.tok tk,rfl,q⟩
inductive EqD (K:PySem.W.Frag) (H:Hp):V→V→Bool→Nat→Prop where
 |flat {x y:V}{n:Nat}(fx:yQ x=true) (fy:yQ y=true):EqD K H x y (eqV x y) n
 |same {a:Addr}{n:Nat}:EqD K H (.ref a) (.ref a) true n
 |lst {a b:Addr}{xs ys:List V}{e:Nat→Bool}{n:Nat}(hne:a≠b) (ha:SqL K H a xs) (hb:SqL K H b ys) (hl:xs.length=ys.length) (h:∀ (j:Nat) x y,xs[j]?=some x→ys[j]?=some y→EqD K H x y (e j) n) :
   EqD K H (.ref a) (.ref b) ((List.range xs.length).all e) (n+1)
 |tup {a b:Addr}{xs ys:List V}{e:Nat→Bool}{n:Nat}(hne:a≠b) (ha:SqT K H a xs) (hb:SqT K H b ys) (hl:xs.length=ys.length) (h:∀ (j:Nat) x y,xs[j]?=some x→ys[j]?=some y→EqD K H x y (e j) n) :
   EqD K H (.ref a) (.ref b) ((List.range xs.length).all e) (n+1)
theorem yA (A:Around):A.in1.units=A.units+1:=rfl
theorem EqD.at {pins:List (Addr×Obj)}{σ:St}{H:Hp}{s:Shared}{x y:V}{b:Bool}{n:Nat}(I:Inv X pins σ H s) (h:EqD X.K H x y b n) :
  ∀ (A:Around) (u v:Value),A.units+n<cLine→RelV x u→RelV y v→SeqAt.EqAt A s u v b:=by
 induction h with
 |flat fx fy=>intro A u v _ rx ry;exact eqAt_V rx ry fx fy
 |same=>intro A u v _ rx ry;cases rx;cases ry;exact SeqAt.EqAt.same _
 | @lst a b xs ys e n hne ha hb hl h ih =>
  intro A u v hu rx ry
  cases rx;cases ry
  obtain⟨i1,r1,p1,_⟩:=I.list ha
  obtain⟨i2,r2,p2,_⟩:=I.list hb
  have l1:=r1.length
  have l2:=r2.length
  refine SeqAt.EqAt.of_refs hne ?_
  have q:=SeqAt.RcAt.lists (A:=A) (s:=s) (e:=e) p1.isList p2.isList (by simp;omega) (by omega) (fun j h1 h2=>?_)
  ·rw[List.size_toArray,← l1] at q
   exact q
  ·have g1:j<xs.length:=by rw[l1];simpa using h1
   have g2:j<ys.length:=by rw[l2];simpa using h2
   obtain⟨u1,e1,q1⟩:=r1.get (i:=j) (x:=xs[j]) (by simp[g1])
   obtain⟨u2,e2,q2⟩:=r2.get (i:=j) (x:=ys[j]) (by simp[g2])
   have f1:i1.toArray[j]=u1:=by
    have:=List.getElem?_eq_some_iff.mp e1
    obtain⟨_,z⟩:=this
    simpa using z
   have f2:i2.toArray[j]=u2:=by
    have:=List.getElem?_eq_some_iff.mp e2
    obtain⟨_,z⟩:=this
    simpa using z
   rw[f1,f2]
   exact ih j _ _ (by simp[g1]) (by simp[g2]) A.in1 u1 u2 (by rw[yA];omega) q1 q2
 | @tup a b xs ys e n hne ha hb hl h ih =>
  intro A u v hu rx ry
  cases rx;cases ry
  obtain⟨i1,r1,p1,_⟩:=I.tuple ha
  obtain⟨i2,r2,p2,_⟩:=I.tuple hb
  have l1:=r1.length
  have l2:=r2.length
  refine SeqAt.EqAt.of_refs hne ?_
  have q:=SeqAt.RcAt.tuples (A:=A) (s:=s) (e:=e) (show s.heap.IsTuple a i1.toArray from p1) (show s.heap.IsTuple b i2.toArray from p2) (by omega) (fun j h1 h2=>?_)
  ·have z:i1.toArray.size=i2.toArray.size:=by simp;omega
   rw[← z,Nat.min_self,beq_self_eq_true,Bool.and_true,List.size_toArray,← l1] at q
   exact q
  ·have g1:j<xs.length:=by rw[l1];simpa using h1
   have g2:j<ys.length:=by rw[l2];simpa using h2
   obtain⟨u1,e1,q1⟩:=r1.get (i:=j) (x:=xs[j]) (by simp[g1])
   obtain⟨u2,e2,q2⟩:=r2.get (i:=j) (x:=ys[j]) (by simp[g2])
   have f1:i1.toArray[j]=u1:=by
    have:=List.getElem?_eq_some_iff.mp e1
    obtain⟨_,z⟩:=this
    simpa using z
   have f2:i2.toArray[j]=u2:=by
    have:=List.getElem?_eq_some_iff.mp e2
    obtain⟨_,z⟩:=this
    simpa using z
   rw[f1,f2]
   exact ih j _ _ (by simp[g1]) (by simp[g2]) A.in1 u1 u2 (by rw[yA];omega) q1 q2
def zu1 (K:PySem.W.Frag) (A:Around) (neg:Bool):R2:=fun x y H Q=>∃ (a b:Addr) (xs ys:List V) (e:Nat→Bool) (n:Nat),x=.ref a∧y=.ref b∧((SqL K H a xs∧SqL K H b ys)∨(SqT K H a xs∧SqT K H b ys))∧xs.length=ys.length ∧
 A.units+n+2<cLine∧(∀ (j:Nat) x y,xs[j]?=some x→ys[j]?=some y→EqD K H x y (e j) n)∧Q (.bl (if neg then !(List.range xs.length).all e else(List.range xs.length).all e)) H
theorem xy {pins:List (Addr×Obj)}{σ:St}{H:Hp}{s:Shared}{A:Around}{xs ys:List V}{i1 i2:List Value}{e:Nat→Bool}{n:Nat}(I:Inv X pins σ H s) (r1:Vals xs i1) (r2:Vals ys i2) (hu:A.units+n+2<cLine)
  (h:∀ (j:Nat) x y,xs[j]?=some x→ys[j]?=some y→EqD X.K H x y (e j) n):∀ (j:Nat) (h1:j<i1.toArray.size) (h2:j<i2.toArray.size),SeqAt.EqAt A.in1 s i1.toArray[j] i2.toArray[j] (e j):=fun j h1 h2=>by
 have g1:j<xs.length:=by rw[r1.length];simpa using h1
 have g2:j<ys.length:=by rw[r2.length];simpa using h2
 obtain⟨u1,e1,q1⟩:=r1.get (i:=j) (x:=xs[j]) (by simp[g1])
 obtain⟨u2,e2,q2⟩:=r2.get (i:=j) (x:=ys[j]) (by simp[g2])
 have f1:i1.toArray[j]=u1:=by
  obtain⟨_,z⟩:=List.getElem?_eq_some_iff.mp e1
  simpa using z
 have f2:i2.toArray[j]=u2:=by
  obtain⟨_,z⟩:=List.getElem?_eq_some_iff.mp e2
  simpa using z
 rw[f1,f2]
 exact(h j _ _ (by simp[g1]) (by simp[g2])).at I A.in1 u1 u2 (by rw[yA];omega) q1 q2
theorem Ve:OpR X (compareOp .Eq) (zu1 X.K X.A false):=by
 intro pins s σ H x y v u Q I rx ry h
 obtain⟨a,b,xs,ys,e,n,rfl,rfl,hq,hl,hu,hi,q⟩:=h
 cases rx;cases ry
 rcases hq with⟨h1,h2⟩ | ⟨h1,h2⟩
 ·obtain⟨i1,r1,p1,_⟩:=I.list h1
  obtain⟨i2,r2,p2,_⟩:=I.list h2
  refine SeqAt.eq_listAt p1.isList p2.isList (by simp;rw[← r1.length,← r2.length,hl]) (by omega) (xy I r1 r2 hu hi) ⟨.bl _,H,I,rfl,?_⟩
  rw[List.size_toArray,← r1.length]
  exact q
 ·obtain⟨i1,r1,p1,_⟩:=I.tuple h1
  obtain⟨i2,r2,p2,_⟩:=I.tuple h2
  have z:i1.toArray.size=i2.toArray.size:=by simp;rw[← r1.length,← r2.length,hl]
  refine SeqAt.eq_tupleAt (show s.heap.IsTuple a i1.toArray from p1) (show s.heap.IsTuple b i2.toArray from p2) (by omega) (xy I r1 r2 hu hi) ⟨.bl _,H,I,rfl,?_⟩
  rw[← z,Nat.min_self,beq_self_eq_true,Bool.and_true,List.size_toArray,← r1.length]
  exact q
theorem YN:OpR X (compareOp .NotEq) (zu1 X.K X.A true):=by
 intro pins s σ H x y v u Q I rx ry h
 obtain⟨a,b,xs,ys,e,n,rfl,rfl,hq,hl,hu,hi,q⟩:=h
 cases rx;cases ry
 rcases hq with⟨h1,h2⟩ | ⟨h1,h2⟩
 ·obtain⟨i1,r1,p1,_⟩:=I.list h1
  obtain⟨i2,r2,p2,_⟩:=I.list h2
  refine SeqAt.RcNeAt.lists p1.isList p2.isList (by simp;rw[← r1.length,← r2.length,hl]) (by omega) (xy I r1 r2 hu hi) _ _ _ _ ⟨.bl _,H,I,rfl,?_⟩
  rw[List.size_toArray,← r1.length]
  exact q
 ·obtain⟨i1,r1,p1,_⟩:=I.tuple h1
  obtain⟨i2,r2,p2,_⟩:=I.tuple h2
  have z:i1.toArray.size=i2.toArray.size:=by simp;rw[← r1.length,← r2.length,hl]
  refine SeqAt.RcNeAt.tuples (show s.heap.IsTuple a i1.toArray from p1) (show s.heap.IsTuple b i2.toArray from p2) (by omega) (xy I r1 r2 hu hi) _ _ _ _ ⟨.bl _,H,I,rfl,?_⟩
  rw[← z,Nat.min_self,beq_self_eq_true,Bool.and_true,List.size_toArray,← r1.length]
  exact q
theorem Zj:yC X (.type "dict") (fun xs H Q=>∃ a kvs,xs=[V.ref a]∧H a=some (.dK kvs)∧∀ p,H p=none→Q (.ref p) (upd H p (.dK kvs))):=by
 intro pins s σ H xs us Q I r h
 obtain⟨a,kvs,rfl,ha,q⟩:=h
 obtain⟨u,rfl,ru⟩:=r.one
 cases ru
 exact WP I (.inl ha) fun p s' hp I'=>⟨.ref p,_,I',rfl,q p hp⟩
end
structure Callee (P:Program) (w:World) (K:PySem.W.Frag) (mg:Str→Option Value) (base:Heap) (x:Str) (f:Addr) (fd:FuncData) (ps:List Str) (k:Nat) (sp:Sp):Prop where
 ok:FnOk P w K mg base CX0 k f fd ps sp
 g:mg x=some (.ref f)
 kp:PySem.W.keepIn K (.ref f)=true
 b:Binds K fd ps []
structure Maker (P:Program) (w:World) (K:PySem.W.Frag) (mg:Str→Option Value) (base:Heap) (x:Str) (C f:Addr) (fd:FuncData) (ps:List Str) (k:Nat) (sp:Sp):Prop where
 ok:FnOk P w K mg base CX0 k f fd ps sp
 g:mg x=some (.ref C)
 mm:Mk K C f
 b:Binds K fd ps []
section
variable {X:Cx}{k:Nat}{f C:Addr}{fd:FuncData}{ps:List Str}{sp:Sp}{x m:Str}{p pos apos:Pos}{e o:Expr}{es:List Expr}{ta:TE}{t:TA}
theorem Va (c:Callee X.prog X.w X.K X.mg X.base x f fd ps k sp) (hr:Room k X.A) (ha:PA X (e::es) t) (hg:Gl X x:=by rfl) (hdb:(x == ("__debug__" : Str))=false:=by decide)
  (he:starEach (e::es) X.env=(false,eval e X.env)::starEach es X.env:=by rfl) (hpl:(backTo pos (starEach es X.env)).any (·.1)=false:=by rfl):PE X (.Call (.Name x p) (e::es) [] pos) (ZH sp [] E0 t) :=
 VT c.ok hr hg c.g c.kp c.b .nil YJ ha hdb he hpl
theorem zw8 (c:Maker X.prog X.w X.K X.mg X.base x C f fd ps k sp) (hr:Room (k+1) X.A) (ha:PA X (e::es) t) (hg:Gl X x:=by rfl) (hdb:(x == ("__debug__" : Str))=false:=by decide)
  (he:starEach (e::es) X.env=(false,eval e X.env)::starEach es X.env:=by rfl) (hpl:(backTo pos (starEach es X.env)).any (·.1)=false:=by rfl):PE X (.Call (.Name x p) (e::es) [] pos) (Vv C sp [] E0 t) :=
 VP c.mm c.ok hr hg c.g c.b .nil YJ ha hdb he hpl
def uv (X:Cx) (m:Str) (ta:TE) (t:TA):TE:=fun σ H Q=>ta σ H fun x H1=>∃ (a C dx:Addr) (fs:List (Str×V)) (f:Addr) (fd:FuncData) (ps:List Str) (k:Nat) (sp:Sp),x=.ref a∧H1 a=some (.ins C dx fs)∧fs.lookup m=none∧Cls X.K C∧Meth X.K C m f ∧
 FnOk X.prog X.w X.K X.mg X.base CX0 k f fd ps sp∧Room k X.A∧Binds X.K fd ps []∧t σ H1 fun vs H2=>sp (x::(vs++[])) H2 Q E0
theorem We {pl:Sem Bool}(he:PE X o ta) (ha:PA X (e::es) t)
  (hst:starEach (e::es) X.env=(false,eval e X.env)::starEach es X.env:=by rfl) (hpl:(backTo pos (starEach es X.env)).any (·.1)=false:=by rfl)
  (ht:eval (.Call (.Attribute o m apos) (e::es) [] pos) X.env=(do
   let ov ← eval o X.env
   standAt apos.atName
   let (f,first) ← holding [ov] (getMethod ov m pl)
   callWith pos f first (backTo pos (starEach (e::es) X.env)) (backToKw pos (keywordEach [] X.env))):=by rfl) :
  PE X (.Call (.Attribute o m apos) (e::es) [] pos) (uv X m ta t):=by
 intro pins s σ H Q I h
 refine PySem.W.methodCall_KW (pl:=pl) (thn (he pins s σ H _ I h) fun u s1 hq0=>?_) ht
 obtain⟨x,H1,I1,rx,a,C,dx,fs,f,fd,ps,k,sp,ex,ea,l,cl,hm,F,hr,hb,q⟩:=hq0
 subst ex
 obtain rfl:u=Value.ref a:=rx
 refine yF I1 ea cl hm l ?_
 refine PySem.W.callWith_K (first:=[.ref a]) (h₀:=X.base) I.ok.mod.kin hm.kp (thn (ha pos pins s1 σ H1 _ I1 q) fun us s2 ⟨vs,H2,I2,r,q2⟩=>⟨I2.kIn,?_⟩) hst hpl
 exact run_fn (us:=.ref a::us) (vs:=.ref a::vs) F hr hb .nil YJ I2 (.cons rfl r) q2
theorem YH {pl:Sem Bool}(he:PE X o ta)
  (ht:eval (.Call (.Attribute o m apos) [] [] pos) X.env=(do
   let ov ← eval o X.env
   standAt apos.atName
   let (f,first) ← holding [ov] (getMethod ov m pl)
   callWith pos f first (backTo pos (starEach [] X.env)) (backToKw pos (keywordEach [] X.env))):=by rfl) :
  PE X (.Call (.Attribute o m apos) [] [] pos) (uv X m ta zaj):=by
 intro pins s σ H Q I h
 refine PySem.W.methodCall_KW (pl:=pl) (thn (he pins s σ H _ I h) fun u s1 hq0=>?_) ht
 obtain⟨x,H1,I1,rx,a,C,dx,fs,f,fd,ps,k,sp,ex,ea,l,cl,hm,F,hr,hb,q⟩:=hq0
 subst ex
 obtain rfl:u=Value.ref a:=rx
 refine yF I1 ea cl hm l ?_
 exact PySem.W.callWith_K0 (first:=[.ref a]) I1.kIn hm.kp (run_fn (us:=[.ref a]) (vs:=[.ref a]) F hr hb .nil YJ I1 (.cons rfl .nil) q)
end
end L2

namespace PySem
namespace Zt
end Zt
end PySem

namespace PySem
namespace Zt
end Zt
end PySem

namespace L2
open PySem PySem.Spec PyProof.Rows PySem.Zt
theorem zgk {X:Cx}{x:Str}{C:Addr}{pos:Pos}(hm:X.mg x=some (.ref C)) (hg:Gl X x:=by rfl) (hd:(x == ("__debug__" : Str))=false:=by decide):PE X (.Name x pos) (tC (.ref C)):=wB hg hm rfl hd
theorem wf {X:Cx}{x:Str}{n:String}{pos:Pos}(hm:X.mg x=none) (hv:bootBuiltins x=some (.type n)) (hg:Gl X x:=by rfl) (hn:x ≠ "__name__" := by decide) (hd:(x == ("__debug__" : Str))=false:=by decide):PE X (.Name x pos) (tC (.ty n)):=VW hg hm hv rfl hn hd
theorem yb:bootBuiltins "len" = some (.builtin "len"):=by decide +kernel
theorem Vp:bootBuiltins "int" = some (.type "int"):=by decide +kernel
theorem bt_min:bootBuiltins "min" = some (.builtin "min"):=by decide +kernel
theorem bt_max:bootBuiltins "max" = some (.builtin "max"):=by decide +kernel
theorem zx:bootBuiltins "isinstance" = some (.builtin "isinstance"):=by decide +kernel
theorem xm:bootBuiltins "list" = some (.type "list"):=by decide +kernel
theorem wU:bootBuiltins "dict" = some (.type "dict"):=by decide +kernel
theorem zio:bootBuiltins "abs" = some (.builtin "abs"):=by decide +kernel
theorem xU:bootBuiltins "sorted" = some (.builtin "sorted"):=by decide +kernel
theorem XF:bootBuiltins "str" = some (.type "str"):=by decide +kernel
theorem Vo:bootBuiltins "sum" = some (.builtin "sum"):=by decide +kernel
theorem XG:bootBuiltins "bool" = some (.type "bool"):=by decide +kernel
theorem uQ:bootBuiltins "tuple" = some (.type "tuple"):=by decide +kernel
end L2

namespace L2
open PySem PySem.Spec PyProof.Rows
theorem xR {ns:List Int}{i:Nat}(h:i<ns.length):ns.getD i 0=ns[i]:=by simp[List.getD,h]
theorem xF {ns:List Int}{its:List Value}(r:Vals (ns.map V.int) its){i:Nat}{v:Value}(e:its.toArray[i]?=some v):∃ t,v=.int (ns.getD i 0) t:=by
 have e':its[i]?=some v:=by simpa using e
 have hi:i<its.length:=(List.getElem?_eq_some_iff.mp e').1
 have hl:=r.length
 rw[List.length_map] at hl
 have hb:i<ns.length:=by omega
 obtain⟨u,e2,ru⟩:=r.get (i:=i) (x:=V.int ns[i]) (by simp[hb])
 rw[e'] at e2
 cases e2
 obtain⟨t,rfl⟩:=ru
 exact⟨t,by rw[xR hb]⟩
theorem XJ (val:Nat→Int):∀ k,argBest (fun i j=>decide (val i>val j)) k≤k∧∀ j,j≤k→val j≤val (argBest (fun i j=>decide (val i>val j)) k)
 |0=>⟨Nat.le_refl _,fun j hj=>by rw[Nat.le_zero.mp hj];exact Int.le_refl _⟩
 |k+1=>by
  obtain⟨h1,h2⟩:=XJ val k
  show(if decide (val (k+1)>val (argBest _ k))=true then k+1 else argBest _ k)≤k+1∧∀ j,j≤k+1→val j≤val (if decide (val (k+1)>val (argBest _ k))=true then k+1 else argBest _ k)
  by_cases q:val (k+1)>val (argBest (fun i j=>decide (val i>val j)) k)
  ·rw[if_pos (decide_eq_true q)]
   refine⟨Nat.le_refl _,fun j hj=>?_⟩
   by_cases e:j=k+1
   ·rw[e];exact Int.le_refl _
   ·have:=h2 j (by omega)
    omega
  ·rw[if_neg (fun z=>q (of_decide_eq_true z))]
   refine⟨Nat.le_succ_of_le h1,fun j hj=>?_⟩
   by_cases e:j=k+1
   ·rw[e];omega
   ·exact h2 j (by omega)
theorem XI (val:Nat→Int):∀ k,argBest (fun i j=>decide (val i<val j)) k≤k∧∀ j,j≤k→val (argBest (fun i j=>decide (val i<val j)) k)≤val j
 |0=>⟨Nat.le_refl _,fun j hj=>by rw[Nat.le_zero.mp hj];exact Int.le_refl _⟩
 |k+1=>by
  obtain⟨h1,h2⟩:=XI val k
  show(if decide (val (k+1)<val (argBest _ k))=true then k+1 else argBest _ k)≤k+1∧∀ j,j≤k+1→val (if decide (val (k+1)<val (argBest _ k))=true then k+1 else argBest _ k)≤val j
  by_cases q:val (k+1)<val (argBest (fun i j=>decide (val i<val j)) k)
  ·rw[if_pos (decide_eq_true q)]
   refine⟨Nat.le_refl _,fun j hj=>?_⟩
   by_cases e:j=k+1
   ·rw[e];exact Int.le_refl _
   ·have:=h2 j (by omega)
    omega
  ·rw[if_neg (fun z=>q (of_decide_eq_true z))]
   refine⟨Nat.le_succ_of_le h1,fun j hj=>?_⟩
   by_cases e:j=k+1
   ·rw[e];omega
   ·exact h2 j (by omega)
abbrev bst (u:Value) (c:Nat):Obj:={ cls:=.type "list",data:=.seq #[u,u] c }
section
variable {P:Program}{w:World}{A:Around}{R:Result→Shared→Prop}{I S:Addr}{fp wr:List Addr}{n:Nat}{Is:Nat→Value→Prop}{St:Nat→Heap→Prop}{kw:List (Str×Value)}
theorem zaa (W:Walks P w A.in1 I fp wr n Is St) (bt:Nat→Nat→Bool) (cm:CmpOf P w A.in1 .Gt Is bt) (nf:S∉fp):∀ (r j:Nat) (t:Shared) (u:Value) (c:Nat),n=j+1+r→St (j+1) t.heap→Is (argBest bt j) u→t.heap.get? S=some (bst u c) →
  (∀ v h' tk,Is (argBest bt (n-1)) v→(∀ b o,b∉wr→b≠S→t.heap.get? b=some o→h'.get? b=some o)→R (.ok (.ret v)) { t with heap:=h',toks:=tk })→codeAny (model P w) A (.builtin "max.loop" ⟨[.ref I,.none,.ref S],kw⟩) R t:=by
 have nw:S∉wr:=fun z=>nf (W.sub _ z)
 have nm:(toString "max" ++ toString ".loop" : String) = "max.loop" := by decide
 intro r
 induction r with
 |zero =>
  intro j t u c hn st iu at_ fin
  subst hn
  refine codeAny_builtin F.entry_max_loop (by
   rw[Around.under_plainId F.plain_max_loop _]
   show wpAny _ A.in1 (seqItems? (.ref S) >>= _) _ _ t
   refine wpAny_bind (wpAny_seqItems at_ rfl (by
    show wpAny _ A.in1 (tryCatch (pyNext (.ref I)) _ >>= _) _ _ t
    refine wpAny_bind (wpAny_tryCatch (W.done t _ _ st fun h1 tk kk=>?_))
    show wpAny _ A.in1 (updateSeq S (fun _=>#[]) >>= _) _ _ _
    refine wpAny_bind (wpAny_updateSeq (kk S _ nw at_) rfl (wpAny_bind (wpAny_letGo (wpAny_pure ?_))))
    exact fin u _ tk iu fun b o n1 n2 e=>(Heap.get?_update_other _ _ n2.symm).trans (kk b o n1 e))))
 |succ r ih =>
  intro j t u c hn st iu at_ fin
  refine codeAny_builtin F.entry_max_loop (by
   rw[Around.under_plainId F.plain_max_loop _]
   show wpAny _ A.in1 (seqItems? (.ref S) >>= _) _ _ t
   refine wpAny_bind (wpAny_seqItems at_ rfl (by
    show wpAny _ A.in1 (tryCatch (pyNext (.ref I)) _ >>= _) _ _ t
    refine wpAny_bind (wpAny_tryCatch (W.item (j+1) t _ _ (by omega) st fun v h1 tk iv st1 kk=>?_))
    have at1:=kk S _ nw at_
    show wpAny _ A.in1 (tryCatch (holding [v,v] (richCompare .Gt v u >>= _)) _ >>= _) _ _ _
    refine wpAny_bind (wpAny_tryCatch (wpAny_holding (wpAny_bind (cm (j+1) (argBest bt j) v u _ _ _ iv iu (wpAny_bind (wpAny_holding (wpAny_truthy_bool (wpAny_bind (wpAny_letGo (wpAny_pure ?_))))))))))
    by_cases q:bt (j+1) (argBest bt j)=true
    ·have ab:argBest bt (j+1)=j+1:=by show(if bt (j+1) (argBest bt j)=true then j+1 else argBest bt j)=_;rw[if_pos q]
     rw[if_pos q]
     refine wpAny_bind (wpAny_updateSeq at1 rfl (wpAny_bind (wpAny_letGo ?_)))
     rw[nm]
     refine wpAny_pure ⟨plainId_quiet F.plain_max_loop _,ih (j+1) _ v _ (by omega) (W.frame _ _ _ st1 fun b hb o e=>(Heap.get?_update_other _ _ fun z:S=b=>nf (z ▸ hb)).trans e) (by rw[ab];exact iv) (Heap.get?_update_self _ at1 rfl) fun v2 h2 tk2 iv2 kk2=>?_⟩
     exact fin v2 h2 tk2 iv2 fun b o n1 n2 e=>kk2 b o n1 n2 ((Heap.get?_update_other _ _ n2.symm).trans (kk b o n1 e))
    ·have ab:argBest bt (j+1)=argBest bt j:=by show(if bt (j+1) (argBest bt j)=true then j+1 else argBest bt j)=_;rw[if_neg q]
     rw[if_neg q]
     refine wpAny_bind (wpAny_letGo ?_)
     rw[nm]
     exact wpAny_pure ⟨plainId_quiet F.plain_max_loop _,ih (j+1) _ u c (by omega) st1 (by rw[ab];exact iu) at1 fun v2 h2 tk2 iv2 kk2=>fin v2 h2 tk2 iv2 fun b o n1 n2 e=>kk2 b o n1 n2 (kk b o n1 e)⟩)))
theorem WA {d:Value}{x:Str}(W:Walks P w A.in1 I fp wr n Is St) (bt:Nat→Nat→Bool) (cm:CmpOf P w A.in1 .Gt Is bt) (nf:S∉fp){t:Shared}{c:Nat}(st:St 0 t.heap)
  (at_:t.heap.get? S=some { cls:=.type "list",data:=.seq #[] c }) (fin:∀ v h' tk,((n=0∧v=d)∨(0<n∧Is (argBest bt (n-1)) v))→(∀ b o,b∉wr→b≠S→t.heap.get? b=some o→h'.get? b=some o)→R (.ok (.ret v)) { t with heap:=h',toks:=tk }) :
  codeAny (model P w) A (.builtin "max.loop" ⟨[.ref I,.none,.ref S],[(x,d)]⟩) R t:=by
 have nw:S∉wr:=fun z=>nf (W.sub _ z)
 have nm:(toString "max" ++ toString ".loop" : String) = "max.loop" := by decide
 refine codeAny_builtin F.entry_max_loop (by
  rw[Around.under_plainId F.plain_max_loop _]
  show wpAny _ A.in1 (seqItems? (.ref S) >>= _) _ _ t
  refine wpAny_bind (wpAny_seqItems at_ rfl (by
   show wpAny _ A.in1 (tryCatch (pyNext (.ref I)) _ >>= _) _ _ t
   by_cases hn:n=0
   ·subst hn
    refine wpAny_bind (wpAny_tryCatch (W.done t _ _ st fun h1 tk kk=>?_))
    show wpAny _ A.in1 (rule _ >>= _) _ _ _
    exact wpAny_bind (wpAny_rule (wpAny_pure (fin d h1 tk (.inl ⟨rfl,rfl⟩) fun b o n1 _ e=>kk b o n1 e)))
   ·refine wpAny_bind (wpAny_tryCatch (W.item 0 t _ _ (by omega) st fun v h1 tk iv st1 kk=>?_))
    have at1:=kk S _ nw at_
    show wpAny _ A.in1 (updateSeq S (fun _=>#[v,v]) >>= _) _ _ _
    refine wpAny_bind (wpAny_updateSeq at1 rfl ?_)
    rw[nm]
    refine wpAny_pure ⟨plainId_quiet F.plain_max_loop _,zaa W bt cm nf (n-1) 0 _ v _ (by omega) (W.frame _ _ _ st1 fun b hb o e=>(Heap.get?_update_other _ _ fun z:S=b=>nf (z ▸ hb)).trans e) iv (Heap.get?_update_self _ at1 rfl) fun v2 h2 tk2 iv2 kk2=>?_⟩
    exact fin v2 h2 tk2 (.inr ⟨by omega,iv2⟩) fun b o n1 n2 e=>kk2 b o n1 n2 ((Heap.get?_update_other _ _ n2.symm).trans (kk b o n1 e)))))
theorem XO (a v:Value):argsOk "max" ⟨[a],[(Str.ofString "default",v)]⟩:=by unfold argsOk;kernel_rfl
theorem v9 {l:Addr}{its:List Value}{ns:List Int}{d:Value}{Q:Value→Shared→Prop}{E:Value→Shared→Prop}{s:Shared}(hh:A.handled=none) (hl:s.heap.IsList l its.toArray) (hr:Vals (ns.map V.int) its)
  (h:∀ v h' tk,((ns=[]∧v=d)∨∃ m t,v=.int m t∧m∈ns∧∀ y∈ns,y≤m)→(∀ b o,s.heap.get? b=some o→h'.get? b=some o)→Q v { s with heap:=h',toks:=tk }) :
  wpAny (model P w) A (call (.builtin "max") [.ref l] [(Str.ofString "default",d)]) Q E s:=by
 have nm:(toString "max" ++ toString ".loop" : String) = "max.loop" := by decide
 have lt:l<s.heap.objs.size:=by
  obtain⟨_,e,_⟩:=hl
  exact Heap.lt_size e
 have len:its.toArray.size=ns.length:=by
  have:=hr.length
  rw[List.length_map] at this
  simp[this]
 refine PyProof.Rows.kmk_tree F.kind_max F.plain_max F.entry_max (XO _ _) (by
  show wpAny _ A.in1 (Builtin.Builtins.bindParams "max" ["key", "default"] 0 ⟨[],[(Str.ofString "default",d)]⟩ >>= _) _ _ s
  refine wpAny_bind (wpAny_of_eq (show Builtin.Builtins.bindParams "max" ["key", "default"] 0 ⟨[],[(Str.ofString "default",d)]⟩=pure [none,some d] from rfl) (wpAny_bind (wpAny_pure (wpAny_bind (wpAny_pyIter_list hl (wpAny_bind (wpAny_newObj_type ?_)))))))
  rw[nm]
  have W:=Walks.list (prog:=P) (w:=w) (A:=A.in1) hh s.heap.objs.size l (Nat.ne_of_lt lt) its.toArray
  have st:((s.heap.push { cls:=.type "list_iterator",data:=.fields #[.ref l,.int 0 0] }).IsListIter s.heap.objs.size l 0∧(s.heap.push { cls:=.type "list_iterator",data:=.fields #[.ref l,.int 0 0] }).IsList l its.toArray):=⟨⟨_,Heap.get?_push_size _ rfl,rfl,rfl⟩,hl.push _⟩
  have cm:=CmpOf.ints_gt (prog:=P) (w:=w) (A:=A.in1) (fun i=>ns.getD i 0) (fun i v e=>xF hr e)
  have nf:(s.heap.push { cls:=.type "list_iterator",data:=.fields #[.ref l,.int 0 0] }).objs.size∉[s.heap.objs.size,l]:=by
   intro z
   rw[Heap.size_push] at z
   rcases List.mem_cons.mp z with e | e
   ·exact Nat.succ_ne_self _ e
   ·exact Nat.lt_irrefl _ (Nat.lt_trans (Nat.lt_succ_self _) ((List.mem_singleton.mp e).symm ▸ lt))
  refine wpAny_pure ⟨plainId_quiet F.plain_max_loop _,WA (c:=0) W _ cm nf (W.frame _ _ _ st fun b _ o e=>Heap.get?_push_of_some _ e) (Heap.get?_push_size _ rfl) fun v h' tk hv kk=>?_⟩
  refine h v h' tk ?_ fun b o e=>kk b o (fun z=>?_) (fun z=>?_) (Heap.get?_push_of_some _ (Heap.get?_push_of_some _ e))
  ·rcases hv with⟨z,e⟩ | ⟨z,e⟩
   ·left
    exact⟨List.eq_nil_of_length_eq_zero (by omega),e⟩
   ·right
    obtain⟨t,et⟩:=xF hr e
    have hb:=XJ (fun i=>ns.getD i 0) (its.toArray.size-1)
    refine⟨_,t,et,?_,fun y hy=>?_⟩
    ·have hi:=hb.1
     rw[xR (by omega)]
     exact List.getElem_mem _
    ·obtain⟨i,hi,rfl⟩:=List.mem_iff_getElem.mp hy
     have:=hb.2 i (by omega)
     rw[show(ns.getD i 0)=ns[i] from xR hi] at this
     exact this
  ·rw[List.mem_singleton.mp z] at e
   exact Nat.lt_irrefl _ (Heap.lt_size e)
  ·have z2:b=s.heap.objs.size+1:=z.trans (Heap.size_push _ _)
   exact Nat.lt_irrefl _ (Nat.lt_trans (Nat.lt_succ_self _) (z2 ▸ Heap.lt_size e)))
def zaO (K:PySem.W.Frag) (ta:TA) (td:TE):TE:=fun σ H Q=>ta σ H fun vs H1=>td σ H1 fun dv H2=>∃ a ns i,vs=[V.ref a]∧dv=.int i∧SqL K H2 a (ns.map V.int)∧∀ m:Int,((ns=[]∧m=i)∨(m∈ns∧∀ y∈ns,y≤m))→Q (.int m) H2
theorem VO {X:Cx}{e dv:Expr}{ta:TA}{td:TE}{p kp pos:Pos}(hc:X.calm=true) (hg:Gl X "max") (hm:X.mg "max" = none) (ha:PA X [e] ta) (hd:PE X dv td) (hs:starEach [e] X.env=[(false,eval e X.env)]:=by rfl) :
  PE X (.Call (.Name "max" p) [e] [⟨some "default",dv,kp⟩] pos) (zaO X.K ta td):=by
 intro pins s σ H Q I h
 refine wpAny_Call_Name_kw (ld_blt I hg hm bt_max ?_)
 refine PyProof.Rows.callWith_kw (thn (ha pos pins s σ H _ I h) fun us s1 ⟨vs,H1,I1,r1,q1⟩=>PyProof.Rows.kws_cons (thn (hd pins s1 σ H1 _ I1 q1) fun u s2 ⟨y,H2,I2,r2,q2⟩=>PyProof.Rows.kws_nil ?_)) (by rw[hs];rfl) (by rw[hs];rfl)
 obtain⟨a,ns,i,rfl,rfl,hl,q⟩:=q2
 obtain⟨z,rfl,rz⟩:=r1.one
 cases rz
 obtain⟨tk0,rfl⟩:=r2
 obtain⟨its,rv,pl,_⟩:=I2.list hl
 refine v9 (I2.ok.hd hc) pl.isList rv fun v h' tk hv kk=>?_
 rcases hv with⟨e1,rfl⟩ | ⟨m,t,rfl,hm⟩
 ·exact⟨.int i,H2,I2.kept (t':=tk) kk,⟨_,rfl⟩,q i (.inl ⟨e1,rfl⟩)⟩
 ·exact⟨.int m,H2,I2.kept (t':=tk) kk,⟨_,rfl⟩,q m (.inr hm)⟩
theorem U8 (W:Walks P w A.in1 I fp wr n Is St) (bt:Nat→Nat→Bool) (cm:CmpOf P w A.in1 .Lt Is bt) (nf:S∉fp):∀ (r j:Nat) (t:Shared) (u:Value) (c:Nat),n=j+1+r→St (j+1) t.heap→Is (argBest bt j) u→t.heap.get? S=some (bst u c) →
  (∀ v h' tk,Is (argBest bt (n-1)) v→(∀ b o,b∉wr→b≠S→t.heap.get? b=some o→h'.get? b=some o)→R (.ok (.ret v)) { t with heap:=h',toks:=tk })→codeAny (model P w) A (.builtin "min.loop" ⟨[.ref I,.none,.ref S],kw⟩) R t:=by
 have nw:S∉wr:=fun z=>nf (W.sub _ z)
 have nm:(toString "min" ++ toString ".loop" : String) = "min.loop" := by decide
 intro r
 induction r with
 |zero =>
  intro j t u c hn st iu at_ fin
  subst hn
  refine codeAny_builtin F.entry_min_loop (by
   rw[Around.under_plainId F.plain_min_loop _]
   show wpAny _ A.in1 (seqItems? (.ref S) >>= _) _ _ t
   refine wpAny_bind (wpAny_seqItems at_ rfl (by
    show wpAny _ A.in1 (tryCatch (pyNext (.ref I)) _ >>= _) _ _ t
    refine wpAny_bind (wpAny_tryCatch (W.done t _ _ st fun h1 tk kk=>?_))
    show wpAny _ A.in1 (updateSeq S (fun _=>#[]) >>= _) _ _ _
    refine wpAny_bind (wpAny_updateSeq (kk S _ nw at_) rfl (wpAny_bind (wpAny_letGo (wpAny_pure ?_))))
    exact fin u _ tk iu fun b o n1 n2 e=>(Heap.get?_update_other _ _ n2.symm).trans (kk b o n1 e))))
 |succ r ih =>
  intro j t u c hn st iu at_ fin
  refine codeAny_builtin F.entry_min_loop (by
   rw[Around.under_plainId F.plain_min_loop _]
   show wpAny _ A.in1 (seqItems? (.ref S) >>= _) _ _ t
   refine wpAny_bind (wpAny_seqItems at_ rfl (by
    show wpAny _ A.in1 (tryCatch (pyNext (.ref I)) _ >>= _) _ _ t
    refine wpAny_bind (wpAny_tryCatch (W.item (j+1) t _ _ (by omega) st fun v h1 tk iv st1 kk=>?_))
    have at1:=kk S _ nw at_
    show wpAny _ A.in1 (tryCatch (holding [v,v] (richCompare .Lt v u >>= _)) _ >>= _) _ _ _
    refine wpAny_bind (wpAny_tryCatch (wpAny_holding (wpAny_bind (cm (j+1) (argBest bt j) v u _ _ _ iv iu (wpAny_bind (wpAny_holding (wpAny_truthy_bool (wpAny_bind (wpAny_letGo (wpAny_pure ?_))))))))))
    by_cases q:bt (j+1) (argBest bt j)=true
    ·have ab:argBest bt (j+1)=j+1:=by show(if bt (j+1) (argBest bt j)=true then j+1 else argBest bt j)=_;rw[if_pos q]
     rw[if_pos q]
     refine wpAny_bind (wpAny_updateSeq at1 rfl (wpAny_bind (wpAny_letGo ?_)))
     rw[nm]
     refine wpAny_pure ⟨plainId_quiet F.plain_min_loop _,ih (j+1) _ v _ (by omega) (W.frame _ _ _ st1 fun b hb o e=>(Heap.get?_update_other _ _ fun z:S=b=>nf (z ▸ hb)).trans e) (by rw[ab];exact iv) (Heap.get?_update_self _ at1 rfl) fun v2 h2 tk2 iv2 kk2=>?_⟩
     exact fin v2 h2 tk2 iv2 fun b o n1 n2 e=>kk2 b o n1 n2 ((Heap.get?_update_other _ _ n2.symm).trans (kk b o n1 e))
    ·have ab:argBest bt (j+1)=argBest bt j:=by show(if bt (j+1) (argBest bt j)=true then j+1 else argBest bt j)=_;rw[if_neg q]
     rw[if_neg q]
     refine wpAny_bind (wpAny_letGo ?_)
     rw[nm]
     exact wpAny_pure ⟨plainId_quiet F.plain_min_loop _,ih (j+1) _ u c (by omega) st1 (by rw[ab];exact iu) at1 fun v2 h2 tk2 iv2 kk2=>fin v2 h2 tk2 iv2 fun b o n1 n2 e=>kk2 b o n1 n2 (kk b o n1 e)⟩)))
theorem Wx {d:Value}{x:Str}(W:Walks P w A.in1 I fp wr n Is St) (bt:Nat→Nat→Bool) (cm:CmpOf P w A.in1 .Lt Is bt) (nf:S∉fp){t:Shared}{c:Nat}(st:St 0 t.heap)
  (at_:t.heap.get? S=some { cls:=.type "list",data:=.seq #[] c }) (fin:∀ v h' tk,((n=0∧v=d)∨(0<n∧Is (argBest bt (n-1)) v))→(∀ b o,b∉wr→b≠S→t.heap.get? b=some o→h'.get? b=some o)→R (.ok (.ret v)) { t with heap:=h',toks:=tk }) :
  codeAny (model P w) A (.builtin "min.loop" ⟨[.ref I,.none,.ref S],[(x,d)]⟩) R t:=by
 have nw:S∉wr:=fun z=>nf (W.sub _ z)
 have nm:(toString "min" ++ toString ".loop" : String) = "min.loop" := by decide
 refine codeAny_builtin F.entry_min_loop (by
  rw[Around.under_plainId F.plain_min_loop _]
  show wpAny _ A.in1 (seqItems? (.ref S) >>= _) _ _ t
  refine wpAny_bind (wpAny_seqItems at_ rfl (by
   show wpAny _ A.in1 (tryCatch (pyNext (.ref I)) _ >>= _) _ _ t
   by_cases hn:n=0
   ·subst hn
    refine wpAny_bind (wpAny_tryCatch (W.done t _ _ st fun h1 tk kk=>?_))
    show wpAny _ A.in1 (rule _ >>= _) _ _ _
    exact wpAny_bind (wpAny_rule (wpAny_pure (fin d h1 tk (.inl ⟨rfl,rfl⟩) fun b o n1 _ e=>kk b o n1 e)))
   ·refine wpAny_bind (wpAny_tryCatch (W.item 0 t _ _ (by omega) st fun v h1 tk iv st1 kk=>?_))
    have at1:=kk S _ nw at_
    show wpAny _ A.in1 (updateSeq S (fun _=>#[v,v]) >>= _) _ _ _
    refine wpAny_bind (wpAny_updateSeq at1 rfl ?_)
    rw[nm]
    refine wpAny_pure ⟨plainId_quiet F.plain_min_loop _,U8 W bt cm nf (n-1) 0 _ v _ (by omega) (W.frame _ _ _ st1 fun b hb o e=>(Heap.get?_update_other _ _ fun z:S=b=>nf (z ▸ hb)).trans e) iv (Heap.get?_update_self _ at1 rfl) fun v2 h2 tk2 iv2 kk2=>?_⟩
    exact fin v2 h2 tk2 (.inr ⟨by omega,iv2⟩) fun b o n1 n2 e=>kk2 b o n1 n2 ((Heap.get?_update_other _ _ n2.symm).trans (kk b o n1 e)))))
theorem XN (a v:Value):argsOk "min" ⟨[a],[(Str.ofString "default",v)]⟩:=by unfold argsOk;kernel_rfl
theorem v8 {l:Addr}{its:List Value}{ns:List Int}{d:Value}{Q:Value→Shared→Prop}{E:Value→Shared→Prop}{s:Shared}(hh:A.handled=none) (hl:s.heap.IsList l its.toArray) (hr:Vals (ns.map V.int) its)
  (h:∀ v h' tk,((ns=[]∧v=d)∨∃ m t,v=.int m t∧m∈ns∧∀ y∈ns,m≤y)→(∀ b o,s.heap.get? b=some o→h'.get? b=some o)→Q v { s with heap:=h',toks:=tk }) :
  wpAny (model P w) A (call (.builtin "min") [.ref l] [(Str.ofString "default",d)]) Q E s:=by
 have nm:(toString "min" ++ toString ".loop" : String) = "min.loop" := by decide
 have lt:l<s.heap.objs.size:=by
  obtain⟨_,e,_⟩:=hl
  exact Heap.lt_size e
 have len:its.toArray.size=ns.length:=by
  have:=hr.length
  rw[List.length_map] at this
  simp[this]
 refine PyProof.Rows.kmk_tree F.kind_min F.plain_min F.entry_min (XN _ _) (by
  show wpAny _ A.in1 (Builtin.Builtins.bindParams "min" ["key", "default"] 0 ⟨[],[(Str.ofString "default",d)]⟩ >>= _) _ _ s
  refine wpAny_bind (wpAny_of_eq (show Builtin.Builtins.bindParams "min" ["key", "default"] 0 ⟨[],[(Str.ofString "default",d)]⟩=pure [none,some d] from rfl) (wpAny_bind (wpAny_pure (wpAny_bind (wpAny_pyIter_list hl (wpAny_bind (wpAny_newObj_type ?_)))))))
  rw[nm]
  have W:=Walks.list (prog:=P) (w:=w) (A:=A.in1) hh s.heap.objs.size l (Nat.ne_of_lt lt) its.toArray
  have st:((s.heap.push { cls:=.type "list_iterator",data:=.fields #[.ref l,.int 0 0] }).IsListIter s.heap.objs.size l 0∧(s.heap.push { cls:=.type "list_iterator",data:=.fields #[.ref l,.int 0 0] }).IsList l its.toArray):=⟨⟨_,Heap.get?_push_size _ rfl,rfl,rfl⟩,hl.push _⟩
  have cm:=CmpOf.ints_lt (prog:=P) (w:=w) (A:=A.in1) (fun i=>ns.getD i 0) (fun i v e=>xF hr e)
  have nf:(s.heap.push { cls:=.type "list_iterator",data:=.fields #[.ref l,.int 0 0] }).objs.size∉[s.heap.objs.size,l]:=by
   intro z
   rw[Heap.size_push] at z
   rcases List.mem_cons.mp z with e | e
   ·exact Nat.succ_ne_self _ e
   ·exact Nat.lt_irrefl _ (Nat.lt_trans (Nat.lt_succ_self _) ((List.mem_singleton.mp e).symm ▸ lt))
  refine wpAny_pure ⟨plainId_quiet F.plain_min_loop _,Wx (c:=0) W _ cm nf (W.frame _ _ _ st fun b _ o e=>Heap.get?_push_of_some _ e) (Heap.get?_push_size _ rfl) fun v h' tk hv kk=>?_⟩
  refine h v h' tk ?_ fun b o e=>kk b o (fun z=>?_) (fun z=>?_) (Heap.get?_push_of_some _ (Heap.get?_push_of_some _ e))
  ·rcases hv with⟨z,e⟩ | ⟨z,e⟩
   ·left
    exact⟨List.eq_nil_of_length_eq_zero (by omega),e⟩
   ·right
    obtain⟨t,et⟩:=xF hr e
    have hb:=XI (fun i=>ns.getD i 0) (its.toArray.size-1)
    refine⟨_,t,et,?_,fun y hy=>?_⟩
    ·have hi:=hb.1
     rw[xR (by omega)]
     exact List.getElem_mem _
    ·obtain⟨i,hi,rfl⟩:=List.mem_iff_getElem.mp hy
     have:=hb.2 i (by omega)
     rw[show(ns.getD i 0)=ns[i] from xR hi] at this
     exact this
  ·rw[List.mem_singleton.mp z] at e
   exact Nat.lt_irrefl _ (Heap.lt_size e)
  ·have z2:b=s.heap.objs.size+1:=z.trans (Heap.size_push _ _)
   exact Nat.lt_irrefl _ (Nat.lt_trans (Nat.lt_succ_self _) (z2 ▸ Heap.lt_size e)))
def zaM (K:PySem.W.Frag) (ta:TA) (td:TE):TE:=fun σ H Q=>ta σ H fun vs H1=>td σ H1 fun dv H2=>∃ a ns i,vs=[V.ref a]∧dv=.int i∧SqL K H2 a (ns.map V.int)∧∀ m:Int,((ns=[]∧m=i)∨(m∈ns∧∀ y∈ns,m≤y))→Q (.int m) H2
theorem VM {X:Cx}{e dv:Expr}{ta:TA}{td:TE}{p kp pos:Pos}(hc:X.calm=true) (hg:Gl X "min") (hm:X.mg "min" = none) (ha:PA X [e] ta) (hd:PE X dv td) (hs:starEach [e] X.env=[(false,eval e X.env)]:=by rfl) :
  PE X (.Call (.Name "min" p) [e] [⟨some "default",dv,kp⟩] pos) (zaM X.K ta td):=by
 intro pins s σ H Q I h
 refine wpAny_Call_Name_kw (ld_blt I hg hm bt_min ?_)
 refine PyProof.Rows.callWith_kw (thn (ha pos pins s σ H _ I h) fun us s1 ⟨vs,H1,I1,r1,q1⟩=>PyProof.Rows.kws_cons (thn (hd pins s1 σ H1 _ I1 q1) fun u s2 ⟨y,H2,I2,r2,q2⟩=>PyProof.Rows.kws_nil ?_)) (by rw[hs];rfl) (by rw[hs];rfl)
 obtain⟨a,ns,i,rfl,rfl,hl,q⟩:=q2
 obtain⟨z,rfl,rz⟩:=r1.one
 cases rz
 obtain⟨tk0,rfl⟩:=r2
 obtain⟨its,rv,pl,_⟩:=I2.list hl
 refine v8 (I2.ok.hd hc) pl.isList rv fun v h' tk hv kk=>?_
 rcases hv with⟨e1,rfl⟩ | ⟨m,t,rfl,hm⟩
 ·exact⟨.int i,H2,I2.kept (t':=tk) kk,⟨_,rfl⟩,q i (.inl ⟨e1,rfl⟩)⟩
 ·exact⟨.int m,H2,I2.kept (t':=tk) kk,⟨_,rfl⟩,q m (.inr hm)⟩
end
theorem uD (ns:List Int):∀ k,preSum (fun i=>ns.getD i 0) k=(ns.take k).sum
 |0=>by simp[preSum]
 |k+1=>by
  show preSum _ k+ns.getD k 0=_
  rw[uD ns k,List.take_add_one]
  cases q:ns[k]? with
  |none=>simp[List.getD,q]
  |some x=>simp[List.getD,q]
def zmP (K:PySem.W.Frag):List V→Hp→VK→Prop:=fun xs H Q=>∃ (a:Addr) (ns:List Int),xs=[V.ref a]∧SqL K H a (ns.map V.int)∧Q (.int ns.sum) H
section
variable {X:Cx}
theorem call_sumI (hc:X.calm=true):yC X (.builtin "sum") (zmP X.K):=by
 intro pins s σ H xs us Q I r h
 obtain⟨a,ns,rfl,ha,q⟩:=h
 obtain⟨u,rfl,ru⟩:=r.one
 cases ru
 obtain⟨its,rv,p,hz⟩:=I.list ha
 have lt:a<s.heap.objs.size:=by
  obtain⟨_,e,_⟩:=p.isList
  exact Heap.lt_size e
 refine call_sum_walkAnyS (wpAny_pyIter_list p.isList ?_)
 refine⟨s.heap.objs.size,_,_,_,_,_,_,fun i=>ns.getD i 0,rfl,(Walks.list (A:=X.A.in1) (show X.A.in1.handled=none from I.ok.hd hc) s.heap.objs.size a (Nat.ne_of_lt lt) its.toArray).toS,⟨⟨_,Heap.get?_push_size _ rfl,rfl,rfl⟩,p.isList.push _⟩,fun b hb=>?_,fun i v hv=>xF rv hv,fun s' t' hm=>?_⟩
 ·show b<(s.heap.push _).objs.size
  rw[Heap.size_push]
  have z:b=s.heap.objs.size∨b=a:=by simpa using hb
  rcases z with z | z
  ·rw[z];exact Nat.lt_succ_self _
  ·rw[z];exact Nat.lt_succ_of_lt lt
 ·obtain⟨h',g',d',tk',os'⟩:=s'
  have e1:g'=s.gens:=hm.gens
  have e2:d'=s.drawn:=hm.drawn
  have e3:os'=s.os:=hm.os
  subst e1 e2 e3
  have hl:=rv.length
  rw[List.length_map] at hl
  rw[uD,List.size_toArray,← hl,List.take_length]
  exact⟨.int _,H,I.kept (t':=tk') fun b o e=>hm.heap b o (fun z=>by
   rw[List.mem_singleton.mp z] at e
   exact Nat.lt_irrefl _ (Heap.lt_size e)) (Heap.get?_push_of_some _ e),⟨_,rfl⟩,q⟩
theorem Xo:∀ {ns:List Int}{its:List Value},Vals (ns.map V.int) its→IntsAre its ns
 |[],_,r=>by cases r;exact .nil
 |n::ns,_,r=>by
  cases r with
  |cons h t =>
   obtain⟨k,rfl⟩:=h
   exact .cons _ _ (Xo t)
theorem YU:∀ {ns:List Int}{its:List Value},IntsAre its ns→Vals (ns.map V.int) its
 |_,_,.nil=>.nil
 |_,_,.cons _ _ t=>.cons ⟨_,rfl⟩ (YU t)
def zf5 (K:PySem.W.Frag):List V→Hp→VK→Prop:=fun xs H Q=>∃ (a:Addr) (ns:List Int),xs=[V.ref a]∧SqL K H a (ns.map V.int)∧ns.length<64∧∀ (p:Addr) (ms:List Int),H p=none→ms.Perm ns→ms.Pairwise (· ≤ ·)→Q (.ref p) (upd H p (.lst (ms.map V.int)))
theorem wo:yC X (.builtin "sorted") (zf5 X.K):=by
 intro pins s σ H xs us Q I r h
 obtain⟨a,ns,rfl,ha,h64,q⟩:=h
 obtain⟨u,rfl,ru⟩:=r.one
 cases ru
 obtain⟨its,rv,p,hz⟩:=I.list ha
 have hl:=rv.length
 rw[List.length_map] at hl hz
 refine sorted_ints p.isList (Xo rv) (by omega) fun out ms a1 a2 a3=>?_
 have hn:H (s.heap.objs.size+1)=none:=I.hok.fresh (Nat.le_succ _)
 obtain⟨c,hc⟩:=sortedAll_at s.heap its out
 refine⟨.ref _,_,I.laid (a:=s.heap.objs.size+1) (o:=.lst (ms.map V.int)) (t':=s.toks) (fun _ _ e=>sortedAll_old e) (Nat.le_succ _) ⟨?_,out.toList,c,YU a1,?_⟩,rfl,q _ ms hn a2 a3⟩
 ·rw[List.length_map,a2.length_eq];exact hz
 ·exact hc
def zw1 (K:PySem.W.Frag) (A:Around):R2:=fun x y H Q=>∃ (a b:Addr) (xs ys:List V),x=.ref a∧y=.ref b∧SqL K H a xs∧SqL K H b ys∧xs.length≠ys.length∧A.units<cLine∧Q (.bl true) H
theorem zgl:OpR X (compareOp .NotEq) (zw1 X.K X.A):=by
 intro pins s σ H x y v u Q I rx ry h
 obtain⟨a,b,xs,ys,rfl,rfl,h1,h2,hl,hu,q⟩:=h
 cases rx;cases ry
 obtain⟨i1,r1,p1,_⟩:=I.list h1
 obtain⟨i2,r2,p2,_⟩:=I.list h2
 exact SeqAt.RcNeAt.lists_lengths p1.isList p2.isList (by simp;rw[← r1.length,← r2.length];exact hl) hu _ _ _ _ ⟨.bl _,H,I,rfl,q⟩
end
end L2

namespace L2
open PySem PySem.Spec PyProof.Rows
theorem YO {X:Cx}{f:Value→Value→Sem Value}{r1 r2:R2}(h1:OpR X f r1) (h2:OpR X f r2):OpR X f (fun x y H Q=>r1 x y H Q∨r2 x y H Q):=by
 intro pins s σ H x y v u Q I rx ry h
 rcases h with h | h
 ·exact h1 pins s σ H x y v u Q I rx ry h
 ·exact h2 pins s σ H x y v u Q I rx ry h
end L2

namespace K04
open PySem L2
inductive Ex where
 |num (i:Int)
 |name (x:Str)
 |two (w:Str) (e f:Ex)
 |mod (e:Ex) (n:Int)
 |less (e f g h:Ex)
noncomputable def Ex.dep:Ex→Nat
 |.num _=>1
 |.name _=>1
 |.two _ e f=>max e.dep f.dep+1
 |.mod e _=>e.dep+1
 |.less e f g h=>max (max e.dep f.dep) (max g.dep h.dep)+1
theorem Ex.dep_pos:∀ e:Ex,1≤e.dep
 |.num _=>Nat.le_refl _
 |.name _=>Nat.le_refl _
 |.two _ _ _=>Nat.le_add_left _ _
 |.mod _ _=>Nat.le_add_left _ _
 |.less _ _ _ _=>Nat.le_add_left _ _
noncomputable def Ex.val (ρ:Str→Int):Ex→Int
 |.num i=>i
 |.name x=>ρ x
 |.two w e f=>if w = "add" then e.val ρ+f.val ρ else if w = "sub" then e.val ρ-f.val ρ else if w = "min" then(if f.val ρ<e.val ρ then f.val ρ else e.val ρ) else(if f.val ρ>e.val ρ then f.val ρ else e.val ρ)
 |.mod e n=>e.val ρ%n
 |.less e f g h=>if e.val ρ<f.val ρ then g.val ρ else h.val ρ
abbrev zn6 (w:Str):Prop:=w = "add" ∨ w = "sub" ∨ w = "min" ∨ w = "max"
noncomputable def Ex.ok (names:List Str):Ex→Prop
 |.num i=>-100000000000000000000<i∧i<100000000000000000000
 |.name x=>x∈names
 |.two w e f=>zn6 w∧e.ok names∧f.ok names
 |.mod e n=>(1≤n∧n≤1000000000)∧e.ok names
 |.less e f g h=>e.ok names∧f.ok names∧g.ok names∧h.ok names
def Ext (l:Addr) (H H':Hp):Prop:=∀ b o,H b=some o→b≠l→H' b=some o
theorem Ext.trans {l:Addr}{H H1 H2:Hp}(a:Ext l H H1) (b:Ext l H1 H2):Ext l H H2:=fun c o e n=>b c o (a c o e n) n
theorem Ext.same {l:Addr}{H H':Hp}(a:Same H H'):Ext l H H':=fun c o e _=>a c o e
theorem Ext.new {l p:Addr}{H:Hp}{o:HO}(h:H p=none):Ext l H (upd H p o):=fun c u e _=>by rw[upd_ne (ne_of_none e h)];exact e
theorem Ext.at {l:Addr}{H:Hp}{o:HO}:Ext l H (upd H l o):=fun c u e n=>by rw[upd_ne n];exact e
theorem Same.new {p:Addr}{H:Hp}{o:HO}(h:H p=none):Same H (upd H p o):=fun c u e=>by rw[upd_ne (ne_of_none e h)];exact e
noncomputable def Told (H:Hp):Ex→V→Prop
 |.num i,v=>∃ p,v=.ref p∧H p=some (.tup [.str "num",.int i])
 |.name x,v=>∃ p,v=.ref p∧H p=some (.tup [.str "name",.str x])
 |.two w e f,v=>∃ p a b,v=.ref p∧H p=some (.tup [.str w,a,b])∧Told H e a∧Told H f b
 |.mod e n,v=>∃ p a,v=.ref p∧H p=some (.tup [.str "mod",a,.int n])∧Told H e a
 |.less e f g h,v=>∃ p a b c d,v=.ref p∧H p=some (.tup [.str "less",a,b,c,d])∧Told H e a∧Told H f b∧Told H g c∧Told H h d
theorem Told.mono {H H':Hp}(k:∀ b xs,H b=some (.tup xs)→H' b=some (.tup xs)):∀ {e:Ex}{v:V},Told H e v→Told H' e v
 |.num _,_,⟨p,e,h⟩=>⟨p,e,k _ _ h⟩
 |.name _,_,⟨p,e,h⟩=>⟨p,e,k _ _ h⟩
 |.two _ _ _,_,⟨p,a,b,e,h,t1,t2⟩=>⟨p,a,b,e,k _ _ h,t1.mono k,t2.mono k⟩
 |.mod _ _,_,⟨p,a,e,h,t1⟩=>⟨p,a,e,k _ _ h,t1.mono k⟩
 |.less _ _ _ _,_,⟨p,a,b,c,d,e,h,t1,t2,t3,t4⟩=>⟨p,a,b,c,d,e,k _ _ h,t1.mono k,t2.mono k,t3.mono k,t4.mono k⟩
theorem Told.same {H H':Hp}(k:Same H H'){e:Ex}{v:V}(t:Told H e v):Told H' e v:=t.mono fun b xs h=>k b _ h
theorem eqV_refl {x:V}(h:yQ x=true):eqV x x=true:=by
 cases x<;>simp[yQ] at h<;>simp[eqV]
theorem xS {K:PySem.W.Frag}{H:Hp}{x:V}{n:Nat}(h:yQ x=true):EqD K H x x true n:=by
 have:=EqD.flat (K:=K) (H:=H) (n:=n) h h
 rw[eqV_refl h] at this
 exact this
noncomputable def rho (kvs:List (Key×V)) (x:Str):Int:=match xr kvs (Sum.inr x) with
 |some (.int i)=>i
 |_=>0
def Has (names:List Str) (kvs:List (Key×V)):Prop:=∀ x∈names,∃ i,xr kvs (Sum.inr x:Key)=some (.int i)
theorem Has.at {names:List Str}{kvs:List (Key×V)}(h:Has names kvs){x:Str}(hx:x∈names):xr kvs (Sum.inr x:Key)=some (.int (rho kvs x)):=by
 obtain⟨i,e⟩:=h x hx
 unfold rho
 rw[e]
theorem Same.made {H:Hp}{x dx C:Addr}{fs fs':List (Str×V)}(nx:H x=none) (ndx:H dx=none):Same H (upd (upd (upd H dx (.own x)) x (.ins C dx fs')) x (.ins C dx fs)):=fun b o e=>by
 rw[upd_ne (ne_of_none e nx),upd_ne (ne_of_none e nx),upd_ne (ne_of_none e ndx)]
 exact e
theorem zaD {w:Str}(h:zn6 w):decide (V.str w=V.str "num")=false∧decide (V.str w=V.str "name")=false∧decide (V.str w=V.str "mod")=false∧decide (V.str w=V.str "less")=false:=by
 rcases h with rfl | rfl | rfl | rfl<;>decide +kernel
theorem zgb {x y d:Int}(h0:0≤d) (h3:d<2):∃ v,atI [V.int x,V.int y] d=some (.int v)∧(v=x∨v=y):=by
 have:d=0∨d=1:=by omega
 rcases this with rfl | rfl
 ·exact⟨x,rfl,.inl rfl⟩
 ·exact⟨y,rfl,.inr rfl⟩
theorem zmS:(10:Int) ^ (20:Int).toNat=100000000000000000000:=by decide
theorem zw7:(10:Int) ^ (9:Int).toNat=1000000000:=by decide
theorem zmT {xs:List Str}{d:Int}(h0:0≤d) (h1:d<(xs.map V.str).length):∃ x,x∈xs∧atI (xs.map V.str) d=some (V.str x):=by
 rw[List.length_map] at h1
 have hd:d.toNat<xs.length:=by omega
 refine⟨xs[d.toNat],List.getElem_mem hd,?_⟩
 unfold atI ixN
 rw[List.length_map,if_pos h0,if_pos h1]
 show(xs.map V.str)[d.toNat]?=_
 simp[hd]
theorem zga {d:Int}(h0:0≤d) (h4:d<4):∃ x,zn6 x∧atI [V.str "add",V.str "sub",V.str "min",V.str "max"] d=some (V.str x):=by
 have:d=0∨d=1∨d=2∨d=3:=by omega
 rcases this with rfl | rfl | rfl | rfl
 ·exact⟨"add",.inl rfl,rfl⟩
 ·exact⟨"sub",.inr (.inl rfl),rfl⟩
 ·exact⟨"min",.inr (.inr (.inl rfl)),rfl⟩
 ·exact⟨"max",.inr (.inr (.inr rfl)),rfl⟩
theorem gn_if {i:Nat}{v:V}{τ:St}{H:Hp}{A B:St→Hp→Prop}(h:A (τ.set i (some v)) H):uc i v τ H fun τ2 H4=>zly τ2 H4 fun b H5=>if b=true then A τ2 H5 else B τ2 H5:=by
 show if true=true then A (τ.set i (some v)) H else B (τ.set i (some v)) H
 exact Zl h
theorem Told.updL {H:Hp}{D:Addr}{zs:List V}{o:HO}(hD:H D=some (.lst zs)){e:Ex}{v:V}(t:Told H e v):Told (upd H D o) e v:=t.mono fun b xs h=>by
 have hb:b≠D:=ne_of h hD (by intro z;cases z)
 rw[upd_ne hb]
 exact h
theorem log_1009:((1009:Int).natAbs.log2<9000):=by decide
theorem WC:((2003:Int).natAbs.log2<9000):=by decide
end K04

namespace K04
open PySem L2
def znX:V→Bool
 |.int _=>true
 |.bl _=>true
 |_=>false
def zwv:V→Bool
 |.bl _=>true
 |_=>false
def zid:V→Bool
 |.str _=>true
 |_=>false
def Lf (K:PySem.W.Frag) (H:Hp) (v:V):Prop:=∃ t,TyOf K H v t∧PySem.W.kitOne K t (.type "int")=some (znX v)∧PySem.W.kitOne K t (.type "bool")=some (zwv v)∧PySem.W.kitOne K t (.type "str")=some (zid v)
def whole:V→Bool
 |.int _=>true
 |_=>false
noncomputable def uA:V→Bool
 |.int i=>decide ((if i<0 then -i else i)<100000000000000000000)
 |_=>false
noncomputable def xZ (ws:List Str):V→Bool
 |.str x=>inV (.str x) (ws.map V.str)
 |_=>false
noncomputable def zax:V→Bool
 |.int i=>decide (1≤i)&&decide (i≤1000000000)
 |_=>false
theorem XT (v:V):whole v=(znX v&&!zwv v):=by cases v<;>rfl
theorem wV {v:V}(h:whole v=true):∃ i,v=.int i:=by
 cases v<;>simp[whole] at h
 exact⟨_,rfl⟩
theorem WG {v:V}(h:zid v=true):∃ x,v=.str x:=by
 cases v<;>simp[zid] at h
 exact⟨_,rfl⟩
theorem inV_str {x:Str}:∀ {ws:List Str},inV (.str x) (ws.map V.str)=true↔x∈ws
 |[]=>by simp[inV]
 |w::ws=>by
  have ih:=inV_str (x:=x) (ws:=ws)
  unfold inV at ih ⊢
  rw[List.map_cons,List.any_cons,Bool.or_eq_true,List.mem_cons,ih]
  constructor
  ·rintro(h | h)
   ·left
    have:V.str w=V.str x:=by simpa[eqV] using h
    cases this
    rfl
   ·exact .inr h
  ·rintro(h | h)
   ·left
    subst h
    exact eqV_refl rfl
   ·exact .inr h
theorem flat_strs (ws:List Str):(ws.map V.str).all yQ=true:=by
 rw[List.all_eq_true]
 intro v hv
 obtain⟨x,_,rfl⟩:=List.mem_map.mp hv
 rfl
inductive Gx where
 |num (v:V)
 |name (v:V)
 |two (w:V) (e f:Gx)
 |mod (e:Gx) (n:V)
 |less (e f g h:Gx)
 |oth (v:V)
abbrev twoWs:List Str:=["add", "sub", "min", "max"]
noncomputable def Gx.sound (names:List Str):Nat→Gx→Bool
 |0,_=>false
 |_+1,.num v=>uA v
 |_+1,.name v=>xZ names v
 |n+1,.two w e f=>xZ twoWs w&&([e,f].all (Gx.sound names n))
 |n+1,.mod e v=>zax v&&Gx.sound names n e
 |n+1,.less e f g h=>[e,f,g,h].all (Gx.sound names n)
 |_+1,.oth _=>false
noncomputable def Ex.gx:Ex→Gx
 |.num i=>.num (.int i)
 |.name x=>.name (.str x)
 |.two w e f=>.two (.str w) e.gx f.gx
 |.mod e n=>.mod e.gx (.int n)
 |.less e f g h=>.less e.gx f.gx g.gx h.gx
theorem Ex.sound {names:List Str}:∀ {n:Nat}{e:Ex},e.ok names→e.dep≤n→e.gx.sound names n=true
 |0,e,_,d=>by have:=e.dep_pos;omega
 |n+1,.num i,o,d=>by
  obtain⟨o1,o2⟩:=o
  show decide _=true
  refine decide_eq_true ?_
  split<;>omega
 |n+1,.name x,o,d=>inV_str.mpr o
 |n+1,.two w e f,o,d=>by
  obtain⟨hw,o1,o2⟩:=o
  have d:max e.dep f.dep+1≤n+1:=d
  have h1:=Ex.sound (n:=n) o1 (by omega)
  have h2:=Ex.sound (n:=n) o2 (by omega)
  show(inV (.str w) (twoWs.map V.str)&&([e.gx,f.gx].all _))=true
  have hw':inV (.str w) (twoWs.map V.str)=true:=inV_str.mpr (by rcases hw with rfl | rfl | rfl | rfl<;>simp)
  rw[hw']
  simp[h1,h2]
 |n+1,.mod e i,o,d=>by
  obtain⟨⟨i1,i2⟩,o1⟩:=o
  have d:e.dep+1≤n+1:=d
  have h1:=Ex.sound (n:=n) o1 (by omega)
  show((decide (1≤i)&&decide (i≤1000000000))&&e.gx.sound names n)=true
  simp[h1,i1,i2]
 |n+1,.less e f g h,o,d=>by
  obtain⟨o1,o2,o3,o4⟩:=o
  have d:max (max e.dep f.dep) (max g.dep h.dep)+1≤n+1:=d
  have h1:=Ex.sound (n:=n) o1 (by omega)
  have h2:=Ex.sound (n:=n) o2 (by omega)
  have h3:=Ex.sound (n:=n) o3 (by omega)
  have h4:=Ex.sound (n:=n) o4 (by omega)
  show([e.gx,f.gx,g.gx,h.gx].all _)=true
  simp[h1,h2,h3,h4]
noncomputable def Ex.words:Ex→List Str
 |.num i=>[toString i]
 |.name x=>[x]
 |.two w e f=>w::(e.words++f.words)
 |.mod e n => "mod" :: (e.words++[(toString n:Str)])
 |.less e f g h => "less" :: (e.words++(f.words++(g.words++h.words)))
noncomputable def Ex.size:Ex→Nat
 |.num _=>1
 |.name _=>1
 |.two _ e f=>1+e.size+f.size
 |.mod e _=>2+e.size
 |.less e f g h=>1+e.size+f.size+g.size+h.size
theorem Ex.words_len:∀ e:Ex,e.words.length=e.size
 |.num _=>rfl
 |.name _=>rfl
 |.two _ e f=>by simp[Ex.words,Ex.size,Ex.words_len e,Ex.words_len f];omega
 |.mod e _=>by simp[Ex.words,Ex.size,Ex.words_len e];omega
 |.less e f g h=>by simp[Ex.words,Ex.size,Ex.words_len e,Ex.words_len f,Ex.words_len g,Ex.words_len h];omega
end K04

namespace L2
open PySem PySem.Spec PyProof.Rows
end L2

namespace L2
open PySem PySem.Spec PyProof.Rows
end L2

namespace L2
open PySem PySem.Spec PyProof.Rows
end L2

namespace L2
open PySem PySem.Spec PyProof.Rows
end L2
namespace L2
open PySem PySem.Spec PyProof.Rows
end L2

namespace L2
open PySem PySem.W PySem.Spec PySem.Calls PyProof.Rows PySem.Builtin PySem.Builtin.ObjectAttr PySem.Builtin.Getset_descriptor
end L2

namespace L2
open PySem PySem.Spec PyProof.Rows
end L2

namespace L2
open PySem PySem.Spec PyProof.Rows
end L2

namespace L2
open PySem
section
variable {X:Cx}{es:List Expr}{t:TA}{te:TE}
theorem zxb {c j pos}(ha:PE X (.Constant c j pos) te) (hr:PA X es t):PA X (.Constant c j pos::es) (xt te t):=yz ha hr rfl
theorem zw9 {xs c pos}(ha:PE X (.Tuple xs c pos) te) (hr:PA X es t):PA X (.Tuple xs c pos::es) (xt te t):=yz ha hr rfl
theorem zxa {f xs ks pos}(ha:PE X (.Call f xs ks pos) te) (hr:PA X es t):PA X (.Call f xs ks pos::es) (xt te t):=yz ha hr rfl
theorem zxc {l o r pos}(ha:PE X (.BinOp l o r pos) te) (hr:PA X es t):PA X (.BinOp l o r pos::es) (xt te t):=yz ha hr rfl
theorem xo {x pos}(ha:PE X (.Name x pos) te) (hr:PA X es t):PA X (.Name x pos::es) (xt te t):=yz ha hr rfl
end
end L2

namespace L2
open PySem PySem.Spec PyProof.Rows
section
variable {X:Cx}
def zob (K:PySem.W.Frag) (te ts:TE):TE:=fun σ H Q=>te σ H fun x H1=>ts σ H1 fun y H2=>y=.int (-1)∧∃ a xs,x=.ref a∧SqL K H2 a xs∧∀ p,H2 p=none→Q (.ref p) (upd H2 p (.lst xs.reverse))
theorem zgg {e st:Expr}{te ts:TE}{p2 pos:Pos}(he:PE X e te) (hs:PE X st ts):PE X (.Subscript e (.Slice none none (some st) p2) pos) (zob X.K te ts):=by
 intro pins s σ H Q I h
 refine Subscript_ (thn (he pins s σ H _ I h) fun v s1 hq0=>?_)
 obtain⟨x,H1,I1,r1,q1⟩:=hq0
 refine wpAny_Slice ?_
 rw[evalPart_none]
 refine wpAny_pure (wpAny_pure ?_)
 rw[evalPart_some]
 refine thn (hs pins s1 σ H1 _ I1 q1) fun w s3 hq0=>?_
 obtain⟨y,H3,I3,r3,ey,a,xs,ex,hx,q⟩:=hq0
 subst ey
 subst ex
 obtain⟨t,rfl⟩:=r3
 cases r1
 have I4:Inv X pins σ H3 { s3 with heap:=s3.heap.push { cls:=.type "slice",data:=.fields #[.none,.none,.int (-1) t] } }:=I3.kept (t':=s3.toks) fun b ob q=>Heap.get?_push_of_some _ q
 obtain⟨its,r,ht,hz⟩:=I4.list hx
 have hlen:=r.length
 refine tail_any (T := "list") (ops:=[.ref a,.ref s3.heap.objs.size]) ht.isList.typeIs slot_list_getitem.lookup ?_ (by with_unfolding_all rfl)
 refine wpAny_getItem_list_slice ht.isList (Heap.IsSliceOf.new ..) .none .none (.int (-1) t) (by simp) ?_ (by rw[List.size_toArray]<;>omega)
 rw[PySem.W.krv_pick]
 refine⟨.ref _,_,I4.laid (t':=s3.toks) (o:=.lst xs.reverse) (fun b ob q=>Heap.get?_push_of_some _ q) (Nat.le_refl _) ?_,rfl,q _ (I4.hok.fresh (Nat.le_refl _))⟩
 exact⟨by rw[List.length_reverse];exact hz,_,0,r.reverse,Heap.get?_push_size _ rfl⟩
end
end L2

namespace L2
open PySem PySem.Spec PyProof.Rows PySem.Builtin PySem.Builtin.Str
end L2

namespace L2
open PySem PySem.Spec PyProof.Rows
end L2

namespace PySem
namespace Zt
end Zt
end PySem
namespace L2
open PySem PySem.Spec PyProof.Rows PySem.Zt
end L2

namespace L2
open PySem PySem.Spec PyProof.Rows
end L2

namespace L2
open PySem PySem.Spec PyProof.Rows
end L2

namespace L2
open PySem PySem.W PySem.Spec PySem.Calls PyProof.Rows PySem.Builtin PySem.Builtin.ObjectAttr
end L2

namespace L2
open PySem PySem.Spec PyProof.Rows
end L2

namespace L2
open PySem PySem.Spec PyProof.Rows
end L2

namespace L2
open PySem PySem.Spec PyProof.Rows
end L2

namespace L2
open PySem PySem.Spec PyProof.Rows
end L2

namespace L2
open PySem PySem.Spec PyProof.Rows
end L2

namespace L2
open PySem PySem.W PySem.Spec PySem.Calls PyProof.Rows PySem.Builtin PySem.Builtin.ObjectAttr PySem.Builtin.Getset_descriptor
end L2

namespace L2
open PySem PySem.Spec PyProof.Rows
end L2

namespace L2
open PySem PySem.Spec PyProof.Rows
end L2

namespace L2
open PySem PySem.W PySem.Spec PySem.Calls PyProof.Rows
end L2

namespace L2
open PySem PySem.Spec PyProof.Rows
end L2

namespace L2
open PySem PySem.Spec PyProof.Rows
theorem entry_dul:entryFor table "dict.update.loop" = some Builtin.«dict.update.loop»:=entryFor_of_tree (by kernel_rfl)
theorem plain_dul:plainId "dict.update.loop" = true:=by decide +kernel
theorem Xi:typeLookup (.type "list") "keys" = pure none:=am_miss_of_fast (by kernel_rfl)
section
variable {P:Program}{w:World}{A:Around}{E:Value→Shared→Prop}{s:Shared}
theorem U6 {a:Addr}{xs:Array Value}{Q:Option Value→Shared→Prop}(hl:PlainL s.heap a xs) (hA:A.handled=none)
  (q:∀ h' tk,(∀ b o,s.heap.get? b=some o→h'.get? b=some o)→Q none { s with heap:=h',toks:=tk }):wpAny (model P w) A (getAttr? (.ref a) "keys") Q E s:=by
 obtain⟨o,n,hx,hc,hd,hs⟩:=hl
 obtain⟨c,dct,dat,sl⟩:=o
 dsimp only at hc hd hs
 subst hc hd hs
 obtain⟨hp,g,dr,tk0,os⟩:=s
 have hT:∀ tk',(⟨hp,g,dr,tk',os⟩:Shared).TypeIs (.ref a) "list" := fun _=>⟨_,hx,rfl⟩
 have f1:=sub_AttributeError
 have f3:=F.slot_list_getattribute.lookup
 have f4:=F.slot_list_getattribute.bind (.ref a)
 have f5:=am_list_getattr_none
 unfold getAttr? getAttrBy? getAttrBy
 repeat (any_goals (first | assumption | exact hT _ | ((with_reducible show wpAny _ _ (call (Value.builtin "list.__getattribute__") _ _) _ _ _);refine call_meets F.slot_list_getattribute (hT _) am_entry_list_getattribute (F.args_list_getattribute_2 _ _) (meets_getattribute_miss_list a xs n sl "keys" _ Xi (by decide +kernel) (by decide +kernel)) ⟨hx,hA,fun h1 tk1 e1 ne=>?_⟩) | wp_step))
 obtain⟨t',u',he⟩:=ne.there
 show wpAny _ _ (getattributeRaised _ _ _ _ _ _ _) _ _ _
 unfold getattributeRaised hookOrError attributeErrorLeaves
 repeat (any_goals (first | assumption | wp_step))
 exact q _ _ ne.keeps
variable {K:Type} [DecidableEq K]{knd:KeyKind P w K}
theorem zil {d I:Addr}{fp wr:List Addr}{n:Nat}{Is:Nat→Value→Prop}{St:Nat→Heap→Prop}{R:Except Value Flow→Shared→Prop}(W:Walks P w A.in1 I fp wr n Is St) (nf:d∉fp) (kvs:List (K×Value)) (hk:kvs.length=n) (hz:n≤1000)
  (h0:Heap) (hI:∀ i v,Is i v→∃ q k,v=.ref q∧(∃ o x,h0.get? q=some o∧o.cls=.type "tuple" ∧ o.data=.seq #[k,(kvs[i]?.map (·.2)).getD .none] x)∧∃ kk,(kvs[i]?.map (·.1))=some kk∧knd.is kk k=true)
  (hq:∀ i v q,Is i v→v=.ref q→q∉wr∧q≠d) :
  ∀ (r j:Nat) (t:Shared) (tk0:Tok),j+r=n→St j t.heap→t.heap.DictOf knd d (merged [] (kvs.take j))→(∀ b o,b∉wr→b≠d→h0.get? b=some o→t.heap.get? b=some o) →
   (∀ h' tk,h'.DictOf knd d (merged [] kvs)→(∀ b o,b∉wr→b≠d→t.heap.get? b=some o→h'.get? b=some o)→R (.ok (.ret .none)) { t with heap:=h',toks:=tk }) →
   codeAny (model P w) A (.builtin "dict.update.loop" ⟨[.ref d,.ref I,.int (j:Int) tk0,.none],[]⟩) R t:=by
 have nw:d∉wr:=fun z=>nf (W.sub _ z)
 intro r
 induction r with
 |zero =>
  intro j t tk0 hj st hd keep fin
  have ej:j=n:=by omega
  subst ej
  refine codeAny_builtin entry_dul (by
   rw[Around.under_plainId plain_dul _]
   show wpAny _ A.in1 (pyNext (.ref I) >>= _) _ _ t
   refine wpAny_bind (W.done t _ _ st fun h1 tk kk=>?_)
   show wpAny _ A.in1 (Builtin.Dict.addKeywords d [] >>= _) _ _ _
   rw[← hk,List.take_length] at hd
   obtain⟨o,ho,hdo⟩:=Heap.dictOf_iff.mp hd
   exact wpAny_bind (wpAny_pure (wpAny_pure (fin h1 tk (Heap.dictOf_iff.mpr ⟨o,kk d o nw ho,hdo⟩) fun b o n1 _ e=>kk b o n1 e))))
 |succ r ih =>
  intro j t tk0 hj st hd keep fin
  refine codeAny_builtin entry_dul (by
   rw[Around.under_plainId plain_dul _]
   show wpAny _ A.in1 (pyNext (.ref I) >>= _) _ _ t
   refine wpAny_bind (W.item j t _ _ (by omega) st fun v h1 tk iv st1 kk=>?_)
   obtain⟨q,k,rfl,⟨o,x,hq0,hc,hs⟩,kx,hkx,hki⟩:=hI j v iv
   obtain⟨nq1,nq2⟩:=hq j _ q iv rfl
   have hq1:=kk q o nq1 (keep q o nq1 nq2 hq0)
   obtain⟨od,hod,hdo⟩:=Heap.dictOf_iff.mp hd
   have hd1:h1.DictOf knd d (merged [] (kvs.take j)):=Heap.dictOf_iff.mpr ⟨od,kk d od nw hod,hdo⟩
   obtain⟨⟨k2,v2⟩,hkv⟩:∃ kv,kvs[j]?=some kv:=⟨kvs[j]'(by omega),by simp[show j<kvs.length by omega]⟩
   rw[hkv] at hs hkx
   cases hkx
   show wpAny _ A.in1 (holding [Value.ref q] (tryCatch (Builtin.Dict.pairItems (Value.ref q)) _ >>= _) >>= _) _ _ _
   refine wpAny_bind (wpAny_holding (wpAny_bind (wpAny_tryCatch ?_)))
   unfold Builtin.Dict.pairItems
   refine wpAny_bind (wpAny_typeOf (T := "tuple") ⟨o,hq1,hc⟩ ?_)
   rw[if_pos (by decide)]
   refine wpAny_bind (wpAny_seqItems hq1 hs (wpAny_pure ?_))
   show wpAny _ A.in1 (holding [k,v2] (dictSet d k v2)) _ _ _
   refine wpAny_holding (wpAny_dictSet_pairs hki hd1 (fun h2 hd2 sb=>?_) ?_)
   ·show wpAny _ A.in1 (pure _) _ _ _
    have hm:=merged_take_succ ([]:List (K×Value)) kvs j (k2,v2) hkv
    refine wpAny_pure ⟨plainId_quiet plain_dul _,ih (j+1) _ _ (by omega) (W.frame _ _ _ st1 fun b hb o e=>?_) (by rw[hm];exact hd2) (fun b o n1 n2 e=>?_) fun h3 tk3 hd3 kk3=>fin h3 tk3 hd3 fun b o n1 n2 e=>kk3 b o n1 n2 ?_⟩
    ·exact(sb.2 b fun z=>nf (z ▸ hb)).trans e
    ·exact(sb.2 b n2).trans (kk b o n1 (keep b o n1 n2 e))
    ·exact(sb.2 b n2).trans (kk b o n1 e)
   ·have:=merged_length_le ([]:List (K×Value)) (kvs.take j)
    rw[List.length_take] at this
    simp only[List.length_nil] at this
    exact Nat.le_trans (show _≤1000 by omega) (by decide))
end
section
variable {X:Cx}
theorem ut:∀ {xs:List V}{us:List Value}{i:Nat}{u:Value},Vals xs us→us[i]?=some u→∃ x,xs[i]?=some x∧RelV x u
 |_,_,0,_,.cons r _,h=>by cases h;exact⟨_,rfl,r⟩
 |_,_,i+1,_,.cons _ t,h=>by
  obtain⟨x,e,r⟩:=ut t (by simpa using h)
  exact⟨x,by simpa using e,r⟩
theorem uG {pins:List (Addr×Obj)}{σ:St}{H:Hp}{s:Shared}(I:Inv X pins σ H s):∀ (qs:List Addr) (kvs:List (Key×V)),qs.length=kvs.length→(∀ (i:Nat) (q:Addr) (kv:Key×V),qs[i]?=some q→kvs[i]?=some kv→H q=some (.tup [kV kv.1,kv.2])) →
  ∃ vs:List (Key×Value),KV kvs vs∧∀ (i:Nat) (q:Addr),qs[i]?=some q→∃ o x k kv,s.heap.get? q=some o∧o.cls=.type "tuple" ∧ o.data=.seq #[k,kv.2] x∧vs[i]?=some kv∧(zz X.prog X.w).is kv.1 k=true
 |[],[],_,_=>⟨[],.nil,fun i q h=>by simp at h⟩
 |q::qs,kv::kvs,hl,h=>by
  obtain⟨vs,r,hv⟩:=uG I qs kvs (by simpa using hl) fun i q' kv' h1 h2=>h (i+1) q' kv' (by simpa using h1) (by simpa using h2)
  have h0:=h 0 q kv rfl rfl
  obtain⟨its,rv,it,_⟩:=I.tuple (SqT.of h0)
  obtain⟨uk,ux,rfl,rk,rx⟩:∃ uk ux,its=[uk,ux]∧RelV (kV kv.1) uk∧RelV kv.2 ux:=by
   cases rv with | cons r1 rv =>
   cases rv with | cons r2 rv =>
   cases rv
   exact⟨_,_,rfl,r1,r2⟩
  obtain⟨o,e,oc,n,od⟩:=it
  refine⟨(kv.1,ux)::vs,.cons ⟨rfl,rx⟩ r,fun i q' hi=>?_⟩
  cases i with
  |zero =>
   cases hi
   exact⟨o,n,uk,(kv.1,ux),e,oc,od,rfl,vA rk⟩
  |succ i=>exact hv i q' (by simpa using hi)
def zf7 (K:PySem.W.Frag):List V→Hp→VK→Prop:=fun xs H Q=>∃ (a:Addr) (qs:List Addr) (kvs:List (Key×V)),xs=[V.ref a]∧H a=some (.lst (qs.map V.ref))∧qs.length=kvs.length∧kvs.length≤1000∧(∀ (i:Nat) (q:Addr) (kv:Key×V),qs[i]?=some q→kvs[i]?=some kv→H q=some (.tup [kV kv.1,kv.2])) ∧
 ∀ p,H p=none→Q (.ref p) (upd H p (.dK (mergeK [] kvs)))
theorem xl (hc:X.calm=true):yC X (.type "dict") (zf7 X.K):=by
 intro pins s σ H xs us Q I r h
 obtain⟨a,qs,kvs,rfl,ha,hl,hz,hq,k⟩:=h
 obtain⟨u,rfl,ru⟩:=r.one
 cases ru
 obtain⟨its,rv,pl,_⟩:=I.list (SqL.of ha)
 have hA:X.A.handled=none:=I.ok.hd hc
 refine callType_codes (Q₁:=fun obj s₁=>obj=.ref s.heap.objs.size∧s₁={ s with heap:=s.heap.push { cls:=.type "dict",data:=.dict #[] } }) F.kt_called_dict (F.kt_typeCall_dict_1 _) F.entry_dict_init (kt_code_dict_new _ ⟨rfl,rfl⟩) ?_
 rintro obj s₁ ⟨rfl,rfl⟩
 have hnew:(s.heap.push { cls:=.type "dict",data:=.dict #[] }).DictOf (zz X.prog X.w) s.heap.objs.size []:=Heap.DictOf.new s.heap
 have lt:a<s.heap.objs.size:=by
  obtain⟨_,e,_⟩:=pl.isList
  exact Heap.lt_size e
 have pl1:PlainL (s.heap.push { cls:=.type "dict",data:=.dict #[] }) a its.toArray:=by
  obtain⟨o,n,e,r⟩:=pl
  exact⟨o,n,Heap.get?_push_of_some _ e,r⟩
 refine⟨hnew.typeIs,F.args_dict_init_2 _ _,?_⟩
 unfold Builtin.«dict.__init__»
 refine wpAny_bind ?_
 unfold Builtin.Dict.selfAndRest
 refine wpAny_bind (wpAny_notOrdered_dict hnew.typeIs ?_)
 show wpAny _ _ (pure (s.heap.objs.size,[Value.ref a])) _ _ _
 refine wpAny_pure ?_
 show wpAny _ _ (Builtin.Dict.updateFrom "dict.__init__" s.heap.objs.size (.ref a) [] .none) _ _ _
 unfold Builtin.Dict.updateFrom
 obtain⟨o,n,e,oc,od,os⟩:=pl1
 refine wpAny_bind (wpAny_typeOf (T := "list") ⟨o,e,oc⟩ ?_)
 rw[if_pos (by decide)]
 refine wpAny_bind (U6 ⟨o,n,e,oc,od,os⟩ hA fun h1 tk1 kk1=>?_)
 obtain⟨vs,rel,hvs⟩:=uG I qs kvs hl hq
 have hl1:h1.IsList a its.toArray:=⟨o,kk1 _ _ e,oc,n,os⟩
 show wpAny _ _ (rule _ >>= _) _ _ _
 refine wpAny_bind (wpAny_rule (wpAny_bind (wpAny_pyIter_list hl1 ?_)))
 have nd0:(s.heap.push { cls:=.type "dict",data:=.dict #[] }).get? s.heap.objs.size=some { cls:=.type "dict",data:=.dict #[] }:=Heap.get?_push_size _ rfl
 have nd1:=kk1 _ _ nd0
 have ltd:s.heap.objs.size<h1.objs.size:=Heap.lt_size nd1
 have lta:a<h1.objs.size:=Nat.lt_trans lt ltd
 have len:its.toArray.size=vs.length:=by
  have e1:=rv.length
  rw[List.length_map] at e1
  have e2:=rel.length
  simp
  omega
 have lvs:vs.length=kvs.length:=(rel.length).symm
 have W:=Walks.list (prog:=X.prog) (w:=X.w) (A:=X.A.in1.in1) hA h1.objs.size a (Nat.ne_of_lt lta) its.toArray
 have st:((h1.push { cls:=.type "list_iterator",data:=.fields #[.ref a,.int 0 0] }).IsListIter h1.objs.size a 0∧(h1.push { cls:=.type "list_iterator",data:=.fields #[.ref a,.int 0 0] }).IsList a its.toArray):=⟨⟨_,Heap.get?_push_size _ rfl,rfl,rfl⟩,hl1.push _⟩
 have nf:s.heap.objs.size∉[h1.objs.size,a]:=by
  intro z
  rcases List.mem_cons.mp z with z | z
  ·exact Nat.lt_irrefl _ (z ▸ ltd)
  ·exact Nat.lt_irrefl _ ((List.mem_singleton.mp z) ▸ lt)
 have item:∀ (i:Nat) (v:Value),its.toArray[i]?=some v→∃ q:Addr,v=Value.ref q∧qs[i]?=some q:=fun i v hv=>by
  have hv:its[i]?=some v:=by simpa using hv
  obtain⟨x,hx,rx⟩:=ut rv hv
  rw[List.getElem?_map] at hx
  obtain⟨q,hq,rfl⟩:=Option.map_eq_some_iff.mp hx
  exact⟨q,rx,hq⟩
 have hd0:(h1.push { cls:=.type "list_iterator",data:=.fields #[.ref a,.int 0 0] }).DictOf (zz X.prog X.w) s.heap.objs.size []:=by
  obtain⟨od,hod,hdo⟩:=Heap.dictOf_iff.mp hnew
  exact Heap.dictOf_iff.mpr ⟨od,Heap.get?_push_of_some _ (kk1 _ _ hod),hdo⟩
 refine wpAny_pure ⟨plainId_quiet plain_dul _,zil (A:=X.A.in1) (knd:=zz X.prog X.w) W nf vs len.symm (by omega) s.heap ?_ ?_ its.toArray.size 0 _ 0 (by omega) st hd0 ?_ ?_⟩
 ·intro i v hv
  obtain⟨q,rfl,hq'⟩:=item i v hv
  obtain⟨o,x,k',kv,e1,e2,e3,e4,e5⟩:=hvs i q hq'
  exact⟨q,k',rfl,⟨o,x,e1,e2,by rw[e4];exact e3⟩,kv.1,by rw[e4];rfl,e5⟩
 ·intro i v q hv ev
  obtain⟨q',rfl,hq'⟩:=item i v hv
  cases ev
  obtain⟨o,x,k',kv,e1,_⟩:=hvs i _ hq'
  have l1:=Heap.lt_size e1
  exact⟨fun z=>by rw[List.mem_singleton.mp z] at l1;exact Nat.lt_irrefl _ (Nat.lt_trans l1 ltd),fun z=>by rw[z] at l1;exact Nat.lt_irrefl _ l1⟩
 ·intro b o n1 n2 e
  exact Heap.get?_push_of_some _ (kk1 _ _ (Heap.get?_push_of_some _ e))
 ·intro h' tk hd' kk'
  refine⟨rfl,?_⟩
  refine⟨.ref s.heap.objs.size,_,I.laid (a:=s.heap.objs.size) (o:=.dK (mergeK [] kvs)) (t':=tk) (fun b o e=>?_) (Nat.le_refl _) (vH ?_ (beq_eq_false_iff_ne.mpr (Ne.symm (Nat.ne_of_lt I.big))) (KV.merge rel .nil) hd'),rfl,k _ (I.hok.fresh (Nat.le_refl _))⟩
  ·have l1:=Heap.lt_size e
   refine kk' b o (fun z=>?_) (fun z=>?_) (Heap.get?_push_of_some _ (kk1 _ _ (Heap.get?_push_of_some _ e)))
   ·rw[List.mem_singleton.mp z] at l1
    exact Nat.lt_irrefl _ (Nat.lt_trans l1 ltd)
   ·rw[z] at l1
    exact Nat.lt_irrefl _ l1
  ·have e1:=(KV.merge rel (.nil:KV ([]:List (Key×V)) [])).length
   have e2:=merged_length_le ([]:List (Key×Value)) vs
   simp only[List.length_nil] at e2
   exact Nat.le_trans (show _≤1000 by omega) (by decide)
end
end L2

namespace L2
open PySem PySem.Spec PyProof.Rows
def zaR (td ty:TE):TE:=fun σ H Q=>td σ H fun x H1=>∃ a,x=.ref a∧IsD H1 a∧ty σ H1 fun y H2=>∃ b kvs more,y=.ref b∧a≠b∧H2 a=some (.dK kvs)∧H2 b=some (.dK more)∧kvs.length+more.length≤1000∧Q .non (upd H2 a (.dK (mergeK kvs more)))
section
variable {X:Cx}{o e:Expr}{apos cpos:Pos}{td ty:TE}
theorem VQ (ho:PE X o td) (he:PE X e ty) (m:M1 X o "update" apos e cpos):PE X (.Call (.Attribute o "update" apos) [e] [] cpos) (zaR td ty):=by
 intro pins s σ H Q I h
 refine wpAny_Call_method m.base m.few m.line PySem.F.plainAttrs_dict PySem.F.slot_dict_update PySem.F.type_dict_update (thn (ho pins s σ H _ I h) fun u s1 hq0=>?_)
 obtain⟨x,H1,I1,rx,a,ex,d,q1⟩:=hq0
 subst ex
 obtain rfl:u=Value.ref a:=rx
 obtain⟨t1,t2,_⟩:=Vk I1 d
 refine⟨t1,t2,?_⟩
 rw[m.trees]
 refine Calls.callWith_builtin rfl (Calls.evalArgs_plain (Calls.spliced_cons (thn (he pins s1 σ H1 _ I1 q1) fun iv s2 ⟨y,H2,I2,ry,b,kvs,more,ey,ne,ha,hb,hz,q2⟩=>Calls.spliced_nil ?_)))
 subst ey
 obtain rfl:iv=Value.ref b:=ry
 obtain⟨z1,hd1,vs1,rel1,dd1⟩:=WO I2.hok ha
 obtain⟨z2,hd2,vs2,rel2,dd2⟩:=WO I2.hok hb
 have l1:=rel1.length
 have l2:=rel2.length
 have rm:=KV.merge rel2 rel1
 have lm:=merged_length_le vs1 vs2
 have lm2:=rm.length
 refine call_meetsIn PySem.F.slot_dict_update dd1.typeIs PySem.F.entry_dict_update (PySem.F.args_dict_update_2 _ _) (meets_dict_update (zz X.prog X.w) a b ne hd2) ⟨vs1,vs2,dd1,dd2,Nat.le_trans (show _≤1000 by omega) (by decide),fun h' dd' _ hs=>?_⟩
 have he':∃ q,h'.get? a=some q:=let ⟨q,_,_,hq,_⟩:=dd';⟨q,hq⟩
 exact⟨.non,_,wS (t':=s2.toks) I2 (by rw[ha];exact True.intro) hs he' (vH (Nat.le_trans (show _≤1000 by omega) (by decide)) hd1 rm dd'),rfl,q2⟩
end
end L2

namespace L2
open PySem PySem.Spec PyProof.Rows
section
variable {X:Cx}
def zw5 (K:PySem.W.Frag) (A:Around):R2:=fun x y H Q=>∃ (a b:Addr) (xs ys:List V),x=.ref a∧y=.ref b∧SqL K H a xs∧SqL K H b ys∧xs.length≠ys.length∧A.units<cLine∧Q (.bl false) H
theorem Vf:OpR X (compareOp .Eq) (zw5 X.K X.A):=by
 intro pins s σ H x y v u Q I rx ry h
 obtain⟨a,b,xs,ys,rfl,rfl,h1,h2,hl,hu,q⟩:=h
 cases rx;cases ry
 obtain⟨i1,r1,p1,_⟩:=I.list h1
 obtain⟨i2,r2,p2,_⟩:=I.list h2
 exact SeqAt.RcAt.lists_lengths p1.isList p2.isList (by simp;rw[← r1.length,← r2.length];exact hl) hu _ _ _ _ ⟨.bl _,H,I,rfl,q⟩
end
end L2

namespace L2
open PySem PySem.Spec PyProof.Rows
theorem YL {prog prog':Program}{w w':World}{es:List DictEntry}{kvs:List (Key×Value)}(h:Pairs (zz prog w) es kvs):Pairs (zz prog' w') es kvs:=by
 induction h with
 |nil=>exact .nil
 |cons h1 h2 _ ih=>exact .cons h1 h2 ih
theorem YK {prog:Program}{w:World}{es:List DictEntry}{kvs:List (Key×Value)}(h:Pairs (zz prog w) es kvs):∀ e∈es,∃ kv∈kvs,ua kv.1 e.key=true:=by
 induction h with
 |nil=>intro e he;cases he
 | @cons e kv es kvs h1 h2 _ ih =>
  intro e' he'
  rcases List.mem_cons.mp he' with z | z
  ·exact⟨kv,List.mem_cons_self ..,by rw[z];exact h1⟩
  ·obtain⟨kv',m,q⟩:=ih e' z
   exact⟨kv',List.mem_cons_of_mem _ m,q⟩
theorem wk {prog prog':Program}{w w':World}{h:Heap}{a:Addr}{kvs:List (Key×Value)}(hk:∀ p∈kvs,∃ i,p.1=Sum.inl i) (D:h.DictOf (zz prog w) a kvs):h.DictOf (zz prog' w') a kvs:=by
 obtain⟨o,es,ep,ho,ex,hd,ks,ps,nd⟩:=D
 refine⟨o,es,ep,ho,ex,hd,fun e he=>?_,YL ps,nd⟩
 obtain⟨k,h1,h2⟩:=ks e he
 obtain⟨kv,m,q⟩:=YK ps e (by simpa using he)
 obtain⟨i,hi⟩:=hk kv m
 have e1:k=kv.1:=(zz prog w).inj e.key k kv.1 h1 q
 refine⟨k,h1,?_⟩
 rw[h2,e1,hi]
 rfl
section
variable {X:Cx}
def EqP (X:Cx) (H:Hp) (x y:V) (b:Bool) (n:Nat):Prop:=∀ (pins:List (Addr×Obj)) (σ:St) (s:Shared),Inv X pins σ H s→∀ (A:Around) (u v:Value),A.units+n<cLine→RelV x u→RelV y v→SeqAt.EqAt A s u v b
theorem EqP.of {H:Hp}{x y:V}{b:Bool}{n:Nat}(h:EqD X.K H x y b n):EqP X H x y b n:=fun pins σ s I A u v hu r1 r2=>h.at I A u v hu r1 r2
theorem EqP.same {H:Hp}{a:Addr}{n:Nat}:EqP X H (.ref a) (.ref a) true n:=fun pins σ s I A u v hu rx ry=>by
 cases rx;cases ry
 exact SeqAt.EqAt.same _
theorem vC {pins:List (Addr×Obj)}{σ:St}{H:Hp}{s:Shared}{A:Around}{xs ys:List V}{i1 i2:List Value}{e:Nat→Bool}{n:Nat}(I:Inv X pins σ H s) (r1:Vals xs i1) (r2:Vals ys i2) (hu:A.units+n+2<cLine)
  (h:∀ (j:Nat) x y,xs[j]?=some x→ys[j]?=some y→EqP X H x y (e j) n):∀ (j:Nat) (h1:j<i1.toArray.size) (h2:j<i2.toArray.size),SeqAt.EqAt A.in1 s i1.toArray[j] i2.toArray[j] (e j):=fun j h1 h2=>by
 have g1:j<xs.length:=by rw[r1.length];simpa using h1
 have g2:j<ys.length:=by rw[r2.length];simpa using h2
 obtain⟨u1,e1,q1⟩:=r1.get (i:=j) (x:=xs[j]) (by simp[g1])
 obtain⟨u2,e2,q2⟩:=r2.get (i:=j) (x:=ys[j]) (by simp[g2])
 have f1:i1.toArray[j]=u1:=by
  obtain⟨_,z⟩:=List.getElem?_eq_some_iff.mp e1
  simpa using z
 have f2:i2.toArray[j]=u2:=by
  obtain⟨_,z⟩:=List.getElem?_eq_some_iff.mp e2
  simpa using z
 rw[f1,f2]
 exact(h j _ _ (by simp[g1]) (by simp[g2])) _ _ _ I A.in1 u1 u2 (by rw[yA];omega) q1 q2
theorem EqP.lst {H:Hp}{a b:Addr}{xs ys:List V}{n:Nat}(ha:SqL X.K H a xs) (hb:SqL X.K H b ys) (hl:xs.length=ys.length) (h:∀ (j:Nat) x y,xs[j]?=some x→ys[j]?=some y→EqP X H x y true n):EqP X H (.ref a) (.ref b) true (n+2):=fun pins σ s I A u v hu rx ry=>by
 by_cases hne:a=b
 ·subst hne;exact EqP.same _ _ _ I A u v hu rx ry
 ·cases rx;cases ry
  obtain⟨i1,r1,p1,_⟩:=I.list ha
  obtain⟨i2,r2,p2,_⟩:=I.list hb
  have l1:=r1.length
  have l2:=r2.length
  refine SeqAt.EqAt.of_refs hne ?_
  have q:=SeqAt.RcAt.lists (A:=A) (s:=s) (e:=fun _=>true) p1.isList p2.isList (by simp;omega) (by omega) (vC I r1 r2 (by omega) h)
  have e:((List.range i1.toArray.size).all fun _=>true)=true:=by simp
  rw[e] at q
  exact q
theorem zih {pins:List (Addr×Obj)}{σ:St}{H:Hp}{s:Shared}{A:Around}{n:Nat}(I:Inv X pins σ H s) (hu:A.units+n<cLine){kvb:List (Key×V)}{kb:List (Key×Value)}(rb:KV kvb kb) :
  ∀ {kva:List (Key×V)}{ka:List (Key×Value)},KV kva ka→(∀ p∈kva,∃ y,xr kvb p.1=some y∧EqP X H p.2 y true n)→PySem.W.KeqHits A s kb ka true
 |_,_,.nil,_=>.nil
 |(k,v)::r,(k',u)::r',.cons h t,hs=>by
  obtain⟨e1,e2⟩:=h
  cases e1
  obtain⟨y,hv,hE⟩:=hs (k,v) List.mem_cons_self
  have q:=rb.val k
  rw[hv] at q
  cases e:valueAt kb k with
  |none=>rw[e] at q;exact False.elim q
  |some y' =>
   rw[e] at q
   have he:=hE _ _ _ I A u y' hu e2 (show RelV y y' from q)
   have:=PySem.W.KeqHits.hit (k:=k) e he (zih I hu rb t fun p hp=>hs p (List.mem_cons_of_mem _ hp))
   simpa using this
theorem KV.keysL {kvs:List (Key×V)}{vs:List (Key×Value)}(r:KV kvs vs) (h:∀ p∈kvs,∃ i,p.1=Sum.inl i):∀ p∈vs,∃ i,p.1=Sum.inl i:=by
 induction r with
 |nil=>intro p hp;cases hp
 | @cons x y xs ys h1 t ih =>
  intro p hp
  rcases List.mem_cons.mp hp with z | z
  ·obtain⟨i,hi⟩:=h x List.mem_cons_self
   exact⟨i,by rw[z,← h1.1];exact hi⟩
  ·exact ih (fun p hp=>h p (List.mem_cons_of_mem _ hp)) p z
theorem EqP.dct {H:Hp}{a b:Addr}{kva kvb:List (Key×V)}{n:Nat}(ha:H a=some (.dK kva)) (hb:H b=some (.dK kvb)) (hl:kva.length=kvb.length) (ia:∀ p∈kva,∃ i,p.1=Sum.inl i) (ib:∀ p∈kvb,∃ i,p.1=Sum.inl i)
  (h:∀ p∈kva,∃ y,xr kvb p.1=some y∧EqP X H p.2 y true n):EqP X H (.ref a) (.ref b) true (n+2):=fun pins σ s I A u v hu rx ry=>by
 by_cases hne:a=b
 ·subst hne;exact EqP.same _ _ _ I A u v hu rx ry
 ·cases rx;cases ry
  obtain⟨z1,d1,vs1,r1,o1⟩:=I.hok a _ ha
  obtain⟨z2,d2,vs2,r2,o2⟩:=I.hok b _ hb
  refine SeqAt.EqAt.of_refs hne fun prog w E Q hq=>?_
  have l1:=r1.length
  have l2:=r2.length
  have e:(vs1.length == vs2.length)=true:=by rw[← l1,← l2,hl];simp
  exact PySem.W.keq_eq d1 d2 (wk (r1.keysL ia) o1) (wk (r2.keysL ib) o2) (by omega) (fun _=>zih I (by rw[yA];omega) r2 r1 h) (by rw[e];exact hq)
def zu2 (X:Cx) (neg:Bool):R2:=fun x y H Q=>∃ (a b:Addr) (xs ys:List V) (n:Nat),x=.ref a∧y=.ref b∧((SqL X.K H a xs∧SqL X.K H b ys)∨(SqT X.K H a xs∧SqT X.K H b ys))∧xs.length=ys.length∧X.A.units+n+2<cLine ∧
 (∀ (j:Nat) x y,xs[j]?=some x→ys[j]?=some y→EqP X H x y true n)∧Q (.bl (!neg)) H
theorem zu3:OpR X (compareOp .Eq) (zu2 X false):=by
 intro pins s σ H x y v u Q I rx ry h
 obtain⟨a,b,xs,ys,n,rfl,rfl,hq,hl,hu,hi,q⟩:=h
 cases rx;cases ry
 rcases hq with⟨h1,h2⟩ | ⟨h1,h2⟩
 ·obtain⟨i1,r1,p1,_⟩:=I.list h1
  obtain⟨i2,r2,p2,_⟩:=I.list h2
  refine SeqAt.eq_listAt (e:=fun _=>true) p1.isList p2.isList (by simp;rw[← r1.length,← r2.length,hl]) (by omega) (vC I r1 r2 hu hi) ⟨.bl true,H,I,?_,q⟩
  have e:((List.range i1.toArray.size).all fun _=>true)=true:=by simp
  rw[e]
  rfl
 ·obtain⟨i1,r1,p1,_⟩:=I.tuple h1
  obtain⟨i2,r2,p2,_⟩:=I.tuple h2
  have z:i1.toArray.size=i2.toArray.size:=by simp;rw[← r1.length,← r2.length,hl]
  refine SeqAt.eq_tupleAt (e:=fun _=>true) (show s.heap.IsTuple a i1.toArray from p1) (show s.heap.IsTuple b i2.toArray from p2) (by omega) (vC I r1 r2 hu hi) ⟨.bl true,H,I,?_,q⟩
  have e:((List.range i1.toArray.size).all fun _=>true)=true:=by simp
  rw[← z,Nat.min_self,beq_self_eq_true,Bool.and_true,e]
  rfl
theorem Vd:OpR X (compareOp .NotEq) (zu2 X true):=by
 intro pins s σ H x y v u Q I rx ry h
 obtain⟨a,b,xs,ys,n,rfl,rfl,hq,hl,hu,hi,q⟩:=h
 cases rx;cases ry
 rcases hq with⟨h1,h2⟩ | ⟨h1,h2⟩
 ·obtain⟨i1,r1,p1,_⟩:=I.list h1
  obtain⟨i2,r2,p2,_⟩:=I.list h2
  refine SeqAt.RcNeAt.lists (e:=fun _=>true) p1.isList p2.isList (by simp;rw[← r1.length,← r2.length,hl]) (by omega) (vC I r1 r2 hu hi) _ _ _ _ ⟨.bl false,H,I,?_,q⟩
  have e:((List.range i1.toArray.size).all fun _=>true)=true:=by simp
  rw[e]
  rfl
 ·obtain⟨i1,r1,p1,_⟩:=I.tuple h1
  obtain⟨i2,r2,p2,_⟩:=I.tuple h2
  have z:i1.toArray.size=i2.toArray.size:=by simp;rw[← r1.length,← r2.length,hl]
  refine SeqAt.RcNeAt.tuples (e:=fun _=>true) (show s.heap.IsTuple a i1.toArray from p1) (show s.heap.IsTuple b i2.toArray from p2) (by omega) (vC I r1 r2 hu hi) _ _ _ _ ⟨.bl false,H,I,?_,q⟩
  have e:((List.range i1.toArray.size).all fun _=>true)=true:=by simp
  rw[← z,Nat.min_self,beq_self_eq_true,Bool.and_true,e]
  rfl
end
end L2

namespace L2
open PySem PySem.Spec PyProof.Rows Zt
end L2

namespace L2
open PySem PySem.Spec PyProof.Rows
structure Bx (p:Prop):Prop where
 of:p
theorem zB {X:Cx}{body:List Stmt}{q:TS→Prop}{t:TS}(h:Bx (PSs X body t)) (k:q t):∃ t,PSs X body t∧q t:=⟨t,h.of,k⟩
theorem ziu {X:Cx}{e:Expr}{t:TT}(h:Bx (PW X e t)):Bx (PT X e t):=⟨h.of.pt⟩
section
variable {X:Cx}
theorem ze {i j pos}:Bx (PE X (.Constant (.int i) j pos) (tC (.int i))):=⟨yL⟩
theorem yo {b j pos}:Bx (PE X (.Constant (.bool b) j pos) (tC (.bl b))):=⟨xW⟩
theorem uo {j pos}:Bx (PE X (.Constant .none j pos) (tC .non)):=⟨zgh⟩
theorem w_pe_str {x j pos}:Bx (PE X (.Constant (.str x) j pos) (tC (.str x))):=⟨zgf⟩
theorem yd {x:Str}{v:V}{u:Value}{pos:Pos}(hg:Gl X x) (hm:X.mg x=some u) (r:RelV v u) (hd:(x == ("__debug__" : Str))=false:=by decide):Bx (PE X (.Name x pos) (tC v)):=⟨wB hg hm r hd⟩
end
section
variable {X:Cx}
variable {a b:Expr}{ta tb:TE}{pos:Pos}
theorem XX {op:CmpOp}{t:TE}(h:Bx (PC X op a b t)) (h1:behindInMarks op b=false:=by first | exact nobehind _ (by decide) (by decide) | rfl):Bx (PE X (.Compare a [op] [b] pos) t):=⟨zgj h.of h1⟩
theorem XU {op:CmpOp}{t:TE}(h:Bx (PC X op a b t)) (h1:behindInMarks op b=false:=by first | exact nobehind _ (by decide) (by decide) | rfl):Bx (PT X (.Compare a [op] [b] pos) (tB t)):=⟨W4 h.of h1⟩
theorem zV {e:Expr}{t:TE}(h:Bx (PE X e t)) (he:∀ whole,isTrue e X.env whole=(do let v ← whole;standAt e.pos;holding [v] (truthy v)):=by intro _;rfl):Bx (PT X e (tB t)):=⟨yI h.of he⟩
end
section
variable {X:Cx}
variable {a b:Expr}{ta tb:TE}{pos:Pos}
variable {tA tB':TT}{rest:List Expr}
theorem wW (ha:Bx (PT X a tA)):Bx (PW X (.BoolOp .And [a] pos) tA):=⟨VD ha.of⟩
theorem ul (ha:Bx (PT X a tA)):Bx (PW X (.BoolOp .Or [a] pos) tA):=⟨we ha.of⟩
theorem um (ha:Bx (PT X a tA)) (hb:Bx (PW X (.BoolOp .And (b::rest) pos) tB')):Bx (PW X (.BoolOp .And (a::b::rest) pos) (zok tA tB')):=⟨zf8 ha.of hb.of⟩
theorem Zo (ha:Bx (PT X a tA)) (hb:Bx (PW X (.BoolOp .Or (b::rest) pos) tB')):Bx (PW X (.BoolOp .Or (a::b::rest) pos) (tOr tA tB')):=⟨vj ha.of hb.of⟩
theorem yS (ha:Bx (PT X a tA)):Bx (PT X (.UnaryOp .Not a pos) (zoe tA)):=⟨yJ ha.of⟩
theorem yg {op}{t:TE}(h:Bx (PE X a t)):Bx (PE X (.BoolOp op [a] pos) t):=⟨YG h.of⟩
theorem yl (ha:Bx (PE X a ta)) (hb:Bx (PE X (.BoolOp .And (b::rest) pos) tb)):Bx (PE X (.BoolOp .And (a::b::rest) pos) (tAndV ta tb)):=⟨uF ha.of hb.of⟩
theorem Zp (ha:Bx (PE X a ta)) (hb:Bx (PE X (.BoolOp .Or (b::rest) pos) tb)):Bx (PE X (.BoolOp .Or (a::b::rest) pos) (zod ta tb)):=⟨zmV ha.of hb.of⟩
theorem XW (ha:Bx (PE X a ta)):Bx (PE X (.UnaryOp .Not a pos) (zaK ta)):=⟨W6 ha.of⟩
end
section
variable {X:Cx}{st:Stmt}{rest:List Stmt}{t u:TS}{e:Expr}{te:TE}{pos:Pos}
theorem zm  : Bx (PSs X [] zaL):=⟨yt⟩
theorem w_pss_cons (h1:Bx (PS X st t)) (h2:Bx (PSs X rest u)):Bx (PSs X (st::rest) (zoa t u)):=⟨zD h1.of h2.of⟩
theorem zf (h1:Bx (PS X st t)):Bx (PSs X [st] t):=⟨zJ h1.of⟩
theorem zW (he:Bx (PE X e te)) (hs:swapsWith e none pos.line X.env=pure false:=by rfl):Bx (PS X (.Expr e pos) (zaP te)):=⟨vT he.of hs⟩
theorem zh (he:Bx (PE X e te)):Bx (PS X (.Return (some e) pos) (zoc te)):=⟨yv he.of⟩
theorem w_ps_if {c:Expr}{a b:List Stmt}{tc:TT}(hc:Bx (PT X c tc)) (ha:Bx (PSs X a t)) (hb:Bx (PSs X b u)):Bx (PS X (.If c a b pos) (zog tc t u)):=⟨wz hc.of ha.of hb.of⟩
theorem yq  : Bx (PS X st WX):=⟨wy⟩
end
section
variable {X:Cx}{pos:Pos}
theorem zt {i:Nat}{x:Str}(hN:X.N.Nodup) (hi:X.N[i]?=some x) (hx:Loc X.env.scope x) (hf:X.fn x=true∨X.env.scope.names.lookup x=some .local:=by first | exact .inl rfl | exact .inr rfl | assumption):Bx (PG X (.Name x pos) (uc i)):=⟨xi hN hi hx hf⟩
theorem xD  : Bx (PGs X [] gNil):=⟨YF⟩
theorem yi {e:Expr}{es:List Expr}{t:TG}{u:TGs}(h1:Bx (PG X e t)) (h2:Bx (PGs X es u)) (hs:(assignEach (e::es) X.env).map (·.2)=assign e X.env::(assignEach es X.env).map (·.2):=by rfl):Bx (PGs X (e::es) (zik t u)):=⟨wA h1.of h2.of hs⟩
theorem wp {es:List Expr}{k:Nat}{t:TGs}{n:Nat}(hc:X.calm=true) (h:Bx (PGs X es t)) (hn:(assignEach es X.env).length=n:=by rfl) (hst:(assignEach es X.env).findIdx? (·.1)=none:=by rfl):Bx (PG X (.Tuple es k pos) (zwy X.K n t)):=⟨W5 hc h.of hn hst⟩
theorem zj {i:Nat}{x:Str}{e:Expr}{te:TE}{pos':Pos}(hN:X.N.Nodup) (hi:X.N[i]?=some x) (hx:Loc X.env.scope x) (he:Bx (PE X e te)) (hs:swapsWith e (some (.Name x pos')) pos.line X.env=pure false:=by rfl) (hf:X.fn x=true∨X.env.scope.names.lookup x=some .local:=by first | exact .inl rfl | exact .inr rfl | assumption):Bx (PS X (.Assign [.Name x pos'] e pos) (ziv te (uc i))):=⟨vk hN hi hx he.of hs hf⟩
theorem x8 {c:Expr}{body:List Stmt}{tc:TT}{tb:TS}(hp:PassesOwn (model X.prog X.w) X.A X.env X.xe) (hc:Bx (PT X c tc)) (hb:Bx (PSs X body tb)):Bx (PS X (.While c body [] pos) (WV tc tb)):=⟨Wa hp hc.of hb.of⟩
end
section
variable {X:Cx}{tg:Expr}
theorem zC {l:Expr}{tl:TE}(hl:Bx (PE X l tl)):Bx (PI X tg l (zig X.K tl)):=⟨xH hl.of⟩
theorem zT {a:Expr}{ta:TA}{p pos:Pos}(hg:Gl X "range") (hm:X.mg "range" = none) (ha:Bx (PA X [a] ta)) (hs:starEach [a] X.env=[(false,eval a X.env)]:=by rfl):Bx (PI X tg (.Call (.Name "range" p) [a] [] pos) (zif ta)):=⟨YE hg hm ha.of hs⟩
theorem vP {a b:Expr}{ta:TA}{p pos:Pos}(hg:Gl X "range") (hm:X.mg "range" = none) (ha:Bx (PA X [a,b] ta)) (hs:starEach [a,b] X.env=[(false,eval a X.env),(false,eval b X.env)]:=by rfl) (hs2:starEach [b] X.env=[(false,eval b X.env)]:=by rfl):Bx (PI X tg (.Call (.Name "range" p) [a,b] [] pos) (zie ta)):=⟨YD hg hm ha.of hs hs2⟩
theorem zM {iter:Expr}{body:List Stmt}{wi:TI}{g:TG}{tb:TS}{pos:Pos}(hp:PassesOwn (model X.prog X.w) X.A X.env X.xe) (hc:X.calm=true) (hi:Bx (PI X tg iter wi)) (hg:Bx (PG X tg g)) (hb:Bx (PSs X body tb)) (hs:∀ x,foldedSetIterable iter X.env x=pure x:=by intro _;rfl):Bx (PS X (.For tg iter body [] pos) (zoh wi g tb)):=⟨vm hp hc hi.of hg.of hb.of hs⟩
end
section
variable {X:Cx}{a b c:Expr}{ta tb tc:TE}{pos:Pos}
theorem zi {op:Operator}{r:R2}(ho:OpR X (binaryOp op) r) (ha:Bx (PE X a ta)) (hb:Bx (PE X b tb)):Bx (PE X (.BinOp a op b pos) (tOp r ta tb)):=⟨zmW ho ha.of hb.of⟩
theorem wq {op:UnaryOp}{r:V→Hp→VK→Prop}(ho:UnR X (unaryOp op) r) (ha:Bx (PE X a ta)):Bx (PE X (.UnaryOp op a pos) (tUn r ta)):=⟨zgd ho ha.of⟩
theorem zP {op:CmpOp}{r:R2}(ho:OpR X (compareOp op) r) (ha:Bx (PE X a ta)) (hb:Bx (PE X b tb)) (hm:behindInMarks op b=false):Bx (PE X (.Compare a [op] [b] pos) (tOp r ta tb)):=⟨wC ho ha.of hb.of hm⟩
theorem w_pt_cmpR {op:CmpOp}{r:R2}(ho:OpR X (compareOp op) r) (ha:Bx (PE X a ta)) (hb:Bx (PE X b tb)) (hm:behindInMarks op b=false):Bx (PT X (.Compare a [op] [b] pos) (zaH (tOp r ta tb))):=⟨xh ho ha.of hb.of hm⟩
end
section
variable {X:Cx}{o e value:Expr}{f:Str}{pos pos' tpos:Pos}{ta tv:TE}
theorem w_pe_fld (he:Bx (PE X e ta)) (hb:attributeBase e f X.env (eval e X.env)=eval e X.env):Bx (PE X (.Attribute e f pos) (zoi X.K ta f)):=⟨zgi he.of hb⟩
theorem zI (ha:Bx (PE X o ta)) (hv:Bx (PE X value tv)) (hs:swapsWith value (some (.Attribute o f pos')) pos.line X.env=pure false):Bx (PS X (.Assign [.Attribute o f pos'] value pos) (zu0 X.K ta tv f)):=⟨uC ha.of hv.of hs⟩
end
section
variable {X:Cx}{e:Expr}{es:List Expr}{te:TE}{t:TA}{pos:Pos}
theorem w_pa_nil  : Bx (PA X [] zaj):=⟨zS⟩
theorem zg (ha:Bx (PE X e te)) (hr:Bx (PA X es t)) (hs:starEach (e::es) X.env=(false,eval e X.env)::starEach es X.env:=by rfl):Bx (PA X (e::es) (xt te t)):=⟨yz ha.of hr.of hs⟩
theorem zN {x1}(h:Bx (PA X es t)):Bx (PE X (.Tuple es x1 pos) (zn9 t)):=⟨zge h.of⟩
theorem zv (h:Bx (PA X es t)):Bx (PE X (.List es pos) (zof t)):=⟨W8 h.of⟩
end
section
variable {X:Cx}{CX:CXT}{k:Nat}{f C:Addr}{fd:FuncData}{ps:List Str}{sp:Sp}{dvs:List V}{ds:List Value}{E:XK}{x m:Str}{p pos apos:Pos}{e o:Expr}{es:List Expr}{ta:TE}{t:TA}
theorem uT (F:FnOk X.prog X.w X.K X.mg X.base CX k f fd ps sp) (hr:Room k X.A) (hg:Gl X x) (hm:X.mg x=some (.ref f)) (hk:PySem.W.keepIn X.K (.ref f)=true) (hb:Binds X.K fd ps ds) (hd:Vals dvs ds) (hx:xa CX X E) (hdb:(x == ("__debug__" : Str))=false:=by decide):Bx (PE X (.Call (.Name x p) [] [] pos) (ZH sp dvs E zaj)):=⟨Wh F hr hg hm hk hb hd hx hdb⟩
theorem zaA {pl:Sem Bool}(he:Bx (PE X o ta)) (c:Cls X.K C) (hm:Meth X.K C m f) (F:FnOk X.prog X.w X.K X.mg X.base CX k f fd ps sp) (hr:Room k X.A) (hb:Binds X.K fd ps ds) (hd:Vals dvs ds) (hx:xa CX X E) (ha:Bx (PA X (e::es) t)) (hst:starEach (e::es) X.env=(false,eval e X.env)::starEach es X.env:=by rfl) (hpl:(backTo pos (starEach es X.env)).any (·.1)=false:=by rfl) (ht:eval (.Call (.Attribute o m apos) (e::es) [] pos) X.env=(do
   let ov ← eval o X.env
   standAt apos.atName
   let (f,first) ← holding [ov] (getMethod ov m pl)
   callWith pos f first (backTo pos (starEach (e::es) X.env)) (backToKw pos (keywordEach [] X.env))):=by rfl):Bx (PE X (.Call (.Attribute o m apos) (e::es) [] pos) (zaN C m sp dvs E ta t)):=⟨VN he.of c hm F hr hb hd hx ha.of hst hpl ht⟩
end
section
variable {X:Cx}{x:Str}{p pos:Pos}{e:Expr}{es:List Expr}{t:TA}{id T:String}{r:List V→Hp→VK→Prop}
theorem w_pe_callB (hc:yC X (.builtin id) r) (hg:Gl X x) (hm:X.mg x=none) (hv:bootBuiltins x=some (.builtin id)) (ha:Bx (PA X (e::es) t)) (hn:x ≠ "__name__" := by decide) (hdb:(x == ("__debug__" : Str))=false:=by decide) (he:starEach (e::es) X.env=(false,eval e X.env)::starEach es X.env:=by rfl) (hpl:(backTo pos (starEach es X.env)).any (·.1)=false:=by rfl):Bx (PE X (.Call (.Name x p) (e::es) [] pos) (tCB r t)):=⟨yc hc hg hm hv ha.of hn hdb he hpl⟩
theorem zG (hc:yC X (.type T) r) (hg:Gl X x) (hm:X.mg x=none) (hv:bootBuiltins x=some (.type T)) (ha:Bx (PA X (e::es) t)) (hn:x ≠ "__name__" := by decide) (hdb:(x == ("__debug__" : Str))=false:=by decide) (he:starEach (e::es) X.env=(false,eval e X.env)::starEach es X.env:=by rfl) (hpl:(backTo pos (starEach es X.env)).any (·.1)=false:=by rfl):Bx (PE X (.Call (.Name x p) (e::es) [] pos) (tCB r t)):=⟨vo hc hg hm hv ha.of hn hdb he hpl⟩
end
section
variable {X:Cx}{e:Expr}{te:TE}{lo hi:Option Expr}{tl th:TO}{pos p2:Pos}
theorem wY  : Bx (PO X none ZF):=⟨VL⟩
theorem wX (h:Bx (PE X e te)):Bx (PO X (some e) (zaJ te)):=⟨po_some h.of⟩
theorem wb {r:V→Option Int→Option Int→Hp→VK→Prop}(hr:SlR X r) (he:Bx (PE X e te)) (hl:Bx (PO X lo tl)) (hu:Bx (PO X hi th)):Bx (PE X (.Subscript e (.Slice lo hi none p2) pos) (tSl r te tl th)):=⟨Wd hr he.of hl.of hu.of⟩
end
section
variable {X:Cx}{a b:Expr}{ta tb:TE}{pos:Pos}
theorem zu {r:R2}(hr:IxR X r) (ha:Bx (PE X a ta)) (hb:Bx (PE X b tb)) (hs:XR b):Bx (PE X (.Subscript a b pos) (tOp r ta tb)):=⟨vV hr ha.of hb.of hs⟩
end
section
variable {X:Cx}{a b:Expr}{ta tb:TE}{pos:Pos}
variable {o e:Expr}{es:List Expr}{to:TE}{t:TA}{name:Str}{apos cpos:Pos}{T id:String}{r:V→List V→Hp→VK→Prop}
theorem yn (pa:PlainAttrs T) (slot:Slot T name id) (hty:typeOf (.builtin id)=pure (.type "method_descriptor")) (hm:MtR X id r) (ho:Bx (PE X o to)) (ha:Bx (PA X (e::es) t)) (hbase:attributeBase o name X.env (eval o X.env)=eval o X.env:=by rfl) (hfew:((backTo cpos (starEach (e::es) X.env)).all (fun x=>!x.1)&&(backToKw cpos (keywordEach [] X.env)).all (fun x=>x.1.isSome)
   && decide ((e::es).length+([]:List Keyword).length+(if ([]:List Keyword).isEmpty then 0 else 1)<30))=true:=by rfl) (hline:(apos.endLine == cpos.line)=true:=by rfl) (hs:starEach (e::es) X.env=(false,eval e X.env)::starEach es X.env:=by rfl) (hplain:(backTo cpos (starEach es X.env)).any (·.1)=false:=by rfl):Bx (PE X (.Call (.Attribute o name apos) (e::es) [] cpos) (tBM X.K T r to t)):=⟨VU pa slot hty hm ho.of ha.of hbase hfew hline hs hplain⟩
end
section
variable {X:Cx}{o i e value:Expr}{pos pos' tpos:Pos}{td ty tv:TE}
theorem zO (hu:X.A.units+1<cLine) (ho:Bx (PE X o td)) (hi:Bx (PE X i ty)) (hs:zn7 i):Bx (PE X (.Subscript o i pos) (zaT td ty)):=⟨vW hu ho.of hi.of hs⟩
theorem XY (hu:X.A.units+1<cLine) (hi:Bx (PE X i ty)) (ho:Bx (PE X o td)):Bx (PC X .In i o (zoj ty td)):=⟨Vb hu hi.of ho.of⟩
theorem vQ (hu:X.A.units+1<cLine) (hi:Bx (PE X i ty)) (ho:Bx (PE X o td)):Bx (PC X .NotIn i o (ZG ty td)):=⟨YI hu hi.of ho.of⟩
theorem w_ps_dput (hu:X.A.units+1<cLine) (ho:Bx (PE X o td)) (hi:Bx (PE X i ty)) (hv:Bx (PE X value tv)) (hs:swapsWith value (some (.Subscript o i pos')) pos.line X.env=pure false):Bx (PS X (.Assign [.Subscript o i pos'] value pos) (zf2 td ty tv)):=⟨vU hu ho.of hi.of hv.of hs⟩
end
section
variable {X:Cx}{pos:Pos}
theorem uR  : Bx (PE X (.Dict [] [] pos) WY):=⟨uE⟩
end
section
theorem xC {X:Cx}{pos:Pos}:Bx (PPs X pos [] [] []):=⟨VJ⟩
theorem zH {X:Cx}{pos:Pos}{k v:Expr}{ks:List (Option Expr)}{vs:List Expr}{tk tv:TE}{trs:List (TE×TE)}(hk:Bx (PE X k tk)) (hv:Bx (PE X v tv)) (hr:Bx (PPs X pos ks vs trs)):Bx (PPs X pos (some k::ks) (v::vs) ((tk,tv)::trs)):=⟨Wc hk.of hv.of hr.of⟩
theorem xE {X:Cx}{pos:Pos}{keys:List (Option Expr)}{values:List Expr}{trs:List (TE×TE)}(h:Bx (PPs X pos keys values trs)) (hall:keys.all (·.isSome)=true) (hl:keys.length=values.length) (h0:keys≠[]) (h15:keys.length≤15):Bx (PE X (.Dict keys values pos) (zaQ trs)):=⟨VR h.of hall hl h0 h15⟩
end
section
variable {X:Cx}{o e f:Expr}{apos cpos:Pos}{td ty tx:TE}
theorem uS (hu:X.A.units+1<cLine) (ho:Bx (PE X o td)) (he:Bx (PE X e ty)) (hf:Bx (PE X f tx)) (m:M2 X o "get" apos e f cpos):Bx (PE X (.Call (.Attribute o "get" apos) [e,f] [] cpos) (WZ td ty tx)):=⟨Wg hu ho.of he.of hf.of m⟩
end
section
variable {X:Cx}
theorem w_pv (i:Nat){x:Str}{pos:Pos}(hN:X.N[i]?=some x:=by rfl) (hv:Vis X.env.scope x:=by first | exact Or.inl rfl | exact Or.inr (Or.inl rfl) | exact Or.inr (Or.inr rfl)) (hd:(x == ("__debug__" : Str))=false:=by decide) (hcd:(x == ("__classdict__" : Str))=false:=by decide):Bx (PE X (.Name x pos) (zlz i)):=⟨pv i hN hv hd hcd⟩
end
section
theorem xB {X:Cx}{st:Stmt}{rest:List Stmt}{t u:TS}(h1:Bx (PS X st t)) (h2:Bx (PSs X rest u)):Bx (PSs X (st::rest) (zaI t u)):=⟨VG h1.of h2.of⟩
theorem yj {X:Cx}:Bx (PTs X [] zly):=⟨VF⟩
theorem xA {X:Cx}{c:Expr}{t:TT}(h:Bx (PT X c t)):Bx (PTs X [c] t):=⟨VE h.of⟩
end
section
variable {X:Cx}{tg iter elt:Expr}{ifs:List Expr}{scope:Scope}{pos:Pos}{N':List Str}{t:Nat}{caps:List Nat}{g:Blk→TG}{tc:Blk→TT}{te:Blk→TE}{wi:TI}
theorem ye (hc:X.calm=true) (S:CompOk X scope N' t caps) (hi:Bx (PI X tg iter wi)) (hg:∀ b,Bx (PG (cxB X scope N' b) tg (g b))) (ht:∀ b,Bx (PTs (cxB X scope N' b) ifs (tc b))) (he:∀ b,Bx (PE (cxB X scope N' b) elt (te b))) (hs:∀ x,foldedSetIterable iter X.env x=pure x:=by intro _;rfl):Bx (PE X (.ListComp elt [⟨tg,iter,ifs,0⟩] scope pos) (X1 wi g tc te t caps)):=⟨VS hc S hi.of (fun x0=>(hg x0).of) (fun x0=>(ht x0).of) (fun x0=>(he x0).of) hs⟩
theorem xn {i:Nat}{y:Str}{py spos:Pos}(hc:X.calm=true) (hN:X.N.Nodup) (hiy:X.N[i]?=some y) (hy:Loc X.env.scope y) (S:CompOk X scope N' t caps) (hi:Bx (PI X tg iter wi)) (hg:∀ b,Bx (PG (cxB X scope N' b) tg (g b))) (ht:∀ b,Bx (PTs (cxB X scope N' b) ifs (tc b))) (he:∀ b,Bx (PE (cxB X scope N' b) elt (te b))) (hsw:swapsWith (.ListComp elt [⟨tg,iter,ifs,0⟩] scope pos) (some (.Name y py)) spos.line X.env=pure true:=by rfl) (hs:∀ x,foldedSetIterable iter X.env x=pure x:=by intro _;rfl) (hf:X.fn y=true∨X.env.scope.names.lookup y=some .local:=by first | exact .inl rfl | exact .inr rfl | assumption):Bx (PS X (.Assign [.Name y py] (.ListComp elt [⟨tg,iter,ifs,0⟩] scope pos) spos) (ziv (X1 wi g tc te t caps) (uc i))):=⟨Zb hc hN hiy hy S hi.of (fun x0=>(hg x0).of) (fun x0=>(ht x0).of) (fun x0=>(he x0).of) hsw hs hf⟩
end
section
variable {X:Cx}{k:Nat}{f C:Addr}{fd:FuncData}{ps:List Str}{sp:Sp}{x m:Str}{p pos apos:Pos}{e o:Expr}{es:List Expr}{ta:TE}{t:TA}
theorem zk (c:Callee X.prog X.w X.K X.mg X.base x f fd ps k sp) (hr:Room k X.A) (ha:Bx (PA X (e::es) t)) (hg:Gl X x:=by rfl) (hdb:(x == ("__debug__" : Str))=false:=by decide) (he:starEach (e::es) X.env=(false,eval e X.env)::starEach es X.env:=by rfl) (hpl:(backTo pos (starEach es X.env)).any (·.1)=false:=by rfl):Bx (PE X (.Call (.Name x p) (e::es) [] pos) (ZH sp [] E0 t)):=⟨Va c hr ha.of hg hdb he hpl⟩
theorem yG (c:Maker X.prog X.w X.K X.mg X.base x C f fd ps k sp) (hr:Room (k+1) X.A) (ha:Bx (PA X (e::es) t)) (hg:Gl X x:=by rfl) (hdb:(x == ("__debug__" : Str))=false:=by decide) (he:starEach (e::es) X.env=(false,eval e X.env)::starEach es X.env:=by rfl) (hpl:(backTo pos (starEach es X.env)).any (·.1)=false:=by rfl):Bx (PE X (.Call (.Name x p) (e::es) [] pos) (Vv C sp [] E0 t)):=⟨zw8 c hr ha.of hg hdb he hpl⟩
theorem w_pe_methD {pl:Sem Bool}(he:Bx (PE X o ta)) (ha:Bx (PA X (e::es) t)) (hst:starEach (e::es) X.env=(false,eval e X.env)::starEach es X.env:=by rfl) (hpl:(backTo pos (starEach es X.env)).any (·.1)=false:=by rfl) (ht:eval (.Call (.Attribute o m apos) (e::es) [] pos) X.env=(do
   let ov ← eval o X.env
   standAt apos.atName
   let (f,first) ← holding [ov] (getMethod ov m pl)
   callWith pos f first (backTo pos (starEach (e::es) X.env)) (backToKw pos (keywordEach [] X.env))):=by rfl):Bx (PE X (.Call (.Attribute o m apos) (e::es) [] pos) (uv X m ta t)):=⟨We he.of ha.of hst hpl ht⟩
theorem zA {pl:Sem Bool}(he:Bx (PE X o ta)) (ht:eval (.Call (.Attribute o m apos) [] [] pos) X.env=(do
   let ov ← eval o X.env
   standAt apos.atName
   let (f,first) ← holding [ov] (getMethod ov m pl)
   callWith pos f first (backTo pos (starEach [] X.env)) (backToKw pos (keywordEach [] X.env))):=by rfl):Bx (PE X (.Call (.Attribute o m apos) [] [] pos) (uv X m ta zaj)):=⟨YH he.of ht⟩
end
section
theorem yT {X:Cx}{x:Str}{C:Addr}{pos:Pos}(hm:X.mg x=some (.ref C)) (hg:Gl X x:=by rfl) (hd:(x == ("__debug__" : Str))=false:=by decide):Bx (PE X (.Name x pos) (tC (.ref C))):=⟨zgk hm hg hd⟩
theorem wt {X:Cx}{x:Str}{n:String}{pos:Pos}(hm:X.mg x=none) (hv:bootBuiltins x=some (.type n)) (hg:Gl X x:=by rfl) (hn:x ≠ "__name__" := by decide) (hd:(x == ("__debug__" : Str))=false:=by decide):Bx (PE X (.Name x pos) (tC (.ty n))):=⟨wf hm hv hg hn hd⟩
end
section
variable {P:Program}{w:World}{A:Around}{R:Result→Shared→Prop}{I S:Addr}{fp wr:List Addr}{n:Nat}{Is:Nat→Value→Prop}{St:Nat→Heap→Prop}{kw:List (Str×Value)}
theorem Zr {X:Cx}{e dv:Expr}{ta:TA}{td:TE}{p kp pos:Pos}(hc:X.calm=true) (hg:Gl X "max") (hm:X.mg "max" = none) (ha:Bx (PA X [e] ta)) (hd:Bx (PE X dv td)) (hs:starEach [e] X.env=[(false,eval e X.env)]:=by rfl):Bx (PE X (.Call (.Name "max" p) [e] [⟨some "default",dv,kp⟩] pos) (zaO X.K ta td)):=⟨VO hc hg hm ha.of hd.of hs⟩
theorem Zq {X:Cx}{e dv:Expr}{ta:TA}{td:TE}{p kp pos:Pos}(hc:X.calm=true) (hg:Gl X "min") (hm:X.mg "min" = none) (ha:Bx (PA X [e] ta)) (hd:Bx (PE X dv td)) (hs:starEach [e] X.env=[(false,eval e X.env)]:=by rfl):Bx (PE X (.Call (.Name "min" p) [e] [⟨some "default",dv,kp⟩] pos) (zaM X.K ta td)):=⟨VM hc hg hm ha.of hd.of hs⟩
end
section
variable {X:Cx}{es:List Expr}{t:TA}{te:TE}
theorem zn {c j pos}(ha:Bx (PE X (.Constant c j pos) te)) (hr:Bx (PA X es t)):Bx (PA X (.Constant c j pos::es) (xt te t)):=⟨zxb ha.of hr.of⟩
theorem uq {xs c pos}(ha:Bx (PE X (.Tuple xs c pos) te)) (hr:Bx (PA X es t)):Bx (PA X (.Tuple xs c pos::es) (xt te t)):=⟨zw9 ha.of hr.of⟩
theorem zy {f xs ks pos}(ha:Bx (PE X (.Call f xs ks pos) te)) (hr:Bx (PA X es t)):Bx (PA X (.Call f xs ks pos::es) (xt te t)):=⟨zxa ha.of hr.of⟩
theorem zU {l o r pos}(ha:Bx (PE X (.BinOp l o r pos) te)) (hr:Bx (PA X es t)):Bx (PA X (.BinOp l o r pos::es) (xt te t)):=⟨zxc ha.of hr.of⟩
theorem w_pa_N {x pos}(ha:Bx (PE X (.Name x pos) te)) (hr:Bx (PA X es t)):Bx (PA X (.Name x pos::es) (xt te t)):=⟨xo ha.of hr.of⟩
end
section
variable {X:Cx}
theorem XV {e st:Expr}{te ts:TE}{p2 pos:Pos}(he:Bx (PE X e te)) (hs:Bx (PE X st ts)):Bx (PE X (.Subscript e (.Slice none none (some st) p2) pos) (zob X.K te ts)):=⟨zgg he.of hs.of⟩
end
section
variable {X:Cx}{o e:Expr}{apos cpos:Pos}{td ty:TE}
theorem Zs (ho:Bx (PE X o td)) (he:Bx (PE X e ty)) (m:M1 X o "update" apos e cpos):Bx (PE X (.Call (.Attribute o "update" apos) [e] [] cpos) (zaR td ty)):=⟨VQ ho.of he.of m⟩
end
end L2

namespace L2
namespace Srt
open PySem PyProof.Rows
noncomputable def zaf:Bool→Keyed→Array Keyed→Nat→Nat→Nat→StateT SortSt Sem (Option Nat):=sortPriv% PySem.Builtin.gallop
noncomputable def Wy:Array Keyed→Array Keyed→StateT SortSt Sem (Array Keyed):=sortPriv% PySem.Builtin.mergeLo
noncomputable def Wz:Array Keyed→Array Keyed→StateT SortSt Sem (Array Keyed):=sortPriv% PySem.Builtin.mergeHi
noncomputable def VA:Nat→StateT SortSt Sem Unit:=sortPriv% PySem.Builtin.setMinGallop
noncomputable def XH (left:Bool) (key:Keyed) (arr:Array Keyed) (base i:Nat):StateT SortSt Sem (Option Bool) :=
 elem' arr (base+i) >>= fun x=>if left=true then lt' x key else lt' key x >>= fun o=>pure (o.map fun b=>!b)
section
variable {prog:Program}{w:World}{A:Around}{E:Value→Shared→Prop}{s:Shared}{it:List Keyed}{κ:SortKind}
noncomputable def Cmp (prog:Program) (w:World) (A:Around) (s:Shared) (it:List Keyed) (κ:SortKind):Prop :=
 ∀ x∈it,∀ y∈it,∀ (Q:Bool→Shared→Prop) (E:Value→Shared→Prop),(∀ b,Q b s)→wpAny (model prog w) A (keyLt' κ x.1 y.1) Q E s
theorem zaG (C:Cmp prog w A s it κ){st:SortSt}(hk:kindOf st=κ){x y:Keyed}(hx:x∈it) (hy:y∈it){Q:Option Bool→SortSt→Prop}(h:∀ b,Q (some b) st):wpS (model prog w) A E s (lt' x y) Q st:=by
 rw[lt'_eq]
 refine wpS_bind (wpS_get ?_)
 rw[hk]
 refine wpS_bind (wpS_lift (wpAny_attempt (C x hx y hy _ _ fun b=>⟨rfl,?_⟩)))
 exact wpS_pure (h b)
theorem t_elem {st:SortSt}{arr:Array Keyed}{i:Nat}(hi:i<arr.size){Q:Keyed→SortSt→Prop}(h:Q arr[i] st):wpS (model prog w) A E s (elem' arr i) Q st:=by
 rw[elem'_eq,getElem?_pos arr i hi]
 exact wpS_pure h
theorem yU (C:Cmp prog w A s it κ){st:SortSt}(hk:kindOf st=κ){left:Bool}{key:Keyed}{arr:Array Keyed}{base i:Nat}(hkey:key∈it) (harr:∀ x∈arr,x∈it) (hi:base+i<arr.size)
  {Q:Option Bool→SortSt→Prop}(h:∀ b,Q (some b) st):wpS (model prog w) A E s (XH left key arr base i) Q st:=by
 unfold XH
 refine wpS_bind (t_elem hi ?_)
 have hx:arr[base+i]∈it:=harr _ (Array.getElem_mem hi)
 cases left with
 |true=>exact zaG C hk hx hkey h
 |false =>
  refine wpS_bind (zaG C hk hkey hx fun b=>?_)
  exact wpS_pure (h (!b))
theorem yD (C:Cmp prog w A s it κ){st:SortSt}(hk:kindOf st=κ){left:Bool}{key:Keyed}{arr:Array Keyed}{base n hint:Nat}(hkey:key∈it) (harr:∀ x∈arr,x∈it) (hb:base+n≤arr.size) (hh:hint<n)
  {Q:Option Nat→SortSt→Prop}(h:∀ k,k≤n→Q (some k) st):wpS (model prog w) A E s (zaf left key arr base n hint) Q st:=by
 refine wpS_bind (yU C hk hkey harr (by omega) fun rt=>?_)
 cases rt with
 |true =>
  simp only[if_true]
  refine wpS_bind (wpS_mono (wpS_forRange (I:=fun _ c st'=>st'=st∧∃ a b,c=(none,a,b)) (Q:=fun c st'=>st'=st∧∃ a b,c=(none,a,b)) ?_ ?_ ⟨rfl,_,_,rfl⟩) ?_)
  ·rintro i c st' _ hi ⟨rfl,a,b,rfl⟩
   dsimp only
   by_cases q:b≥n-hint
   ·rw[if_pos q]
    exact wpS_pure ⟨rfl,_,_,rfl⟩
   ·rw[if_neg q]
    refine wpS_bind (yU C hk hkey harr (by omega) fun mo=>?_)
    cases mo with
    |true=>exact wpS_pure ⟨rfl,_,_,rfl⟩
    |false=>exact wpS_pure ⟨rfl,_,_,rfl⟩
  ·exact fun c st' h=>h
  ·rintro c st' ⟨rfl,a,b,rfl⟩
   dsimp only
   refine wpS_bind (wpS_mono (wpS_forRange (I:=fun _ c st''=>st''=st'∧∃ a b,c=(none,a,b)∧b≤n) (Q:=fun c st''=>st''=st'∧∃ a b,c=(none,a,b)∧b≤n) ?_ ?_ ⟨rfl,_,_,rfl,by omega⟩) ?_)
   ·rintro i c st'' _ _ ⟨rfl,a,b,rfl,ha⟩
    dsimp only
    by_cases q:a≥b
    ·rw[if_pos q]
     exact wpS_pure ⟨rfl,a,b,rfl,ha⟩
    ·rw[if_neg q]
     refine wpS_bind (yU C hk hkey harr (by omega) fun mo=>?_)
     cases mo with
     |true=>exact wpS_pure ⟨rfl,_,_,rfl,ha⟩
     |false=>exact wpS_pure ⟨rfl,_,_,rfl,by omega⟩
   ·exact fun c st'' h=>h
   ·rintro c st'' ⟨rfl,a,b,rfl,ha⟩
    exact wpS_pure (h b ha)
 |false =>
  simp only[Bool.false_eq_true,if_false]
  refine wpS_bind (wpS_mono (wpS_forRange (I:=fun _ c st'=>st'=st∧∃ a b,c=(none,a,b)) (Q:=fun c st'=>st'=st∧∃ a b,c=(none,a,b)) ?_ ?_ ⟨rfl,_,_,rfl⟩) ?_)
  ·rintro i c st' _ hi ⟨rfl,a,b,rfl⟩
   dsimp only
   by_cases q:b≥hint+1
   ·rw[if_pos q]
    exact wpS_pure ⟨rfl,_,_,rfl⟩
   ·rw[if_neg q]
    refine wpS_bind (yU C hk hkey harr (by omega) fun mo=>?_)
    cases mo with
    |true=>exact wpS_pure ⟨rfl,_,_,rfl⟩
    |false=>exact wpS_pure ⟨rfl,_,_,rfl⟩
  ·exact fun c st' h=>h
  ·rintro c st' ⟨rfl,a,b,rfl⟩
   dsimp only
   refine wpS_bind (wpS_mono (wpS_forRange (I:=fun _ c st''=>st''=st'∧∃ a b,c=(none,a,b)∧b≤n) (Q:=fun c st''=>st''=st'∧∃ a b,c=(none,a,b)∧b≤n) ?_ ?_ ⟨rfl,_,_,rfl,by omega⟩) ?_)
   ·rintro i c st'' _ _ ⟨rfl,a,b,rfl,ha⟩
    dsimp only
    by_cases q:a≥b
    ·rw[if_pos q]
     exact wpS_pure ⟨rfl,a,b,rfl,ha⟩
    ·rw[if_neg q]
     refine wpS_bind (yU C hk hkey harr (by omega) fun mo=>?_)
     cases mo with
     |true=>exact wpS_pure ⟨rfl,_,_,rfl,ha⟩
     |false=>exact wpS_pure ⟨rfl,_,_,rfl,by omega⟩
   ·exact fun c st'' h=>h
   ·rintro c st'' ⟨rfl,a,b,rfl,ha⟩
    exact wpS_pure (h b ha)
structure Eqv (st st':SortSt):Prop where
 k:kindOf st'=kindOf st
 a:arrOf st'=arrOf st
 p:pendingOf st'=pendingOf st
 f:failedOf st'=failedOf st
theorem Eqv.refl (st:SortSt):Eqv st st:=⟨rfl,rfl,rfl,rfl⟩
theorem t_setMin {st st':SortSt}(e:Eqv st st'){g:Nat}{Q:Unit→SortSt→Prop}(h:∀ st'',Eqv st st''→Q () st''):wpS (model prog w) A E s (VA g) Q st':=wpS_modify (h _ ⟨e.k,e.a,e.p,e.f⟩)
def In (it:List Keyed) (o:Array Keyed):Prop:=∀ x∈o,x∈it
theorem In.push {o:Array Keyed}{x:Keyed}(h:In it o) (hx:x∈it):In it (o.push x):=fun y hy=>by
 rcases Array.mem_push.mp hy with q | q
 ·exact h y q
 ·rw[q];exact hx
theorem In.app {o p:Array Keyed}(h:In it o) (k:In it p):In it (o++p):=fun y hy=>by
 rcases Array.mem_append.mp hy with q | q
 ·exact h y q
 ·exact k y q
theorem In.ext {o:Array Keyed}{i j:Nat}(h:In it o):In it (o.extract i j):=fun y hy=>by
 have hy:y∈(o.extract i j).toList:=Array.mem_def.mp hy
 rw[Array.toList_extract,List.extract_eq_drop_take] at hy
 exact h y (Array.mem_def.mpr (List.mem_of_mem_drop (List.mem_of_mem_take hy)))
theorem In.rev {o:Array Keyed}(h:In it o):In it o.reverse:=fun y hy=>h y (Array.mem_reverse.mp hy)
theorem In.at {o:Array Keyed}{i:Nat}(h:In it o) (hi:i<o.size):o[i]∈it:=h _ (Array.getElem_mem hi)
theorem In.one {x:Keyed}(h:x∈it):In it #[x]:=fun y hy=>by
 simp at hy
 rw[hy];exact h
theorem jn1 {α:Type}{P G:α→Prop}(J:∀ m,P m) (k:(∀ m,P m)→∀ m,G m):∀ m,G m:=k J
theorem jn2 {α β:Type}{H K G:α→β→Prop}(h:∃ P:α→β→Prop,(∀ m n,H m n→P m n)∧((∀ m n,H m n→P m n)→∀ m n,K m n→G m n)):∀ m n,K m n→G m n:=by
 obtain⟨P,J,k⟩:=h
 exact k J
noncomputable def LoP (it:List Keyed) (a b:Array Keyed) (m:Nat) (r:Option (Array Keyed)) (o:Array Keyed) (x y:Nat):Prop :=
 match r with
 |some o=>In it o
 |none=>In it o∧x+1<a.size∧y<b.size∧m≤x+y
theorem ZB (C:Cmp prog w A s it κ){st:SortSt}(hk:kindOf st=κ){a b:Array Keyed}(ha:In it a) (hb:In it b) (za:1≤a.size) (zb:1≤b.size)
  {Q:Array Keyed→SortSt→Prop}(h:∀ o st',In it o→Eqv st st'→Q o st'):wpS (model prog w) A E s (Wy a b) Q st:=by
 refine wpS_bind (wpS_lift (wpAny_rule ⟨rfl,?_⟩))
 refine wpS_bind (t_elem (by omega) ?_)
 have b0:=In.one (hb.at (i:=0) (by omega))
 dsimp only
 by_cases q1:(1 == b.size)=true
 ·rw[if_pos q1]
  exact wpS_pure (h _ _ ((b0.app ha.ext).app hb.ext) (Eqv.refl st))
 rw[if_neg q1]
 by_cases q2:(0+1 == a.size)=true
 ·rw[if_pos q2]
  exact wpS_pure (h _ _ ((b0.app hb.ext).app ha.ext) (Eqv.refl st))
 rw[if_neg q2]
 have q1:1≠b.size:=fun z=>q1 (by simp[z])
 have q2:1≠a.size:=fun z=>q2 (by simp[z])
 refine wpS_bind (wpS_get ?_)
 refine wpS_bind (wpS_mono (wpS_forRange (I:=fun i c st'=>Eqv st st'∧∃ o x y mg,c=(none,o,x,y,mg)∧In it o∧x+1<a.size∧y<b.size∧i≤x+y) (Q:=fun c st'=>Eqv st st'∧∃ r o x y mg,c=(some r,o,x,y,mg)∧In it r) ?_ ?_ ⟨Eqv.refl st,_,_,_,_,rfl,b0,by omega,by omega,by omega⟩) ?_)
 ·rintro i c st1 _ hi ⟨ev,o,x,y,mg,rfl,ho,hx,hy,hm⟩
  dsimp only
  refine wpS_bind (wpS_mono (wpS_forRange (I:=fun j c st'=>Eqv st st'∧∃ o x y ca cb,c=(none,o,x,y,ca,cb)∧In it o∧x+1<a.size∧y<b.size∧i+j≤x+y) (Q:=fun c st'=>Eqv st st'∧∃ r o x y ca cb,c=(r,o,x,y,ca,cb)∧LoP it a b (i+1) r o x y) ?_ ?_ ⟨ev,_,_,_,_,_,rfl,ho,hx,hy,hm⟩) ?_)
  ·rintro j c st2 _ hj ⟨ev,o,x,y,ca,cb,rfl,ho,hx,hy,hm⟩
   dsimp only
   have hx0:=ha.at (i:=x) (by omega)
   have hy0:=hb.at hy
   refine wpS_bind (t_elem hy (wpS_bind (t_elem (by omega) (wpS_bind (zaG C (ev.k.trans hk) hy0 hx0 fun bw=>?_)))))
   cases bw with
   |true =>
    simp only[if_true]
    refine wpS_bind (t_elem hy ?_)
    have ho':=ho.push hy0
    by_cases q3:(y+1 == b.size)=true
    ·rw[if_pos q3]
     exact wpS_pure ⟨ev,_,_,_,_,_,_,rfl,(ho'.app ha.ext).app hb.ext⟩
    ·rw[if_neg q3]
     have q3:y+1≠b.size:=fun z=>q3 (by simp[z])
     by_cases q4:cb+1≥mg
     ·rw[if_pos q4]
      exact wpS_pure ⟨ev,_,_,_,_,_,_,rfl,ho',hx,by omega,by omega⟩
     ·rw[if_neg q4]
      exact wpS_pure ⟨ev,_,_,_,_,_,rfl,ho',hx,by omega,by omega⟩
   |false =>
    simp only[Bool.false_eq_true,if_false]
    refine wpS_bind (t_elem (by omega) ?_)
    have ho':=ho.push hx0
    by_cases q3:(x+1+1 == a.size)=true
    ·rw[if_pos q3]
     exact wpS_pure ⟨ev,_,_,_,_,_,_,rfl,(ho'.app hb.ext).app ha.ext⟩
    ·rw[if_neg q3]
     have q3:x+1+1≠a.size:=fun z=>q3 (by simp[z])
     by_cases q4:ca+1≥mg
     ·rw[if_pos q4]
      exact wpS_pure ⟨ev,_,_,_,_,_,_,rfl,ho',by omega,hy,by omega⟩
     ·rw[if_neg q4]
      exact wpS_pure ⟨ev,_,_,_,_,_,rfl,ho',by omega,hy,by omega⟩
  ·rintro c st2 ⟨ev,o,x,y,ca,cb,rfl,ho,hx,hy,hm⟩
   exact⟨ev,_,_,_,_,_,_,rfl,ho,hx,hy,by omega⟩
  ·rintro c st2 ⟨ev,r,o,x,y,ca,cb,rfl,hp⟩
   dsimp only
   cases r with
   |some r=>exact wpS_pure ⟨ev,_,_,_,_,_,rfl,hp⟩
   |none =>
    obtain⟨ho,hx,hy,hm⟩:=hp
    refine wpS_bind (wpS_lift (wpAny_rule ⟨rfl,?_⟩))
    refine wpS_bind (wpS_mono (wpS_forRange (I:=fun _ c st'=>Eqv st st'∧∃ o x y mg ca cb,c=(none,o,x,y,mg,ca,cb)∧In it o∧x+1<a.size∧y<b.size∧i+1≤x+y) (Q:=fun c st'=>Eqv st st'∧∃ r o x y mg ca cb,c=(r,o,x,y,mg,ca,cb)∧LoP it a b (i+1) r o x y) ?_ ?_ ⟨ev,_,_,_,_,_,_,rfl,ho,hx,hy,hm⟩) ?_)
    ·rintro j c st3 _ hj ⟨ev,o,x,y,mg,ca,cb,rfl,ho,hx,hy,hm⟩
     dsimp only
     revert mg
     apply jn1
     case k =>
      intro J mg
      by_cases qm:¬ mg>1
      ·rw[if_neg qm]
       exact J mg
      ·rw[if_pos (Decidable.not_not.mp qm)]
       exact J (mg-1)
     case J =>
      intro mg
      refine wpS_bind (t_setMin ev fun st4 ev4=>?_)
      refine wpS_bind (t_elem hy ?_)
      refine wpS_bind (yD C (ev4.k.trans hk) (hb.at hy) ha (by omega) (by omega) fun k hk1=>?_)
      dsimp only
      have HH:=And.intro ho (And.intro hx (And.intro hm hk1))
      clear ho hx hm hk1
      revert HH
      revert o x
      refine jn2 (H:=fun o x=>In it o∧x+1<a.size∧i+1≤x+y) ?_
      apply Exists.intro
      apply And.intro
      case right =>
       intro J o x ⟨ho,hx,hm,hk1⟩
       by_cases qk:¬ k>0
       ·rw[if_neg qk]
        exact J o x ⟨ho,hx,hm⟩
       rw[if_pos (Decidable.not_not.mp qk)]
       have ho1:=ho.app (ha.ext (i:=x) (j:=x+k))
       by_cases qa:(x+k+1 == a.size)=true
       ·rw[if_pos qa]
        exact wpS_pure ⟨ev4,_,_,_,_,_,_,_,rfl,(ho1.app hb.ext).app ha.ext⟩
       rw[if_neg qa]
       have qa:x+k+1≠a.size:=fun z=>qa (by simp[z])
       by_cases qb:(x+k == a.size)=true
       ·rw[if_pos qb]
        exact wpS_pure ⟨ev4,_,_,_,_,_,_,_,rfl,(ho1.app ha.ext).app hb.ext⟩
       rw[if_neg qb]
       have qb:x+k≠a.size:=fun z=>qb (by simp[z])
       exact J _ _ ⟨ho1,by omega,by omega⟩
      case left =>
       intro o x ⟨ho,hx,hm⟩
       refine wpS_bind (t_elem hy ?_)
       have ho2:=ho.push (hb.at hy)
       by_cases qc:(y+1 == b.size)=true
       ·rw[if_pos qc]
        exact wpS_pure ⟨ev4,_,_,_,_,_,_,_,rfl,(ho2.app ha.ext).app hb.ext⟩
       rw[if_neg qc]
       have qc:y+1≠b.size:=fun z=>qc (by simp[z])
       refine wpS_bind (t_elem (by omega) ?_)
       refine wpS_bind (yD C (ev4.k.trans hk) (ha.at (i:=x) (by omega)) hb (by omega) (by omega) fun k2 hk2=>?_)
       dsimp only
       have hy1:y+1<b.size:=by omega
       have hm1:i+1≤x+(y+1):=by omega
       generalize o.push b[y]=o2 at ho2 ⊢
       generalize y+1=y1 at hy1 hm1 hk2 ⊢
       have HH:=And.intro ho2 (And.intro hy1 (And.intro hm1 hk2))
       clear ho2 hy1 hm1 hk2
       revert HH
       revert o2 y1
       refine jn2 (H:=fun o y=>In it o∧y<b.size∧i+1≤x+y) ?_
       apply Exists.intro
       apply And.intro
       case right =>
        intro J o2 y1 ⟨ho2,hy1,hm1,hk2⟩
        by_cases qk2:¬ k2>0
        ·rw[if_neg qk2]
         exact J o2 y1 ⟨ho2,hy1,hm1⟩
        rw[if_pos (Decidable.not_not.mp qk2)]
        have ho3:=ho2.app (hb.ext (i:=y1) (j:=y1+k2))
        by_cases qd:(y1+k2 == b.size)=true
        ·rw[if_pos qd]
         exact wpS_pure ⟨ev4,_,_,_,_,_,_,_,rfl,(ho3.app ha.ext).app hb.ext⟩
        rw[if_neg qd]
        have qd:y1+k2≠b.size:=fun z=>qd (by simp[z])
        exact J _ _ ⟨ho3,by omega,by omega⟩
       case left =>
        intro o y ⟨ho,hy,hm⟩
        refine wpS_bind (t_elem (by omega) ?_)
        have ho4:=ho.push (ha.at (i:=x) (by omega))
        by_cases qe:(x+1+1 == a.size)=true
        ·rw[if_pos qe]
         exact wpS_pure ⟨ev4,_,_,_,_,_,_,_,rfl,(ho4.app hb.ext).app ha.ext⟩
        rw[if_neg qe]
        have qe:x+1+1≠a.size:=fun z=>qe (by simp[z])
        have H:In it (o.push a[x])∧x+1+1<a.size∧y<b.size∧i+1≤x+1+y:=⟨ho4,by omega,hy,by omega⟩
        split
        ·exact wpS_pure ⟨ev4,_,_,_,_,_,_,_,rfl,H⟩
        ·exact wpS_pure ⟨ev4,_,_,_,_,_,_,rfl,H⟩
    ·rintro c st3 ⟨ev,o,x,y,mg,ca,cb,rfl,ho,hx,hy,hm⟩
     exact⟨ev,_,_,_,_,_,_,_,rfl,ho,hx,hy,hm⟩
    ·rintro c st3 ⟨ev,r,o,x,y,mg,ca,cb,rfl,hp⟩
     dsimp only
     cases r with
     |some r=>exact wpS_pure ⟨ev,_,_,_,_,_,rfl,hp⟩
     |none =>
      obtain⟨ho,hx,hy,hm⟩:=hp
      refine wpS_bind (t_setMin ev fun st4 ev4=>?_)
      exact wpS_pure ⟨ev4,_,_,_,_,rfl,ho,hx,hy,hm⟩
 ·rintro c st1 ⟨ev,o,x,y,mg,rfl,ho,hx,hy,hm⟩
  omega
 ·rintro c st1 ⟨ev,r,o,x,y,mg,rfl,hr⟩
  exact wpS_pure (h r st1 hr ev)
noncomputable def HiP (it:List Keyed) (a b:Array Keyed) (m:Nat) (r:Option (Array Keyed)) (o:Array Keyed) (x y:Nat):Prop :=
 match r with
 |some o=>In it o
 |none=>In it o∧1≤x∧x<a.size∧2≤y∧y≤b.size∧m+x+y≤a.size+b.size
theorem ZC (C:Cmp prog w A s it κ){st:SortSt}(hk:kindOf st=κ){a b:Array Keyed}(ha:In it a) (hb:In it b) (za:1≤a.size) (zb:1≤b.size)
  {Q:Array Keyed→SortSt→Prop}(h:∀ o st',In it o→Eqv st st'→Q o st'):wpS (model prog w) A E s (Wz a b) Q st:=by
 refine wpS_bind (wpS_lift (wpAny_rule ⟨rfl,?_⟩))
 refine wpS_bind (t_elem (by omega) ?_)
 have b0:=In.one (ha.at (i:=a.size-1) (by omega))
 dsimp only
 by_cases q1:(a.size-1 == 0)=true
 ·rw[if_pos q1]
  exact wpS_pure (h _ _ ((ha.ext.app hb.ext).app b0.rev) (Eqv.refl st))
 rw[if_neg q1]
 by_cases q2:(b.size == 1)=true
 ·rw[if_pos q2]
  exact wpS_pure (h _ _ ((hb.ext.app ha.ext).app b0.rev) (Eqv.refl st))
 rw[if_neg q2]
 have q1:a.size-1≠0:=fun z=>q1 (by simp[z])
 have q2:b.size≠1:=fun z=>q2 (by simp[z])
 refine wpS_bind (wpS_get ?_)
 refine wpS_bind (wpS_mono (wpS_forRange (I:=fun i c st'=>Eqv st st'∧∃ x y o mg,c=(none,x,y,o,mg)∧In it o∧1≤x∧x<a.size∧2≤y∧y≤b.size∧i+x+y≤a.size+b.size) (Q:=fun c st'=>Eqv st st'∧∃ r x y o mg,c=(some r,x,y,o,mg)∧In it r) ?_ ?_ ⟨Eqv.refl st,_,_,_,_,rfl,b0,by omega,by omega,by omega,by omega,by omega⟩) ?_)
 ·rintro i c st1 _ hi ⟨ev,x,y,o,mg,rfl,ho,hx,hx2,hy,hy2,hm⟩
  dsimp only
  refine wpS_bind (wpS_mono (wpS_forRange (I:=fun j c st'=>Eqv st st'∧∃ x y o ca cb,c=(none,x,y,o,ca,cb)∧In it o∧1≤x∧x<a.size∧2≤y∧y≤b.size∧i+j+x+y≤a.size+b.size) (Q:=fun c st'=>Eqv st st'∧∃ r x y o ca cb,c=(r,x,y,o,ca,cb)∧HiP it a b (i+1) r o x y) ?_ ?_ ⟨ev,_,_,_,_,_,rfl,ho,hx,hx2,hy,hy2,hm⟩) ?_)
  ·rintro j c st2 _ hj ⟨ev,x,y,o,ca,cb,rfl,ho,hx,hx2,hy,hy2,hm⟩
   dsimp only
   have hx0:=ha.at (i:=x-1) (by omega)
   have hy0:=hb.at (i:=y-1) (by omega)
   refine wpS_bind (t_elem (by omega) (wpS_bind (t_elem (by omega) (wpS_bind (zaG C (ev.k.trans hk) hy0 hx0 fun bw=>?_)))))
   cases bw with
   |true =>
    simp only[if_true]
    refine wpS_bind (t_elem (by omega) ?_)
    have ho':=ho.push hx0
    by_cases q3:(x-1 == 0)=true
    ·rw[if_pos q3]
     exact wpS_pure ⟨ev,_,_,_,_,_,_,rfl,(ha.ext.app hb.ext).app ho'.rev⟩
    ·rw[if_neg q3]
     have q3:x-1≠0:=fun z=>q3 (by simp[z])
     by_cases q4:ca+1≥mg
     ·rw[if_pos q4]
      exact wpS_pure ⟨ev,_,_,_,_,_,_,rfl,ho',by omega,by omega,by omega,by omega,by omega⟩
     ·rw[if_neg q4]
      exact wpS_pure ⟨ev,_,_,_,_,_,rfl,ho',by omega,by omega,by omega,by omega,by omega⟩
   |false =>
    simp only[Bool.false_eq_true,if_false]
    refine wpS_bind (t_elem (by omega) ?_)
    have ho':=ho.push hy0
    by_cases q3:(y-1 == 1)=true
    ·rw[if_pos q3]
     exact wpS_pure ⟨ev,_,_,_,_,_,_,rfl,(hb.ext.app ha.ext).app ho'.rev⟩
    ·rw[if_neg q3]
     have q3:y-1≠1:=fun z=>q3 (by simp[z])
     by_cases q4:cb+1≥mg
     ·rw[if_pos q4]
      exact wpS_pure ⟨ev,_,_,_,_,_,_,rfl,ho',by omega,by omega,by omega,by omega,by omega⟩
     ·rw[if_neg q4]
      exact wpS_pure ⟨ev,_,_,_,_,_,rfl,ho',by omega,by omega,by omega,by omega,by omega⟩
  ·rintro c st2 ⟨ev,x,y,o,ca,cb,rfl,ho,hx,hx2,hy,hy2,hm⟩
   exact⟨ev,_,_,_,_,_,_,rfl,ho,hx,hx2,hy,hy2,by omega⟩
  ·rintro c st2 ⟨ev,r,x,y,o,ca,cb,rfl,hp⟩
   dsimp only
   cases r with
   |some r=>exact wpS_pure ⟨ev,_,_,_,_,_,rfl,hp⟩
   |none =>
    obtain⟨ho,hx,hx2,hy,hy2,hm⟩:=hp
    refine wpS_bind (wpS_lift (wpAny_rule ⟨rfl,?_⟩))
    refine wpS_bind (wpS_mono (wpS_forRange (I:=fun _ c st'=>Eqv st st'∧∃ x y o mg ca cb,c=(none,x,y,o,mg,ca,cb)∧In it o∧1≤x∧x<a.size∧2≤y∧y≤b.size∧i+1+x+y≤a.size+b.size) (Q:=fun c st'=>Eqv st st'∧∃ r x y o mg ca cb,c=(r,x,y,o,mg,ca,cb)∧HiP it a b (i+1) r o x y) ?_ ?_ ⟨ev,_,_,_,_,_,_,rfl,ho,hx,hx2,hy,hy2,hm⟩) ?_)
    ·rintro j c st3 _ hj ⟨ev,x,y,o,mg,ca,cb,rfl,ho,hx,hx2,hy,hy2,hm⟩
     dsimp only
     revert mg
     apply jn1
     case k =>
      intro J mg
      by_cases qm:¬ mg>1
      ·rw[if_neg qm]
       exact J mg
      ·rw[if_pos (Decidable.not_not.mp qm)]
       exact J (mg-1)
     case J =>
      intro mg
      refine wpS_bind (t_setMin ev fun st4 ev4=>?_)
      refine wpS_bind (t_elem (by omega) ?_)
      refine wpS_bind (yD C (ev4.k.trans hk) (hb.at (i:=y-1) (by omega)) ha (by omega) (by omega) fun k hk1=>?_)
      dsimp only
      generalize hn1:x-k=n1
      have HH:=And.intro ho (And.intro hx (And.intro hx2 (And.intro hm (And.intro hk1 hn1))))
      clear ho hx hx2 hm hk1 hn1
      revert HH
      revert o x
      refine jn2 (H:=fun x o=>In it o∧1≤x∧x<a.size∧i+1+x+y≤a.size+b.size) ?_
      apply Exists.intro
      apply And.intro
      case right =>
       intro J x o ⟨ho,hx,hx2,hm,hk1,hn1⟩
       by_cases qk:¬ n1>0
       ·rw[if_neg qk]
        exact J x o ⟨ho,hx,hx2,hm⟩
       rw[if_pos (Decidable.not_not.mp qk)]
       have ho1:=ho.app (ha.ext (i:=k) (j:=x)).rev
       by_cases qa:(k == 0)=true
       ·rw[if_pos qa]
        exact wpS_pure ⟨ev4,_,_,_,_,_,_,_,rfl,(ha.ext.app hb.ext).app ho1.rev⟩
       rw[if_neg qa]
       have qa:k≠0:=fun z=>qa (by simp[z])
       exact J k _ ⟨ho1,by omega,by omega,by omega⟩
      case left =>
       intro x o ⟨ho,hx,hx2,hm⟩
       refine wpS_bind (t_elem (by omega) ?_)
       have ho2:=ho.push (hb.at (i:=y-1) (by omega))
       by_cases qc:(y-1 == 1)=true
       ·rw[if_pos qc]
        exact wpS_pure ⟨ev4,_,_,_,_,_,_,_,rfl,(hb.ext.app ha.ext).app ho2.rev⟩
       rw[if_neg qc]
       have qc:y-1≠1:=fun z=>qc (by simp[z])
       refine wpS_bind (t_elem (by omega) ?_)
       refine wpS_bind (yD C (ev4.k.trans hk) (ha.at (i:=x-1) (by omega)) hb (by omega) (by omega) fun k2 hk2=>?_)
       dsimp only
       have hy1:2≤y-1∧y-1≤b.size∧i+1+x+(y-1)≤a.size+b.size:=⟨by omega,by omega,by omega⟩
       generalize o.push (b[y-1]'(by omega))=o2 at ho2 ⊢
       generalize y-1=y1 at hy1 hk2 ⊢
       generalize hn2:y1-k2=n2
       have HH:=And.intro ho2 (And.intro hy1 (And.intro hk2 hn2))
       clear ho2 hy1 hk2 hn2
       revert HH
       revert o2 y1
       refine jn2 (H:=fun o y=>In it o∧2≤y∧y≤b.size∧i+1+x+y≤a.size+b.size) ?_
       apply Exists.intro
       apply And.intro
       case right =>
        intro J o2 y1 ⟨ho2,hy1,hk2,hn2⟩
        by_cases qk2:¬ n2>0
        ·rw[if_neg qk2]
         exact J o2 y1 ⟨ho2,hy1⟩
        rw[if_pos (Decidable.not_not.mp qk2)]
        have ho3:=ho2.app (hb.ext (i:=k2) (j:=y1)).rev
        by_cases qd:(k2 == 1)=true
        ·rw[if_pos qd]
         exact wpS_pure ⟨ev4,_,_,_,_,_,_,_,rfl,(hb.ext.app ha.ext).app ho3.rev⟩
        rw[if_neg qd]
        have qd:k2≠1:=fun z=>qd (by simp[z])
        by_cases qd2:(k2 == 0)=true
        ·rw[if_pos qd2]
         exact wpS_pure ⟨ev4,_,_,_,_,_,_,_,rfl,(ha.ext.app hb.ext).app ho3.rev⟩
        rw[if_neg qd2]
        have qd2:k2≠0:=fun z=>qd2 (by simp[z])
        exact J _ k2 ⟨ho3,by omega,by omega,by omega⟩
       case left =>
        intro o y ⟨ho,hy,hy2,hm⟩
        refine wpS_bind (t_elem (by omega) ?_)
        have ho4:=ho.push (ha.at (i:=x-1) (by omega))
        by_cases qe:(x-1 == 0)=true
        ·rw[if_pos qe]
         exact wpS_pure ⟨ev4,_,_,_,_,_,_,_,rfl,(ha.ext.app hb.ext).app ho4.rev⟩
        rw[if_neg qe]
        have qe:x-1≠0:=fun z=>qe (by simp[z])
        have H:In it (o.push (a[x-1]'(by omega)))∧1≤x-1∧x-1<a.size∧2≤y∧y≤b.size∧i+1+(x-1)+y≤a.size+b.size:=⟨ho4,by omega,by omega,hy,hy2,by omega⟩
        split
        ·exact wpS_pure ⟨ev4,_,_,_,_,_,_,_,rfl,H⟩
        ·exact wpS_pure ⟨ev4,_,_,_,_,_,_,rfl,H⟩
    ·rintro c st3 ⟨ev,x,y,o,mg,ca,cb,rfl,ho,hx,hx2,hy,hy2,hm⟩
     exact⟨ev,_,_,_,_,_,_,_,rfl,ho,hx,hx2,hy,hy2,hm⟩
    ·rintro c st3 ⟨ev,r,x,y,o,mg,ca,cb,rfl,hp⟩
     dsimp only
     cases r with
     |some r=>exact wpS_pure ⟨ev,_,_,_,_,_,rfl,hp⟩
     |none =>
      obtain⟨ho,hx,hx2,hy,hy2,hm⟩:=hp
      refine wpS_bind (t_setMin ev fun st4 ev4=>?_)
      exact wpS_pure ⟨ev4,_,_,_,_,rfl,ho,hx,hx2,hy,hy2,hm⟩
 ·rintro c st1 ⟨ev,x,y,o,mg,rfl,ho,hx,hx2,hy,hy2,hm⟩
  omega
 ·rintro c st1 ⟨ev,r,x,y,o,mg,rfl,hr⟩
  exact wpS_pure (h r st1 hr ev)
end
end Srt
end L2

namespace L2
namespace Srt
open PySem PyProof.Rows
section
variable {prog:Program}{w:World}{A:Around}{E:Value→Shared→Prop}{s:Shared}{it:List Keyed}{κ:SortKind}{n:Nat}
structure TB (it:List Keyed) (κ:SortKind) (n:Nat) (st:SortSt):Prop where
 z:(arrOf st).size=n
 i:In it (arrOf st)
 k:kindOf st=κ
 f:failedOf st=none
theorem TB.perm {st:SortSt}(t:TB it κ n st){xs:Array Keyed}(p:xs.Perm (arrOf st)):TB it κ n (setArr st xs) :=
 ⟨p.size_eq.trans t.z,fun x hx=>t.i x (Array.mem_def.mpr ((Array.perm_iff_toList_perm.mp p).mem_iff.mp (Array.mem_def.mp hx))),t.k,t.f⟩
theorem t_ltAt (C:Cmp prog w A s it κ){st:SortSt}(t:TB it κ n st){i j:Nat}(hi:i<n) (hj:j<n){Q:Option Bool→SortSt→Prop}(h:∀ b,Q (some b) st):wpS (model prog w) A E s (ltAt' i j) Q st:=by
 rw[ltAt'_eq]
 refine wpS_bind (wpS_get ?_)
 have hi:i<(arrOf st).size:=by rw[t.z];exact hi
 have hj:j<(arrOf st).size:=by rw[t.z];exact hj
 exact wpS_bind (t_elem hi (wpS_bind (t_elem hj (zaG C t.k (t.i.at hi) (t.i.at hj) h))))
def Ord (it:List Keyed) (κ:SortKind) (n:Nat) (p:Array (Nat×Nat×Nat)) (st:SortSt):Prop:=TB it κ n st∧pendingOf st=p
theorem wu {p:Array (Nat×Nat×Nat)}{st:SortSt}(o:Ord it κ n p st){i j:Nat}{Q:Unit→SortSt→Prop}(h:∀ st',Ord it κ n p st'→Q () st'):wpS (model prog w) A E s (reverseSlice' i j) Q st:=by
 rw[reverseSlice'_eq]
 exact wpS_modify (h _ ⟨o.1.perm (mirror_perm _ _ _ _),o.2⟩)
theorem t_move {p:Array (Nat×Nat×Nat)}{st:SortSt}(o:Ord it κ n p st){i j:Nat}{Q:Unit→SortSt→Prop}(h:∀ st',Ord it κ n p st'→Q () st'):wpS (model prog w) A E s (moveDown' i j) Q st:=by
 rw[moveDown'_eq]
 exact wpS_modify (h _ ⟨o.1.perm (bubble_perm _ _ _),o.2⟩)
theorem zlx (C:Cmp prog w A s it κ){p:Array (Nat×Nat×Nat)}{st:SortSt}(o:Ord it κ n p st){lo m ok:Nat}(hm:lo+m≤n){Q:Bool→SortSt→Prop}(h:∀ st',Ord it κ n p st'→Q true st'):wpS (model prog w) A E s (binarySort' lo m ok) Q st:=by
 rw[binarySort'_eq]
 refine wpS_bind (wpS_mono (wpS_forRange (I:=fun k c st'=>c=(none,())∧Ord it κ n p st') (Q:=fun c st'=>c=(none,())∧Ord it κ n p st') ?_ ?_ ⟨rfl,o⟩) ?_)
 ·rintro k c st1 hk1 hk ⟨rfl,o1⟩
  dsimp only
  refine wpS_bind (wpS_mono (wpS_forRange (I:=fun _ c st'=>st'=st1∧∃ l r,c=(none,l,r)∧r≤k) (Q:=fun c st'=>st'=st1∧∃ l r,c=(none,l,r)∧r≤k) ?_ ?_ ⟨rfl,_,_,rfl,Nat.le_refl _⟩) ?_)
  ·rintro j c st2 _ hj ⟨rfl,l,r,rfl,hr⟩
   dsimp only
   by_cases q:l≥r
   ·rw[if_pos q]
    exact wpS_pure ⟨rfl,_,_,rfl,hr⟩
   ·rw[if_neg q]
    refine wpS_bind (t_ltAt C o1.1 (by omega) (by omega) fun b=>?_)
    cases b with
    |true=>exact wpS_pure ⟨rfl,_,_,rfl,by omega⟩
    |false=>exact wpS_pure ⟨rfl,_,_,rfl,hr⟩
  ·exact fun c st' h=>h
  ·rintro c st2 ⟨rfl,l,r,rfl,hr⟩
   dsimp only
   exact wpS_bind (t_move o1 fun st3 o3=>wpS_pure ⟨rfl,o3⟩)
 ·exact fun c st' h=>h
 ·rintro c st1 ⟨rfl,o1⟩
  exact wpS_pure (h st1 o1)
theorem Vu (C:Cmp prog w A s it κ){p:Array (Nat×Nat×Nat)}{st:SortSt}(o:Ord it κ n p st){lo m:Nat}(h1:1≤m) (hm:lo+m≤n){Q:Option Nat→SortSt→Prop}(h:∀ k st',1≤k→k≤m→Ord it κ n p st'→Q (some k) st'):wpS (model prog w) A E s (countRun' lo m) Q st:=by
 rw[countRun'_eq]
 refine wpS_bind (wpS_mono (wpS_forRange (I:=fun i c st'=>Ord it κ n p st'∧c=(none,i)) (Q:=fun c st'=>Ord it κ n p st'∧∃ k,c=(none,k)∧1≤k∧k≤m) ?_ ?_ ⟨o,rfl⟩) ?_)
 ·rintro i c st1 hi1 hi ⟨o1,rfl⟩
  dsimp only
  refine wpS_bind (t_ltAt C o1.1 (by omega) (by omega) fun b=>?_)
  cases b with
  |true=>exact wpS_pure ⟨o1,_,rfl,hi1,by omega⟩
  |false=>exact wpS_pure ⟨o1,rfl⟩
 ·rintro c st1 ⟨o1,rfl⟩
  exact⟨o1,_,rfl,by omega,by omega⟩
 ·rintro c st1 ⟨o1,k,rfl,k1,k2⟩
  dsimp only
  by_cases q:(k == m)=true
  ·rw[if_pos q]
   exact wpS_pure (h k st1 k1 k2 o1)
  rw[if_neg q]
  have q:k≠m:=fun z=>q (by simp[z])
  by_cases qk:k>1
  ·rw[if_pos qk]
   refine wpS_bind (t_ltAt C o1.1 (by omega) (by omega) fun b=>?_)
   cases b with
   |true=>exact wpS_pure (h k st1 k1 k2 o1)
   |false =>
    simp only[Bool.false_eq_true,if_false]
    refine wpS_bind (wu o1 fun st2 o2=>?_)
    refine wpS_bind (wpS_lift (wpAny_rule ⟨rfl,?_⟩))
    refine wpS_bind (wpS_mono (wpS_forRange (I:=fun i c st'=>Ord it κ n p st'∧∃ g,c=(none,i,g)) (Q:=fun c st'=>Ord it κ n p st'∧∃ j g,c=(none,j,g)∧k+1≤j∧j≤m) ?_ ?_ ⟨o2,_,rfl⟩) ?_)
    ·rintro i c st3 hi1 hi ⟨o3,g,rfl⟩
     dsimp only
     refine wpS_bind (t_ltAt C o3.1 (by omega) (by omega) fun b=>?_)
     cases b with
     |true =>
      simp only[if_true]
      by_cases qg:g>0
      ·rw[if_pos qg]
       exact wpS_bind (wu o3 fun st4 o4=>wpS_pure ⟨o4,_,rfl⟩)
      ·rw[if_neg qg]
       exact wpS_pure ⟨o3,_,rfl⟩
     |false =>
      simp only[Bool.false_eq_true,if_false]
      refine wpS_bind (t_ltAt C o3.1 (by omega) (by omega) fun b=>?_)
      cases b with
      |true=>exact wpS_pure ⟨o3,_,_,rfl,by omega,by omega⟩
      |false=>exact wpS_pure ⟨o3,_,rfl⟩
    ·rintro c st3 ⟨o3,g,rfl⟩
     exact⟨o3,_,_,rfl,by omega,by omega⟩
    ·rintro c st3 ⟨o3,j,g,rfl,j1,j2⟩
     dsimp only
     by_cases qg:g>0
     ·rw[if_pos qg]
      refine wpS_bind (wu o3 fun st4 o4=>?_)
      refine wpS_bind (wu o4 fun st8 o8=>?_)
      refine wpS_bind (wpS_mono (wpS_forRange (I:=fun i c st'=>Ord it κ n p st'∧c=(none,i)) (Q:=fun c st'=>Ord it κ n p st'∧∃ k,c=(none,k)∧1≤k∧k≤m) ?_ ?_ ⟨o8,rfl⟩) ?_)
      ·rintro i c st9 hi1 hi ⟨o9,rfl⟩
       dsimp only
       refine wpS_bind (t_ltAt C o9.1 (by omega) (by omega) fun b=>?_)
       cases b with
       |true=>exact wpS_pure ⟨o9,_,rfl,by omega,by omega⟩
       |false=>exact wpS_pure ⟨o9,rfl⟩
      ·rintro c st9 ⟨o9,rfl⟩
       exact⟨o9,_,rfl,by omega,by omega⟩
      ·rintro c st9 ⟨o9,kk,rfl,e1,e2⟩
       exact wpS_pure (h kk st9 e1 e2 o9)
     ·rw[if_neg qg]
      refine wpS_bind (wu o3 fun st8 o8=>?_)
      refine wpS_bind (wpS_mono (wpS_forRange (I:=fun i c st'=>Ord it κ n p st'∧c=(none,i)) (Q:=fun c st'=>Ord it κ n p st'∧∃ k,c=(none,k)∧1≤k∧k≤m) ?_ ?_ ⟨o8,rfl⟩) ?_)
      ·rintro i c st9 hi1 hi ⟨o9,rfl⟩
       dsimp only
       refine wpS_bind (t_ltAt C o9.1 (by omega) (by omega) fun b=>?_)
       cases b with
       |true=>exact wpS_pure ⟨o9,_,rfl,by omega,by omega⟩
       |false=>exact wpS_pure ⟨o9,rfl⟩
      ·rintro c st9 ⟨o9,rfl⟩
       exact⟨o9,_,rfl,by omega,by omega⟩
      ·rintro c st9 ⟨o9,kk,rfl,e1,e2⟩
       exact wpS_pure (h kk st9 e1 e2 o9)
  ·rw[if_neg qk]
   refine wpS_bind (wpS_lift (wpAny_rule ⟨rfl,?_⟩))
   refine wpS_bind (wpS_mono (wpS_forRange (I:=fun i c st'=>Ord it κ n p st'∧∃ g,c=(none,i,g)) (Q:=fun c st'=>Ord it κ n p st'∧∃ j g,c=(none,j,g)∧k+1≤j∧j≤m) ?_ ?_ ⟨o1,_,rfl⟩) ?_)
   ·rintro i c st3 hi1 hi ⟨o3,g,rfl⟩
    dsimp only
    refine wpS_bind (t_ltAt C o3.1 (by omega) (by omega) fun b=>?_)
    cases b with
    |true =>
     simp only[if_true]
     by_cases qg:g>0
     ·rw[if_pos qg]
      exact wpS_bind (wu o3 fun st4 o4=>wpS_pure ⟨o4,_,rfl⟩)
     ·rw[if_neg qg]
      exact wpS_pure ⟨o3,_,rfl⟩
    |false =>
     simp only[Bool.false_eq_true,if_false]
     refine wpS_bind (t_ltAt C o3.1 (by omega) (by omega) fun b=>?_)
     cases b with
     |true=>exact wpS_pure ⟨o3,_,_,rfl,by omega,by omega⟩
     |false=>exact wpS_pure ⟨o3,_,rfl⟩
   ·rintro c st3 ⟨o3,g,rfl⟩
    exact⟨o3,_,_,rfl,by omega,by omega⟩
   ·rintro c st3 ⟨o3,j,g,rfl,j1,j2⟩
    dsimp only
    by_cases qg:g>0
    ·rw[if_pos qg]
     refine wpS_bind (wu o3 fun st4 o4=>?_)
     refine wpS_bind (wu o4 fun st8 o8=>?_)
     refine wpS_bind (wpS_mono (wpS_forRange (I:=fun i c st'=>Ord it κ n p st'∧c=(none,i)) (Q:=fun c st'=>Ord it κ n p st'∧∃ k,c=(none,k)∧1≤k∧k≤m) ?_ ?_ ⟨o8,rfl⟩) ?_)
     ·rintro i c st9 hi1 hi ⟨o9,rfl⟩
      dsimp only
      refine wpS_bind (t_ltAt C o9.1 (by omega) (by omega) fun b=>?_)
      cases b with
      |true=>exact wpS_pure ⟨o9,_,rfl,by omega,by omega⟩
      |false=>exact wpS_pure ⟨o9,rfl⟩
     ·rintro c st9 ⟨o9,rfl⟩
      exact⟨o9,_,rfl,by omega,by omega⟩
     ·rintro c st9 ⟨o9,kk,rfl,e1,e2⟩
      exact wpS_pure (h kk st9 e1 e2 o9)
    ·rw[if_neg qg]
     refine wpS_bind (wu o3 fun st8 o8=>?_)
     refine wpS_bind (wpS_mono (wpS_forRange (I:=fun i c st'=>Ord it κ n p st'∧c=(none,i)) (Q:=fun c st'=>Ord it κ n p st'∧∃ k,c=(none,k)∧1≤k∧k≤m) ?_ ?_ ⟨o8,rfl⟩) ?_)
     ·rintro i c st9 hi1 hi ⟨o9,rfl⟩
      dsimp only
      refine wpS_bind (t_ltAt C o9.1 (by omega) (by omega) fun b=>?_)
      cases b with
      |true=>exact wpS_pure ⟨o9,_,rfl,by omega,by omega⟩
      |false=>exact wpS_pure ⟨o9,rfl⟩
     ·rintro c st9 ⟨o9,rfl⟩
      exact⟨o9,_,rfl,by omega,by omega⟩
     ·rintro c st9 ⟨o9,kk,rfl,e1,e2⟩
      exact wpS_pure (h kk st9 e1 e2 o9)
theorem vi:∀ (l:List (Keyed×Nat)) (b:Nat) (a:Array Keyed),(l.foldl (fun a (q,j)=>a.setIfInBounds (b+j) q) a).size=a.size
 |[],_,_=>rfl
 |(q,j)::l,b,a=>by rw[List.foldl_cons,vi l b];simp
theorem Yz:∀ (l:List (Keyed×Nat)) (b:Nat) (a:Array Keyed),In it a→(∀ q∈l,q.1∈it)→In it (l.foldl (fun a (q,j)=>a.setIfInBounds (b+j) q) a)
 |[],_,_,h,_=>h
 |(q,j)::l,b,a,h,hl=>by
  rw[List.foldl_cons]
  refine Yz l b _ (fun x hx=>?_) fun r hr=>hl r (List.mem_cons_of_mem _ hr)
  rcases Array.mem_or_eq_of_mem_setIfInBounds hx with z | z
  ·exact h x z
  ·rw[z];exact hl (q,j) List.mem_cons_self
theorem zaz {o:Array Keyed}(h:In it o):∀ q∈o.toList.zipIdx,q.1∈it:=fun q hq=>by
 obtain⟨x,i⟩:=q
 have:=(List.mem_zipIdx hq).2.2
 rw[this]
 exact h _ (Array.mem_def.mpr (List.getElem_mem _))
theorem zlv {x st:SortSt}{Q:PUnit→SortSt→Prop}(h:Q ⟨⟩ x):wpS (model prog w) A E s (set x:StateT SortSt Sem PUnit) Q st:=by
 unfold wpS
 rw[StateT.run_set]
 exact wpAny_pure ⟨rfl,h⟩
theorem ZD (C:Cmp prog w A s it κ){st:SortSt}(t:TB it κ n st){n1 p1 p2:Nat}(hp:pendingOf st = #[(0,n1,p1),(n1,n-n1,p2)]) (h1:1≤n1) (h2:n1<n){Q:Bool→SortSt→Prop}
  (h:∀ st',TB it κ n st'→pendingOf st' = #[(0,n,p1)]→Q true st'):wpS (model prog w) A E s (mergeAt' 0) Q st:=by
 refine wpS_bind (wpS_get ?_)
 have hq:=hp
 unfold pendingOf at hq
 rw[hq]
 have e0 : #[(0,n1,p1),(n1,n-n1,p2)][0]?=some (0,n1,p1):=rfl
 have e1 : #[(0,n1,p1),(n1,n-n1,p2)][0+1]?=some (n1,n-n1,p2):=rfl
 rw[e0,e1]
 dsimp only
 have ep:(#[(0,n1,p1),(n1,n-n1,p2)].setIfInBounds 0 (0,n1+(n-n1),p1)).eraseIdxIfInBounds (0+1) = #[(0,n,p1)]:=by
  rw[show n1+(n-n1)=n by omega]
  apply Array.toList_inj.mp
  simp[Array.setIfInBounds,Array.eraseIdxIfInBounds]
 rw[ep]
 refine wpS_bind (zlv ?_)
 have t2:TB it κ n (setPending st #[(0,n,p1)]):=⟨t.z,t.i,t.k,t.f⟩
 have hz:=t.z
 refine wpS_bind (t_elem (show n1<(arrOf st).size by omega) ?_)
 refine wpS_bind (yD C t2.k (t.i.at (i:=n1) (by omega)) t.i (by omega) (by omega) fun k hk1=>?_)
 dsimp only
 by_cases q1:(n1-k == 0)=true
 ·rw[if_pos q1]
  exact wpS_pure (h _ t2 rfl)
 rw[if_neg q1]
 have q1:n1-k≠0:=fun z=>q1 (by simp[z])
 refine wpS_bind (t_elem (show 0+k+(n1-k)-1<(arrOf st).size by omega) ?_)
 refine wpS_bind (yD C t2.k (t.i.at (i:=0+k+(n1-k)-1) (by omega)) t.i (by omega) (by omega) fun m hm1=>?_)
 dsimp only
 by_cases q2:(m == 0)=true
 ·rw[if_pos q2]
  exact wpS_pure (h _ t2 rfl)
 rw[if_neg q2]
 have q2:m≠0:=fun z=>q2 (by simp[z])
 have fin:∀ (o:Array Keyed) (st3:SortSt),In it o→Eqv (setPending st #[(0,n,p1)]) st3→wpS (model prog w) A E s (do
   modify fun u=>setArr u (o.toList.zipIdx.foldl (fun a (q,j)=>a.setIfInBounds (0+k+j) q) (arrOf u))
   return (failedOf (← get)).isNone) Q st3:=fun o st3 ho ev=>by
  refine wpS_bind (wpS_modify (wpS_bind (wpS_get ?_)))
  have hf:failedOf st3=none:=ev.f.trans t.f
  have e:(failedOf (setArr st3 (o.toList.zipIdx.foldl (fun a (q,j)=>a.setIfInBounds (0+k+j) q) (arrOf st3)))).isNone=true:=by
   show(failedOf st3).isNone=true
   rw[hf];rfl
  rw[e]
  refine wpS_pure (h _ ⟨?_,?_,ev.k.trans t.k,hf⟩ ev.p)
  ·exact(vi _ _ _).trans ((congrArg Array.size ev.a).trans hz)
  ·refine Yz _ _ _ ?_ (zaz ho)
   rw[ev.a]
   exact t.i
 by_cases q3:n1-k≤m
 ·rw[if_pos q3]
  exact wpS_bind (ZB C t2.k t.i.ext t.i.ext (by simp;omega) (by simp;omega) fin)
 ·rw[if_neg q3]
  exact wpS_bind (ZC C t2.k t.i.ext t.i.ext (by simp;omega) (by simp;omega) fin)
theorem Xe:∀ z,z≤66→2≤z→z≤2*minRun' z z 0∧minRun' z z 0≤z∧1≤minRun' z z 0:=by decide
theorem zaF (C:Cmp prog w A s it κ){st:SortSt}(t:TB it κ n st) (hp:pendingOf st = #[]) (h2:2≤n) (h66:n≤66){Q:Unit→SortSt→Prop}(h:∀ st',TB it κ n st'→Q () st'):wpS (model prog w) A E s sortRuns' Q st:=by
 obtain⟨r1,r2,r3⟩:=Xe n h66 h2
 rw[sortRuns'_eq]
 refine wpS_bind (wpS_get ?_)
 rw[t.z]
 dsimp only
 refine wpS_bind (wpS_mono (wpS_forRange (I:=fun i c st'=>TB it κ n st'∧∃ lo,c=(none,lo)∧i≤lo∧((lo=0∧pendingOf st' = #[])∨(1≤lo∧lo≤n∧(lo=n∨minRun' n n 0≤lo)∧∃ p1,pendingOf st' = #[(0,lo,p1)])∨(lo=n∧∃ n1 p1 p2,1≤n1∧n1<n∧pendingOf st' = #[(0,n1,p1),(n1,n-n1,p2)])))
  (Q:=fun c st'=>TB it κ n st'∧∃ lo,c=(none,lo)∧((∃ p1,pendingOf st' = #[(0,n,p1)])∨∃ n1 p1 p2,1≤n1∧n1<n∧pendingOf st' = #[(0,n1,p1),(n1,n-n1,p2)])) ?_ ?_ ⟨t,0,rfl,Nat.le_refl _,.inl ⟨rfl,hp⟩⟩) ?_)
 ·rintro i c st1 _ hi ⟨t1,lo,rfl,hil,hc⟩
  dsimp only
  by_cases q1:lo≥n
  ·rw[if_pos q1]
   refine wpS_pure ⟨t1,lo,rfl,?_⟩
   rcases hc with⟨l0,_⟩ | ⟨l1,l2,l3,p1,hpd⟩ | ⟨l0,hpd⟩
   ·omega
   ·have:lo=n:=by omega
    subst this
    exact .inl ⟨p1,hpd⟩
   ·exact .inr hpd
  rw[if_neg q1]
  refine wpS_bind (Vu (p:=pendingOf st1) C ⟨t1,rfl⟩ (by omega) (by omega) fun fd st0 f1 f2 o0=>?_)
  dsimp only
  by_cases q2:fd<minRun' n n 0
  ·rw[if_pos q2]
   refine wpS_bind (wpS_lift (wpAny_rule ⟨rfl,?_⟩))
   refine wpS_bind (zlx C o0 (by omega) fun st2 o2=>?_)
   simp only[Bool.not_true,Bool.false_eq_true,if_false]
   refine wpS_bind (wpS_get ?_)
   rcases hc with⟨l0,hpd⟩ | ⟨l1,l2,l3,p1,hpd⟩ | ⟨l0,_⟩
   ·subst l0
    rw[o2.2,hpd]
    refine wpS_bind (wpS_modify (wpS_pure ⟨⟨o2.1.z,o2.1.i,o2.1.k,o2.1.f⟩,_,rfl,by omega,.inr (.inl ⟨by omega,by omega,by omega,0,?_⟩)⟩))
    show(pendingOf st2).push _=_
    rw[o2.2,hpd,Nat.zero_add]
    rfl
   ·have hRe:min (n-lo) (minRun' n n 0)=n-lo:=by omega
    have hpd2:pendingOf st2 = #[(0,lo,p1)]:=o2.2.trans hpd
    rw[hpd2]
    refine wpS_bind (wpS_mono (wpS_forRange (I:=fun _ c st'=>st'=st2∧c=(none,())) (Q:=fun c st'=>st'=st2∧c=(none,())) ?_ (fun _ _ h=>h) ⟨rfl,rfl⟩) ?_)
    ·rintro j c st3 _ hj ⟨rfl,rfl⟩
     refine wpS_bind (wpS_get ?_)
     rw[hpd2]
     exact wpS_pure ⟨rfl,rfl⟩
    ·rintro c st3 ⟨rfl,rfl⟩
     refine wpS_bind (wpS_modify (wpS_bind (wpS_modify (wpS_pure ⟨⟨o2.1.z,o2.1.i,o2.1.k,o2.1.f⟩,_,rfl,by omega,.inr (.inr ⟨by omega,lo,power' n (2*0+lo) (2*0+lo+lo+min (n-lo) (minRun' n n 0)) n,0,by omega,by omega,?_⟩)⟩))))
     show((pendingOf st3).modify ((pendingOf st3).size-1) _).push _=_
     rw[hpd2,hRe]
     apply Array.toList_inj.mp
     simp[Array.modify]
     rfl
   ·omega
  ·rw[if_neg q2]
   obtain⟨st2,e2⟩:∃ st2,st2=st0:=⟨_,rfl⟩
   rw[← e2] at o0 ⊢
   have o2:=o0
   refine wpS_bind (wpS_get ?_)
   rcases hc with⟨l0,hpd⟩ | ⟨l1,l2,l3,p1,hpd⟩ | ⟨l0,_⟩
   ·subst l0
    rw[o2.2,hpd]
    refine wpS_bind (wpS_modify (wpS_pure ⟨⟨o2.1.z,o2.1.i,o2.1.k,o2.1.f⟩,_,rfl,by omega,.inr (.inl ⟨by omega,by omega,by omega,0,?_⟩)⟩))
    show(pendingOf st2).push _=_
    rw[o2.2,hpd,Nat.zero_add]
    rfl
   ·have hRe:fd=n-lo:=by omega
    have hpd2:pendingOf st2 = #[(0,lo,p1)]:=o2.2.trans hpd
    rw[hpd2]
    refine wpS_bind (wpS_mono (wpS_forRange (I:=fun _ c st'=>st'=st2∧c=(none,())) (Q:=fun c st'=>st'=st2∧c=(none,())) ?_ (fun _ _ h=>h) ⟨rfl,rfl⟩) ?_)
    ·rintro j c st3 _ hj ⟨rfl,rfl⟩
     refine wpS_bind (wpS_get ?_)
     rw[hpd2]
     exact wpS_pure ⟨rfl,rfl⟩
    ·rintro c st3 ⟨rfl,rfl⟩
     refine wpS_bind (wpS_modify (wpS_bind (wpS_modify (wpS_pure ⟨⟨o2.1.z,o2.1.i,o2.1.k,o2.1.f⟩,_,rfl,by omega,.inr (.inr ⟨by omega,lo,power' n (2*0+lo) (2*0+lo+lo+fd) n,0,by omega,by omega,?_⟩)⟩))))
     show((pendingOf st3).modify ((pendingOf st3).size-1) _).push _=_
     rw[hpd2,hRe]
     apply Array.toList_inj.mp
     simp[Array.modify]
     rfl
   ·omega
 ·rintro c st1 ⟨t1,lo,rfl,hil,hc⟩
  refine⟨t1,lo,rfl,?_⟩
  rcases hc with⟨l0,_⟩ | ⟨l1,l2,l3,p1,hpd⟩ | ⟨l0,hpd⟩
  ·omega
  ·have:lo=n:=by omega
   subst this
   exact .inl ⟨p1,hpd⟩
  ·exact .inr hpd
 ·rintro c st1 ⟨t1,lo,rfl,hc⟩
  dsimp only
  refine wpS_bind (wpS_mono (wpS_forRange (I:=fun _ c st'=>TB it κ n st'∧c=(none,())∧((∃ p1,pendingOf st' = #[(0,n,p1)])∨∃ n1 p1 p2,1≤n1∧n1<n∧pendingOf st' = #[(0,n1,p1),(n1,n-n1,p2)])) (Q:=fun c st'=>TB it κ n st'∧c=(none,())) ?_ (fun _ _ h=>⟨h.1,h.2.1⟩) ⟨t1,rfl,hc⟩) ?_)
  ·rintro i c st2 _ hi ⟨t2,rfl,hc⟩
   refine wpS_bind (wpS_get ?_)
   rcases hc with⟨p1,hpd⟩ | ⟨n1,p1,p2,h1,h2,hpd⟩
   ·rw[hpd]
    exact wpS_pure ⟨t2,rfl⟩
   ·rw[hpd]
    refine wpS_bind (ZD C t2 hpd h1 h2 fun st3 t3 hp3=>?_)
    exact wpS_pure ⟨t3,rfl,.inl ⟨_,hp3⟩⟩
  ·rintro c st2 ⟨t2,rfl⟩
   exact wpS_pure (h st2 t2)
end
end Srt
end L2

namespace L2
namespace Srt
open PySem PyProof.Rows PySem.W
def Pr (h:Heap) (v:Value):Prop:=∃ x o i j t u n,v=.ref x∧h.get? x=some o∧o.cls=.type "tuple" ∧ o.data=.seq #[.int i t,.int j u] n
section
variable {prog:Program}{w:World}{A:Around}{E:Value→Shared→Prop}{s:Shared}
theorem zmR {x y:Value}(hx:Pr s.heap x) (hy:Pr s.heap y){Q:Bool→Shared→Prop}(h:∀ b,Q b s):wpAny (model prog w) A (keyLt' (tuples' true) x y) Q E s:=by
 obtain⟨x,o,i,j,t,u,n,rfl,ho,_,hd⟩:=hx
 obtain⟨y,o',i',j',t',u',n',rfl,ho',_,hd'⟩:=hy
 refine kat_lt ho hd ho' hd' (kat_cons (wpAny_eqBool_int ?_))
 refine kat_go (fun _=>kat_yes (kat_cons (wpAny_eqBool_int ?_))) fun _=>kat_no (oneLt_int (h _))
 exact kat_go (fun _=>kat_yes (kat_nil (h _))) fun _=>kat_no (kat_one _ _ (lt_int (h _)))
theorem YB:∀ {vs:List Value},(∀ v∈vs,Pr s.heap v)→∃ fs:List Value,KatTups s.heap vs fs∧fs.length=vs.length∧∀ f∈fs,∃ i t,f=.int i t
 |[],_=>⟨[],.nil,rfl,fun f hf=>by cases hf⟩
 |v::vs,h=>by
  obtain⟨fs,k,hl,hi⟩:=YB (vs:=vs) fun v hv=>h v (List.mem_cons_of_mem _ hv)
  obtain⟨x,o,i,j,t,u,n,rfl,ho,hc,hd⟩:=h v List.mem_cons_self
  refine⟨.int i t::fs,.cons ho hc hd rfl k,by simp[hl],fun f hf=>?_⟩
  rcases List.mem_cons.mp hf with rfl | hf
  ·exact⟨i,t,rfl⟩
  ·exact hi f hf
theorem VI {vs:List Value}(h:∀ v∈vs,Pr s.heap v) (hne:0<vs.length){Q:SortKind→Shared→Prop}(q:Q (tuples' true) s):wpAny (model prog w) A (keyKind' vs.toArray) Q E s:=by
 obtain⟨fs,k,hl,hi⟩:=YB h
 refine kat_kind (T:=.type "int") k (by omega) (fun v hv=>?_) rfl q
 obtain⟨i,t,rfl⟩:=hi v hv
 exact Looks.of_pure rfl
theorem xx {vs:List Value}{p:Keyed}(h:p∈vs.toArray.zip vs.toArray):p.1∈vs∧p.2∈vs:=by
 have h:p∈(vs.toArray.zip vs.toArray).toList:=Array.mem_def.mp h
 rw[Array.toList_zip] at h
 obtain⟨a,b⟩:=p
 exact List.of_mem_zip h
theorem VH {vs:List Value}(h:∀ v∈vs,Pr s.heap v) (h2:2≤vs.length) (h66:vs.length≤66){Q:Unit→SortSt→Prop}
  (q:∀ st':SortSt,failedOf st'=none→((arrOf st').map (·.2)).size=vs.length→(∀ v∈(arrOf st').map (·.2),v∈vs)→Q () st') :
  wpS (model prog w) A E s sortRuns' Q (SortSt.mk' (tuples' true) (vs.toArray.zip vs.toArray) #[] 7 none):=by
 have hz:(vs.toArray.zip vs.toArray).size=vs.length:=by simp
 refine zaF (it:=(vs.toArray.zip vs.toArray).toList) (κ:=tuples' true) (n:=vs.length) (fun x hx y hy Q E hq=>?_) ⟨hz,fun x hx=>Array.mem_def.mp hx,rfl,rfl⟩ rfl h2 h66 fun st' t=>q st' t.f ?_ fun v hv=>?_
 ·exact zmR (h _ (xx (Array.mem_def.mpr hx)).1) (h _ (xx (Array.mem_def.mpr hy)).1) hq
 ·rw[Array.size_map];exact t.z
 ·obtain⟨p,hp,rfl⟩:=Array.mem_map.mp hv
  exact(xx (Array.mem_def.mpr (t.i p hp))).2
theorem Pr.keeps {h h':Heap}{v:Value}(p:Pr h v) (k:∀ b o,h.get? b=some o→o.cls=.type "tuple" → h'.get? b=some o):Pr h' v:=by
 obtain⟨x,o,i,j,t,u,n,e,ho,hc,hd⟩:=p
 exact⟨x,o,i,j,t,u,n,e,k _ _ ho hc,hc,hd⟩
theorem u9 {a:Addr}{vs:List Value}{n:Nat}{P:PySem.Fin→Shared→Prop}(ho:s.heap.get? a=some (seqObj "list" vs.toArray n)) (hp:∀ v∈vs,Pr s.heap v) (h66:vs.length≤66)
  (h:∀ o:Array Value,o.size=vs.length→(∀ v∈o,v∈vs)→P (.done (.ret .none)) { s with heap:=sortedHeap s.heap a vs o }):wpAny (model prog w) A (Builtin.«list.sort» ⟨[.ref a],[]⟩) P E s:=by
 have big:66≤sizeLine:=by decide
 have ha:=Heap.lt_size ho
 rw[list_sort_plain]
 refine wpAny_bind (listItems_at ho rfl (wpAny_bind (listUpdate_at ho rfl ?_ (by simp;omega) (Nat.zero_le _))))
 have o1:=get?_update_seq ho (fun _=>(#[]:Array Value))
 refine wpAny_bind (seqEpoch_at o1 rfl (wpAny_bind (wpAny_newTuple (wpAny_bind (wpAny_newList (wpAny_holding ?_) (Nat.zero_le _))) (by show vs.length≤_;omega))))
 generalize hH:Heap.push (Heap.push (s.heap.update a (Obj.mapSeq fun _=>(#[]:Array Value))) (seqObj "tuple" vs.toArray 0)) (seqObj "list" #[] 0)=H6
 have hs:∀ o:Array Value,sortedHeap s.heap a vs o=H6.update a (Obj.mapSeq fun _=>o):=fun o=>by rw[← hH];rfl
 have o6:=Heap.get?_push_of_some (seqObj "list" #[] 0) (Heap.get?_push_of_some (seqObj "tuple" vs.toArray 0) o1)
 rw[hH] at o6
 have hp6:∀ v∈vs,Pr H6 v:=fun v hv=>(hp v hv).keeps fun b o e hc=>by
  have hb:a≠b:=fun z=>by
   rw[← z,ho] at e
   cases e
   have hc:Value.type "list" = .type "tuple" := hc
   injection hc with hc
   exact absurd hc (by decide)
  rw[← hH]
  refine Heap.get?_push_of_some _ (Heap.get?_push_of_some _ ?_)
  rw[Heap.get?_update_other _ _ hb]
  exact e
 have e6:({ s with heap:=Heap.push (Heap.push (s.heap.update a (Obj.mapSeq fun _=>(#[]:Array Value))) (seqObj "tuple" vs.toArray 0)) (seqObj "list" #[] 0) }:Shared)={ s with heap:=H6 }:=by rw[hH]
 refine(show wpAny (model prog w) A _ P E { s with heap:=H6 } from ?_)
 dsimp only
 have hz0:((vs.toArray.zip vs.toArray).map (fun p:Keyed=>p.2)).size=vs.length:=by simp
 by_cases q:vs.toArray.size<2
 ·rw[if_pos q,if_pos q]
  refine wpAny_bind (wpAny_pure ?_)
  rw[StateT.run_pure]
  refine wpAny_bind (wpAny_pure (wpAny_bind (seqEpoch_at o6 rfl (wpAny_bind (listUpdate_at o6 rfl ?_ (Nat.zero_le _) (by show((vs.toArray.zip vs.toArray).map (fun p:Keyed=>p.2)).size≤_;omega))))))
  simp only[bne_self_eq_false,Bool.false_eq_true,if_false]
  refine wpAny_pure ?_
  rw[← hs]
  refine h _ hz0 fun v hv=>?_
  obtain⟨p,hp',rfl⟩:=Array.mem_map.mp hv
  exact(xx hp').2
 ·rw[if_neg q,if_neg q]
  have q:2≤vs.length:=by simp at q;omega
  refine wpAny_bind (VI hp6 (by omega) ?_)
  refine wpAny_bind (wpAny_mono (VH (s:={ s with heap:=H6 }) hp6 q h66 (Q:=fun _ st'=>failedOf st'=none∧((arrOf st').map (·.2)).size=vs.length∧∀ v∈(arrOf st').map (·.2),v∈vs) fun st' a1 a2 a3=>⟨a1,a2,a3⟩) ?_ fun _ _ e=>e)
  rintro⟨⟨⟩,st'⟩ s' ⟨rfl,hf,hz,hm⟩
  refine wpAny_bind (seqEpoch_at o6 rfl (wpAny_bind (listUpdate_at o6 rfl ?_ (Nat.zero_le _) (by omega))))
  rw[hf]
  simp only[bne_self_eq_false,Bool.false_eq_true,if_false]
  refine wpAny_pure ?_
  rw[← hs]
  exact h _ hz hm
theorem vg {l:Addr}{vs:List Value}{Q:Value→Shared→Prop}(hl:s.heap.IsList l vs.toArray) (hp:∀ v∈vs,Pr s.heap v) (h66:vs.length≤66)
  (h:∀ o:Array Value,o.size=vs.length→(∀ v∈o,v∈vs)→Q (.ref (s.heap.objs.size+1)) { s with heap:=sortedAll s.heap vs o }):wpAny (model prog w) A (call (.builtin "sorted") [.ref l]) Q E s:=by
 have big:66≤sizeLine:=by decide
 refine Calls.call_function_entry kind_sorted plain_sorted entry_sorted (args_sorted1 _) ?_
 unfold Builtin.«sorted»
 refine wpAny_bind (m:=checkCount "sorted" 1 1 _) (wpAny_pure (wpAny_bind (collect_list hl (wpAny_bind (wpAny_newList ?_ (by show vs.length≤_;omega))) (by omega))))
 have hz:(Heap.update (Heap.push s.heap (seqObj "list" #[] 0)) s.heap.objs.size (Obj.mapSeq fun x=>x++vs.toArray)).objs.size=s.heap.objs.size+1:=(Heap.size_update _ _ _).trans (size_push' _ _)
 have hk:∀ b o,s.heap.get? b=some o→(Heap.push (Heap.update (Heap.push s.heap (seqObj "list" #[] 0)) s.heap.objs.size (Obj.mapSeq fun x=>x++vs.toArray)) (seqObj "list" vs.toArray 0)).get? b=some o:=fun b o e=>by
  refine Heap.get?_push_of_some _ ?_
  rw[Heap.get?_update_other _ _ (Nat.ne_of_gt (Heap.lt_size e))]
  exact Heap.get?_push_of_some _ e
 have ho:=Heap.get?_push_size (Heap.update (Heap.push s.heap (seqObj "list" #[] 0)) s.heap.objs.size (Obj.mapSeq fun x=>x++vs.toArray)) (o:=seqObj "list" vs.toArray 0) rfl
 refine(show wpAny _ _ _ _ _ { s with heap:=Heap.push (Heap.update (Heap.push s.heap (seqObj "list" #[] 0)) s.heap.objs.size (Obj.mapSeq fun x=>x++vs.toArray)) (seqObj "list" vs.toArray 0) } from ?_)
 rw[hz] at ho ⊢
 refine wpAny_bind (wpAny_holding (wpAny_call_entry slot_list_sort ⟨_,ho,rfl⟩ entry_list_sort ?_ (args_list_sort _)))
 refine u9 ho (fun v hv=>(hp v hv).keeps fun b o e _=>hk b o e) h66 fun o z m=>⟨_,rfl,wpAny_pure ⟨_,rfl,h o z m⟩⟩
end
section
variable {X:Cx}
theorem wZ {ys:List V}:∀ {l:List Value},(∀ v∈l,∃ y∈ys,RelV y v)→∃ zs,Vals zs l∧∀ z∈zs,z∈ys
 |[],_=>⟨[],.nil,fun z hz=>by cases hz⟩
 |v::l,h=>by
  obtain⟨zs,r,m⟩:=wZ (l:=l) fun v hv=>h v (List.mem_cons_of_mem _ hv)
  obtain⟨y,hy,e⟩:=h v List.mem_cons_self
  refine⟨y::zs,.cons e r,fun z hz=>?_⟩
  rcases List.mem_cons.mp hz with rfl | hz
  ·exact hy
  ·exact m z hz
def zf4 (K:PySem.W.Frag):List V→Hp→VK→Prop:=fun xs H Q=>∃ (a:Addr) (ys:List V),xs=[V.ref a]∧SqL K H a ys∧ys.length≤66∧(∀ y∈ys,∃ q i j,y=.ref q∧H q=some (.tup [.int i,.int j])) ∧
 ∀ (p:Addr) (zs:List V),H p=none→zs.length=ys.length→(∀ z∈zs,z∈ys)→Q (.ref p) (upd H p (.lst zs))
theorem wn:yC X (.builtin "sorted") (zf4 X.K):=by
 intro pins s σ H xs us Q I r h
 obtain⟨a,ys,rfl,ha,h66,hy,q⟩:=h
 obtain⟨u,rfl,ru⟩:=r.one
 cases ru
 obtain⟨its,rv,p,hz⟩:=I.list ha
 have hl:=rv.length
 have back:∀ v∈its,∃ y∈ys,RelV y v:=fun v hv=>by
  obtain⟨i,hi,e⟩:=List.getElem_of_mem hv
  have hi':i<ys.length:=by omega
  obtain⟨u,hu,ru⟩:=rv.get (i:=i) (x:=ys[i]) (by simp[hi'])
  rw[List.getElem?_eq_getElem hi] at hu
  cases hu
  exact⟨ys[i],List.getElem_mem hi',e ▸ ru⟩
 refine vg p.isList (fun v hv=>?_) (by omega) fun o z m=>?_
 ·obtain⟨y,hy',e⟩:=back v hv
  obtain⟨t,i,j,rfl,ht⟩:=hy y hy'
  cases e
  obtain⟨_,vs,rr,ob,e1,e2,n,e3⟩:=(show ObjOk X.prog X.w H s.heap t (.tup [.int i,.int j]) from I.hok t _ ht)
  cases rr with
  |cons r1 rr =>
   cases rr with
   |cons r2 rr =>
    cases rr
    obtain⟨t1,rfl⟩:=r1
    obtain⟨t2,rfl⟩:=r2
    exact⟨t,ob,i,j,t1,t2,n,rfl,e1,e2,e3⟩
 ·obtain⟨zs,rz,mz⟩:=wZ (ys:=ys) (l:=o.toList) fun v hv=>back v (m v (Array.mem_def.mpr hv))
  have hn:H (s.heap.objs.size+1)=none:=I.hok.fresh (Nat.le_succ _)
  have lz:zs.length=ys.length:=by rw[rz.length,Array.length_toList,z,hl]
  obtain⟨c,hc⟩:=sortedAll_at s.heap its o
  refine⟨.ref _,_,I.laid (a:=s.heap.objs.size+1) (o:=.lst zs) (t':=s.toks) (fun _ _ e=>sortedAll_old e) (Nat.le_succ _) ⟨by rw[lz];exact hz,o.toList,c,rz,hc⟩,rfl,q _ zs hn lz mz⟩
end
end Srt
end L2

namespace L2
namespace Srt
open PySem PyProof.Rows PySem.W
end Srt
end L2

namespace K04
open PySem L2
structure Hs (hs:List Int):Prop where
 l1:1≤hs.length
 l12:hs.length≤12
 up:hs.Pairwise (· < ·)
 lo:∀ h∈hs,0≤h
 hi:∀ h∈hs,h≤99
structure Ls (hs:List Int) (ls:List (Int×Int)):Prop where
 nd:ls.Nodup
 ok:∀ p∈ls,p.1∈hs∧p.2∈hs∧p.1<p.2
 le:ls.length≤66
def Adj (ls:List (Int×Int)) (x y:Int):Prop:=(x,y)∈ls∨(y,x)∈ls
theorem XZ {as:List Int}(h:as.Pairwise (· < ·)):as.Nodup:=h.imp fun {a b} z=>by omega
theorem Xa:∀ {as bs:List Int},as.Nodup→(∀ x∈as,x∈bs)→as.length≤bs.length
 |[],_,_,_=>Nat.zero_le _
 |a::as,bs,hn,hs=>by
  rw[List.nodup_cons] at hn
  have ha:=hs a List.mem_cons_self
  have ih:=Xa (as:=as) (bs:=bs.erase a) hn.2 fun x hx=>by
   have ne:x≠a:=fun z=>hn.1 (by rw[← z];exact hx)
   exact(List.mem_erase_of_ne ne).mpr (hs x (List.mem_cons_of_mem _ hx))
  rw[List.length_erase_of_mem ha] at ih
  have:=List.length_pos_of_mem ha
  rw[List.length_cons];omega
noncomputable def nbs (ls:List (Int×Int)) (h:Int):List Int:=ls.flatMap fun p=>(if p.1=h then[p.2] else[])++if p.2=h then[p.1] else[]
theorem mem_nbs {ls:List (Int×Int)}{h x:Int}:x∈nbs ls h↔Adj ls h x:=by
 unfold nbs Adj
 rw[List.mem_flatMap]
 constructor
 ·rintro⟨⟨u,v⟩,hp,hx⟩
  dsimp only at hx
  rw[List.mem_append] at hx
  rcases hx with hx | hx
  ·split at hx
   ·rename_i e;subst e
    rw[List.mem_singleton] at hx;subst hx;exact .inl hp
   ·cases hx
  ·split at hx
   ·rename_i e;subst e
    rw[List.mem_singleton] at hx;subst hx;exact .inr hp
   ·cases hx
 ·rintro(h1 | h1)
  ·exact⟨_,h1,by simp⟩
  ·exact⟨_,h1,by simp⟩
theorem Xc {h:Int}:∀ {ls:List (Int×Int)},(nbs ls h).length≤2*ls.length
 |[]=>Nat.le_refl _
 |p::ls=>by
  have ih:=Xc (h:=h) (ls:=ls)
  unfold nbs at ih ⊢
  rw[List.flatMap_cons,List.length_append,List.length_append,List.length_cons]
  have h1:(if p.1=h then[p.2] else[]).length≤1:=by split<;>simp
  have h2:(if p.2=h then[p.1] else[]).length≤1:=by split<;>simp
  omega
theorem Ww {ls:List (Int×Int)}{p:Int×Int}{h:Int}:nbs (ls++[p]) h=nbs ls h++((if p.1=h then[p.2] else[])++if p.2=h then[p.1] else[]):=by
 unfold nbs
 rw[List.flatMap_append,List.flatMap_cons,List.flatMap_nil,List.append_nil]
theorem Wv {ls:List (Int×Int)}{p:Int×Int}{i:Nat}{h:Int}(e:ls[i]?=some p):nbs (ls.take (i+1)) h=nbs (ls.take i) h++((if p.1=h then[p.2] else[])++if p.2=h then[p.1] else[]):=by
 rw[List.take_add_one,e]
 exact Ww
end K04

namespace K04
open PySem L2
noncomputable def top (i:Nat):Stmt:=PySem.Challenge.pw_beatless_k25_whole_no_word_goes_faster.main.body.getD i (.Pass ⟨0,0,0,0⟩)
abbrev Z6:Stmt:=top 2
abbrev Z5:Stmt:=top 3
abbrev Z4:Stmt:=top 4
abbrev Z3:Stmt:=top 5
abbrev Z2:Stmt:=top 6
abbrev Z1:Stmt:=top 7
abbrev Z0:Stmt:=top 8
abbrev ZZ:Stmt:=top 9
abbrev ZY:Stmt:=top 23
abbrev ZX:Stmt:=top 31
abbrev ZW:Stmt:=top 32
abbrev ZV:Stmt:=top 33
abbrev ZU:Stmt:=top 34
abbrev ZT:Stmt:=top 35
abbrev uW:Stmt:=top 36
abbrev ZS:Stmt:=top 41
abbrev ZR:Stmt:=top 42
abbrev ZQ:Stmt:=top 43
abbrev ZP:Stmt:=top 44
abbrev ZO:Stmt:=top 47
abbrev ZN:Stmt:=top 48
abbrev uV:Stmt:=top 49
abbrev ZM:Stmt:=top 50
abbrev ZL:Stmt:=top 51
abbrev ZK:Stmt:=top 52
abbrev ZJ:Stmt:=top 53
abbrev Yr:Stmt:=top 54
abbrev Yq:Stmt:=top 55
abbrev Yp:Stmt:=top 56
abbrev Yo:Stmt:=top 57
abbrev Yn:Stmt:=top 58
abbrev u0:Stmt:=top 59
abbrev uZ:Stmt:=top 60
abbrev Ym:Stmt:=inClass (top 12) 0
abbrev Yl:Stmt:=inClass (top 12) 1
abbrev Yk:Stmt:=inClass (top 12) 3
abbrev Yj:Stmt:=inClass (top 13) 0
abbrev Yi:Stmt:=inClass (top 13) 1
abbrev Yh:Stmt:=inClass (top 13) 3
abbrev Yg:Stmt:=inClass (top 14) 0
abbrev Yf:Stmt:=inClass (top 14) 1
abbrev Ye:Stmt:=inClass (top 14) 3
abbrev Yd:Stmt:=inClass (top 15) 0
abbrev Yc:Stmt:=inClass (top 15) 1
abbrev Yb:Stmt:=inClass (top 15) 3
abbrev Ya:Stmt:=inClass (top 16) 0
abbrev Z9:Stmt:=inClass (top 16) 1
abbrev Z8:Stmt:=inClass (top 16) 3
abbrev Z7:Stmt:=inClass (top 37) 0
abbrev uY:Stmt:=inClass (top 37) 1
abbrev vS:Stmt:=inClass (top 37) 2
abbrev uX:Stmt:=inClass (top 37) 3
abbrev vf:Stmt:=inClass (top 45) 0
abbrev ve:Stmt:=inClass (top 45) 1
abbrev uw:Stmt:=inClass (top 45) 2
abbrev vd:Stmt:=inClass (top 45) 3
abbrev vc:Stmt:=inClass (top 45) 5
theorem zmv:FnScope ["web", "program"] ["web", "program"] (defScope Z6):=⟨rfl,rfl,rfl,by decide +kernel,rfl,by decide +kernel,by decide +kernel⟩
theorem sc_qb:FnScope ["web", "program", "worths", "turn", "heard", "hand", "near", "other", "number"] ["web", "program", "worths", "turn"] (defScope Z5):=⟨rfl,rfl,rfl,by decide +kernel,rfl,by decide +kernel,by decide +kernel⟩
theorem sc_qc:FnScope ["web", "program", "worths", "turn", "heard", "found", "hand", "lines", "numbers"] ["web", "program", "worths", "turn", "heard"] (defScope Z4):=⟨rfl,rfl,rfl,by decide +kernel,rfl,by decide +kernel,by decide +kernel⟩
theorem sc_qd:FnScope ["pieces", "program", "last", "worths", "heard", "web", "rounds", "first", "turn"] ["pieces", "program"] (defScope Z3):=⟨rfl,rfl,rfl,by decide +kernel,rfl,by decide +kernel,by decide +kernel⟩
theorem zmu:FnScope ["pieces", "program"] ["pieces", "program"] (defScope Z2):=⟨rfl,rfl,rfl,by decide +kernel,rfl,by decide +kernel,by decide +kernel⟩
theorem zmt:FnScope ["pieces", "program"] ["pieces", "program"] (defScope Z1):=⟨rfl,rfl,rfl,by decide +kernel,rfl,by decide +kernel,by decide +kernel⟩
theorem zms:FnScope ["web", "program", "rounds"] ["web", "program", "rounds"] (defScope Z0):=⟨rfl,rfl,rfl,by decide +kernel,rfl,by decide +kernel,by decide +kernel⟩
theorem zmr:FnScope ["web", "program", "rounds"] ["web", "program", "rounds"] (defScope ZZ):=⟨rfl,rfl,rfl,by decide +kernel,rfl,by decide +kernel,by decide +kernel⟩
theorem zfX:FnScope ["value"] ["value"] (defScope ZY):=⟨rfl,rfl,rfl,by decide +kernel,rfl,by decide +kernel,by decide +kernel⟩
theorem zmq:FnScope ["value"] ["value"] (defScope ZX):=⟨rfl,rfl,rfl,by decide +kernel,rfl,by decide +kernel,by decide +kernel⟩
theorem zmp:FnScope ["word", "words"] ["word", "words"] (defScope ZW):=⟨rfl,rfl,rfl,by decide +kernel,rfl,by decide +kernel,by decide +kernel⟩
theorem zmo:FnScope ["number"] ["number"] (defScope ZV):=⟨rfl,rfl,rfl,by decide +kernel,rfl,by decide +kernel,by decide +kernel⟩
theorem sc_qm:FnScope ["parts", "names", "deep", "part"] ["parts", "names", "deep"] (defScope ZU):=⟨rfl,rfl,rfl,by decide +kernel,rfl,by decide +kernel,by decide +kernel⟩
theorem zmn:FnScope ["expr", "names", "deep"] ["expr", "names", "deep"] (defScope ZT):=⟨rfl,rfl,rfl,by decide +kernel,rfl,by decide +kernel,by decide +kernel⟩
theorem zmm:FnScope ["exprs"] ["exprs"] (defScope uW):=⟨rfl,rfl,rfl,by decide +kernel,rfl,by decide +kernel,by decide +kernel⟩
theorem sc_qp:FnScope ["hands", "ahead", "hand"] ["hands"] (defScope ZS):=⟨rfl,rfl,rfl,by decide +kernel,rfl,by decide +kernel,by decide +kernel⟩
theorem zml:FnScope ["line", "hands"] ["line", "hands"] (defScope ZR):=⟨rfl,rfl,rfl,by decide +kernel,rfl,by decide +kernel,by decide +kernel⟩
theorem sc_qr:FnScope ["lines", "hands", "seen", "line"] ["lines", "hands"] (defScope ZQ):=⟨rfl,rfl,rfl,by decide +kernel,rfl,by decide +kernel,by decide +kernel⟩
theorem sc_qs:FnScope ["hands", "lines", "near", "hand", "one", "other"] ["hands", "lines"] (defScope ZP):=⟨rfl,rfl,rfl,by decide +kernel,rfl,by decide +kernel,by decide +kernel⟩
theorem zmk:FnScope ["_law_script", "_law_k"] ["_law_script", "_law_k"] (defScope ZO):=⟨rfl,rfl,rfl,by decide +kernel,rfl,by decide +kernel,by decide +kernel⟩
theorem sc_qu:FnScope ["_law_cell", "_law_many", "_law_found", "_law_rest", "_law_number", "_law_k", "_law_mixed"] ["_law_cell", "_law_many"] (defScope ZN):=⟨rfl,rfl,rfl,by decide +kernel,rfl,by decide +kernel,by decide +kernel⟩
theorem zmj:FnScope ["_law_xs", "_law_size"] ["_law_xs", "_law_size"] (defScope uV):=⟨rfl,rfl,rfl,by decide +kernel,rfl,by decide +kernel,by decide +kernel⟩
theorem sc_qw:FnScope ["_law_xs", "_law_most", "_law_hand", "_law_found", "_law_k"] ["_law_xs", "_law_most"] (defScope ZM):=⟨rfl,rfl,rfl,by decide +kernel,rfl,by decide +kernel,by decide +kernel⟩
theorem sc_qx:FnScope ["_law_xs", "_law_hands_here", "_law_way", "_law_found", "_law_j", "_law_k", "_law_near_here", "_law_draw", "_law_at"] ["_law_xs", "_law_hands_here"] (defScope ZL):=⟨rfl,rfl,rfl,by decide +kernel,rfl,by decide +kernel,by decide +kernel⟩
theorem sc_qy:FnScope ["_law_lines_here", "_law_hand", "_law_found"] ["_law_lines_here", "_law_hand"] (defScope ZK):=⟨rfl,rfl,rfl,by decide +kernel,rfl,by decide +kernel,by decide +kernel⟩
theorem sc_qz:FnScope ["_law_xs", "_law_names", "_law_deep", "_law_way", "_law_word"] ["_law_xs", "_law_names", "_law_deep"] (defScope ZJ):=⟨rfl,rfl,rfl,by decide +kernel,rfl,by decide +kernel,by decide +kernel⟩
theorem sc_qA:FnScope ["_law_cell", "_law_xs", "_law_first", "_law_send", "_law_when"] ["_law_cell"] (defScope Yr):=⟨rfl,rfl,rfl,by decide +kernel,rfl,by decide +kernel,by decide +kernel⟩
theorem zmO:FnScope [] [] (defScope Yq):=⟨rfl,rfl,rfl,by decide +kernel,rfl,by decide +kernel,by decide +kernel⟩
theorem zmN:FnScope ["_law_told"] ["_law_told"] (defScope Yp):=⟨rfl,rfl,rfl,by decide +kernel,rfl,by decide +kernel,by decide +kernel⟩
theorem zmM:FnScope ["_law_program_here"] ["_law_program_here"] (defScope Yo):=⟨rfl,rfl,rfl,by decide +kernel,rfl,by decide +kernel,by decide +kernel⟩
theorem sc_qE:FnScope ["_law_cell", "_law_hands_here", "_law_xs"] ["_law_cell", "_law_hands_here"] (defScope Yn):=⟨rfl,rfl,rfl,by decide +kernel,rfl,by decide +kernel,by decide +kernel⟩
theorem sc_qF:FnScope ["_law_lines_here", "_law_begins", "_law_far_here", "_law_row", "_law_hand", "_law_other"] ["_law_lines_here", "_law_begins"] (defScope u0):=⟨rfl,rfl,rfl,by decide +kernel,rfl,by decide +kernel,by decide +kernel⟩
theorem sc_qG:FnScope ["_law_script", "_law_xs", "_law_hands_here", "_law_lines_here", "_law_program_here", "_law_rounds_here", "_law_worths", "_law_heard", "_law_turned", "_law_k", "_law_cut", "_law_web", "_law_others", "_law_hear", "_law_far_here", "_law_hand", "_law_turn"] ["_law_script"] (defScope uZ):=⟨rfl,rfl,rfl,by decide +kernel,rfl,by decide +kernel,by decide +kernel⟩
theorem zmL:FnScope ["self", "value"] ["self", "value"] (defScope Ym):=⟨rfl,rfl,rfl,by decide +kernel,rfl,by decide +kernel,by decide +kernel⟩
theorem zmK:FnScope ["self", "worths"] ["self", "worths"] (defScope Yl):=⟨rfl,rfl,rfl,by decide +kernel,rfl,by decide +kernel,by decide +kernel⟩
theorem zmJ:FnScope ["self"] ["self"] (defScope Yk):=⟨rfl,rfl,rfl,by decide +kernel,rfl,by decide +kernel,by decide +kernel⟩
theorem zmI:FnScope ["self", "word"] ["self", "word"] (defScope Yj):=⟨rfl,rfl,rfl,by decide +kernel,rfl,by decide +kernel,by decide +kernel⟩
theorem zmH:FnScope ["self", "worths"] ["self", "worths"] (defScope Yi):=⟨rfl,rfl,rfl,by decide +kernel,rfl,by decide +kernel,by decide +kernel⟩
theorem zmG:FnScope ["self"] ["self"] (defScope Yh):=⟨rfl,rfl,rfl,by decide +kernel,rfl,by decide +kernel,by decide +kernel⟩
theorem zmF:FnScope ["self", "word", "one", "other"] ["self", "word", "one", "other"] (defScope Yg):=⟨rfl,rfl,rfl,by decide +kernel,rfl,by decide +kernel,by decide +kernel⟩
theorem sc_qO:FnScope ["self", "worths", "one", "other"] ["self", "worths"] (defScope Yf):=⟨rfl,rfl,rfl,by decide +kernel,rfl,by decide +kernel,by decide +kernel⟩
theorem zmE:FnScope ["self"] ["self"] (defScope Ye):=⟨rfl,rfl,rfl,by decide +kernel,rfl,by decide +kernel,by decide +kernel⟩
theorem zmD:FnScope ["self", "inner", "number"] ["self", "inner", "number"] (defScope Yd):=⟨rfl,rfl,rfl,by decide +kernel,rfl,by decide +kernel,by decide +kernel⟩
theorem zmC:FnScope ["self", "worths"] ["self", "worths"] (defScope Yc):=⟨rfl,rfl,rfl,by decide +kernel,rfl,by decide +kernel,by decide +kernel⟩
theorem zmB:FnScope ["self"] ["self"] (defScope Yb):=⟨rfl,rfl,rfl,by decide +kernel,rfl,by decide +kernel,by decide +kernel⟩
theorem zmA:FnScope ["self", "one", "other", "third", "fourth"] ["self", "one", "other", "third", "fourth"] (defScope Ya):=⟨rfl,rfl,rfl,by decide +kernel,rfl,by decide +kernel,by decide +kernel⟩
theorem zmz:FnScope ["self", "worths"] ["self", "worths"] (defScope Z9):=⟨rfl,rfl,rfl,by decide +kernel,rfl,by decide +kernel,by decide +kernel⟩
theorem zmy:FnScope ["self"] ["self"] (defScope Z8):=⟨rfl,rfl,rfl,by decide +kernel,rfl,by decide +kernel,by decide +kernel⟩
theorem zmx:FnScope ["self", "start", "send", "when", "renew"] ["self", "start", "send", "when", "renew"] (defScope Z7):=⟨rfl,rfl,rfl,by decide +kernel,rfl,by decide +kernel,by decide +kernel⟩
theorem zmw:FnScope ["self", "hand", "lines"] ["self", "hand", "lines"] (defScope uY):=⟨rfl,rfl,rfl,by decide +kernel,rfl,by decide +kernel,by decide +kernel⟩
theorem sc_qY:FnScope ["self", "worth", "hand", "turn", "lines", "other", "worths"] ["self", "worth", "hand", "turn", "lines", "other"] (defScope vS):=⟨rfl,rfl,rfl,by decide +kernel,rfl,by decide +kernel,by decide +kernel⟩
theorem sc_qZ:FnScope ["self", "worth", "hand", "turn", "lines", "heard", "worths"] ["self", "worth", "hand", "turn", "lines", "heard"] (defScope uX):=⟨rfl,rfl,rfl,by decide +kernel,rfl,by decide +kernel,by decide +kernel⟩
theorem zf1:FnScope ["self", "hands", "lines"] ["self", "hands", "lines"] (defScope vf):=⟨rfl,rfl,rfl,by decide +kernel,rfl,by decide +kernel,by decide +kernel⟩
theorem zf0:FnScope ["self"] ["self"] (defScope ve):=⟨rfl,rfl,rfl,by decide +kernel,rfl,by decide +kernel,by decide +kernel⟩
theorem zfZ:FnScope ["self", "hand"] ["self", "hand"] (defScope vd):=⟨rfl,rfl,rfl,by decide +kernel,rfl,by decide +kernel,by decide +kernel⟩
theorem zfY:FnScope ["self", "hand"] ["self", "hand"] (defScope vc):=⟨rfl,rfl,rfl,by decide +kernel,rfl,by decide +kernel,by decide +kernel⟩
set_option genInjectivity false in
set_option genSizeOf false in
structure Ad where
 f_qa:Addr
 d_qa:FuncData
 f_qb:Addr
 d_qb:FuncData
 f_qc:Addr
 d_qc:FuncData
 f_qd:Addr
 d_qd:FuncData
 f_qe:Addr
 d_qe:FuncData
 f_qf:Addr
 d_qf:FuncData
 f_qg:Addr
 d_qg:FuncData
 f_qh:Addr
 d_qh:FuncData
 f_qi:Addr
 d_qi:FuncData
 f_qj:Addr
 d_qj:FuncData
 f_qk:Addr
 d_qk:FuncData
 f_ql:Addr
 d_ql:FuncData
 f_qm:Addr
 d_qm:FuncData
 f_qn:Addr
 d_qn:FuncData
 f_qo:Addr
 d_qo:FuncData
 f_qp:Addr
 d_qp:FuncData
 f_qq:Addr
 d_qq:FuncData
 f_qr:Addr
 d_qr:FuncData
 f_qs:Addr
 d_qs:FuncData
 f_qt:Addr
 d_qt:FuncData
 f_qu:Addr
 d_qu:FuncData
 f_qv:Addr
 d_qv:FuncData
 f_qw:Addr
 d_qw:FuncData
 f_qx:Addr
 d_qx:FuncData
 f_qy:Addr
 d_qy:FuncData
 f_qz:Addr
 d_qz:FuncData
 f_qA:Addr
 d_qA:FuncData
 f_qB:Addr
 d_qB:FuncData
 f_qC:Addr
 d_qC:FuncData
 f_qD:Addr
 d_qD:FuncData
 f_qE:Addr
 d_qE:FuncData
 f_qF:Addr
 d_qF:FuncData
 f_qG:Addr
 d_qG:FuncData
 f_qH:Addr
 d_qH:FuncData
 f_qI:Addr
 d_qI:FuncData
 f_qJ:Addr
 d_qJ:FuncData
 f_qK:Addr
 d_qK:FuncData
 f_qL:Addr
 d_qL:FuncData
 f_qM:Addr
 d_qM:FuncData
 f_qN:Addr
 d_qN:FuncData
 f_qO:Addr
 d_qO:FuncData
 f_qP:Addr
 d_qP:FuncData
 f_qQ:Addr
 d_qQ:FuncData
 f_qR:Addr
 d_qR:FuncData
 f_qS:Addr
 d_qS:FuncData
 f_qT:Addr
 d_qT:FuncData
 f_qU:Addr
 d_qU:FuncData
 f_qV:Addr
 d_qV:FuncData
 f_qW:Addr
 d_qW:FuncData
 f_qX:Addr
 d_qX:FuncData
 f_qY:Addr
 d_qY:FuncData
 f_qZ:Addr
 d_qZ:FuncData
 f_qa0:Addr
 d_qa0:FuncData
 f_qa1:Addr
 d_qa1:FuncData
 f_qa2:Addr
 d_qa2:FuncData
 f_qa3:Addr
 d_qa3:FuncData
 f_qa4:Addr
 d_qa4:FuncData
 c_Num:Addr
 c_Name:Addr
 c_Two:Addr
 c_Mod:Addr
 c_Less:Addr
 c_Program:Addr
 c_Web:Addr
 t_START_NAMES:Addr
 t_SEND_NAMES:Addr
 t_RENEW_NAMES:Addr
 t_TWO_WORDS:Addr
 t_MOST_WORDS:Tok
 t_MOST_DEEP:Tok
 t_MOST_HANDS:Tok
 t_LAST_HAND:Tok
structure Txt (w:World) (K:PySem.W.Frag) (mg:Str→Option Value) (a:Ad):Prop where
 n_len:mg "len" = none
 n_int:mg "int" = none
 n_min:mg "min" = none
 n_max:mg "max" = none
 n_range:mg "range" = none
 n_isinstance:mg "isinstance" = none
 n_list:mg "list" = none
 n_dict:mg "dict" = none
 n_abs:mg "abs" = none
 n_sorted:mg "sorted" = none
 n_str:mg "str" = none
 n_sum:mg "sum" = none
 n_bool:mg "bool" = none
 n_tuple:mg "tuple" = none
 n_ValueError:mg "ValueError" = none
 F_qa:Fun K "first_worths" "first_worths" Z6 a.f_qa a.d_qa
 b_qa:Binds K a.d_qa ["web", "program"] []
 g_qa:mg "first_worths" = some (.ref a.f_qa)
 F_qb:Fun K "heard_in" "heard_in" Z5 a.f_qb a.d_qb
 b_qb:Binds K a.d_qb ["web", "program", "worths", "turn"] []
 g_qb:mg "heard_in" = some (.ref a.f_qb)
 F_qc:Fun K "worths_behind" "worths_behind" Z4 a.f_qc a.d_qc
 b_qc:Binds K a.d_qc ["web", "program", "worths", "turn", "heard"] []
 g_qc:mg "worths_behind" = some (.ref a.f_qc)
 F_qd:Fun K "run_pieces" "run_pieces" Z3 a.f_qd a.d_qd
 b_qd:Binds K a.d_qd ["pieces", "program"] []
 g_qd:mg "run_pieces" = some (.ref a.f_qd)
 F_qe:Fun K "worths_by_pieces" "worths_by_pieces" Z2 a.f_qe a.d_qe
 b_qe:Binds K a.d_qe ["pieces", "program"] []
 g_qe:mg "worths_by_pieces" = some (.ref a.f_qe)
 F_qf:Fun K "heard_by_pieces" "heard_by_pieces" Z1 a.f_qf a.d_qf
 b_qf:Binds K a.d_qf ["pieces", "program"] []
 g_qf:mg "heard_by_pieces" = some (.ref a.f_qf)
 F_qg:Fun K "plain_worths" "plain_worths" Z0 a.f_qg a.d_qg
 b_qg:Binds K a.d_qg ["web", "program", "rounds"] []
 g_qg:mg "plain_worths" = some (.ref a.f_qg)
 F_qh:Fun K "plain_heard" "plain_heard" ZZ a.f_qh a.d_qh
 b_qh:Binds K a.d_qh ["web", "program", "rounds"] []
 g_qh:mg "plain_heard" = some (.ref a.f_qh)
 F_qi:Fun K "is_whole" "is_whole" ZY a.f_qi a.d_qi
 b_qi:Binds K a.d_qi ["value"] []
 g_qi:mg "is_whole" = some (.ref a.f_qi)
 F_qj:Fun K "is_short_number" "is_short_number" ZX a.f_qj a.d_qj
 b_qj:Binds K a.d_qj ["value"] []
 g_qj:mg "is_short_number" = some (.ref a.f_qj)
 F_qk:Fun K "is_word_of" "is_word_of" ZW a.f_qk a.d_qk
 b_qk:Binds K a.d_qk ["word", "words"] []
 g_qk:mg "is_word_of" = some (.ref a.f_qk)
 F_ql:Fun K "is_divisor" "is_divisor" ZV a.f_ql a.d_ql
 b_ql:Binds K a.d_ql ["number"] []
 g_ql:mg "is_divisor" = some (.ref a.f_ql)
 F_qm:Fun K "are_sound" "are_sound" ZU a.f_qm a.d_qm
 b_qm:Binds K a.d_qm ["parts", "names", "deep"] []
 g_qm:mg "are_sound" = some (.ref a.f_qm)
 F_qn:Fun K "is_sound" "is_sound" ZT a.f_qn a.d_qn
 b_qn:Binds K a.d_qn ["expr", "names", "deep"] []
 g_qn:mg "is_sound" = some (.ref a.f_qn)
 F_qo:Fun K "count_words" "count_words" uW a.f_qo a.d_qo
 b_qo:Binds K a.d_qo ["exprs"] []
 g_qo:mg "count_words" = some (.ref a.f_qo)
 F_qp:Fun K "are_hands" "are_hands" ZS a.f_qp a.d_qp
 b_qp:Binds K a.d_qp ["hands"] []
 g_qp:mg "are_hands" = some (.ref a.f_qp)
 F_qq:Fun K "is_line" "is_line" ZR a.f_qq a.d_qq
 b_qq:Binds K a.d_qq ["line", "hands"] []
 g_qq:mg "is_line" = some (.ref a.f_qq)
 F_qr:Fun K "are_lines" "are_lines" ZQ a.f_qr a.d_qr
 b_qr:Binds K a.d_qr ["lines", "hands"] []
 g_qr:mg "are_lines" = some (.ref a.f_qr)
 F_qs:Fun K "near_by_hand" "near_by_hand" ZP a.f_qs a.d_qs
 b_qs:Binds K a.d_qs ["hands", "lines"] []
 g_qs:mg "near_by_hand" = some (.ref a.f_qs)
 F_qt:Fun K "_law_cell_at" "_law_cell_at" ZO a.f_qt a.d_qt
 b_qt:Binds K a.d_qt ["_law_script", "_law_k"] []
 g_qt:mg "_law_cell_at" = some (.ref a.f_qt)
 F_qu:Fun K "_law_draws" "_law_draws" ZN a.f_qu a.d_qu
 b_qu:Binds K a.d_qu ["_law_cell", "_law_many"] []
 g_qu:mg "_law_draws" = some (.ref a.f_qu)
 F_qv:Fun K "_law_take" "_law_take" uV a.f_qv a.d_qv
 b_qv:Binds K a.d_qv ["_law_xs", "_law_size"] []
 g_qv:mg "_law_take" = some (.ref a.f_qv)
 F_qw:Fun K "_law_hands" "_law_hands" ZM a.f_qw a.d_qw
 b_qw:Binds K a.d_qw ["_law_xs", "_law_most"] []
 g_qw:mg "_law_hands" = some (.ref a.f_qw)
 F_qx:Fun K "_law_lines" "_law_lines" ZL a.f_qx a.d_qx
 b_qx:Binds K a.d_qx ["_law_xs", "_law_hands_here"] []
 g_qx:mg "_law_lines" = some (.ref a.f_qx)
 F_qy:Fun K "_law_near" "_law_near" ZK a.f_qy a.d_qy
 b_qy:Binds K a.d_qy ["_law_lines_here", "_law_hand"] []
 g_qy:mg "_law_near" = some (.ref a.f_qy)
 F_qz:Fun K "_law_expr" "_law_expr" ZJ a.f_qz a.d_qz
 b_qz:Binds K a.d_qz ["_law_xs", "_law_names", "_law_deep"] []
 g_qz:mg "_law_expr" = some (.ref a.f_qz)
 F_qA:Fun K "_law_program" "_law_program" Yr a.f_qA a.d_qA
 b_qA:Binds K a.d_qA ["_law_cell"] []
 g_qA:mg "_law_program" = some (.ref a.f_qA)
 F_qB:Fun K "_law_heard_names" "_law_heard_names" Yq a.f_qB a.d_qB
 b_qB:Binds K a.d_qB [] []
 g_qB:mg "_law_heard_names" = some (.ref a.f_qB)
 F_qC:Fun K "_law_made" "_law_made" Yp a.f_qC a.d_qC
 b_qC:Binds K a.d_qC ["_law_told"] []
 g_qC:mg "_law_made" = some (.ref a.f_qC)
 F_qD:Fun K "_law_program_made" "_law_program_made" Yo a.f_qD a.d_qD
 b_qD:Binds K a.d_qD ["_law_program_here"] []
 g_qD:mg "_law_program_made" = some (.ref a.f_qD)
 F_qE:Fun K "_law_rounds" "_law_rounds" Yn a.f_qE a.d_qE
 b_qE:Binds K a.d_qE ["_law_cell", "_law_hands_here"] []
 g_qE:mg "_law_rounds" = some (.ref a.f_qE)
 F_qF:Fun K "_law_far" "_law_far" u0 a.f_qF a.d_qF
 b_qF:Binds K a.d_qF ["_law_lines_here", "_law_begins"] []
 g_qF:mg "_law_far" = some (.ref a.f_qF)
 F_qG:Fun K "law" "law" uZ a.f_qG a.d_qG
 b_qG:Binds K a.d_qG ["_law_script"] []
 b0_qG:∀ (s:Shared) (u:Value),BindsTo s a.d_qG ⟨[u],[]⟩ [("_law_script",u)]
 g_qG:mg "law" = some (.ref a.f_qG)
 F_qH:Fun K "__init__" "Num.__init__" Ym a.f_qH a.d_qH
 b_qH:Binds K a.d_qH ["self", "value"] []
 F_qI:Fun K "reckon" "Num.reckon" Yl a.f_qI a.d_qI
 b_qI:Binds K a.d_qI ["self", "worths"] []
 mt_qI:Meth K a.c_Num "reckon" a.f_qI
 F_qJ:Fun K "words" "Num.words" Yk a.f_qJ a.d_qJ
 b_qJ:Binds K a.d_qJ ["self"] []
 mt_qJ:Meth K a.c_Num "words" a.f_qJ
 F_qK:Fun K "__init__" "Name.__init__" Yj a.f_qK a.d_qK
 b_qK:Binds K a.d_qK ["self", "word"] []
 F_qL:Fun K "reckon" "Name.reckon" Yi a.f_qL a.d_qL
 b_qL:Binds K a.d_qL ["self", "worths"] []
 mt_qL:Meth K a.c_Name "reckon" a.f_qL
 F_qM:Fun K "words" "Name.words" Yh a.f_qM a.d_qM
 b_qM:Binds K a.d_qM ["self"] []
 mt_qM:Meth K a.c_Name "words" a.f_qM
 F_qN:Fun K "__init__" "Two.__init__" Yg a.f_qN a.d_qN
 b_qN:Binds K a.d_qN ["self", "word", "one", "other"] []
 F_qO:Fun K "reckon" "Two.reckon" Yf a.f_qO a.d_qO
 b_qO:Binds K a.d_qO ["self", "worths"] []
 mt_qO:Meth K a.c_Two "reckon" a.f_qO
 F_qP:Fun K "words" "Two.words" Ye a.f_qP a.d_qP
 b_qP:Binds K a.d_qP ["self"] []
 mt_qP:Meth K a.c_Two "words" a.f_qP
 F_qQ:Fun K "__init__" "Mod.__init__" Yd a.f_qQ a.d_qQ
 b_qQ:Binds K a.d_qQ ["self", "inner", "number"] []
 F_qR:Fun K "reckon" "Mod.reckon" Yc a.f_qR a.d_qR
 b_qR:Binds K a.d_qR ["self", "worths"] []
 mt_qR:Meth K a.c_Mod "reckon" a.f_qR
 F_qS:Fun K "words" "Mod.words" Yb a.f_qS a.d_qS
 b_qS:Binds K a.d_qS ["self"] []
 mt_qS:Meth K a.c_Mod "words" a.f_qS
 F_qT:Fun K "__init__" "Less.__init__" Ya a.f_qT a.d_qT
 b_qT:Binds K a.d_qT ["self", "one", "other", "third", "fourth"] []
 F_qU:Fun K "reckon" "Less.reckon" Z9 a.f_qU a.d_qU
 b_qU:Binds K a.d_qU ["self", "worths"] []
 mt_qU:Meth K a.c_Less "reckon" a.f_qU
 F_qV:Fun K "words" "Less.words" Z8 a.f_qV a.d_qV
 b_qV:Binds K a.d_qV ["self"] []
 mt_qV:Meth K a.c_Less "words" a.f_qV
 F_qW:Fun K "__init__" "Program.__init__" Z7 a.f_qW a.d_qW
 b_qW:Binds K a.d_qW ["self", "start", "send", "when", "renew"] []
 F_qX:Fun K "first_worth" "Program.first_worth" uY a.f_qX a.d_qX
 b_qX:Binds K a.d_qX ["self", "hand", "lines"] []
 mt_qX:Meth K a.c_Program "first_worth" a.f_qX
 F_qY:Fun K "word_to" "Program.word_to" vS a.f_qY a.d_qY
 b_qY:Binds K a.d_qY ["self", "worth", "hand", "turn", "lines", "other"] []
 mt_qY:Meth K a.c_Program "word_to" a.f_qY
 F_qZ:Fun K "next_worth" "Program.next_worth" uX a.f_qZ a.d_qZ
 b_qZ:Binds K a.d_qZ ["self", "worth", "hand", "turn", "lines", "heard"] []
 mt_qZ:Meth K a.c_Program "next_worth" a.f_qZ
 F_qa0:Fun K "__init__" "Web.__init__" vf a.f_qa0 a.d_qa0
 b_qa0:Binds K a.d_qa0 ["self", "hands", "lines"] []
 F_qa1:Fun K "hands" "Web.hands" ve a.f_qa1 a.d_qa1
 b_qa1:Binds K a.d_qa1 ["self"] []
 mt_qa1:Meth K a.c_Web "hands" a.f_qa1
 F_qa2:Fun K "lines" "Web.lines" uw a.f_qa2 a.d_qa2
 b_qa2:Binds K a.d_qa2 ["self"] []
 mt_qa2:Meth K a.c_Web "lines" a.f_qa2
 F_qa3:Fun K "has_hand" "Web.has_hand" vd a.f_qa3 a.d_qa3
 b_qa3:Binds K a.d_qa3 ["self", "hand"] []
 mt_qa3:Meth K a.c_Web "has_hand" a.f_qa3
 F_qa4:Fun K "neighbours" "Web.neighbours" vc a.f_qa4 a.d_qa4
 b_qa4:Binds K a.d_qa4 ["self", "hand"] []
 mt_qa4:Meth K a.c_Web "neighbours" a.f_qa4
 g_Num:mg "Num" = some (.ref a.c_Num)
 cl_Num:Cls K a.c_Num
 mk_Num:Mk K a.c_Num a.f_qH
 ty_Num:∀ (H:Hp) (p dx:Addr) (fs:List (Str×V)),H p=some (.ins a.c_Num dx fs)→TyOf K H (.ref p) (.ref a.c_Num)
 na_Num_value:NoAttr K a.c_Num "value"
 g_Name:mg "Name" = some (.ref a.c_Name)
 cl_Name:Cls K a.c_Name
 mk_Name:Mk K a.c_Name a.f_qK
 ty_Name:∀ (H:Hp) (p dx:Addr) (fs:List (Str×V)),H p=some (.ins a.c_Name dx fs)→TyOf K H (.ref p) (.ref a.c_Name)
 na_Name_word:NoAttr K a.c_Name "word"
 g_Two:mg "Two" = some (.ref a.c_Two)
 cl_Two:Cls K a.c_Two
 mk_Two:Mk K a.c_Two a.f_qN
 ty_Two:∀ (H:Hp) (p dx:Addr) (fs:List (Str×V)),H p=some (.ins a.c_Two dx fs)→TyOf K H (.ref p) (.ref a.c_Two)
 na_Two_word:NoAttr K a.c_Two "word"
 na_Two_one:NoAttr K a.c_Two "one"
 na_Two_other:NoAttr K a.c_Two "other"
 g_Mod:mg "Mod" = some (.ref a.c_Mod)
 cl_Mod:Cls K a.c_Mod
 mk_Mod:Mk K a.c_Mod a.f_qQ
 ty_Mod:∀ (H:Hp) (p dx:Addr) (fs:List (Str×V)),H p=some (.ins a.c_Mod dx fs)→TyOf K H (.ref p) (.ref a.c_Mod)
 na_Mod_inner:NoAttr K a.c_Mod "inner"
 na_Mod_number:NoAttr K a.c_Mod "number"
 g_Less:mg "Less" = some (.ref a.c_Less)
 cl_Less:Cls K a.c_Less
 mk_Less:Mk K a.c_Less a.f_qT
 ty_Less:∀ (H:Hp) (p dx:Addr) (fs:List (Str×V)),H p=some (.ins a.c_Less dx fs)→TyOf K H (.ref p) (.ref a.c_Less)
 na_Less_one:NoAttr K a.c_Less "one"
 na_Less_other:NoAttr K a.c_Less "other"
 na_Less_third:NoAttr K a.c_Less "third"
 na_Less_fourth:NoAttr K a.c_Less "fourth"
 g_Program:mg "Program" = some (.ref a.c_Program)
 cl_Program:Cls K a.c_Program
 mk_Program:Mk K a.c_Program a.f_qW
 ty_Program:∀ (H:Hp) (p dx:Addr) (fs:List (Str×V)),H p=some (.ins a.c_Program dx fs)→TyOf K H (.ref p) (.ref a.c_Program)
 na_Program_start:NoAttr K a.c_Program "start"
 na_Program_send:NoAttr K a.c_Program "send"
 na_Program_when:NoAttr K a.c_Program "when"
 na_Program_renew:NoAttr K a.c_Program "renew"
 g_Web:mg "Web" = some (.ref a.c_Web)
 cl_Web:Cls K a.c_Web
 mk_Web:Mk K a.c_Web a.f_qa0
 ty_Web:∀ (H:Hp) (p dx:Addr) (fs:List (Str×V)),H p=some (.ins a.c_Web dx fs)→TyOf K H (.ref p) (.ref a.c_Web)
 na_Web_own_hands:NoAttr K a.c_Web "own_hands"
 na_Web_own_lines:NoAttr K a.c_Web "own_lines"
 na_Web_near:NoAttr K a.c_Web "near"
 k_Num_Num:PySem.W.kitOne K (.ref a.c_Num) (.ref a.c_Num)=some true
 k_Name_Num:PySem.W.kitOne K (.ref a.c_Name) (.ref a.c_Num)=some false
 k_Name_Name:PySem.W.kitOne K (.ref a.c_Name) (.ref a.c_Name)=some true
 k_Two_Num:PySem.W.kitOne K (.ref a.c_Two) (.ref a.c_Num)=some false
 k_Two_Name:PySem.W.kitOne K (.ref a.c_Two) (.ref a.c_Name)=some false
 k_Two_Two:PySem.W.kitOne K (.ref a.c_Two) (.ref a.c_Two)=some true
 k_Mod_Num:PySem.W.kitOne K (.ref a.c_Mod) (.ref a.c_Num)=some false
 k_Mod_Name:PySem.W.kitOne K (.ref a.c_Mod) (.ref a.c_Name)=some false
 k_Mod_Two:PySem.W.kitOne K (.ref a.c_Mod) (.ref a.c_Two)=some false
 k_Mod_Mod:PySem.W.kitOne K (.ref a.c_Mod) (.ref a.c_Mod)=some true
 k_Less_Num:PySem.W.kitOne K (.ref a.c_Less) (.ref a.c_Num)=some false
 k_Less_Name:PySem.W.kitOne K (.ref a.c_Less) (.ref a.c_Name)=some false
 k_Less_Two:PySem.W.kitOne K (.ref a.c_Less) (.ref a.c_Two)=some false
 k_Less_Mod:PySem.W.kitOne K (.ref a.c_Less) (.ref a.c_Mod)=some false
 k_Less_Less:PySem.W.kitOne K (.ref a.c_Less) (.ref a.c_Less)=some true
 k_tint_tint:PySem.W.kitOne K (.type "int") (.type "int")=some true
 k_tint_tbool:PySem.W.kitOne K (.type "int") (.type "bool")=some false
 k_tstr_tstr:PySem.W.kitOne K (.type "str") (.type "str")=some true
 k_ttuple_ttuple:PySem.W.kitOne K (.type "tuple") (.type "tuple")=some true
 k_tint_ttuple:PySem.W.kitOne K (.type "int") (.type "tuple")=some false
 k_tstr_ttuple:PySem.W.kitOne K (.type "str") (.type "tuple")=some false
 k_tint_tstr:PySem.W.kitOne K (.type "int") (.type "str")=some false
 k_tstr_tint:PySem.W.kitOne K (.type "str") (.type "int")=some false
 k_tstr_tbool:PySem.W.kitOne K (.type "str") (.type "bool")=some false
 k_Program_Program:PySem.W.kitOne K (.ref a.c_Program) (.ref a.c_Program)=some true
 k_tNoneType_tbool:PySem.W.kitOne K (.type "NoneType") (.type "bool")=some false
 k_tlist_tlist:PySem.W.kitOne K (.type "list") (.type "list")=some true
 g_START_NAMES:mg "START_NAMES" = some (.ref a.t_START_NAMES)
 s_START_NAMES:∀ H:Hp,SqT K H a.t_START_NAMES [V.str "me",V.str "lines"]
 g_SEND_NAMES:mg "SEND_NAMES" = some (.ref a.t_SEND_NAMES)
 s_SEND_NAMES:∀ H:Hp,SqT K H a.t_SEND_NAMES [V.str "worth",V.str "me",V.str "round",V.str "lines",V.str "to"]
 g_RENEW_NAMES:mg "RENEW_NAMES" = some (.ref a.t_RENEW_NAMES)
 s_RENEW_NAMES:∀ H:Hp,SqT K H a.t_RENEW_NAMES [V.str "worth",V.str "me",V.str "round",V.str "lines",V.str "sum",V.str "least",V.str "most",V.str "count"]
 g_TWO_WORDS:mg "TWO_WORDS" = some (.ref a.t_TWO_WORDS)
 s_TWO_WORDS:∀ H:Hp,SqT K H a.t_TWO_WORDS [V.str "add",V.str "sub",V.str "min",V.str "max"]
 g_MOST_WORDS:mg "MOST_WORDS" = some (.int 60 a.t_MOST_WORDS)
 g_MOST_DEEP:mg "MOST_DEEP" = some (.int 8 a.t_MOST_DEEP)
 g_MOST_HANDS:mg "MOST_HANDS" = some (.int 12 a.t_MOST_HANDS)
 g_LAST_HAND:mg "LAST_HAND" = some (.int 99 a.t_LAST_HAND)
noncomputable def Made (a:Ad) (H:Hp):Ex→V→Prop
 |.num i,v=>∃ p dx,v=.ref p∧H p=some (.ins a.c_Num dx [("value",.int i)])
 |.name x,v=>∃ p dx,v=.ref p∧H p=some (.ins a.c_Name dx [("word",.str x)])
 |.two w e f,v=>∃ p dx u1 u2,v=.ref p∧H p=some (.ins a.c_Two dx [("word",.str w),("one",u1),("other",u2)])∧Made a H e u1∧Made a H f u2
 |.mod e n,v=>∃ p dx u1,v=.ref p∧H p=some (.ins a.c_Mod dx [("inner",u1),("number",.int n)])∧Made a H e u1
 |.less e f g h,v=>∃ p dx u1 u2 u3 u4,v=.ref p∧H p=some (.ins a.c_Less dx [("one",u1),("other",u2),("third",u3),("fourth",u4)])∧Made a H e u1∧Made a H f u2∧Made a H g u3∧Made a H h u4
theorem Made.mono {a:Ad}{H H':Hp}(k:∀ b C dx fs,H b=some (.ins C dx fs)→H' b=some (.ins C dx fs)):∀ {e:Ex}{v:V},Made a H e v→Made a H' e v
 |.num _,_,⟨p,dx,e,h⟩=>⟨p,dx,e,k _ _ _ _ h⟩
 |.name _,_,⟨p,dx,e,h⟩=>⟨p,dx,e,k _ _ _ _ h⟩
 |.two _ _ _,_,⟨p,dx,u1,u2,e,h,t1,t2⟩=>⟨p,dx,u1,u2,e,k _ _ _ _ h,t1.mono k,t2.mono k⟩
 |.mod _ _,_,⟨p,dx,u1,e,h,t1⟩=>⟨p,dx,u1,e,k _ _ _ _ h,t1.mono k⟩
 |.less _ _ _ _,_,⟨p,dx,u1,u2,u3,u4,e,h,t1,t2,t3,t4⟩=>⟨p,dx,u1,u2,u3,u4,e,k _ _ _ _ h,t1.mono k,t2.mono k,t3.mono k,t4.mono k⟩
theorem Made.same {a:Ad}{H H':Hp}(k:Same H H'){e:Ex}{v:V}(t:Made a H e v):Made a H' e v:=t.mono fun b C dx fs h=>k b _ h
section
variable {P:Program}{w:World}{K:PySem.W.Frag}{mg:Str→Option Value}{base:Heap}{a:Ad}
def ziw (C:Addr) (x:Str):Sp:=fun vs H Q _=>∃ (p dx:Addr) (v:V),vs=[.ref p,v]∧H p=some (.ins C dx [])∧Q .non (upd H p (.ins C dx [(x,v)]))
def zuT (C:Addr) (x y:Str):Sp:=fun vs H Q _=>∃ (p dx:Addr) (v u:V),vs=[.ref p,v,u]∧H p=some (.ins C dx [])∧Q .non (upd H p (.ins C dx [(x,v),(y,u)]))
def zuS (C:Addr) (x y z:Str):Sp:=fun vs H Q _=>∃ (p dx:Addr) (v u t:V),vs=[.ref p,v,u,t]∧H p=some (.ins C dx [])∧Q .non (upd H p (.ins C dx [(x,v),(y,u),(z,t)]))
def zuR (C:Addr) (x y z o:Str):Sp:=fun vs H Q _=>∃ (p dx:Addr) (v u t r:V),vs=[.ref p,v,u,t,r]∧H p=some (.ins C dx [])∧Q .non (upd H p (.ins C dx [(x,v),(y,u),(z,t),(o,r)]))
theorem v0 (T:Txt w K mg a):FnOk P w K mg base CX0 1 a.f_qH a.d_qH ["self", "value"] (ziw a.c_Num "value"):=by
 refine T.F_qH.ok zmL (fun vs H Q E h=>?_) (fun cdv A outer s H vs Q E hr h=>?_)
 ·obtain⟨p,dx,v,rfl,_⟩:=h
  rfl
 ·obtain⟨p,dx,v,rfl,hp,k⟩:=h
  refine zB (zf (zI (w_pv 0) (w_pv 1) rfl)) ?_
  refine⟨_,rfl,_,rfl,p,a.c_Num,dx,_,rfl,hp,T.cl_Num,T.na_Num_value,(by show 0<1000;decide),?_⟩
  exact k
theorem vt (T:Txt w K mg a):FnOk P w K mg base CX0 1 a.f_qK a.d_qK ["self", "word"] (ziw a.c_Name "word"):=by
 refine T.F_qK.ok zmI (fun vs H Q E h=>?_) (fun cdv A outer s H vs Q E hr h=>?_)
 ·obtain⟨p,dx,v,rfl,_⟩:=h
  rfl
 ·obtain⟨p,dx,v,rfl,hp,k⟩:=h
  refine zB (zf (zI (w_pv 0) (w_pv 1) rfl)) ?_
  refine⟨_,rfl,_,rfl,p,a.c_Name,dx,_,rfl,hp,T.cl_Name,T.na_Name_word,(by show 0<1000;decide),?_⟩
  exact k
theorem vZ (T:Txt w K mg a):FnOk P w K mg base CX0 1 a.f_qN a.d_qN ["self", "word", "one", "other"] (zuS a.c_Two "word" "one" "other"):=by
 refine T.F_qN.ok zmF (fun vs H Q E h=>?_) (fun cdv A outer s H vs Q E hr h=>?_)
 ·obtain⟨p,dx,v,u,t,rfl,_⟩:=h
  rfl
 ·obtain⟨p,dx,v,u,t,rfl,hp,k⟩:=h
  refine zB (w_pss_cons (zI (w_pv 0) (w_pv 1) rfl)
   (w_pss_cons (zI (w_pv 0) (w_pv 2) rfl)
   (zf (zI (w_pv 0) (w_pv 3) rfl)))) ?_
  refine⟨_,rfl,_,rfl,p,a.c_Two,dx,_,rfl,hp,T.cl_Two,T.na_Two_word,(by show 0<1000;decide),?_⟩
  refine⟨_,rfl,_,rfl,p,a.c_Two,dx,_,rfl,zd,T.cl_Two,T.na_Two_one,(by show 1<1000;decide),?_⟩
  refine⟨_,rfl,_,rfl,p,a.c_Two,dx,_,rfl,zd,T.cl_Two,T.na_Two_other,(by show 2<1000;decide),?_⟩
  rw[yp,yp]
  exact k
theorem v5 (T:Txt w K mg a):FnOk P w K mg base CX0 1 a.f_qQ a.d_qQ ["self", "inner", "number"] (zuT a.c_Mod "inner" "number"):=by
 refine T.F_qQ.ok zmD (fun vs H Q E h=>?_) (fun cdv A outer s H vs Q E hr h=>?_)
 ·obtain⟨p,dx,v,u,rfl,_⟩:=h
  rfl
 ·obtain⟨p,dx,v,u,rfl,hp,k⟩:=h
  refine zB (w_pss_cons (zI (w_pv 0) (w_pv 1) rfl)
   (zf (zI (w_pv 0) (w_pv 2) rfl))) ?_
  refine⟨_,rfl,_,rfl,p,a.c_Mod,dx,_,rfl,hp,T.cl_Mod,T.na_Mod_inner,(by show 0<1000;decide),?_⟩
  refine⟨_,rfl,_,rfl,p,a.c_Mod,dx,_,rfl,zd,T.cl_Mod,T.na_Mod_number,(by show 1<1000;decide),?_⟩
  rw[yp]
  exact k
theorem vw (T:Txt w K mg a):FnOk P w K mg base CX0 1 a.f_qT a.d_qT ["self", "one", "other", "third", "fourth"] (zuR a.c_Less "one" "other" "third" "fourth"):=by
 refine T.F_qT.ok zmA (fun vs H Q E h=>?_) (fun cdv A outer s H vs Q E hr h=>?_)
 ·obtain⟨p,dx,v,u,t,r,rfl,_⟩:=h
  rfl
 ·obtain⟨p,dx,v,u,t,r,rfl,hp,k⟩:=h
  refine zB (w_pss_cons (zI (w_pv 0) (w_pv 1) rfl)
   (w_pss_cons (zI (w_pv 0) (w_pv 2) rfl)
   (w_pss_cons (zI (w_pv 0) (w_pv 3) rfl)
   (zf (zI (w_pv 0) (w_pv 4) rfl))))) ?_
  refine⟨_,rfl,_,rfl,p,a.c_Less,dx,_,rfl,hp,T.cl_Less,T.na_Less_one,(by show 0<1000;decide),?_⟩
  refine⟨_,rfl,_,rfl,p,a.c_Less,dx,_,rfl,zd,T.cl_Less,T.na_Less_other,(by show 1<1000;decide),?_⟩
  refine⟨_,rfl,_,rfl,p,a.c_Less,dx,_,rfl,zd,T.cl_Less,T.na_Less_third,(by show 2<1000;decide),?_⟩
  refine⟨_,rfl,_,rfl,p,a.c_Less,dx,_,rfl,zd,T.cl_Less,T.na_Less_fourth,(by show 3<1000;decide),?_⟩
  rw[yp,yp,yp]
  exact k
end
end K04

namespace K04
open PySem L2
section
variable {P:Program}{w:World}{K:PySem.W.Frag}{mg:Str→Option Value}{base:Heap}{a:Ad}
def zX (a:Ad) (n:Nat) (Kd:Ex→Prop):Sp:=fun vs H Q _=>∃ (e:Ex) (r:V) (d:Addr) (kvs:List (Key×V)) (names:List Str),vs=[r,.ref d]∧Kd e∧Made a H e r∧e.dep≤n∧e.ok names∧H d=some (.dK kvs)∧Has names kvs∧Q (.int (e.val (rho kvs))) H
abbrev WH (e:Ex):Prop:=∃ i,e=.num i
abbrev uI (e:Ex):Prop:=∃ x,e=.name x
abbrev WF (e:Ex):Prop:=∃ w e1 e2,e=.two w e1 e2
abbrev WI (e:Ex):Prop:=∃ e1 n,e=.mod e1 n
abbrev uJ (e:Ex):Prop:=∃ e1 e2 e3 e4,e=.less e1 e2 e3 e4
structure Reckons (P:Program) (w:World) (K:PySem.W.Frag) (mg:Str→Option Value) (base:Heap) (a:Ad) (n:Nat):Prop where
 num:FnOk P w K mg base CX0 (n+1) a.f_qI a.d_qI ["self", "worths"] (zX a n WH)
 name:FnOk P w K mg base CX0 (n+1) a.f_qL a.d_qL ["self", "worths"] (zX a n uI)
 two:FnOk P w K mg base CX0 (n+1) a.f_qO a.d_qO ["self", "worths"] (zX a n WF)
 mod:FnOk P w K mg base CX0 (n+1) a.f_qR a.d_qR ["self", "worths"] (zX a n WI)
 less:FnOk P w K mg base CX0 (n+1) a.f_qU a.d_qU ["self", "worths"] (zX a n uJ)
theorem Reckons.call {n:Nat}(R:Reckons P w K mg base a n) (T:Txt w K mg a){A:Around}(hr:Room (n+1) A){H:Hp}{e:Ex}{x:V}{d:Addr}{kvs:List (Key×V)}{names:List Str}(hM:Made a H e x) (hd:e.dep≤n) (ho:e.ok names) (h1:H d=some (.dK kvs)) (h2:Has names kvs) :
  ∃ (p C dx:Addr) (fs:List (Str×V)) (f:Addr) (fd:FuncData) (ps:List Str) (k:Nat) (sp:Sp),x=.ref p∧H p=some (.ins C dx fs)∧fs.lookup ("reckon" : Str)=none∧Cls K C∧Meth K C "reckon" f∧FnOk P w K mg base CX0 k f fd ps sp∧Room k A∧Binds K fd ps [] ∧
   ∀ Q:VK,Q (.int (e.val (rho kvs))) H→sp (x::([.ref d]++[])) H Q E0:=by
 cases e with
 |num i =>
  obtain⟨p,dx,rfl,hp⟩:=id hM
  exact⟨p,_,dx,_,_,_,_,_,_,rfl,hp,rfl,T.cl_Num,T.mt_qI,R.num,hr,T.b_qI,fun Q q=>⟨_,_,_,_,_,rfl,⟨_,rfl⟩,hM,hd,ho,h1,h2,q⟩⟩
 |name i =>
  obtain⟨p,dx,rfl,hp⟩:=id hM
  exact⟨p,_,dx,_,_,_,_,_,_,rfl,hp,rfl,T.cl_Name,T.mt_qL,R.name,hr,T.b_qL,fun Q q=>⟨_,_,_,_,_,rfl,⟨_,rfl⟩,hM,hd,ho,h1,h2,q⟩⟩
 |two i e1 e2 =>
  obtain⟨p,dx,u1,u2,rfl,hp,_⟩:=id hM
  exact⟨p,_,dx,_,_,_,_,_,_,rfl,hp,rfl,T.cl_Two,T.mt_qO,R.two,hr,T.b_qO,fun Q q=>⟨_,_,_,_,_,rfl,⟨_,_,_,rfl⟩,hM,hd,ho,h1,h2,q⟩⟩
 |mod e1 i =>
  obtain⟨p,dx,u1,rfl,hp,_⟩:=id hM
  exact⟨p,_,dx,_,_,_,_,_,_,rfl,hp,rfl,T.cl_Mod,T.mt_qR,R.mod,hr,T.b_qR,fun Q q=>⟨_,_,_,_,_,rfl,⟨_,_,rfl⟩,hM,hd,ho,h1,h2,q⟩⟩
 |less e1 e2 e3 e4 =>
  obtain⟨p,dx,u1,u2,u3,u4,rfl,hp,_⟩:=id hM
  exact⟨p,_,dx,_,_,_,_,_,_,rfl,hp,rfl,T.cl_Less,T.mt_qU,R.less,hr,T.b_qU,fun Q q=>⟨_,_,_,_,_,rfl,⟨_,_,_,_,rfl⟩,hM,hd,ho,h1,h2,q⟩⟩
theorem wH (T:Txt w K mg a) (n:Nat):FnOk P w K mg base CX0 (n+1) a.f_qI a.d_qI ["self", "worths"] (zX a n WH):=by
 refine T.F_qI.ok zmK (fun vs H Q E h=>?_) (fun cdv A outer s H vs Q E hr h=>?_)
 ·obtain⟨e,r,d,kvs,names,rfl,_⟩:=h
  rfl
 ·obtain⟨e,r,d,kvs,names,rfl,⟨i,rfl⟩,⟨p,dx,rfl,hp⟩,_,_,_,_,k⟩:=h
  refine zB (zf (zh (w_pe_fld (w_pv 0) rfl))) ?_
  exact⟨_,rfl,p,_,dx,_,_,rfl,hp,T.cl_Num,T.na_Num_value,rfl,k⟩
theorem xX (T:Txt w K mg a) (n:Nat):FnOk P w K mg base CX0 (n+1) a.f_qL a.d_qL ["self", "worths"] (zX a n uI):=by
 refine T.F_qL.ok zmH (fun vs H Q E h=>?_) (fun cdv A outer s H vs Q E hr h=>?_)
 ·obtain⟨e,r,d,kvs,names,rfl,_⟩:=h
  rfl
 ·obtain⟨e,r,d,kvs,names,rfl,⟨x,rfl⟩,⟨p,dx,rfl,hp⟩,_,ho,hd,hh,k⟩:=h
  have hu:=xk hr
  refine zB (zf (zh (zO hu (w_pv 1) (w_pe_fld (w_pv 0) rfl) (fun _ _=>rfl)))) ?_
  refine⟨_,rfl,_,rfl,p,_,dx,_,_,rfl,hp,T.cl_Name,T.na_Name_word,rfl,d,_,rfl,?_,k⟩
  have:=hh.at (show x∈names from ho)
  exact this ▸ DGet.k (k:=Sum.inr x) hd
theorem wG (T:Txt w K mg a){n:Nat}(R:Reckons P w K mg base a n):FnOk P w K mg base CX0 (n+2) a.f_qO a.d_qO ["self", "worths"] (zX a (n+1) WF):=by
 refine T.F_qO.ok sc_qO (fun vs H Q E h=>?_) (fun cdv A outer s H vs Q E hr h=>?_)
 ·obtain⟨e,r,d,kvs,names,rfl,_⟩:=h
  rfl
 ·obtain⟨e,r,d,kvs,names,rfl,⟨wd,e1,e2,rfl⟩,⟨p,dx,u1,u2,rfl,hp,m1,m2⟩,hdep,⟨hw,o1,o2⟩,hd,hh,k⟩:=h
  have d1:e1.dep≤n:=by have:=Nat.le_max_left e1.dep e2.dep;have:max e1.dep e2.dep+1≤n+1:=hdep;omega
  have d2:e2.dep≤n:=by have:=Nat.le_max_right e1.dep e2.dep;have:max e1.dep e2.dep+1≤n+1:=hdep;omega
  refine zB (w_pss_cons (zj (i:=2) sc_qO.nd rfl (Or.inl rfl) (w_pe_methD (w_pe_fld (w_pv 0) rfl) (w_pa_N (w_pv 1) w_pa_nil)))
   (w_pss_cons (zj (i:=3) sc_qO.nd rfl (Or.inl rfl) (w_pe_methD (w_pe_fld (w_pv 0) rfl) (w_pa_N (w_pv 1) w_pa_nil)))
   (w_pss_cons (w_ps_if (w_pt_cmpR yu (w_pe_fld (w_pv 0) rfl) w_pe_str (zw _))
    (zf (zh (zi yf (w_pv 2) (w_pv 3))))
    zm)
   (w_pss_cons (w_ps_if (w_pt_cmpR yu (w_pe_fld (w_pv 0) rfl) w_pe_str (zw _))
    (zf (zh (zi ya (w_pv 2) (w_pv 3))))
    zm)
   (w_pss_cons (w_ps_if (w_pt_cmpR yu (w_pe_fld (w_pv 0) rfl) w_pe_str (zw _))
    (zf (zh (w_pe_callB (xT rfl) (by rfl) T.n_min bt_min (w_pa_N (w_pv 2) (w_pa_N (w_pv 3) w_pa_nil)))))
    zm)
   (zf (zh (w_pe_callB (XE rfl) (by rfl) T.n_max bt_max (w_pa_N (w_pv 2) (w_pa_N (w_pv 3) w_pa_nil)))))))))) ?_
  -- one=self.one.reckon(worths)
  refine⟨_,rfl,p,_,dx,_,_,rfl,hp,T.cl_Two,T.na_Two_one,rfl,?_⟩
  obtain⟨p1,c1,x1,f1,f2,f3,f4,f5,f6,q1,q2,q3,q4,q5,q6,q7,q8,q9⟩:=R.call T hr m1 d1 o1 hd hh
  refine⟨p1,c1,x1,f1,f2,f3,f4,f5,f6,q1,q2,q3,q4,q5,q6,q7,q8,_,rfl,q9 _ ?_⟩
  -- other=self.other.reckon(worths)
  refine⟨_,rfl,p,_,dx,_,_,rfl,hp,T.cl_Two,T.na_Two_other,rfl,?_⟩
  obtain⟨p1,c1,x1,f1,f2,f3,f4,f5,f6,q1,q2,q3,q4,q5,q6,q7,q8,q9⟩:=R.call T hr m2 d2 o2 hd hh
  refine⟨p1,c1,x1,f1,f2,f3,f4,f5,f6,q1,q2,q3,q4,q5,q6,q7,q8,_,rfl,q9 _ ?_⟩
  have k':Q (.int (if wd = "add" then e1.val (rho kvs)+e2.val (rho kvs) else if wd = "sub" then e1.val (rho kvs)-e2.val (rho kvs) else if wd = "min" then(if e2.val (rho kvs)<e1.val (rho kvs) then e2.val (rho kvs) else e1.val (rho kvs)) else(if e2.val (rho kvs)>e1.val (rho kvs) then e2.val (rho kvs) else e1.val (rho kvs)))) H:=k
  generalize e1.val (rho kvs)=x1 at k' ⊢
  generalize e2.val (rho kvs)=x2 at k' ⊢
  -- if self.word == 'add':
  refine⟨_,rfl,p,_,dx,_,_,rfl,hp,T.cl_Two,T.na_Two_word,rfl,rfl,_,rfl,?_⟩
  refine ite2 (fun q=>?_) (fun q=>?_)
  ·have q':wd = "add" := by simpa using q
   rw[if_pos q'] at k'
   exact⟨_,rfl,_,rfl,_,_,rfl,rfl,k'⟩
  have q':¬ wd = "add" := by simpa using q
  rw[if_neg q'] at k'
  refine⟨_,rfl,p,_,dx,_,_,rfl,hp,T.cl_Two,T.na_Two_word,rfl,rfl,_,rfl,?_⟩
  refine ite2 (fun q=>?_) (fun q=>?_)
  ·have q':wd = "sub" := by simpa using q
   rw[if_pos q'] at k'
   exact⟨_,rfl,_,rfl,_,_,rfl,rfl,k'⟩
  have q':¬ wd = "sub" := by simpa using q
  rw[if_neg q'] at k'
  refine⟨_,rfl,p,_,dx,_,_,rfl,hp,T.cl_Two,T.na_Two_word,rfl,rfl,_,rfl,?_⟩
  refine ite2 (fun q=>?_) (fun q=>?_)
  ·have q':wd = "min" := by simpa using q
   rw[if_pos q'] at k'
   exact⟨_,rfl,_,rfl,_,_,rfl,k'⟩
  have q':¬ wd = "min" := by simpa using q
  rw[if_neg q'] at k'
  exact⟨_,rfl,_,rfl,_,_,rfl,k'⟩
theorem wJ (T:Txt w K mg a){n:Nat}(R:Reckons P w K mg base a n):FnOk P w K mg base CX0 (n+2) a.f_qR a.d_qR ["self", "worths"] (zX a (n+1) WI):=by
 refine T.F_qR.ok zmC (fun vs H Q E h=>?_) (fun cdv A outer s H vs Q E hr h=>?_)
 ·obtain⟨e,r,d,kvs,names,rfl,_⟩:=h
  rfl
 ·obtain⟨e,r,d,kvs,names,rfl,⟨e1,i,rfl⟩,⟨p,dx,u1,rfl,hp,m1⟩,hdep,⟨⟨hi,_⟩,o1⟩,hd,hh,k⟩:=h
  have d1:e1.dep≤n:=by have:e1.dep+1≤n+1:=hdep;omega
  refine zB (zf (zh (zi yW (w_pe_methD (w_pe_fld (w_pv 0) rfl) (w_pa_N (w_pv 1) w_pa_nil)) (w_pe_fld (w_pv 0) rfl)))) ?_
  refine⟨_,rfl,p,_,dx,_,_,rfl,hp,T.cl_Mod,T.na_Mod_inner,rfl,?_⟩
  obtain⟨p1,c1,x1,f1,f2,f3,f4,f5,f6,q1,q2,q3,q4,q5,q6,q7,q8,q9⟩:=R.call T hr m1 d1 o1 hd hh
  refine⟨p1,c1,x1,f1,f2,f3,f4,f5,f6,q1,q2,q3,q4,q5,q6,q7,q8,_,rfl,q9 _ ?_⟩
  exact⟨_,rfl,p,_,dx,_,_,rfl,hp,T.cl_Mod,T.na_Mod_number,rfl,_,_,rfl,rfl,(by omega),k⟩
theorem xY (T:Txt w K mg a){n:Nat}(R:Reckons P w K mg base a n):FnOk P w K mg base CX0 (n+2) a.f_qU a.d_qU ["self", "worths"] (zX a (n+1) uJ):=by
 refine T.F_qU.ok zmz (fun vs H Q E h=>?_) (fun cdv A outer s H vs Q E hr h=>?_)
 ·obtain⟨e,r,d,kvs,names,rfl,_⟩:=h
  rfl
 ·obtain⟨e,r,d,kvs,names,rfl,⟨e1,e2,e3,e4,rfl⟩,⟨p,dx,u1,u2,u3,u4,rfl,hp,m1,m2,m3,m4⟩,hdep,⟨o1,o2,o3,o4⟩,hd,hh,k⟩:=h
  have hdep:max (max e1.dep e2.dep) (max e3.dep e4.dep)+1≤n+1:=hdep
  have d1:e1.dep≤n:=by omega
  have d2:e2.dep≤n:=by omega
  have d3:e3.dep≤n:=by omega
  have d4:e4.dep≤n:=by omega
  refine zB (w_pss_cons (w_ps_if (w_pt_cmpR xI (w_pe_methD (w_pe_fld (w_pv 0) rfl) (w_pa_N (w_pv 1) w_pa_nil)) (w_pe_methD (w_pe_fld (w_pv 0) rfl) (w_pa_N (w_pv 1) w_pa_nil)) (zw _))
    (zf (zh (w_pe_methD (w_pe_fld (w_pv 0) rfl) (w_pa_N (w_pv 1) w_pa_nil))))
    zm)
   (zf (zh (w_pe_methD (w_pe_fld (w_pv 0) rfl) (w_pa_N (w_pv 1) w_pa_nil))))) ?_
  refine⟨_,rfl,p,_,dx,_,_,rfl,hp,T.cl_Less,T.na_Less_one,rfl,?_⟩
  obtain⟨p1,c1,x1,f1,f2,f3,f4,f5,f6,q1,q2,q3,q4,q5,q6,q7,q8,q9⟩:=R.call T hr m1 d1 o1 hd hh
  refine⟨p1,c1,x1,f1,f2,f3,f4,f5,f6,q1,q2,q3,q4,q5,q6,q7,q8,_,rfl,q9 _ ?_⟩
  refine⟨_,rfl,p,_,dx,_,_,rfl,hp,T.cl_Less,T.na_Less_other,rfl,?_⟩
  obtain⟨p1,c1,x1,f1,f2,f3,f4,f5,f6,q1,q2,q3,q4,q5,q6,q7,q8,q9⟩:=R.call T hr m2 d2 o2 hd hh
  refine⟨p1,c1,x1,f1,f2,f3,f4,f5,f6,q1,q2,q3,q4,q5,q6,q7,q8,_,rfl,q9 _ ?_⟩
  have k':Q (.int (if e1.val (rho kvs)<e2.val (rho kvs) then e3.val (rho kvs) else e4.val (rho kvs))) H:=k
  refine⟨_,_,rfl,rfl,_,rfl,?_⟩
  refine ite2 (fun q=>?_) (fun q=>?_)
  ·have q':e1.val (rho kvs)<e2.val (rho kvs):=of_decide_eq_true q
   rw[if_pos q'] at k'
   refine⟨_,rfl,p,_,dx,_,_,rfl,hp,T.cl_Less,T.na_Less_third,rfl,?_⟩
   obtain⟨p1,c1,x1,f1,f2,f3,f4,f5,f6,q1,q2,q3,q4,q5,q6,q7,q8,q9⟩:=R.call T hr m3 d3 o3 hd hh
   exact⟨p1,c1,x1,f1,f2,f3,f4,f5,f6,q1,q2,q3,q4,q5,q6,q7,q8,_,rfl,q9 _ k'⟩
  ·have q':¬ e1.val (rho kvs)<e2.val (rho kvs):=fun z=>q (decide_eq_true z)
   rw[if_neg q'] at k'
   refine⟨_,rfl,p,_,dx,_,_,rfl,hp,T.cl_Less,T.na_Less_fourth,rfl,?_⟩
   obtain⟨p1,c1,x1,f1,f2,f3,f4,f5,f6,q1,q2,q3,q4,q5,q6,q7,q8,q9⟩:=R.call T hr m4 d4 o4 hd hh
   exact⟨p1,c1,x1,f1,f2,f3,f4,f5,f6,q1,q2,q3,q4,q5,q6,q7,q8,_,rfl,q9 _ k'⟩
theorem vx {f:Addr}{fd:FuncData}{ps:List Str}{Kd:Ex→Prop}{k:Nat}(hl:ps.length=2):FnOk P w K mg base CX0 k f fd ps (zX a 0 Kd) :=
 ⟨fun vs H Q E h=>by
  obtain⟨e,r,d,kvs,names,rfl,_⟩:=h
  exact hl.symm,fun A outer s H args us vs Q E _ _ _ _ h=>by
  obtain⟨e,r,d,kvs,names,_,_,_,hd,_⟩:=h
  have:=e.dep_pos
  omega⟩
theorem xg (T:Txt w K mg a):∀ n,Reckons P w K mg base a n
 |0=>⟨vx rfl,vx rfl,vx rfl,vx rfl,vx rfl⟩
 |n+1=>⟨wH T (n+1),xX T (n+1),wG T (xg T n),wJ T (xg T n),xY T (xg T n)⟩
end
end K04

namespace K04
open PySem L2
section
variable {P:Program}{w:World}{K:PySem.W.Frag}{mg:Str→Option Value}{base:Heap}{a:Ad}
def Vw (K:PySem.W.Frag) (f:V→Bool):Sp:=fun vs H Q _=>∃ v,vs=[v]∧Lf K H v∧Q (.bl (f v)) H
theorem xK (T:Txt w K mg a):FnOk P w K mg base CX0 1 a.f_qi a.d_qi ["value"] (Vw K whole):=by
 refine T.F_qi.ok zfX (fun vs H Q E h=>?_) (fun cdv A outer s H vs Q E hr h=>?_)
 ·obtain⟨v,rfl,_⟩:=h
  rfl
 ·obtain⟨v,rfl,⟨t,ty,k1,k2,_⟩,k⟩:=h
  refine zB (zf (zh (yl (w_pe_callB zR (by rfl) T.n_isinstance zx (w_pa_N (w_pv 0) (w_pa_N (wt T.n_int Vp) w_pa_nil))) (yg (XW (w_pe_callB zR (by rfl) T.n_isinstance zx (w_pa_N (w_pv 0) (w_pa_N (wt T.n_bool XG) w_pa_nil)))))))) ?_
  rw[XT] at k
  refine⟨_,rfl,_,_,_,_,_,rfl,rfl,ty,k1,_,rfl,?_⟩
  by_cases q:znX v=true
  ·rw[q] at k
   exact iteB q ⟨_,rfl,_,_,_,_,_,rfl,rfl,ty,k2,_,rfl,k⟩
  ·have q:=Bool.eq_false_iff.mpr q
   rw[q] at k
   exact yh q k
theorem vY (T:Txt w K mg a):FnOk P w K mg base CX0 2 a.f_qj a.d_qj ["value"] (Vw K uA):=by
 have c_qi:Callee P w K mg base "is_whole" a.f_qi a.d_qi ["value"] 1 (Vw K whole):=⟨xK T,T.g_qi,T.F_qi.kp,T.b_qi⟩
 refine T.F_qj.ok zmq (fun vs H Q E h=>?_) (fun cdv A outer s H vs Q E hr h=>?_)
 ·obtain⟨v,rfl,_⟩:=h
  rfl
 ·obtain⟨v,rfl,lf,k⟩:=h
  refine zB (zf (zh (yl (zk c_qi (hr.mono (by omega)) (w_pa_N (w_pv 0) w_pa_nil)) (yg (zP xI (w_pe_callB WS (by rfl) T.n_abs zio (w_pa_N (w_pv 0) w_pa_nil)) (zi yV ze ze) (zw _)))))) ?_
  refine⟨_,rfl,v,rfl,lf,_,rfl,?_⟩
  by_cases q:whole v=true
  ·obtain⟨i,rfl⟩:=wV q
   refine iteB q ⟨_,rfl,i,rfl,_,_,rfl,rfl,⟨by decide,by decide,by decide⟩,_,_,rfl,rfl,?_⟩
   rw[zmS]
   exact k
  ·have q:=Bool.eq_false_iff.mpr q
   refine yh q ?_
   have e:uA v=false:=by cases v<;>first | rfl | simp[whole] at q
   rw[e] at k
   exact k
theorem wE (T:Txt w K mg a):FnOk P w K mg base CX0 2 a.f_ql a.d_ql ["number"] (Vw K zax):=by
 have c_qi:Callee P w K mg base "is_whole" a.f_qi a.d_qi ["value"] 1 (Vw K whole):=⟨xK T,T.g_qi,T.F_qi.kp,T.b_qi⟩
 refine T.F_ql.ok zmo (fun vs H Q E h=>?_) (fun cdv A outer s H vs Q E hr h=>?_)
 ·obtain⟨v,rfl,_⟩:=h
  rfl
 ·obtain⟨v,rfl,lf,k⟩:=h
  refine zB (zf (zh (yl (zk c_qi (hr.mono (by omega)) (w_pa_N (w_pv 0) w_pa_nil)) (yl (zP zgo (w_pv 0) ze (zw _)) (yg (zP zgn (w_pv 0) (zi yV ze ze) (zw _))))))) ?_
  refine⟨_,rfl,v,rfl,lf,_,rfl,?_⟩
  by_cases q:whole v=true
  ·obtain⟨i,rfl⟩:=wV q
   have k':Q (.bl (decide (1≤i)&&decide (i≤1000000000))) H:=k
   refine iteB q ⟨_,rfl,_,_,rfl,rfl,_,rfl,?_⟩
   by_cases q1:(1:Int)≤i
   ·refine iteB (decide_eq_true q1) ⟨_,rfl,_,_,rfl,rfl,⟨by decide,by decide,by decide⟩,_,_,rfl,rfl,?_⟩
    rw[decide_eq_true q1,Bool.true_and] at k'
    rw[zw7]
    exact k'
   ·refine yh (decide_eq_false q1) ?_
    rw[decide_eq_false q1,Bool.false_and] at k'
    exact k'
  ·have q:=Bool.eq_false_iff.mpr q
   refine yh q ?_
   have e:zax v=false:=by cases v<;>first | rfl | simp[whole] at q
   rw[e] at k
   exact k
def W0 (K:PySem.W.Frag):Sp:=fun vs H Q _=>∃ (v:V) (p:Addr) (ws:List Str),vs=[v,.ref p]∧Lf K H v∧SqT K H p (ws.map V.str)∧Q (.bl (xZ ws v)) H
theorem Zd (T:Txt w K mg a):FnOk P w K mg base CX0 1 a.f_qk a.d_qk ["word", "words"] (W0 K):=by
 refine T.F_qk.ok zmp (fun vs H Q E h=>?_) (fun cdv A outer s H vs Q E hr h=>?_)
 ·obtain⟨v,p,ws,rfl,_⟩:=h
  rfl
 ·obtain⟨v,p,ws,rfl,⟨t,ty,_,_,k3⟩,hp,k⟩:=h
  refine zB (zf (zh (yl (w_pe_callB zR (by rfl) T.n_isinstance zx (w_pa_N (w_pv 0) (w_pa_N (wt T.n_str XF) w_pa_nil))) (yg (zP xJ (w_pv 0) (w_pv 1) (by with_unfolding_all rfl)))))) ?_
  refine⟨_,rfl,_,_,_,_,_,rfl,rfl,ty,k3,_,rfl,?_⟩
  by_cases q:zid v=true
  ·obtain⟨x,rfl⟩:=WG q
   exact iteB q ⟨_,rfl,_,rfl,p,_,rfl,.inr hp,rfl,flat_strs ws,k⟩
  ·have q:=Bool.eq_false_iff.mpr q
   refine yh q ?_
   have e:xZ ws v=false:=by cases v<;>first | rfl | simp[zid] at q
   rw[e] at k
   exact k
end
end K04

namespace K04
open PySem L2
theorem TyOf.same {K:PySem.W.Frag}{H H':Hp}{v:V}{t:Value}(s:Same H H') (h:TyOf K H v t):TyOf K H' v t:=by
 cases h with
 |non=>exact .non
 |bl x=>exact .bl x
 |int i=>exact .int i
 |str x=>exact .str x
 |flt x=>exact .flt x
 |lst e=>exact .lst (s _ _ e)
 |frz e=>exact .frz (s _ _ e)
 |tup e=>exact .tup (s _ _ e)
 |dK e=>exact .dK (s _ _ e)
 |dT e=>exact .dT (s _ _ e)
 |ins e cl ha hn htk hm=>exact .ins (s _ _ e) cl ha hn htk hm
theorem Lf.same {K:PySem.W.Frag}{H H':Hp}{v:V}(s:Same H H') (h:Lf K H v):Lf K H' v:=by
 obtain⟨t,ty,k⟩:=h
 exact⟨t,TyOf.same s ty,k⟩
section
variable {P:Program}{w:World}{K:PySem.W.Frag}{mg:Str→Option Value}{base:Heap}{a:Ad}
noncomputable def GMade (K:PySem.W.Frag) (a:Ad) (H:Hp):Gx→V→Prop
 |.num v,r=>∃ p dx,r=.ref p∧H p=some (.ins a.c_Num dx [("value",v)])∧Lf K H v
 |.name v,r=>∃ p dx,r=.ref p∧H p=some (.ins a.c_Name dx [("word",v)])∧Lf K H v
 |.two wd e f,r=>∃ p dx u1 u2,r=.ref p∧H p=some (.ins a.c_Two dx [("word",wd),("one",u1),("other",u2)])∧Lf K H wd∧GMade K a H e u1∧GMade K a H f u2
 |.mod e n,r=>∃ p dx u1,r=.ref p∧H p=some (.ins a.c_Mod dx [("inner",u1),("number",n)])∧Lf K H n∧GMade K a H e u1
 |.less e f g h,r=>∃ p dx u1 u2 u3 u4,r=.ref p∧H p=some (.ins a.c_Less dx [("one",u1),("other",u2),("third",u3),("fourth",u4)])∧GMade K a H e u1∧GMade K a H f u2∧GMade K a H g u3∧GMade K a H h u4
 |.oth v,r=>r=v∧∃ t,TyOf K H v t∧PySem.W.kitOne K t (.ref a.c_Num)=some false∧PySem.W.kitOne K t (.ref a.c_Name)=some false∧PySem.W.kitOne K t (.ref a.c_Two)=some false∧PySem.W.kitOne K t (.ref a.c_Mod)=some false∧PySem.W.kitOne K t (.ref a.c_Less)=some false
theorem GMade.same {H H':Hp}(s:Same H H'):∀ {g:Gx}{r:V},GMade K a H g r→GMade K a H' g r
 |.num _,_,⟨p,dx,e,h,l⟩=>⟨p,dx,e,s _ _ h,l.same s⟩
 |.name _,_,⟨p,dx,e,h,l⟩=>⟨p,dx,e,s _ _ h,l.same s⟩
 |.two _ _ _,_,⟨p,dx,u1,u2,e,h,l,t1,t2⟩=>⟨p,dx,u1,u2,e,s _ _ h,l.same s,t1.same s,t2.same s⟩
 |.mod _ _,_,⟨p,dx,u1,e,h,l,t1⟩=>⟨p,dx,u1,e,s _ _ h,l.same s,t1.same s⟩
 |.less _ _ _ _,_,⟨p,dx,u1,u2,u3,u4,e,h,t1,t2,t3,t4⟩=>⟨p,dx,u1,u2,u3,u4,e,s _ _ h,t1.same s,t2.same s,t3.same s,t4.same s⟩
 |.oth _,_,⟨e,t,ty,k⟩=>⟨e,t,TyOf.same s ty,k⟩
theorem Vj (T:Txt w K mg a){H:Hp}(i:Int):Lf K H (.int i):=⟨_,.int i,T.k_tint_tint,T.k_tint_tbool,T.k_tint_tstr⟩
theorem Vi (T:Txt w K mg a){H:Hp}(x:Str):Lf K H (.str x):=⟨_,.str x,T.k_tstr_tint,T.k_tstr_tbool,T.k_tstr_tstr⟩
theorem Made.gx (T:Txt w K mg a){H:Hp}:∀ {e:Ex}{r:V},Made a H e r→GMade K a H e.gx r
 |.num i,_,⟨p,dx,e,h⟩=>⟨p,dx,e,h,Vj T i⟩
 |.name x,_,⟨p,dx,e,h⟩=>⟨p,dx,e,h,Vi T x⟩
 |.two w _ _,_,⟨p,dx,u1,u2,e,h,t1,t2⟩=>⟨p,dx,u1,u2,e,h,Vi T w,t1.gx T,t2.gx T⟩
 |.mod _ n,_,⟨p,dx,u1,e,h,t1⟩=>⟨p,dx,u1,e,h,Vj T n,t1.gx T⟩
 |.less _ _ _ _,_,⟨p,dx,u1,u2,u3,u4,e,h,t1,t2,t3,t4⟩=>⟨p,dx,u1,u2,u3,u4,e,h,t1.gx T,t2.gx T,t3.gx T,t4.gx T⟩
def GMs (K:PySem.W.Frag) (a:Ad) (H:Hp) (rs:List V) (gs:List Gx):Prop:=rs.length=gs.length∧∀ (i:Nat) r,rs[i]?=some r→∃ g,gs[i]?=some g∧GMade K a H g r
def yy (K:PySem.W.Frag) (a:Ad) (n:Nat):Sp:=fun vs H Q _=>∃ (g:Gx) (r:V) (nm:Addr) (names:List Str) (d:Int),vs=[r,.ref nm,.int d]∧GMade K a H g r∧(∀ H,SqT K H nm (names.map V.str))∧0≤d∧d<n∧∀ H',Same H H'→Q (.bl (g.sound names d.toNat)) H'
def Vy (K:PySem.W.Frag) (a:Ad) (n:Nat):Sp:=fun vs H Q _=>∃ (l:Addr) (rs:List V) (gs:List Gx) (nm:Addr) (names:List Str) (d:Int),vs=[.ref l,.ref nm,.int d]∧H l=some (.lst rs)∧GMs K a H rs gs∧(∀ H,SqT K H nm (names.map V.str))∧0≤d∧d<n∧∀ H',Same H H'→Q (.bl (gs.all (Gx.sound names d.toNat))) H'
theorem Vg (T:Txt w K mg a){n:Nat}(I:FnOk P w K mg base CX0 (2*n+1) a.f_qn a.d_qn ["expr", "names", "deep"] (yy K a n)):FnOk P w K mg base CX0 (2*n+2) a.f_qm a.d_qm ["parts", "names", "deep"] (Vy K a n):=by
 have c_qn:Callee P w K mg base "is_sound" a.f_qn a.d_qn ["expr", "names", "deep"] (2*n+1) (yy K a n):=⟨I,T.g_qn,T.F_qn.kp,T.b_qn⟩
 refine T.F_qm.ok sc_qm (fun vs H Q E h=>?_) (fun cdv A outer s H vs Q E hr h=>?_)
 ·obtain⟨l,rs,gs,nm,names,d,rfl,_⟩:=h
  rfl
 ·obtain⟨l,rs,gs,nm,names,d,rfl,hl,⟨hlen,hgm⟩,hn,d0,d1,k⟩:=h
  refine zB (w_pss_cons (zM PassesOwn.never rfl (zC (w_pv 0)) (zt (i:=3) sc_qm.nd rfl (Or.inl rfl))
    (zf (w_ps_if (yS (zV (zk c_qn (hr.mono (by omega)) (w_pa_N (w_pv 3) (w_pa_N (w_pv 1) (w_pa_N (w_pv 2) w_pa_nil))))))
     (zf (zh yo))
     zm)))
   (zf (zh yo))) ?_
  refine⟨_,rfl,l,rfl,⟨_,SqL.of hl⟩,?_⟩
  refine zY (K:=K) (a:=l) (xs:=rs) (fun i σ H'=>∃ o,σ=[some (.ref l),some (.ref nm),some (.int d),o]∧Same H H'∧(gs.take i).all (Gx.sound names d.toNat)=true) ?_ ?_ ?_ ?_
  ·exact⟨none,rfl,Same.refl H,by simp⟩
  ·rintro i σ H' _ ⟨o,_,sm,_⟩
   exact SqL.of (sm _ _ hl)
  ·rintro i x σ H' hi ⟨o,rfl,sm,ha⟩
   obtain⟨g,hg,gm⟩:=hgm i x hi
   refine⟨_,rfl,_,rfl,_,rfl,g,x,nm,names,d,rfl,gm.same sm,hn,d0,d1,fun H1 s1=>⟨_,rfl,?_⟩⟩
   have hi':i<gs.length:=(List.getElem?_eq_some_iff.mp hg).1
   by_cases q:g.sound names d.toNat=true
   ·refine yh (by rw[q];rfl) ?_
    refine⟨_,rfl,sm.trans s1,?_⟩
    rw[List.take_add_one,hg,List.all_append,ha]
    simp[q]
   ·have q:=Bool.eq_false_iff.mpr q
    refine iteB (by rw[q];rfl) ?_
    have e:gs.all (Gx.sound names d.toNat)=false:=by
     rw[List.all_eq_false]
     exact⟨g,List.mem_of_getElem? hg,by rw[q];simp⟩
    have:=k H1 (sm.trans s1)
    rw[e] at this
    exact this
  ·rintro σ H' ⟨o,rfl,sm,ha⟩
   rw[hlen,List.take_length] at ha
   have:=k H' sm
   rw[ha] at this
   exact this
theorem zwx {H:Hp}{u1 u2:V}{g1 g2:Gx}(h1:GMade K a H g1 u1) (h2:GMade K a H g2 u2):GMs K a H [u1,u2] [g1,g2]:=⟨rfl,fun i r e=>by
 match i,e with
 |0,e=>cases e;exact⟨_,rfl,h1⟩
 |1,e=>cases e;exact⟨_,rfl,h2⟩
 |_+2,e=>simp at e⟩
theorem zxB {H:Hp}{u1 u2 u3 u4:V}{g1 g2 g3 g4:Gx}(h1:GMade K a H g1 u1) (h2:GMade K a H g2 u2) (h3:GMade K a H g3 u3) (h4:GMade K a H g4 u4):GMs K a H [u1,u2,u3,u4] [g1,g2,g3,g4]:=⟨rfl,fun i r e=>by
 match i,e with
 |0,e=>cases e;exact⟨_,rfl,h1⟩
 |1,e=>cases e;exact⟨_,rfl,h2⟩
 |2,e=>cases e;exact⟨_,rfl,h3⟩
 |3,e=>cases e;exact⟨_,rfl,h4⟩
 |_+4,e=>simp at e⟩
theorem vX (T:Txt w K mg a){n:Nat}(I:FnOk P w K mg base CX0 (2*n+1) a.f_qn a.d_qn ["expr", "names", "deep"] (yy K a n)):FnOk P w K mg base CX0 (2*n+3) a.f_qn a.d_qn ["expr", "names", "deep"] (yy K a (n+1)):=by
 have c_qn:Callee P w K mg base "is_sound" a.f_qn a.d_qn ["expr", "names", "deep"] (2*n+1) (yy K a n):=⟨I,T.g_qn,T.F_qn.kp,T.b_qn⟩
 have c_qm:Callee P w K mg base "are_sound" a.f_qm a.d_qm ["parts", "names", "deep"] (2*n+2) (Vy K a n):=⟨Vg T I,T.g_qm,T.F_qm.kp,T.b_qm⟩
 have c_qj:Callee P w K mg base "is_short_number" a.f_qj a.d_qj ["value"] 2 (Vw K uA):=⟨vY T,T.g_qj,T.F_qj.kp,T.b_qj⟩
 have c_ql:Callee P w K mg base "is_divisor" a.f_ql a.d_ql ["number"] 2 (Vw K zax):=⟨wE T,T.g_ql,T.F_ql.kp,T.b_ql⟩
 have c_qk:Callee P w K mg base "is_word_of" a.f_qk a.d_qk ["word", "words"] 1 (W0 K):=⟨Zd T,T.g_qk,T.F_qk.kp,T.b_qk⟩
 refine T.F_qn.ok zmn (fun vs H Q E h=>?_) (fun cdv A outer s H vs Q E hr h=>?_)
 ·obtain⟨g,r,nm,names,d,rfl,_⟩:=h
  rfl
 ·obtain⟨g,r,nm,names,d,rfl,gm,hn,d0,d1,k⟩:=h
  refine zB (w_pss_cons (w_ps_if (w_pt_cmpR yu (w_pv 2) ze (zw _))
    (zf (zh yo))
    zm)
   (w_pss_cons (w_ps_if (zV (w_pe_callB zR (by rfl) T.n_isinstance zx (w_pa_N (w_pv 0) (w_pa_N (yT T.g_Num) w_pa_nil))))
    (zf (zh (zk c_qj (hr.mono (by omega)) (zg (w_pe_fld (w_pv 0) rfl) w_pa_nil))))
    zm)
   (w_pss_cons (w_ps_if (zV (w_pe_callB zR (by rfl) T.n_isinstance zx (w_pa_N (w_pv 0) (w_pa_N (yT T.g_Name) w_pa_nil))))
    (zf (zh (zk c_qk (hr.mono (by omega)) (zg (w_pe_fld (w_pv 0) rfl) (w_pa_N (w_pv 1) w_pa_nil)))))
    zm)
   (w_pss_cons (w_ps_if (zV (w_pe_callB zR (by rfl) T.n_isinstance zx (w_pa_N (w_pv 0) (w_pa_N (yT T.g_Two) w_pa_nil))))
    (zf (zh (yl (zk c_qk (hr.mono (by omega)) (zg (w_pe_fld (w_pv 0) rfl) (w_pa_N (yd (v:=.ref a.t_TWO_WORDS) rfl T.g_TWO_WORDS rfl) w_pa_nil))) (yg (zk c_qm (hr.mono (by omega)) (zg (zv (zg (w_pe_fld (w_pv 0) rfl) (zg (w_pe_fld (w_pv 0) rfl) w_pa_nil))) (w_pa_N (w_pv 1) (zU (zi ya (w_pv 2) ze) w_pa_nil))))))))
    zm)
   (w_pss_cons (w_ps_if (zV (w_pe_callB zR (by rfl) T.n_isinstance zx (w_pa_N (w_pv 0) (w_pa_N (yT T.g_Mod) w_pa_nil))))
    (zf (zh (yl (zk c_ql (hr.mono (by omega)) (zg (w_pe_fld (w_pv 0) rfl) w_pa_nil)) (yg (zk c_qn (hr.mono (by omega)) (zg (w_pe_fld (w_pv 0) rfl) (w_pa_N (w_pv 1) (zU (zi ya (w_pv 2) ze) w_pa_nil))))))))
    zm)
   (w_pss_cons (w_ps_if (zV (w_pe_callB zR (by rfl) T.n_isinstance zx (w_pa_N (w_pv 0) (w_pa_N (yT T.g_Less) w_pa_nil))))
    (zf (zh (zk c_qm (hr.mono (by omega)) (zg (zv (zg (w_pe_fld (w_pv 0) rfl) (zg (w_pe_fld (w_pv 0) rfl) (zg (w_pe_fld (w_pv 0) rfl) (zg (w_pe_fld (w_pv 0) rfl) w_pa_nil))))) (w_pa_N (w_pv 1) (zU (zi ya (w_pv 2) ze) w_pa_nil))))))
    zm)
   (zf (zh yo)))))))) ?_
  refine⟨_,rfl,rfl,_,rfl,?_⟩
  refine ite2 (fun q=>?_) (fun q=>?_)
  ·have e:d=0:=by simpa using q
   subst e
   exact k H (Same.refl H)
  have hd:d≠0:=fun e=>q (by subst e;rfl)
  have e1:d.toNat=(d-1).toNat+1:=by omega
  rw[e1] at k
  have b0:0≤d-1:=by omega
  have b1:d-1<n:=by omega
  cases g with
  |num v =>
   obtain⟨p,dx,rfl,hp,lf⟩:=gm
   refine⟨_,rfl,_,_,_,_,_,rfl,rfl,T.ty_Num H p dx _ hp,T.k_Num_Num,_,rfl,Zl ?_⟩
   exact⟨_,rfl,p,_,dx,_,_,rfl,hp,T.cl_Num,T.na_Num_value,rfl,v,rfl,lf,k H (Same.refl H)⟩
  |name v =>
   obtain⟨p,dx,rfl,hp,lf⟩:=gm
   refine⟨_,rfl,_,_,_,_,_,rfl,rfl,T.ty_Name H p dx _ hp,T.k_Name_Num,_,rfl,vN ?_⟩
   refine⟨_,rfl,_,_,_,_,_,rfl,rfl,T.ty_Name H p dx _ hp,T.k_Name_Name,_,rfl,Zl ?_⟩
   exact⟨_,rfl,p,_,dx,_,_,rfl,hp,T.cl_Name,T.na_Name_word,rfl,_,rfl,v,nm,names,rfl,lf,hn H,k H (Same.refl H)⟩
  |two wd g1 g2 =>
   obtain⟨p,dx,u1,u2,rfl,hp,lf,m1,m2⟩:=gm
   refine⟨_,rfl,_,_,_,_,_,rfl,rfl,T.ty_Two H p dx _ hp,T.k_Two_Num,_,rfl,vN ?_⟩
   refine⟨_,rfl,_,_,_,_,_,rfl,rfl,T.ty_Two H p dx _ hp,T.k_Two_Name,_,rfl,vN ?_⟩
   refine⟨_,rfl,_,_,_,_,_,rfl,rfl,T.ty_Two H p dx _ hp,T.k_Two_Two,_,rfl,Zl ?_⟩
   refine⟨_,rfl,p,_,dx,_,_,rfl,hp,T.cl_Two,T.na_Two_word,rfl,wd,_,twoWs,rfl,lf,T.s_TWO_WORDS H,_,rfl,?_⟩
   have k':∀ H',Same H H'→Q (.bl (xZ twoWs wd&&([g1,g2].all (Gx.sound names (d-1).toNat)))) H':=k
   by_cases qw:xZ twoWs wd=true
   ·rw[qw] at k'
    refine iteB qw ?_
    refine⟨_,rfl,p,_,dx,_,_,rfl,hp,T.cl_Two,T.na_Two_one,rfl,_,rfl,p,_,dx,_,_,rfl,hp,T.cl_Two,T.na_Two_other,rfl,(by show 2≤sizeLine;decide),fun lp hlp=>?_⟩
    have s1:=Same.new (o:=HO.lst [u1,u2]) hlp
    exact⟨_,rfl,_,rfl,_,_,rfl,rfl,lp,_,_,nm,names,d-1,rfl,zd,zwx (m1.same s1) (m2.same s1),hn,b0,b1,fun H2 s2=>k' H2 (s1.trans s2)⟩
   ·have qw:=Bool.eq_false_iff.mpr qw
    rw[qw] at k'
    exact yh qw (k' H (Same.refl H))
  |mod g1 v =>
   obtain⟨p,dx,u1,rfl,hp,lf,m1⟩:=gm
   refine⟨_,rfl,_,_,_,_,_,rfl,rfl,T.ty_Mod H p dx _ hp,T.k_Mod_Num,_,rfl,vN ?_⟩
   refine⟨_,rfl,_,_,_,_,_,rfl,rfl,T.ty_Mod H p dx _ hp,T.k_Mod_Name,_,rfl,vN ?_⟩
   refine⟨_,rfl,_,_,_,_,_,rfl,rfl,T.ty_Mod H p dx _ hp,T.k_Mod_Two,_,rfl,vN ?_⟩
   refine⟨_,rfl,_,_,_,_,_,rfl,rfl,T.ty_Mod H p dx _ hp,T.k_Mod_Mod,_,rfl,Zl ?_⟩
   refine⟨_,rfl,p,_,dx,_,_,rfl,hp,T.cl_Mod,T.na_Mod_number,rfl,v,rfl,lf,_,rfl,?_⟩
   have k':∀ H',Same H H'→Q (.bl (zax v&&g1.sound names (d-1).toNat)) H':=k
   by_cases qw:zax v=true
   ·rw[qw] at k'
    refine iteB qw ?_
    exact⟨_,rfl,p,_,dx,_,_,rfl,hp,T.cl_Mod,T.na_Mod_inner,rfl,_,rfl,_,rfl,_,_,rfl,rfl,g1,u1,nm,names,d-1,rfl,m1,hn,b0,b1,k'⟩
   ·have qw:=Bool.eq_false_iff.mpr qw
    rw[qw] at k'
    exact yh qw (k' H (Same.refl H))
  |less g1 g2 g3 g4 =>
   obtain⟨p,dx,u1,u2,u3,u4,rfl,hp,m1,m2,m3,m4⟩:=gm
   refine⟨_,rfl,_,_,_,_,_,rfl,rfl,T.ty_Less H p dx _ hp,T.k_Less_Num,_,rfl,vN ?_⟩
   refine⟨_,rfl,_,_,_,_,_,rfl,rfl,T.ty_Less H p dx _ hp,T.k_Less_Name,_,rfl,vN ?_⟩
   refine⟨_,rfl,_,_,_,_,_,rfl,rfl,T.ty_Less H p dx _ hp,T.k_Less_Two,_,rfl,vN ?_⟩
   refine⟨_,rfl,_,_,_,_,_,rfl,rfl,T.ty_Less H p dx _ hp,T.k_Less_Mod,_,rfl,vN ?_⟩
   refine⟨_,rfl,_,_,_,_,_,rfl,rfl,T.ty_Less H p dx _ hp,T.k_Less_Less,_,rfl,Zl ?_⟩
   refine⟨_,rfl,p,_,dx,_,_,rfl,hp,T.cl_Less,T.na_Less_one,rfl,_,rfl,p,_,dx,_,_,rfl,hp,T.cl_Less,T.na_Less_other,rfl,_,rfl,p,_,dx,_,_,rfl,hp,T.cl_Less,T.na_Less_third,rfl,_,rfl,p,_,dx,_,_,rfl,hp,T.cl_Less,T.na_Less_fourth,rfl,(by show 4≤sizeLine;decide),fun lp hlp=>?_⟩
   have s1:=Same.new (o:=HO.lst [u1,u2,u3,u4]) hlp
   exact⟨_,rfl,_,rfl,_,_,rfl,rfl,lp,_,_,nm,names,d-1,rfl,zd,zxB (m1.same s1) (m2.same s1) (m3.same s1) (m4.same s1),hn,b0,b1,fun H2 s2=>k H2 (s1.trans s2)⟩
  |oth v =>
   obtain⟨rfl,t,ty,n1,n2,n3,n4,n5⟩:=gm
   refine⟨_,rfl,_,_,_,_,_,rfl,rfl,ty,n1,_,rfl,vN ?_⟩
   refine⟨_,rfl,_,_,_,_,_,rfl,rfl,ty,n2,_,rfl,vN ?_⟩
   refine⟨_,rfl,_,_,_,_,_,rfl,rfl,ty,n3,_,rfl,vN ?_⟩
   refine⟨_,rfl,_,_,_,_,_,rfl,rfl,ty,n4,_,rfl,vN ?_⟩
   refine⟨_,rfl,_,_,_,_,_,rfl,rfl,ty,n5,_,rfl,vN ?_⟩
   exact k H (Same.refl H)
theorem zfW {k:Nat}:FnOk P w K mg base CX0 k a.f_qn a.d_qn ["expr", "names", "deep"] (yy K a 0) :=
 ⟨fun vs H Q E h=>by
  obtain⟨g,r,nm,names,d,rfl,_⟩:=h
  rfl,fun A outer s H args us vs Q E _ _ _ _ h=>by
  obtain⟨g,r,nm,names,d,_,_,_,d0,d1,_⟩:=h
  exact absurd d1 (by simp;omega)⟩
theorem Yx (T:Txt w K mg a):∀ n,FnOk P w K mg base CX0 (2*n+1) a.f_qn a.d_qn ["expr", "names", "deep"] (yy K a n)
 |0=>zfW
 |n+1=>vX T (Yx T n)
end
end K04

namespace K04
open PySem L2
theorem Xg {i:Int}(h : -100000000000000000000<i∧i<100000000000000000000):i.natAbs.log2<1920:=by
 by_cases h0:i.natAbs=0
 ·rw[h0];decide
 ·have:=(Nat.log2_lt h0 (k:=67)).mpr (Nat.lt_of_le_of_lt (show i.natAbs≤100000000000000000000 by omega) (by decide))
  omega
section
variable {P:Program}{w:World}{K:PySem.W.Frag}{mg:Str→Option Value}{base:Heap}{a:Ad}
def yk (a:Ad) (n:Nat) (Kd:Ex→Prop):Sp:=fun vs H Q _=>∃ (e:Ex) (r:V) (names:List Str),vs=[r]∧Kd e∧Made a H e r∧e.ok names∧e.dep≤n∧e.size≤sizeLine∧∀ p H',H' p=some (.lst (e.words.map V.str))→Same H H'→Q (.ref p) H'
structure Wordss (P:Program) (w:World) (K:PySem.W.Frag) (mg:Str→Option Value) (base:Heap) (a:Ad) (n:Nat):Prop where
 num:FnOk P w K mg base CX0 (n+1) a.f_qJ a.d_qJ ["self"] (yk a n WH)
 name:FnOk P w K mg base CX0 (n+1) a.f_qM a.d_qM ["self"] (yk a n uI)
 two:FnOk P w K mg base CX0 (n+1) a.f_qP a.d_qP ["self"] (yk a n WF)
 mod:FnOk P w K mg base CX0 (n+1) a.f_qS a.d_qS ["self"] (yk a n WI)
 less:FnOk P w K mg base CX0 (n+1) a.f_qV a.d_qV ["self"] (yk a n uJ)
theorem Wordss.call {n:Nat}(R:Wordss P w K mg base a n) (T:Txt w K mg a){A:Around}(hr:Room (n+1) A){H:Hp}{e:Ex}{x:V}{names:List Str}(hM:Made a H e x) (ho:e.ok names) (hd:e.dep≤n) (hs:e.size≤sizeLine) :
  ∃ (p C dx:Addr) (fs:List (Str×V)) (f:Addr) (fd:FuncData) (ps:List Str) (k:Nat) (sp:Sp),x=.ref p∧H p=some (.ins C dx fs)∧fs.lookup ("words" : Str)=none∧Cls K C∧Meth K C "words" f∧FnOk P w K mg base CX0 k f fd ps sp∧Room k A∧Binds K fd ps [] ∧
   ∀ Q:VK,(∀ p H',H' p=some (.lst (e.words.map V.str))→Same H H'→Q (.ref p) H')→sp (x::([]++[])) H Q E0:=by
 cases e with
 |num i =>
  obtain⟨p,dx,rfl,hp⟩:=id hM
  exact⟨p,_,dx,_,_,_,_,_,_,rfl,hp,rfl,T.cl_Num,T.mt_qJ,R.num,hr,T.b_qJ,fun Q q=>⟨_,_,names,rfl,⟨_,rfl⟩,hM,ho,hd,hs,q⟩⟩
 |name i =>
  obtain⟨p,dx,rfl,hp⟩:=id hM
  exact⟨p,_,dx,_,_,_,_,_,_,rfl,hp,rfl,T.cl_Name,T.mt_qM,R.name,hr,T.b_qM,fun Q q=>⟨_,_,names,rfl,⟨_,rfl⟩,hM,ho,hd,hs,q⟩⟩
 |two i e1 e2 =>
  obtain⟨p,dx,u1,u2,rfl,hp,_⟩:=id hM
  exact⟨p,_,dx,_,_,_,_,_,_,rfl,hp,rfl,T.cl_Two,T.mt_qP,R.two,hr,T.b_qP,fun Q q=>⟨_,_,names,rfl,⟨_,_,_,rfl⟩,hM,ho,hd,hs,q⟩⟩
 |mod e1 i =>
  obtain⟨p,dx,u1,rfl,hp,_⟩:=id hM
  exact⟨p,_,dx,_,_,_,_,_,_,rfl,hp,rfl,T.cl_Mod,T.mt_qS,R.mod,hr,T.b_qS,fun Q q=>⟨_,_,names,rfl,⟨_,_,rfl⟩,hM,ho,hd,hs,q⟩⟩
 |less e1 e2 e3 e4 =>
  obtain⟨p,dx,u1,u2,u3,u4,rfl,hp,_⟩:=id hM
  exact⟨p,_,dx,_,_,_,_,_,_,rfl,hp,rfl,T.cl_Less,T.mt_qV,R.less,hr,T.b_qV,fun Q q=>⟨_,_,names,rfl,⟨_,_,_,_,rfl⟩,hM,ho,hd,hs,q⟩⟩
theorem vq (T:Txt w K mg a) (n:Nat):FnOk P w K mg base CX0 (n+1) a.f_qJ a.d_qJ ["self"] (yk a n WH):=by
 refine T.F_qJ.ok zmJ (fun vs H Q E h=>?_) (fun cdv A outer s H vs Q E hr h=>?_)
 ·obtain⟨e,r,names,rfl,_⟩:=h
  rfl
 ·obtain⟨e,r,names,rfl,⟨i,rfl⟩,⟨p,dx,rfl,hp⟩,ho,_,_,k⟩:=h
  refine zB (zf (zh (zv (zy (zG xq (by rfl) T.n_str XF (zg (w_pe_fld (w_pv 0) rfl) w_pa_nil)) w_pa_nil)))) ?_
  refine⟨_,rfl,p,_,dx,_,_,rfl,hp,T.cl_Num,T.na_Num_value,rfl,i,rfl,Xg ho,(by show 1≤sizeLine;decide),fun q hq=>?_⟩
  exact k _ _ zd (Same.new hq)
theorem wI (T:Txt w K mg a) (n:Nat):FnOk P w K mg base CX0 (n+1) a.f_qM a.d_qM ["self"] (yk a n uI):=by
 refine T.F_qM.ok zmG (fun vs H Q E h=>?_) (fun cdv A outer s H vs Q E hr h=>?_)
 ·obtain⟨e,r,names,rfl,_⟩:=h
  rfl
 ·obtain⟨e,r,names,rfl,⟨i,rfl⟩,⟨p,dx,rfl,hp⟩,ho,_,_,k⟩:=h
  refine zB (zf (zh (zv (zg (w_pe_fld (w_pv 0) rfl) w_pa_nil)))) ?_
  refine⟨_,rfl,p,_,dx,_,_,rfl,hp,T.cl_Name,T.na_Name_word,rfl,(by show 1≤sizeLine;decide),fun q hq=>?_⟩
  exact k _ _ zd (Same.new hq)
theorem vp (T:Txt w K mg a){n:Nat}(R:Wordss P w K mg base a n):FnOk P w K mg base CX0 (n+2) a.f_qP a.d_qP ["self"] (yk a (n+1) WF):=by
 refine T.F_qP.ok zmE (fun vs H Q E h=>?_) (fun cdv A outer s H vs Q E hr h=>?_)
 ·obtain⟨e,r,names,rfl,_⟩:=h
  rfl
 ·obtain⟨e,r,names,rfl,⟨wd,e1,e2,rfl⟩,⟨p,dx,u1,u2,rfl,hp,m1,m2⟩,⟨_,o1,o2⟩,hdep,hz,k⟩:=h
  have hdep:max e1.dep e2.dep+1≤n+1:=hdep
  have hz:1+e1.size+e2.size≤sizeLine:=hz
  have l1:=e1.words_len
  have l2:=e2.words_len
  refine zB (zf (zh (zi yM (zi yM (zv (zg (w_pe_fld (w_pv 0) rfl) w_pa_nil)) (zA (w_pe_fld (w_pv 0) rfl))) (zA (w_pe_fld (w_pv 0) rfl))))) ?_
  refine⟨_,rfl,p,_,dx,_,_,rfl,hp,T.cl_Two,T.na_Two_word,rfl,(by show 1≤sizeLine;decide),fun q0 hq0=>?_⟩
  have s0:=Same.new (o:=HO.lst [V.str wd]) hq0
  refine⟨_,rfl,p,_,dx,_,_,rfl,s0 _ _ hp,T.cl_Two,T.na_Two_one,rfl,?_⟩
  obtain⟨p1,c1,x1,f1,f2,f3,f4,f5,f6,q1,q2,q3,q4,q5,q6,q7,q8,q9⟩:=R.call T hr (m1.same s0) o1 (by omega) (by omega)
  refine⟨p1,c1,x1,f1,f2,f3,f4,f5,f6,q1,q2,q3,q4,q5,q6,q7,q8,q9 _ fun w1 H1 t1 s1=>?_⟩
  refine⟨q0,w1,_,_,rfl,rfl,s1 _ _ zd,t1,(by simp[l1];omega),fun q2 hq2=>?_⟩
  have s2:=s0.trans (s1.trans (Same.new (o:=HO.lst ([V.str wd]++e1.words.map V.str)) hq2))
  refine⟨_,rfl,p,_,dx,_,_,rfl,s2 _ _ hp,T.cl_Two,T.na_Two_other,rfl,?_⟩
  obtain⟨p1,c1,x1,f1,f2,f3,f4,f5,f6,z1,z2,z3,z4,z5,z6,z7,z8,z9⟩:=R.call T hr (m2.same s2) o2 (by omega) (by omega)
  refine⟨p1,c1,x1,f1,f2,f3,f4,f5,f6,z1,z2,z3,z4,z5,z6,z7,z8,z9 _ fun w2 H2 t2 s3=>?_⟩
  refine⟨q2,w2,_,_,rfl,rfl,s3 _ _ zd,t2,(by simp[l1,l2];omega),fun q4 hq4=>?_⟩
  refine k _ _ ?_ (s2.trans (s3.trans (Same.new hq4)))
  rw[zd]
  simp[Ex.words]
theorem vv (T:Txt w K mg a){n:Nat}(R:Wordss P w K mg base a n):FnOk P w K mg base CX0 (n+2) a.f_qS a.d_qS ["self"] (yk a (n+1) WI):=by
 refine T.F_qS.ok zmB (fun vs H Q E h=>?_) (fun cdv A outer s H vs Q E hr h=>?_)
 ·obtain⟨e,r,names,rfl,_⟩:=h
  rfl
 ·obtain⟨e,r,names,rfl,⟨e1,i,rfl⟩,⟨p,dx,u1,rfl,hp,m1⟩,⟨⟨i1,i2⟩,o1⟩,hdep,hz,k⟩:=h
  have hdep:e1.dep+1≤n+1:=hdep
  have hz:2+e1.size≤sizeLine:=hz
  have l1:=e1.words_len
  refine zB (zf (zh (zi yM (zi yM (zv (zn w_pe_str w_pa_nil)) (zA (w_pe_fld (w_pv 0) rfl))) (zv (zy (zG xq (by rfl) T.n_str XF (zg (w_pe_fld (w_pv 0) rfl) w_pa_nil)) w_pa_nil))))) ?_
  refine⟨by show 1≤sizeLine;decide,fun q0 hq0=>?_⟩
  have s0:=Same.new (o:=HO.lst [V.str "mod"]) hq0
  refine⟨_,rfl,p,_,dx,_,_,rfl,s0 _ _ hp,T.cl_Mod,T.na_Mod_inner,rfl,?_⟩
  obtain⟨p1,c1,x1,f1,f2,f3,f4,f5,f6,q1,q2,q3,q4,q5,q6,q7,q8,q9⟩:=R.call T hr (m1.same s0) o1 (by omega) (by omega)
  refine⟨p1,c1,x1,f1,f2,f3,f4,f5,f6,q1,q2,q3,q4,q5,q6,q7,q8,q9 _ fun w1 H1 t1 s1=>?_⟩
  refine⟨q0,w1,_,_,rfl,rfl,s1 _ _ zd,t1,(by simp[l1];omega),fun q2 hq2=>?_⟩
  have s2:=s0.trans (s1.trans (Same.new (o:=HO.lst ([V.str "mod"]++e1.words.map V.str)) hq2))
  refine⟨_,rfl,p,_,dx,_,_,rfl,s2 _ _ hp,T.cl_Mod,T.na_Mod_number,rfl,i,rfl,Xg (by omega),(by show 1≤sizeLine;decide),fun q3 hq3=>?_⟩
  refine⟨q2,q3,_,_,rfl,rfl,(Same.new hq3) _ _ zd,zd,(by simp[l1];omega),fun q4 hq4=>?_⟩
  refine k _ _ ?_ (s2.trans ((Same.new hq3).trans (Same.new hq4)))
  rw[zd]
  simp[Ex.words]
theorem wK (T:Txt w K mg a){n:Nat}(R:Wordss P w K mg base a n):FnOk P w K mg base CX0 (n+2) a.f_qV a.d_qV ["self"] (yk a (n+1) uJ):=by
 refine T.F_qV.ok zmy (fun vs H Q E h=>?_) (fun cdv A outer s H vs Q E hr h=>?_)
 ·obtain⟨e,r,names,rfl,_⟩:=h
  rfl
 ·obtain⟨e,r,names,rfl,⟨e1,e2,e3,e4,rfl⟩,⟨p,dx,u1,u2,u3,u4,rfl,hp,m1,m2,m3,m4⟩,⟨o1,o2,o3,o4⟩,hdep,hz,k⟩:=h
  have hdep:max (max e1.dep e2.dep) (max e3.dep e4.dep)+1≤n+1:=hdep
  have hz:1+e1.size+e2.size+e3.size+e4.size≤sizeLine:=hz
  have l1:=e1.words_len
  have l2:=e2.words_len
  have l3:=e3.words_len
  have l4:=e4.words_len
  refine zB (zf (zh (zi yM (zi yM (zi yM (zi yM (zv (zn w_pe_str w_pa_nil)) (zA (w_pe_fld (w_pv 0) rfl))) (zA (w_pe_fld (w_pv 0) rfl))) (zA (w_pe_fld (w_pv 0) rfl))) (zA (w_pe_fld (w_pv 0) rfl))))) ?_
  refine⟨by show 1≤sizeLine;decide,fun q0 hq0=>?_⟩
  have s0:=Same.new (o:=HO.lst [V.str "less"]) hq0
  refine⟨_,rfl,p,_,dx,_,_,rfl,s0 _ _ hp,T.cl_Less,T.na_Less_one,rfl,?_⟩
  obtain⟨p1,c1,x1,f1,f2,f3,f4,f5,f6,z1,z2,z3,z4,z5,z6,z7,z8,z9⟩:=R.call T hr (m1.same s0) o1 (by omega) (by omega)
  refine⟨p1,c1,x1,f1,f2,f3,f4,f5,f6,z1,z2,z3,z4,z5,z6,z7,z8,z9 _ fun w1 H1 t1 y1=>?_⟩
  refine⟨q0,w1,_,_,rfl,rfl,y1 _ _ zd,t1,(by simp[l1,l2,l3,l4];omega),fun q1 hq1=>?_⟩
  have s1:=s0.trans (y1.trans (Same.new (o:=HO.lst ([V.str "less"]++e1.words.map V.str)) hq1))
  refine⟨_,rfl,p,_,dx,_,_,rfl,s1 _ _ hp,T.cl_Less,T.na_Less_other,rfl,?_⟩
  obtain⟨p1,c1,x1,f1,f2,f3,f4,f5,f6,z1,z2,z3,z4,z5,z6,z7,z8,z9⟩:=R.call T hr (m2.same s1) o2 (by omega) (by omega)
  refine⟨p1,c1,x1,f1,f2,f3,f4,f5,f6,z1,z2,z3,z4,z5,z6,z7,z8,z9 _ fun w2 H2 t2 y2=>?_⟩
  refine⟨q1,w2,_,_,rfl,rfl,y2 _ _ zd,t2,(by simp[l1,l2,l3,l4];omega),fun q2 hq2=>?_⟩
  have s2:=s1.trans (y2.trans (Same.new (o:=HO.lst (([V.str "less"]++e1.words.map V.str)++e2.words.map V.str)) hq2))
  refine⟨_,rfl,p,_,dx,_,_,rfl,s2 _ _ hp,T.cl_Less,T.na_Less_third,rfl,?_⟩
  obtain⟨p1,c1,x1,f1,f2,f3,f4,f5,f6,z1,z2,z3,z4,z5,z6,z7,z8,z9⟩:=R.call T hr (m3.same s2) o3 (by omega) (by omega)
  refine⟨p1,c1,x1,f1,f2,f3,f4,f5,f6,z1,z2,z3,z4,z5,z6,z7,z8,z9 _ fun w3 H3 t3 y3=>?_⟩
  refine⟨q2,w3,_,_,rfl,rfl,y3 _ _ zd,t3,(by simp[l1,l2,l3,l4];omega),fun q3 hq3=>?_⟩
  have s3:=s2.trans (y3.trans (Same.new (o:=HO.lst ((([V.str "less"]++e1.words.map V.str)++e2.words.map V.str)++e3.words.map V.str)) hq3))
  refine⟨_,rfl,p,_,dx,_,_,rfl,s3 _ _ hp,T.cl_Less,T.na_Less_fourth,rfl,?_⟩
  obtain⟨p1,c1,x1,f1,f2,f3,f4,f5,f6,z1,z2,z3,z4,z5,z6,z7,z8,z9⟩:=R.call T hr (m4.same s3) o4 (by omega) (by omega)
  refine⟨p1,c1,x1,f1,f2,f3,f4,f5,f6,z1,z2,z3,z4,z5,z6,z7,z8,z9 _ fun w4 H4 t4 y4=>?_⟩
  refine⟨q3,w4,_,_,rfl,rfl,y4 _ _ zd,t4,(by simp[l1,l2,l3,l4];omega),fun q4 hq4=>?_⟩
  refine k _ _ ?_ (s3.trans (y4.trans (Same.new hq4)))
  rw[zd]
  simp[Ex.words]
theorem xL {f:Addr}{fd:FuncData}{ps:List Str}{Kd:Ex→Prop}{k:Nat}(hl:ps.length=1):FnOk P w K mg base CX0 k f fd ps (yk a 0 Kd) :=
 ⟨fun vs H Q E h=>by
  obtain⟨e,r,names,rfl,_⟩:=h
  exact hl.symm,fun A outer s H args us vs Q E _ _ _ _ h=>by
  obtain⟨e,r,names,_,_,_,_,hd,_⟩:=h
  have:=e.dep_pos
  omega⟩
theorem uj (T:Txt w K mg a):∀ n,Wordss P w K mg base a n
 |0=>⟨xL rfl,xL rfl,xL rfl,xL rfl,xL rfl⟩
 |n+1=>⟨vq T (n+1),wI T (n+1),vp T (uj T n),vv T (uj T n),wK T (uj T n)⟩
end
end K04

namespace K04
open PySem L2
section
variable {P:Program}{w:World}{K:PySem.W.Frag}{mg:Str→Option Value}{base:Heap}{a:Ad}
def zai (a:Ad) (H:Hp) (n:Nat) (rs:List V) (es:List Ex):Prop:=rs.length=es.length∧∀ (i:Nat) r,rs[i]?=some r→∃ e names,es[i]?=some e∧Made a H e r∧e.ok names∧e.dep≤n∧e.size≤sizeLine
def xV (es:List Ex):List Int:=es.map fun e=>(e.size:Int)
def Yw (a:Ad) (n:Nat):Sp:=fun vs H Q _=>∃ (l:Addr) (rs:List V) (es:List Ex),vs=[.ref l]∧H l=some (.lst rs)∧rs.length≤1000∧zai a H n rs es∧∀ H',Same H H'→Q (.int (xV es).sum) H'
theorem Wn (T:Txt w K mg a) (n:Nat):FnOk P w K mg base CX0 (n+2) a.f_qo a.d_qo ["exprs"] (Yw a n):=by
 have WW:Wordss P w K mg base a n:=uj T n
 refine T.F_qo.ok zmm (fun vs H Q E h=>?_) (fun cdv A outer s H vs Q E hr h=>?_)
 ·obtain⟨l,rs,es,rfl,_⟩:=h
  rfl
 ·obtain⟨l,rs,es,rfl,hl,hz,⟨hlen,hm⟩,k⟩:=h
  refine zB (zf (zh (w_pe_callB (call_sumI rfl) (by rfl) T.n_sum Vo (zg (ye rfl (N':=["expr"]) (t:=1) (caps:=[]) ⟨rfl,rfl,rfl⟩ (zC (w_pv 0)) (fun _=>(zt (i:=0) (show(["expr"]:List Str).Nodup by decide +kernel) rfl (Or.inl rfl))) (fun _=>yj) (fun _=>(w_pe_callB zr (by rfl) T.n_len yb (zy (zA (w_pv 0)) w_pa_nil)))) w_pa_nil)))) ?_
  refine⟨_,rfl,l,rfl,⟨_,SqL.of hl⟩,fun D hD _=>?_⟩
  refine zZ (K:=K) (a:=l) (xs:=rs) (fun i zs τ H'=>∃ o,τ=[o]∧i≤rs.length∧zs=((xV es).take i).map V.int∧H' D=some (.lst zs)∧Same H H') ?_ ?_ ?_ ?_
  ·exact⟨none,rfl,Nat.zero_le _,by simp,zd,Same.new hD⟩
  ·rintro i zs τ H' ⟨o,_,_,_,_,sm⟩
   exact SqL.of (sm _ _ hl)
  ·rintro i x zs τ H' hi ⟨o,rfl,_,rfl,hD',sm⟩
   obtain⟨e,names,he,m,ok,dd,sz⟩:=hm i x hi
   have hi':i<rs.length:=(List.getElem?_eq_some_iff.mp hi).1
   refine gn_if ?_
   refine⟨_,rfl,?_⟩
   obtain⟨p1,c1,x1,f1,f2,f3,f4,f5,f6,z1,z2,z3,z4,z5,z6,z7,z8,z9⟩:=WW.call T (A:=A.deeper (PyProof.Rows.envOfC "count_words" (defScope uW) s.heap.objs.size a.f_qo cdv)) hr (m.same sm) ok dd sz
   refine⟨p1,c1,x1,f1,f2,f3,f4,f5,f6,z1,z2,z3,z4,z5,z6,z7,z8,z9 _ fun p H1 t1 s1=>?_⟩
   have ez:(xV es)[i]?=some ((e.size:Nat):Int):=by unfold xV;rw[List.getElem?_map,he];rfl
   refine⟨p,_,rfl,.inl (SqL.of t1),s1 _ _ hD',?_,some x,rfl,hi',?_,zd,?_⟩
   ·rw[List.length_map]
    exact zo (Nat.le_trans (List.length_take_le _ _) (by omega))
   ·rw[List.take_add_one,ez,List.map_append,List.length_map,e.words_len]
    rfl
   ·have s2:=sm.trans s1
    intro b o e
    have hb:b≠D:=ne_of_none e hD
    rw[upd_ne hb]
    exact s2 b o e
  ·rintro zs τ H' ⟨o,rfl,_,rfl,hD',sm⟩
   have el:(xV es).take rs.length=xV es:=List.take_of_length_le (by unfold xV;rw[List.length_map,hlen];exact Nat.le_refl _)
   rw[el] at hD'
   exact⟨D,xV es,rfl,SqL.of hD',k H' sm⟩
abbrev xb:List Str:=["me", "lines"]
abbrev yH:List Str:=["worth", "me", "round", "lines", "to"]
abbrev xc:List Str:=["worth", "me", "round", "lines", "sum", "least", "most", "count"]
noncomputable def zwz (a:Ad) (H:Hp) (e1 e2 e3 e4:Ex) (r1 r2 r3 r4:V):Prop :=
 (Made a H e1 r1∧e1.ok xb∧e1.dep≤8)∧(Made a H e2 r2∧e2.ok yH∧e2.dep≤8)∧(Made a H e3 r3∧e3.ok yH∧e3.dep≤8)∧(Made a H e4 r4∧e4.ok xc∧e4.dep≤8)∧e1.size+e2.size+e3.size+e4.size≤60
def W1 (a:Ad):Sp:=fun vs H Q _=>∃ (p dx:Addr) (r1 r2 r3 r4:V) (e1 e2 e3 e4:Ex),vs=[.ref p,r1,r2,r3,r4]∧H p=some (.ins a.c_Program dx [])∧zwz a H e1 e2 e3 e4 r1 r2 r3 r4 ∧
 ∀ H',Same H H'→Q .non (upd H' p (.ins a.c_Program dx [("start",r1),("send",r2),("when",r3),("renew",r4)]))
theorem VZ (T:Txt w K mg a):FnOk P w K mg base CX0 22 a.f_qW a.d_qW ["self", "start", "send", "when", "renew"] (W1 a):=by
 have c_qn:Callee P w K mg base "is_sound" a.f_qn a.d_qn ["expr", "names", "deep"] 19 (yy K a 9):=⟨Yx T 9,T.g_qn,T.F_qn.kp,T.b_qn⟩
 have c_qm:Callee P w K mg base "are_sound" a.f_qm a.d_qm ["parts", "names", "deep"] 20 (Vy K a 9):=⟨Vg T (Yx T 9),T.g_qm,T.F_qm.kp,T.b_qm⟩
 have c_qo:Callee P w K mg base "count_words" a.f_qo a.d_qo ["exprs"] 10 (Yw a 8):=⟨Wn T 8,T.g_qo,T.F_qo.kp,T.b_qo⟩
 refine T.F_qW.ok zmx (fun vs H Q E h=>?_) (fun cdv A outer s H vs Q E hr h=>?_)
 ·obtain⟨p,dx,r1,r2,r3,r4,e1,e2,e3,e4,rfl,_⟩:=h
  rfl
 ·obtain⟨p,dx,r1,r2,r3,r4,e1,e2,e3,e4,rfl,hp,⟨⟨m1,o1,d1⟩,⟨m2,o2,d2⟩,⟨m3,o3,d3⟩,⟨m4,o4,d4⟩,hz⟩,k⟩:=h
  have q1:e1.gx.sound xb (8:Int).toNat=true:=Ex.sound o1 d1
  have q2:e2.gx.sound yH (8:Int).toNat=true:=Ex.sound o2 d2
  have q3:e3.gx.sound yH (8:Int).toNat=true:=Ex.sound o3 d3
  have q4:e4.gx.sound xc (8:Int).toNat=true:=Ex.sound o4 d4
  refine zB (w_pss_cons (w_ps_if (yS (zV (zk c_qn (hr.mono (by omega)) (w_pa_N (w_pv 1) (w_pa_N (yd (v:=.ref a.t_START_NAMES) rfl T.g_START_NAMES rfl) (w_pa_N (yd (v:=.int 8) rfl T.g_MOST_DEEP ⟨_,rfl⟩) w_pa_nil))))))
    (zf yq)
    zm)
   (w_pss_cons (w_ps_if (yS (zV (zk c_qm (hr.mono (by omega)) (zg (zv (w_pa_N (w_pv 2) (w_pa_N (w_pv 3) w_pa_nil))) (w_pa_N (yd (v:=.ref a.t_SEND_NAMES) rfl T.g_SEND_NAMES rfl) (w_pa_N (yd (v:=.int 8) rfl T.g_MOST_DEEP ⟨_,rfl⟩) w_pa_nil))))))
    (zf yq)
    zm)
   (w_pss_cons (w_ps_if (yS (zV (zk c_qn (hr.mono (by omega)) (w_pa_N (w_pv 4) (w_pa_N (yd (v:=.ref a.t_RENEW_NAMES) rfl T.g_RENEW_NAMES rfl) (w_pa_N (yd (v:=.int 8) rfl T.g_MOST_DEEP ⟨_,rfl⟩) w_pa_nil))))))
    (zf yq)
    zm)
   (w_pss_cons (w_ps_if (w_pt_cmpR op_gt (zk c_qo (hr.mono (by omega)) (zg (zv (w_pa_N (w_pv 1) (w_pa_N (w_pv 2) (w_pa_N (w_pv 3) (w_pa_N (w_pv 4) w_pa_nil))))) w_pa_nil)) (yd (v:=.int 60) rfl T.g_MOST_WORDS ⟨_,rfl⟩) (zw _))
    (zf yq)
    zm)
   (w_pss_cons (zI (w_pv 0) (w_pv 1) rfl)
   (w_pss_cons (zI (w_pv 0) (w_pv 2) rfl)
   (w_pss_cons (zI (w_pv 0) (w_pv 3) rfl)
   (zf (zI (w_pv 0) (w_pv 4) rfl))))))))) ?_
  refine⟨_,rfl,e1.gx,r1,_,xb,8,rfl,m1.gx T,T.s_START_NAMES,by decide,by decide,fun H1 s1=>⟨_,rfl,yh (by rw[q1];rfl) ?_⟩⟩
  refine⟨_,rfl,_,rfl,(by show 2≤sizeLine;decide),fun lp hlp=>?_⟩
  have s2:=s1.trans (Same.new (o:=HO.lst [r2,r3]) hlp)
  refine⟨lp,_,_,_,yH,8,rfl,zd,zwx ((m2.same s2).gx T) ((m3.same s2).gx T),T.s_SEND_NAMES,by decide,by decide,fun H3 s3=>⟨_,rfl,yh (by rw[List.all_cons,List.all_cons,q2,q3];rfl) ?_⟩⟩
  have s3:=s2.trans s3
  refine⟨_,rfl,e4.gx,r4,_,xc,8,rfl,(m4.same s3).gx T,T.s_RENEW_NAMES,by decide,by decide,fun H4 s4=>⟨_,rfl,yh (by rw[q4];rfl) ?_⟩⟩
  have s4:=s3.trans s4
  refine⟨_,rfl,_,rfl,_,rfl,_,rfl,(by show 4≤sizeLine;decide),fun lq hlq=>?_⟩
  have s5:=s4.trans (Same.new (o:=HO.lst [r1,r2,r3,r4]) hlq)
  have big:60≤sizeLine:=by decide
  refine⟨lq,_,[e1,e2,e3,e4],rfl,zd,by simp,⟨rfl,fun i r hi=>?_⟩,fun H6 s6=>⟨_,_,rfl,rfl,_,rfl,yh ?_ ?_⟩⟩
  ·match i,hi with
   |0,hi=>cases hi;exact⟨e1,_,rfl,m1.same s5,o1,d1,by omega⟩
   |1,hi=>cases hi;exact⟨e2,_,rfl,m2.same s5,o2,d2,by omega⟩
   |2,hi=>cases hi;exact⟨e3,_,rfl,m3.same s5,o3,d3,by omega⟩
   |3,hi=>cases hi;exact⟨e4,_,rfl,m4.same s5,o4,d4,by omega⟩
   |_+4,hi=>simp at hi
  ·refine decide_eq_false ?_
   show ¬ ((xV [e1,e2,e3,e4]).sum>60)
   simp[xV]
   omega
  ·have s6:=s5.trans s6
   refine⟨_,rfl,_,rfl,p,a.c_Program,dx,_,rfl,s6 _ _ hp,T.cl_Program,T.na_Program_start,(by show 0<1000;decide),?_⟩
   refine⟨_,rfl,_,rfl,p,a.c_Program,dx,_,rfl,zd,T.cl_Program,T.na_Program_send,(by show 1<1000;decide),?_⟩
   refine⟨_,rfl,_,rfl,p,a.c_Program,dx,_,rfl,zd,T.cl_Program,T.na_Program_when,(by show 2<1000;decide),?_⟩
   refine⟨_,rfl,_,rfl,p,a.c_Program,dx,_,rfl,zd,T.cl_Program,T.na_Program_renew,(by show 3<1000;decide),?_⟩
   rw[yp,yp,yp]
   exact k H6 s6
end
end K04

namespace K04
open PySem L2
section
variable {P:Program}{w:World}{K:PySem.W.Frag}{mg:Str→Option Value}{base:Heap}{a:Ad}
def Ys (a:Ad) (n:Nat):Sp:=fun vs H Q _=>∃ (e:Ex) (v:V) (names:List Str),vs=[v]∧Told H e v∧e.dep≤n∧e.ok names∧∀ r H',Made a H' e r→Same H H'→Q r H'
theorem YR (T:Txt w K mg a):∀ n,FnOk P w K mg base CX0 (n+2) a.f_qC a.d_qC ["_law_told"] (Ys a n)
 |0=>⟨fun vs H Q E h=>by
   obtain⟨e,v,names,rfl,_⟩:=h
   rfl,fun A outer s H args us vs Q E _ _ _ _ h=>by
   obtain⟨e,v,names,_,_,hd,_⟩:=h
   have:=e.dep_pos
   omega⟩
 |n+1=>by
  have c_qC:Callee P w K mg base "_law_made" a.f_qC a.d_qC ["_law_told"] (n+2) (Ys a n):=⟨YR T n,T.g_qC,T.F_qC.kp,T.b_qC⟩
  have m_Num:Maker P w K mg base "Num" a.c_Num a.f_qH a.d_qH ["self", "value"] 1 (ziw a.c_Num "value"):=⟨v0 T,T.g_Num,T.mk_Num,T.b_qH⟩
  have m_Name:Maker P w K mg base "Name" a.c_Name a.f_qK a.d_qK ["self", "word"] 1 (ziw a.c_Name "word"):=⟨vt T,T.g_Name,T.mk_Name,T.b_qK⟩
  have m_Two:Maker P w K mg base "Two" a.c_Two a.f_qN a.d_qN ["self", "word", "one", "other"] 1 (zuS a.c_Two "word" "one" "other"):=⟨vZ T,T.g_Two,T.mk_Two,T.b_qN⟩
  have m_Mod:Maker P w K mg base "Mod" a.c_Mod a.f_qQ a.d_qQ ["self", "inner", "number"] 1 (zuT a.c_Mod "inner" "number"):=⟨v5 T,T.g_Mod,T.mk_Mod,T.b_qQ⟩
  have m_Less:Maker P w K mg base "Less" a.c_Less a.f_qT a.d_qT ["self", "one", "other", "third", "fourth"] 1 (zuR a.c_Less "one" "other" "third" "fourth"):=⟨vw T,T.g_Less,T.mk_Less,T.b_qT⟩
  refine T.F_qC.ok zmN (fun vs H Q E h=>?_) (fun cdv A outer s H vs Q E hr h=>?_)
  ·obtain⟨e,v,names,rfl,_⟩:=h
   rfl
  ·obtain⟨e,v,names,rfl,ht,hdep,ho,k⟩:=h
   refine zB (w_pss_cons (w_ps_if (w_pt_cmpR yu (zu zL (w_pv 0) ze (fun _ _=>rfl)) w_pe_str (zw _))
    (zf (zh (yG m_Num (hr.mono (by omega)) (zg (zu zL (w_pv 0) ze (fun _ _=>rfl)) w_pa_nil))))
    zm)
   (w_pss_cons (w_ps_if (w_pt_cmpR yu (zu zL (w_pv 0) ze (fun _ _=>rfl)) w_pe_str (zw _))
    (zf (zh (yG m_Name (hr.mono (by omega)) (zg (zu zL (w_pv 0) ze (fun _ _=>rfl)) w_pa_nil))))
    zm)
   (w_pss_cons (w_ps_if (w_pt_cmpR yu (zu zL (w_pv 0) ze (fun _ _=>rfl)) w_pe_str (zw _))
    (zf (zh (yG m_Mod (hr.mono (by omega)) (zy (zk c_qC (hr.mono (by omega)) (zg (zu zL (w_pv 0) ze (fun _ _=>rfl)) w_pa_nil)) (zg (zu zL (w_pv 0) ze (fun _ _=>rfl)) w_pa_nil)))))
    zm)
   (w_pss_cons (w_ps_if (w_pt_cmpR yu (zu zL (w_pv 0) ze (fun _ _=>rfl)) w_pe_str (zw _))
    (zf (zh (yG m_Less (hr.mono (by omega)) (zy (zk c_qC (hr.mono (by omega)) (zg (zu zL (w_pv 0) ze (fun _ _=>rfl)) w_pa_nil)) (zy (zk c_qC (hr.mono (by omega)) (zg (zu zL (w_pv 0) ze (fun _ _=>rfl)) w_pa_nil)) (zy (zk c_qC (hr.mono (by omega)) (zg (zu zL (w_pv 0) ze (fun _ _=>rfl)) w_pa_nil)) (zy (zk c_qC (hr.mono (by omega)) (zg (zu zL (w_pv 0) ze (fun _ _=>rfl)) w_pa_nil)) w_pa_nil)))))))
    zm)
   (zf (zh (yG m_Two (hr.mono (by omega)) (zg (zu zL (w_pv 0) ze (fun _ _=>rfl)) (zy (zk c_qC (hr.mono (by omega)) (zg (zu zL (w_pv 0) ze (fun _ _=>rfl)) w_pa_nil)) (zy (zk c_qC (hr.mono (by omega)) (zg (zu zL (w_pv 0) ze (fun _ _=>rfl)) w_pa_nil)) w_pa_nil)))))))))) ?_
   cases e with
   |num i =>
    obtain⟨p,rfl,hp⟩:=ht
    refine⟨_,rfl,p,_,0,_,rfl,rfl,SqT.of hp,rfl,rfl,_,rfl,iteB (by decide +kernel) ?_⟩
    refine⟨_,rfl,p,_,1,_,rfl,rfl,SqT.of hp,rfl,fun x dx nx ndx nex=>⟨x,dx,_,rfl,zd,rfl,?_⟩⟩
    exact k _ _ ⟨x,dx,rfl,zd⟩ (Same.made nx ndx)
   |name i =>
    obtain⟨p,rfl,hp⟩:=ht
    refine⟨_,rfl,p,_,0,_,rfl,rfl,SqT.of hp,rfl,rfl,_,rfl,yh (by decide +kernel) ?_⟩
    refine⟨_,rfl,p,_,0,_,rfl,rfl,SqT.of hp,rfl,rfl,_,rfl,iteB (by decide +kernel) ?_⟩
    refine⟨_,rfl,p,_,1,_,rfl,rfl,SqT.of hp,rfl,fun x dx nx ndx nex=>⟨x,dx,_,rfl,zd,rfl,?_⟩⟩
    exact k _ _ ⟨x,dx,rfl,zd⟩ (Same.made nx ndx)
   |mod e1 i =>
    obtain⟨p,u1,rfl,hp,t1⟩:=ht
    obtain⟨_,o1⟩:=ho
    have hdep:e1.dep+1≤n+1:=hdep
    refine⟨_,rfl,p,_,0,_,rfl,rfl,SqT.of hp,rfl,rfl,_,rfl,yh (by decide +kernel) ?_⟩
    refine⟨_,rfl,p,_,0,_,rfl,rfl,SqT.of hp,rfl,rfl,_,rfl,yh (by decide +kernel) ?_⟩
    refine⟨_,rfl,p,_,0,_,rfl,rfl,SqT.of hp,rfl,rfl,_,rfl,iteB (by decide +kernel) ?_⟩
    refine⟨_,rfl,p,_,1,_,rfl,rfl,SqT.of hp,rfl,e1,_,names,rfl,t1,by omega,o1,fun r1 H1 m1 s1=>?_⟩
    refine⟨_,rfl,p,_,2,_,rfl,rfl,SqT.of (s1 _ _ hp),rfl,fun x dx nx ndx nex=>⟨x,dx,_,_,rfl,zd,rfl,?_⟩⟩
    exact k _ _ ⟨x,dx,r1,rfl,zd,m1.same (Same.made nx ndx)⟩ (s1.trans (Same.made nx ndx))
   |less e1 e2 e3 e4 =>
    obtain⟨p,u1,u2,u3,u4,rfl,hp,t1,t2,t3,t4⟩:=ht
    obtain⟨o1,o2,o3,o4⟩:=ho
    have hdep:max (max e1.dep e2.dep) (max e3.dep e4.dep)+1≤n+1:=hdep
    refine⟨_,rfl,p,_,0,_,rfl,rfl,SqT.of hp,rfl,rfl,_,rfl,yh (by decide +kernel) ?_⟩
    refine⟨_,rfl,p,_,0,_,rfl,rfl,SqT.of hp,rfl,rfl,_,rfl,yh (by decide +kernel) ?_⟩
    refine⟨_,rfl,p,_,0,_,rfl,rfl,SqT.of hp,rfl,rfl,_,rfl,yh (by decide +kernel) ?_⟩
    refine⟨_,rfl,p,_,0,_,rfl,rfl,SqT.of hp,rfl,rfl,_,rfl,iteB (by decide +kernel) ?_⟩
    refine⟨_,rfl,p,_,1,_,rfl,rfl,SqT.of hp,rfl,e1,_,names,rfl,t1,by omega,o1,fun r1 H1 m1 s1=>?_⟩
    refine⟨_,rfl,p,_,2,_,rfl,rfl,SqT.of (s1 _ _ hp),rfl,e2,_,names,rfl,t2.same s1,by omega,o2,fun r2 H2 m2 s2=>?_⟩
    have s12:=s1.trans s2
    refine⟨_,rfl,p,_,3,_,rfl,rfl,SqT.of (s12 _ _ hp),rfl,e3,_,names,rfl,t3.same s12,by omega,o3,fun r3 H3 m3 s3=>?_⟩
    have s123:=s12.trans s3
    refine⟨_,rfl,p,_,4,_,rfl,rfl,SqT.of (s123 _ _ hp),rfl,e4,_,names,rfl,t4.same s123,by omega,o4,fun r4 H4 m4 s4=>?_⟩
    refine fun x dx nx ndx nex=>⟨x,dx,_,_,_,_,rfl,zd,rfl,?_⟩
    have s5:Same H4 _:=Same.made (C:=a.c_Less) (fs:=[("one",r1),("other",r2),("third",r3),("fourth",r4)]) (fs':=[]) nx ndx
    exact k _ _ ⟨x,dx,r1,r2,r3,r4,rfl,zd,m1.same (s2.trans (s3.trans (s4.trans s5))),m2.same (s3.trans (s4.trans s5)),m3.same (s4.trans s5),m4.same s5⟩ (s123.trans (s4.trans s5))
   |two wd e1 e2 =>
    obtain⟨p,u1,u2,rfl,hp,t1,t2⟩:=ht
    obtain⟨hw,o1,o2⟩:=ho
    have hdep:max e1.dep e2.dep+1≤n+1:=hdep
    obtain⟨w1,w2,w3,w4⟩:=zaD hw
    refine⟨_,rfl,p,_,0,_,rfl,rfl,SqT.of hp,rfl,rfl,_,rfl,yh w1 ?_⟩
    refine⟨_,rfl,p,_,0,_,rfl,rfl,SqT.of hp,rfl,rfl,_,rfl,yh w2 ?_⟩
    refine⟨_,rfl,p,_,0,_,rfl,rfl,SqT.of hp,rfl,rfl,_,rfl,yh w3 ?_⟩
    refine⟨_,rfl,p,_,0,_,rfl,rfl,SqT.of hp,rfl,rfl,_,rfl,yh w4 ?_⟩
    refine⟨_,rfl,p,_,0,_,rfl,rfl,SqT.of hp,rfl,?_⟩
    refine⟨_,rfl,p,_,1,_,rfl,rfl,SqT.of hp,rfl,e1,_,names,rfl,t1,by omega,o1,fun r1 H1 m1 s1=>?_⟩
    refine⟨_,rfl,p,_,2,_,rfl,rfl,SqT.of (s1 _ _ hp),rfl,e2,_,names,rfl,t2.same s1,by omega,o2,fun r2 H2 m2 s2=>?_⟩
    refine fun x dx nx ndx nex=>⟨x,dx,_,_,_,rfl,zd,rfl,?_⟩
    have s5:Same H2 _:=Same.made (C:=a.c_Two) (fs:=[("word",V.str wd),("one",r1),("other",r2)]) (fs':=[]) nx ndx
    exact k _ _ ⟨x,dx,r1,r2,rfl,zd,m1.same (s2.trans s5),m2.same s5⟩ ((s1.trans s2).trans s5)
end
end K04

namespace K04
open PySem L2
abbrev ky (x:Str):Key:=Sum.inr x
abbrev kvF (hand lines:Int):List (Key×V):=[(ky "me",.int hand),(ky "lines",.int lines)]
abbrev kvS (worth hand turn lines other:Int):List (Key×V):=[(ky "worth",.int worth),(ky "me",.int hand),(ky "round",.int turn),(ky "lines",.int lines),(ky "to",.int other)]
abbrev kvR (worth hand turn lines sum mn mx ct:Int):List (Key×V):=[(ky "worth",.int worth),(ky "me",.int hand),(ky "round",.int turn),(ky "lines",.int lines),(ky "sum",.int sum),(ky "least",.int mn),(ky "most",.int mx),(ky "count",.int ct)]
theorem zxA {h l:Int}:Has xb (kvF h l):=fun x hx=>by
 simp only[List.mem_cons,List.not_mem_nil,or_false] at hx
 rcases hx with rfl | rfl
 ·exact⟨h,rfl⟩
 ·exact⟨l,rfl⟩
theorem zww {q h t l o:Int}:Has yH (kvS q h t l o):=fun x hx=>by
 simp only[List.mem_cons,List.not_mem_nil,or_false] at hx
 rcases hx with rfl | rfl | rfl | rfl | rfl
 ·exact⟨q,rfl⟩
 ·exact⟨h,rfl⟩
 ·exact⟨t,rfl⟩
 ·exact⟨l,rfl⟩
 ·exact⟨o,rfl⟩
theorem zxz {q h t l s mn mx c:Int}:Has xc (kvR q h t l s mn mx c):=fun x hx=>by
 simp only[List.mem_cons,List.not_mem_nil,or_false] at hx
 rcases hx with rfl | rfl | rfl | rfl | rfl | rfl | rfl | rfl
 ·exact⟨q,rfl⟩
 ·exact⟨h,rfl⟩
 ·exact⟨t,rfl⟩
 ·exact⟨l,rfl⟩
 ·exact⟨s,rfl⟩
 ·exact⟨mn,rfl⟩
 ·exact⟨mx,rfl⟩
 ·exact⟨c,rfl⟩
def LstN (ns:List Int) (m:Int):Prop:=(ns=[]∧m=0)∨(m∈ns∧∀ y∈ns,m≤y)
def MstN (ns:List Int) (m:Int):Prop:=(ns=[]∧m=0)∨(m∈ns∧∀ y∈ns,y≤m)
section
variable {P:Program}{w:World}{K:PySem.W.Frag}{mg:Str→Option Value}{base:Heap}{a:Ad}
theorem Reckons.call2 {n:Nat}(R:Reckons P w K mg base a n) (T:Txt w K mg a){A:Around}(hr:Room (n+1) A){H:Hp}{e:Ex}{x:V}{names:List Str}(hM:Made a H e x) (hd:e.dep≤n) (ho:e.ok names) :
  ∃ (p C dx:Addr) (fs:List (Str×V)) (f:Addr) (fd:FuncData) (ps:List Str) (k:Nat) (sp:Sp),x=.ref p∧H p=some (.ins C dx fs)∧fs.lookup ("reckon" : Str)=none∧Cls K C∧Meth K C "reckon" f∧FnOk P w K mg base CX0 k f fd ps sp∧Room k A∧Binds K fd ps [] ∧
   ∀ (H1:Hp) (d:Addr) (kvs:List (Key×V)),Same H H1→H1 d=some (.dK kvs)→Has names kvs→∀ Q:VK,Q (.int (e.val (rho kvs))) H1→sp (x::([.ref d]++[])) H1 Q E0:=by
 cases e with
 |num i =>
  obtain⟨p,dx,rfl,hp⟩:=id hM
  exact⟨p,_,dx,_,_,_,_,_,_,rfl,hp,rfl,T.cl_Num,T.mt_qI,R.num,hr,T.b_qI,fun H1 d kvs sm h1 h2 Q q=>⟨_,_,_,_,_,rfl,⟨_,rfl⟩,hM.same sm,hd,ho,h1,h2,q⟩⟩
 |name i =>
  obtain⟨p,dx,rfl,hp⟩:=id hM
  exact⟨p,_,dx,_,_,_,_,_,_,rfl,hp,rfl,T.cl_Name,T.mt_qL,R.name,hr,T.b_qL,fun H1 d kvs sm h1 h2 Q q=>⟨_,_,_,_,_,rfl,⟨_,rfl⟩,hM.same sm,hd,ho,h1,h2,q⟩⟩
 |two i e1 e2 =>
  obtain⟨p,dx,u1,u2,rfl,hp,_⟩:=id hM
  exact⟨p,_,dx,_,_,_,_,_,_,rfl,hp,rfl,T.cl_Two,T.mt_qO,R.two,hr,T.b_qO,fun H1 d kvs sm h1 h2 Q q=>⟨_,_,_,_,_,rfl,⟨_,_,_,rfl⟩,hM.same sm,hd,ho,h1,h2,q⟩⟩
 |mod e1 i =>
  obtain⟨p,dx,u1,rfl,hp,_⟩:=id hM
  exact⟨p,_,dx,_,_,_,_,_,_,rfl,hp,rfl,T.cl_Mod,T.mt_qR,R.mod,hr,T.b_qR,fun H1 d kvs sm h1 h2 Q q=>⟨_,_,_,_,_,rfl,⟨_,_,rfl⟩,hM.same sm,hd,ho,h1,h2,q⟩⟩
 |less e1 e2 e3 e4 =>
  obtain⟨p,dx,u1,u2,u3,u4,rfl,hp,_⟩:=id hM
  exact⟨p,_,dx,_,_,_,_,_,_,rfl,hp,rfl,T.cl_Less,T.mt_qU,R.less,hr,T.b_qU,fun H1 d kvs sm h1 h2 Q q=>⟨_,_,_,_,_,rfl,⟨_,_,_,_,rfl⟩,hM.same sm,hd,ho,h1,h2,q⟩⟩
def ProgAt (a:Ad) (H:Hp) (e1 e2 e3 e4:Ex) (r:V):Prop:=∃ (p dx:Addr) (r1 r2 r3 r4:V),r=.ref p∧H p=some (.ins a.c_Program dx [("start",r1),("send",r2),("when",r3),("renew",r4)])∧zwz a H e1 e2 e3 e4 r1 r2 r3 r4
def Vx (a:Ad):Sp:=fun vs H Q _=>∃ (r:V) (e1 e2 e3 e4:Ex) (hand lines:Int),vs=[r,.int hand,.int lines]∧ProgAt a H e1 e2 e3 e4 r∧∀ H',Same H H'→Q (.int (e1.val (rho (kvF hand lines)))) H'
def X6 (a:Ad):Sp:=fun vs H Q _=>∃ (r:V) (e1 e2 e3 e4:Ex) (worth hand turn lines other:Int),vs=[r,.int worth,.int hand,.int turn,.int lines,.int other]∧ProgAt a H e1 e2 e3 e4 r ∧
 ∀ H',Same H H'→Q (if e3.val (rho (kvS worth hand turn lines other))>0 then .int (e2.val (rho (kvS worth hand turn lines other))) else .non) H'
def zfT (a:Ad):Sp:=fun vs H Q _=>∃ (r:V) (e1 e2 e3 e4:Ex) (worth hand turn lines:Int) (hl:Addr) (ns:List Int),vs=[r,.int worth,.int hand,.int turn,.int lines,.ref hl]∧ProgAt a H e1 e2 e3 e4 r∧H hl=some (.lst (ns.map V.int)) ∧
 ∀ H' mn mx,Same H H'→LstN ns mn→MstN ns mx→Q (.int (e4.val (rho (kvR worth hand turn lines ns.sum mn mx ns.length)))) H'
theorem Wm (T:Txt w K mg a):FnOk P w K mg base CX0 10 a.f_qX a.d_qX ["self", "hand", "lines"] (Vx a):=by
 have RR:Reckons P w K mg base a 8:=xg T 8
 refine T.F_qX.ok zmw (fun vs H Q E h=>?_) (fun cdv A outer s H vs Q E hr h=>?_)
 ·obtain⟨r,e1,e2,e3,e4,hand,lines,rfl,_⟩:=h
  rfl
 ·obtain⟨r,e1,e2,e3,e4,hand,lines,rfl,⟨p,dx,r1,r2,r3,r4,rfl,hp,⟨m1,o1,d1⟩,_⟩,k⟩:=h
  refine zB (zf (zh (w_pe_methD (w_pe_fld (w_pv 0) rfl) (zg (xE (zH w_pe_str (w_pv 1) (zH w_pe_str (w_pv 2) xC)) rfl rfl (by intro z;cases z) (by decide)) w_pa_nil)))) ?_
  refine⟨_,rfl,p,_,dx,_,_,rfl,hp,T.cl_Program,T.na_Program_start,rfl,?_⟩
  obtain⟨p1,c1,x1,f1,f2,f3,f4,f5,f6,q1,q2,q3,q4,q5,q6,q7,q8,q9⟩:=RR.call2 T (A:=A.deeper (PyProof.Rows.envOfC "Program.first_worth" (defScope uY) s.heap.objs.size a.f_qX cdv)) hr m1 d1 o1
  refine⟨p1,c1,x1,f1,f2,f3,f4,f5,f6,q1,q2,q3,q4,q5,q6,q7,q8,fun pd hpd=>⟨_,rfl,_,rfl,zd,kvF hand lines,rfl,(by show 2≤15;decide),?_⟩⟩
  have sm:Same H (upd (upd H pd (.dK [])) pd (.dK (mergeK [] (kvF hand lines)))):=fun b o e=>by
   have hb:=ne_of_none e hpd
   rw[upd_ne hb,upd_ne hb]
   exact e
  exact q9 _ pd (kvF hand lines) sm zd zxA _ (k _ sm)
theorem Zc (T:Txt w K mg a):FnOk P w K mg base CX0 10 a.f_qY a.d_qY ["self", "worth", "hand", "turn", "lines", "other"] (X6 a):=by
 have RR:Reckons P w K mg base a 8:=xg T 8
 refine T.F_qY.ok sc_qY (fun vs H Q E h=>?_) (fun cdv A outer s H vs Q E hr h=>?_)
 ·obtain⟨r,e1,e2,e3,e4,worth,hand,turn,lines,other,rfl,_⟩:=h
  rfl
 ·obtain⟨r,e1,e2,e3,e4,worth,hand,turn,lines,other,rfl,⟨p,dx,r1,r2,r3,r4,rfl,hp,_,⟨m2,o2,d2⟩,⟨m3,o3,d3⟩,_⟩,k⟩:=h
  refine zB (w_pss_cons (zj (i:=6) sc_qY.nd rfl (Or.inl rfl) (xE (zH w_pe_str (w_pv 1) (zH w_pe_str (w_pv 2) (zH w_pe_str (w_pv 3) (zH w_pe_str (w_pv 4) (zH w_pe_str (w_pv 5) xC))))) rfl rfl (by intro z;cases z) (by decide)))
   (w_pss_cons (w_ps_if (w_pt_cmpR op_gt (w_pe_methD (w_pe_fld (w_pv 0) rfl) (w_pa_N (w_pv 6) w_pa_nil)) ze (zw _))
    (zf (zh (w_pe_methD (w_pe_fld (w_pv 0) rfl) (w_pa_N (w_pv 6) w_pa_nil))))
    zm)
   (zf (zh uo)))) ?_
  refine fun pd hpd=>⟨_,rfl,_,rfl,_,rfl,_,rfl,_,rfl,zd,kvS worth hand turn lines other,rfl,(by show 5≤15;decide),?_⟩
  have sm:Same H (upd (upd H pd (.dK [])) pd (.dK (mergeK [] (kvS worth hand turn lines other)))):=fun b o e=>by
   have hb:=ne_of_none e hpd
   rw[upd_ne hb,upd_ne hb]
   exact e
  have hdd:upd (upd H pd (.dK [])) pd (.dK (mergeK [] (kvS worth hand turn lines other))) pd=some (.dK (kvS worth hand turn lines other)):=zd
  generalize upd (upd H pd (.dK [])) pd (.dK (mergeK [] (kvS worth hand turn lines other)))=H1 at sm hdd ⊢
  refine⟨_,rfl,p,_,dx,_,_,rfl,sm _ _ hp,T.cl_Program,T.na_Program_when,rfl,?_⟩
  obtain⟨p1,c1,x1,f1,f2,f3,f4,f5,f6,q1,q2,q3,q4,q5,q6,q7,q8,q9⟩:=RR.call2 T (A:=A.deeper (PyProof.Rows.envOfC "Program.word_to" (defScope vS) s.heap.objs.size a.f_qY cdv)) hr (m3.same sm) d3 o3
  refine⟨p1,c1,x1,f1,f2,f3,f4,f5,f6,q1,q2,q3,q4,q5,q6,q7,q8,_,rfl,q9 H1 pd _ (Same.refl H1) hdd zww _ ?_⟩
  refine⟨_,_,rfl,rfl,_,rfl,?_⟩
  have k':=k H1 sm
  refine ite2 (fun q=>?_) (fun q=>?_)
  ·have q':e3.val (rho (kvS worth hand turn lines other))>0:=of_decide_eq_true q
   rw[if_pos q'] at k'
   refine⟨_,rfl,p,_,dx,_,_,rfl,sm _ _ hp,T.cl_Program,T.na_Program_send,rfl,?_⟩
   obtain⟨p1,c1,x1,f1,f2,f3,f4,f5,f6,q1,q2,q3,q4,q5,q6,q7,q8,q9⟩:=RR.call2 T (A:=A.deeper (PyProof.Rows.envOfC "Program.word_to" (defScope vS) s.heap.objs.size a.f_qY cdv)) hr (m2.same sm) d2 o2
   exact⟨p1,c1,x1,f1,f2,f3,f4,f5,f6,q1,q2,q3,q4,q5,q6,q7,q8,_,rfl,q9 H1 pd _ (Same.refl H1) hdd zww _ k'⟩
  ·have q':¬ e3.val (rho (kvS worth hand turn lines other))>0:=fun z=>q (decide_eq_true z)
   rw[if_neg q'] at k'
   exact k'
theorem V0 (T:Txt w K mg a):FnOk P w K mg base CX0 10 a.f_qZ a.d_qZ ["self", "worth", "hand", "turn", "lines", "heard"] (zfT a):=by
 have RR:Reckons P w K mg base a 8:=xg T 8
 refine T.F_qZ.ok sc_qZ (fun vs H Q E h=>?_) (fun cdv A outer s H vs Q E hr h=>?_)
 ·obtain⟨r,e1,e2,e3,e4,worth,hand,turn,lines,hl,ns,rfl,_⟩:=h
  rfl
 ·obtain⟨r,e1,e2,e3,e4,worth,hand,turn,lines,hl,ns,rfl,⟨p,dx,r1,r2,r3,r4,rfl,hp,_,_,_,⟨m4,o4,d4⟩,_⟩,hh,k⟩:=h
  have hu:=xk hr
  refine zB (w_pss_cons (zj (i:=6) sc_qZ.nd rfl (Or.inl rfl) (xE (zH w_pe_str (w_pv 1) (zH w_pe_str (w_pv 2) (zH w_pe_str (w_pv 3) (zH w_pe_str (w_pv 4) xC)))) rfl rfl (by intro z;cases z) (by decide)))
   (w_pss_cons (w_ps_dput hu (w_pv 6) w_pe_str (w_pe_callB (call_sumI rfl) (by rfl) T.n_sum Vo (w_pa_N (w_pv 5) w_pa_nil)) rfl)
   (w_pss_cons (w_ps_dput hu (w_pv 6) w_pe_str (Zq rfl (by rfl) T.n_min (w_pa_N (w_pv 5) w_pa_nil) ze) rfl)
   (w_pss_cons (w_ps_dput hu (w_pv 6) w_pe_str (Zr rfl (by rfl) T.n_max (w_pa_N (w_pv 5) w_pa_nil) ze) rfl)
   (w_pss_cons (w_ps_dput hu (w_pv 6) w_pe_str (w_pe_callB zr (by rfl) T.n_len yb (w_pa_N (w_pv 5) w_pa_nil)) rfl)
   (zf (zh (w_pe_methD (w_pe_fld (w_pv 0) rfl) (w_pa_N (w_pv 6) w_pa_nil))))))))) ?_
  refine fun pd hpd=>⟨_,rfl,_,rfl,_,rfl,_,rfl,zd,[(ky "worth",.int worth),(ky "me",.int hand),(ky "round",.int turn),(ky "lines",.int lines)],rfl,(by show 4≤15;decide),?_⟩
  have hne:hl≠pd:=ne_of_none hh hpd
  have up:∀ {Hx:Hp}{o:HO},Hx hl=some (.lst (ns.map V.int))→upd Hx pd o hl=some (.lst (ns.map V.int)):=fun h=>by rw[upd_ne hne];exact h
  have h1:=up (o:=.dK (mergeK [] [(ky "worth",.int worth),(ky "me",.int hand),(ky "round",.int turn),(ky "lines",.int lines)])) (up (o:=.dK []) hh)
  refine⟨_,rfl,hl,ns,rfl,SqL.of h1,_,rfl,pd,_,rfl,DPut.k (k:=ky "sum") zd (zo (by show 4≤1000;decide)),?_⟩
  refine⟨_,rfl,hl,ns,0,rfl,rfl,SqL.of (up h1),fun mn hmn=>⟨_,rfl,pd,_,rfl,DPut.k (k:=ky "least") zd (zo (by show 5≤1000;decide)),?_⟩⟩
  refine⟨_,rfl,hl,ns,0,rfl,rfl,SqL.of (up (up h1)),fun mx hmx=>⟨_,rfl,pd,_,rfl,DPut.k (k:=ky "most") zd (zo (by show 6≤1000;decide)),?_⟩⟩
  refine⟨_,rfl,hl,_,rfl,.inl (SqL.of (up (up (up h1)))),_,rfl,pd,_,rfl,DPut.k (k:=ky "count") zd (zo (by show 7≤1000;decide)),?_⟩
  rw[List.length_map]
  simp only[yp]
  have hdd:upd H pd (.dK (putK (putK (putK (putK (mergeK [] [(ky "worth",.int worth),(ky "me",.int hand),(ky "round",.int turn),(ky "lines",.int lines)]) (ky "sum") (.int ns.sum)) (ky "least") (.int mn)) (ky "most") (.int mx)) (ky "count") (.int ns.length))) pd=some (.dK (kvR worth hand turn lines ns.sum mn mx ns.length)):=zd
  have sm:=Same.new (o:=.dK (putK (putK (putK (putK (mergeK [] [(ky "worth",.int worth),(ky "me",.int hand),(ky "round",.int turn),(ky "lines",.int lines)]) (ky "sum") (.int ns.sum)) (ky "least") (.int mn)) (ky "most") (.int mx)) (ky "count") (.int ns.length))) hpd
  generalize upd H pd (.dK (putK (putK (putK (putK (mergeK [] [(ky "worth",.int worth),(ky "me",.int hand),(ky "round",.int turn),(ky "lines",.int lines)]) (ky "sum") (.int ns.sum)) (ky "least") (.int mn)) (ky "most") (.int mx)) (ky "count") (.int ns.length)))=H1 at sm hdd ⊢
  refine⟨_,rfl,p,_,dx,_,_,rfl,sm _ _ hp,T.cl_Program,T.na_Program_renew,rfl,?_⟩
  obtain⟨p1,c1,x1,f1,f2,f3,f4,f5,f6,q1,q2,q3,q4,q5,q6,q7,q8,q9⟩:=RR.call2 T (A:=A.deeper (PyProof.Rows.envOfC "Program.next_worth" (defScope uX) s.heap.objs.size a.f_qZ cdv)) hr (m4.same sm) d4 o4
  exact⟨p1,c1,x1,f1,f2,f3,f4,f5,f6,q1,q2,q3,q4,q5,q6,q7,q8,_,rfl,q9 H1 pd _ (Same.refl H1) hdd zxz _ (k H1 mn mx sm hmn hmx)⟩
end
end K04

namespace K04
open PySem L2
def LnAt (H:Hp) (rs:List V) (ls:List (Int×Int)):Prop:=rs.length=ls.length∧∀ (i:Nat) r p,rs[i]?=some r→ls[i]?=some p→∃ q,r=.ref q∧H q=some (.tup [.int p.1,.int p.2])
theorem LnAt.same {H H':Hp}{rs:List V}{ls:List (Int×Int)}(h:LnAt H rs ls) (s:Same H H'):LnAt H' rs ls:=⟨h.1,fun i r p h1 h2=>by
 obtain⟨q,e,t⟩:=h.2 i r p h1 h2
 exact⟨q,e,s _ _ t⟩⟩
theorem LnAt.get {H:Hp}{rs:List V}{ls:List (Int×Int)}(h:LnAt H rs ls){i:Nat}{r:V}(e:rs[i]?=some r):∃ p q,ls[i]?=some p∧r=.ref q∧H q=some (.tup [.int p.1,.int p.2]):=by
 have hi:i<ls.length:=by rw[← h.1];exact(List.getElem?_eq_some_iff.mp e).1
 have hp:ls[i]?=some ls[i]:=by simp[hi]
 obtain⟨q,e1,e2⟩:=h.2 i r _ e hp
 exact⟨_,q,hp,e1,e2⟩
theorem ub {x:Int}:∀ {ns:List Int},inV (.int x) (ns.map V.int)=decide (x∈ns)
 |[]=>by simp[inV]
 |n::ns=>by
  have ih:=ub (x:=x) (ns:=ns)
  unfold inV at ih ⊢
  rw[List.map_cons,List.any_cons,ih]
  show((n == x)||decide (x∈ns))=decide (x∈n::ns)
  by_cases e:n=x
  ·simp[e]
  ·have e':¬ x=n:=fun z=>e z.symm
   simp[e,e']
theorem vF (ns:List Int):(ns.map V.int).all yQ=true:=by
 rw[List.all_eq_true]
 intro v hv
 obtain⟨x,_,rfl⟩:=List.mem_map.mp hv
 rfl
section
variable {P:Program}{w:World}{K:PySem.W.Frag}{mg:Str→Option Value}{base:Heap}{a:Ad}
def wv:Sp:=fun vs H Q _=>∃ i:Int,vs=[.int i]∧Q (.bl true) H
theorem wD (T:Txt w K mg a):FnOk P w K mg base CX0 1 a.f_qi a.d_qi ["value"] wv:=by
 refine T.F_qi.ok zfX (fun vs H Q E h=>?_) (fun cdv A outer s H vs Q E hr h=>?_)
 ·obtain⟨i,rfl,_⟩:=h
  rfl
 ·obtain⟨i,rfl,k⟩:=h
  refine⟨_,(zJ (yv (uF (yc zR (by rfl) T.n_isinstance zx (xo (pv 0) (xo (wf T.n_int Vp) zS))) (YG (W6 (yc zR (by rfl) T.n_isinstance zx (xo (pv 0) (xo (wf T.n_bool XG) zS)))))))),?_⟩
  refine⟨_,rfl,_,_,_,_,_,rfl,rfl,.int i,T.k_tint_tint,_,rfl,Zl ?_⟩
  exact⟨_,rfl,_,_,_,_,_,rfl,rfl,.int i,T.k_tint_tbool,_,rfl,k⟩
def Yu:Sp:=fun vs H Q _=>∃ (h:Addr) (hs:List Int),vs=[.ref h]∧H h=some (.lst (hs.map V.int))∧Hs hs∧Q (.bl true) H
theorem Wl (T:Txt w K mg a):FnOk P w K mg base CX0 2 a.f_qp a.d_qp ["hands"] Yu:=by
 have c_qi:Callee P w K mg base "is_whole" a.f_qi a.d_qi ["value"] 1 wv:=⟨wD T,T.g_qi,T.F_qi.kp,T.b_qi⟩
 refine T.F_qp.ok sc_qp (fun vs H Q E h=>?_) (fun cdv A outer s H vs Q E hr h=>?_)
 ·obtain⟨h,hs,rfl,_⟩:=h
  rfl
 ·obtain⟨h,hs,rfl,hh,W,k⟩:=h
  have w1:=W.l1
  have w12:=W.l12
  refine⟨_,(zD (wz (PW.pt (vj (yJ (yI (yc zR (by rfl) T.n_isinstance zx (xo (pv 0) (xo (wf T.n_list xm) zS))))) (vj (xh xI (yc zr (by rfl) T.n_len yb (xo (pv 0) zS)) yL (zw _)) (we (xh op_gt (yc zr (by rfl) T.n_len yb (xo (pv 0) zS)) (wB (v:=.int 12) rfl T.g_MOST_HANDS ⟨_,rfl⟩) (zw _))))))
    (zJ (yv xW))
    yt)
   (zD (vk (i:=1) sc_qp.nd rfl (Or.inl rfl) (zgd va yL))
   (zD (vm PassesOwn.never rfl (xH (pv 0)) (xi (i:=2) sc_qp.nd rfl (Or.inl rfl))
    (zD (wz (PW.pt (vj (yJ (yI (Va c_qi (hr.mono (by omega)) (xo (pv 2) zS)))) (vj (xh zgn (pv 2) (pv 1) (zw _)) (we (xh op_gt (pv 2) (wB (v:=.int 99) rfl T.g_LAST_HAND ⟨_,rfl⟩) (zw _))))))
     (zJ (yv xW))
     yt)
    (zJ (vk (i:=1) sc_qp.nd rfl (Or.inl rfl) (pv 2)))))
   (zJ (yv xW))))),?_⟩
  refine⟨_,rfl,_,_,_,_,_,rfl,rfl,.lst hh,T.k_tlist_tlist,_,rfl,yh rfl ?_⟩
  refine⟨_,rfl,h,_,rfl,.inl (SqL.of hh),_,_,rfl,rfl,_,rfl,yh (decide_eq_false (by rw[List.length_map];omega)) ?_⟩
  refine⟨_,rfl,h,_,rfl,.inl (SqL.of hh),_,_,rfl,rfl,_,rfl,yh (decide_eq_false (by rw[List.length_map];omega)) ?_⟩
  refine⟨1,rfl,_,rfl,h,rfl,⟨_,SqL.of hh⟩,?_⟩
  refine zY (K:=K) (a:=h) (xs:=hs.map V.int) (fun i σ H'=>H'=H∧∃ (m:Int) (o:Option V),σ=[some (.ref h),some (.int m),o]∧-1≤m∧∀ j x,i≤j→hs[j]?=some x→m<x) ?_ ?_ ?_ ?_
  ·refine⟨rfl,-1,none,rfl,Int.le_refl _,fun j x _ hx=>?_⟩
   have:=W.lo x (List.mem_of_getElem? hx)
   omega
  ·rintro i σ H' _ ⟨rfl,_⟩
   exact SqL.of hh
  ·rintro i x σ H' hi ⟨rfl,m,o,rfl,hm,hall⟩
   rw[List.getElem?_map] at hi
   obtain⟨y,hy,rfl⟩:=Option.map_eq_some_iff.mp hi
   have y1:=hall i y (Nat.le_refl _) hy
   have y2:=W.hi y (List.mem_of_getElem? hy)
   refine⟨_,rfl,y,rfl,_,rfl,yh rfl ?_⟩
   refine⟨_,rfl,_,rfl,_,_,rfl,rfl,_,rfl,yh (decide_eq_false (by omega)) ?_⟩
   refine⟨_,rfl,_,_,rfl,rfl,_,rfl,yh (decide_eq_false (by omega)) ?_⟩
   refine⟨_,rfl,rfl,y,_,rfl,by omega,fun j z hj hz=>?_⟩
   have hlt:i<j:=by omega
   obtain⟨b1,e1⟩:=List.getElem?_eq_some_iff.mp hy
   obtain⟨b2,e2⟩:=List.getElem?_eq_some_iff.mp hz
   rw[← e1,← e2]
   exact List.pairwise_iff_getElem.mp W.up i j b1 b2 hlt
  ·rintro σ H' ⟨rfl,_⟩
   exact k
def spLine:Sp:=fun vs H Q _=>∃ (q h:Addr) (hs:List Int) (p:Int×Int),vs=[.ref q,.ref h]∧H q=some (.tup [.int p.1,.int p.2])∧H h=some (.lst (hs.map V.int))∧(p.1∈hs∧p.2∈hs∧p.1<p.2)∧Q (.bl true) H
theorem V3 (T:Txt w K mg a):FnOk P w K mg base CX0 2 a.f_qq a.d_qq ["line", "hands"] spLine:=by
 have c_qi:Callee P w K mg base "is_whole" a.f_qi a.d_qi ["value"] 1 wv:=⟨wD T,T.g_qi,T.F_qi.kp,T.b_qi⟩
 refine T.F_qq.ok zml (fun vs H Q E h=>?_) (fun cdv A outer s H vs Q E hr h=>?_)
 ·obtain⟨q,h,hs,p,rfl,_⟩:=h
  rfl
 ·obtain⟨q,h,hs,⟨x,y⟩,rfl,hq,hh,⟨h1,h2,h3⟩,k⟩:=h
  dsimp only at hq h1 h2 h3
  refine⟨_,(zD (wz (PW.pt (vj (yJ (yI (yc zR (by rfl) T.n_isinstance zx (xo (pv 0) (xo (wf T.n_tuple uQ) zS))))) (we (xh zgm (yc zr (by rfl) T.n_len yb (xo (pv 0) zS)) yL (zw _)))))
    (zJ (yv xW))
    yt)
   (zD (wz (PW.pt (vj (yJ (yI (Va c_qi (hr.mono (by omega)) (yz (vV zL (pv 0) yL (fun _ _=>rfl)) zS)))) (we (yJ (yI (Va c_qi (hr.mono (by omega)) (yz (vV zL (pv 0) yL (fun _ _=>rfl)) zS)))))))
    (zJ (yv xW))
    yt)
   (zJ (yv (uF (wC xJ (vV zL (pv 0) yL (fun _ _=>rfl)) (pv 1) (by with_unfolding_all rfl)) (uF (wC xJ (vV zL (pv 0) yL (fun _ _=>rfl)) (pv 1) (by with_unfolding_all rfl)) (YG (wC xI (vV zL (pv 0) yL (fun _ _=>rfl)) (vV zL (pv 0) yL (fun _ _=>rfl)) (zw _))))))))),?_⟩
  refine⟨_,rfl,_,_,_,_,_,rfl,rfl,.tup hq,T.k_ttuple_ttuple,_,rfl,yh rfl ?_⟩
  refine⟨_,rfl,q,_,rfl,.inr (SqT.of hq),rfl,_,rfl,yh rfl ?_⟩
  refine⟨_,rfl,q,_,0,_,rfl,rfl,SqT.of hq,rfl,x,rfl,_,rfl,yh rfl ?_⟩
  refine⟨_,rfl,q,_,1,_,rfl,rfl,SqT.of hq,rfl,y,rfl,_,rfl,yh rfl ?_⟩
  refine⟨_,rfl,q,_,0,_,rfl,rfl,SqT.of hq,rfl,_,rfl,h,_,rfl,.inl (SqL.of hh),rfl,vF hs,_,rfl,iteB (by show inV (.int x) _=true;rw[ub];exact decide_eq_true h1) ?_⟩
  refine⟨_,rfl,q,_,1,_,rfl,rfl,SqT.of hq,rfl,_,rfl,h,_,rfl,.inl (SqL.of hh),rfl,vF hs,_,rfl,iteB (by show inV (.int y) _=true;rw[ub];exact decide_eq_true h2) ?_⟩
  refine⟨_,rfl,q,_,0,_,rfl,rfl,SqT.of hq,rfl,_,rfl,q,_,1,_,rfl,rfl,SqT.of hq,rfl,_,_,rfl,rfl,?_⟩
  show Q (.bl (decide (x<y))) H
  rw[decide_eq_true h3]
  exact k
end
end K04

namespace K04
open PySem L2
section
variable {κ:Type} [DecidableEq κ]
theorem w8 {kvs:List (κ×V)}{k:κ}:(xr kvs k).isSome=decide (k∈kvs.map (·.1)):=by
 rw[← xw]
 by_cases h:k∈kvs.map (·.1)
 ·rw[decide_eq_true h,List.any_eq_true]
  obtain⟨p,hp,rfl⟩:=List.mem_map.mp h
  exact⟨p,hp,decide_eq_true rfl⟩
 ·rw[decide_eq_false h,List.any_eq_false]
  intro p hp e
  exact h (List.mem_map.mpr ⟨p,hp,of_decide_eq_true e⟩)
theorem valV_no {kvs:List (κ×V)}{k:κ}(h:k∉kvs.map (·.1)):(xr kvs k).isSome=false:=by rw[w8];exact decide_eq_false h
theorem putK_new {kvs:List (κ×V)}{k:κ}{v:V}(h:k∉kvs.map (·.1)):putK kvs k v=kvs++[(k,v)]:=by
 unfold putK
 rw[if_neg]
 rw[xw,w8,decide_eq_true_iff]
 exact h
end
theorem _root_.L2.Same.updF {p:Addr}{H H':Hp}{o:HO}(x:Same H H') (h:H p=none):Same H (L2.upd H' p o):=fun b u e=>by
 rw[upd_ne (ne_of_none e h)];exact x b u e
abbrev zac (p:Int×Int):List Key:=[Sum.inl p.1,Sum.inl p.2]
theorem WE {p q:Int×Int}(h:zac p=zac q):p=q:=by
 obtain⟨a,b⟩:=p
 obtain⟨c,d⟩:=q
 simp[zac] at h
 rw[h.1,h.2]
theorem xM {α:Type}{xs:List α}{i:Nat}{x:α}(h:xs.Nodup) (e:xs[i]?=some x):x∉xs.take i:=by
 intro m
 obtain⟨j,hj,ej⟩:=List.getElem_of_mem m
 obtain⟨hi,ei⟩:=List.getElem?_eq_some_iff.mp e
 rw[List.getElem_take] at ej
 rw[List.length_take] at hj
 have:=(List.nodup_iff_pairwise_ne.mp h)
 exact List.pairwise_iff_getElem.mp this j i (by omega) hi (by omega) (ej.trans ei.symm)
section
variable {P:Program}{w:World}{K:PySem.W.Frag}{mg:Str→Option Value}{base:Heap}{a:Ad}
def Yt:Sp:=fun vs H Q _=>∃ (l h:Addr) (rs:List V) (hs:List Int) (ls:List (Int×Int)),vs=[.ref l,.ref h]∧H l=some (.lst rs)∧LnAt H rs ls∧H h=some (.lst (hs.map V.int))∧Ls hs ls∧∀ H',Same H H'→Q (.bl true) H'
theorem Wk (T:Txt w K mg a):FnOk P w K mg base CX0 3 a.f_qr a.d_qr ["lines", "hands"] Yt:=by
 have c_qq:Callee P w K mg base "is_line" a.f_qq a.d_qq ["line", "hands"] 2 spLine:=⟨V3 T,T.g_qq,T.F_qq.kp,T.b_qq⟩
 refine T.F_qr.ok sc_qr (fun vs H Q E h=>?_) (fun cdv A outer s H vs Q E hr h=>?_)
 ·obtain⟨l,h,rs,hs,ls,rfl,_⟩:=h
  rfl
 ·obtain⟨l,h,rs,hs,ls,rfl,hl,hrs,hh,L,k⟩:=h
  have l66:=L.le
  have hu:=xk hr
  refine⟨_,(zD (wz (yJ (yI (yc zR (by rfl) T.n_isinstance zx (xo (pv 0) (xo (wf T.n_list xm) zS)))))
    (zJ (yv xW))
    yt)
   (zD (vk (i:=2) sc_qr.nd rfl (Or.inl rfl) Wf)
   (zD (vm PassesOwn.never rfl (xH (pv 0)) (xi (i:=3) sc_qr.nd rfl (Or.inl rfl))
    (zD (wz (PW.pt (vj (yJ (yI (Va c_qq (hr.mono (by omega)) (xo (pv 3) (xo (pv 1) zS))))) (we (W4 (Vb hu (pv 3) (pv 2))))))
     (zJ (yv xW))
     yt)
    (zJ (vU hu (pv 2) (pv 3) xW rfl))))
   (zJ (yv xW))))),?_⟩
  refine⟨_,rfl,_,_,_,_,_,rfl,rfl,.lst hl,T.k_tlist_tlist,_,rfl,yh rfl ?_⟩
  refine fun d hd=>?_
  refine⟨_,rfl,l,rfl,⟨_,SqL.of (Same.new hd _ _ hl)⟩,?_⟩
  refine zY (K:=K) (a:=l) (xs:=rs) (fun i σ H'=>∃ (kvs:List (List Key×V)) (o:Option V),σ=[some (.ref l),some (.ref h),some (.ref d),o]∧H' d=some (.dT kvs)∧kvs.map (·.1)=(ls.take i).map zac∧Same H H') ?_ ?_ ?_ ?_
  ·exact⟨[],none,rfl,zd,by simp,Same.new hd⟩
  ·rintro i σ H' _ ⟨kvs,o,_,_,_,sm⟩
   exact SqL.of (sm _ _ hl)
  ·rintro i x σ H' hi ⟨kvs,o,rfl,hd',hk,sm⟩
   obtain⟨p,q,hp,rfl,hq⟩:=(hrs.same sm).get hi
   have hm:p∈ls:=List.mem_of_getElem? hp
   refine⟨_,rfl,_,rfl,q,h,hs,p,rfl,hq,sm _ _ hh,L.ok p hm,_,rfl,yh rfl ?_⟩
   have hnew:zac p∉kvs.map (·.1):=by
    rw[hk]
    intro z
    obtain⟨p',m',e'⟩:=List.mem_map.mp z
    rw[WE e'] at m'
    exact xM L.nd hp m'
   have hz:kvs.length≤1000:=by
    have:=congrArg List.length hk
    rw[List.length_map,List.length_map,List.length_take] at this
    omega
   refine⟨_,rfl,_,rfl,d,_,rfl,DGet.t (k:=zac p) hd' hq,_,rfl,yh ?_ ?_⟩
   ·exact valV_no hnew
   ·refine⟨_,rfl,_,rfl,d,_,rfl,DPut.t (k:=zac p) hd' hq (zo hz),?_⟩
    refine⟨_,_,rfl,zd,?_,sm.updF hd⟩
    rw[putK_new hnew,List.map_append,hk,List.take_add_one,hp,List.map_append]
    rfl
  ·rintro σ H' ⟨kvs,o,_,_,_,sm⟩
   exact k H' sm
end
end K04

namespace K04
open PySem L2
noncomputable def tab (ad:Int→Addr) (us:List Int):List (Key×V):=us.map fun h=>(Sum.inl h,V.ref (ad h))
theorem uu {ad:Int→Addr}{us:List Int}:(tab ad us).map (·.1)=us.map Sum.inl:=by
 unfold tab;rw[List.map_map];rfl
theorem Zy {ad:Int→Addr}{x:Int}:∀ {us:List Int},x∈us→xr (tab ad us) (Sum.inl x:Key)=some (V.ref (ad x))
 |u::us,h=>by
  show xr ((Sum.inl u,V.ref (ad u))::tab ad us) _=_
  by_cases e:u=x
  ·subst e;rw[xu rfl]
  ·rw[xv (fun z=>e (by injection z)),Zy]
   rcases List.mem_cons.mp h with z | z
   ·exact absurd z.symm e
   ·exact z
theorem yw {H:Hp}{d:Addr}{ad:Int→Addr}{us:List Int}{x:Int}(e:H d=some (.dK (tab ad us))) (h:x∈us):DGet H d (V.int x) (some (V.ref (ad x))):=by
 have:=DGet.k (k:=Sum.inl x) e
 rw[Zy h] at this
 exact this
theorem wP {x:Int}{us:List Int}:(Sum.inl x:Key)∈us.map (Sum.inl:Int→Key)↔x∈us:=by
 rw[List.mem_map]
 exact⟨fun⟨y,h,e⟩=>by injection e with e;exact e ▸ h,fun h=>⟨x,h,rfl⟩⟩
noncomputable def zf9 (ad:Int→Addr) (y:Int) (p:Addr):Int→Addr:=fun x=>if x=y then p else ad x
theorem putA_at {ad:Int→Addr}{x y:Int}{p:Addr}(e:x=y):zf9 ad y p x=p:=if_pos e
theorem putA_ne {ad:Int→Addr}{x y:Int}{p:Addr}(e:¬ x=y):zf9 ad y p x=ad x:=if_neg e
structure Near (H:Hp) (d:Addr) (hs:List Int) (ls:List (Int×Int)) (ad:Int→Addr):Prop where
 d:H d=some (.dK (tab ad hs))
 nb:∀ h∈hs,H (ad h)=some (.lst ((nbs ls h).map V.int))
theorem Near.same {H H':Hp}{d:Addr}{hs:List Int}{ls:List (Int×Int)}{ad:Int→Addr}(n:Near H d hs ls ad) (s:Same H H'):Near H' d hs ls ad:=⟨s _ _ n.d,fun h m=>s _ _ (n.nb h m)⟩
section
variable {P:Program}{w:World}{K:PySem.W.Frag}{mg:Str→Option Value}{base:Heap}{a:Ad}
def W2:Sp:=fun vs H Q _=>∃ (h l:Addr) (rs:List V) (hs:List Int) (ls:List (Int×Int)),vs=[.ref h,.ref l]∧H h=some (.lst (hs.map V.int))∧H l=some (.lst rs)∧LnAt H rs ls∧Hs hs∧Ls hs ls ∧
 ∀ (d:Addr) (ad:Int→Addr) H',Same H H'→H d=none→Near H' d hs ls ad→Q (.ref d) H'
theorem V1 (T:Txt w K mg a):FnOk P w K mg base CX0 1 a.f_qs a.d_qs ["hands", "lines"] W2:=by
 refine T.F_qs.ok sc_qs (fun vs H Q E h=>?_) (fun cdv A outer s H vs Q E hr h=>?_)
 ·obtain⟨h,l,rs,hs,ls,rfl,_⟩:=h
  rfl
 ·obtain⟨h,l,rs,hs,ls,rfl,hh,hl,hrs,W,L,k⟩:=h
  have l66:=L.le
  have l12:=W.l12
  have hu:=xk hr
  refine⟨_,(zD (vk (i:=2) sc_qs.nd rfl (Or.inl rfl) uE)
   (zD (vm PassesOwn.never rfl (xH (pv 0)) (xi (i:=3) sc_qs.nd rfl (Or.inl rfl))
    (zJ (vU hu (pv 2) (pv 3) (W8 zS) rfl)))
   (zD (vm PassesOwn.never rfl (xH (pv 1)) (W5 rfl (wA (xi (i:=4) sc_qs.nd rfl (Or.inl rfl)) (wA (xi (i:=5) sc_qs.nd rfl (Or.inl rfl)) YF)))
    (zD (vT (VU PySem.F.plainAttrs_list PySem.F.slot_list_append PySem.F.type_list_append zQ (vW hu (pv 2) (pv 4) (fun _ _=>rfl)) (xo (pv 5) zS)))
    (zJ (vT (VU PySem.F.plainAttrs_list PySem.F.slot_list_append PySem.F.type_list_append zQ (vW hu (pv 2) (pv 5) (fun _ _=>rfl)) (xo (pv 4) zS))))))
   (zJ (yv (pv 2)))))),?_⟩
  refine fun d hd=>?_
  refine⟨_,rfl,h,rfl,⟨_,SqL.of (Same.new hd _ _ hh)⟩,?_⟩
  refine zY (K:=K) (a:=h) (xs:=hs.map V.int) (fun i σ H'=>∃ (ad:Int→Addr) (o:Option V),σ=[some (.ref h),some (.ref l),some (.ref d),o,none,none]∧H' d=some (.dK (tab ad (hs.take i))) ∧
   (∀ x∈hs.take i,H' (ad x)=some (.lst [])∧H (ad x)=none)∧(∀ x∈hs.take i,∀ y∈hs.take i,ad x=ad y→x=y)∧Same H H') ?_ ?_ ?_ ?_
  ·exact⟨fun _=>0,none,rfl,zd,fun x hx=>by simp at hx,fun x hx=>by simp at hx,Same.new hd⟩
  ·rintro i σ H' _ ⟨ad,o,_,_,_,_,sm⟩
   exact SqL.of (sm _ _ hh)
  ·rintro i x σ H' hi ⟨ad,o,rfl,hd',hat,hinj,sm⟩
   rw[List.getElem?_map] at hi
   obtain⟨y,hy,rfl⟩:=Option.map_eq_some_iff.mp hi
   have hnew:y∉hs.take i:=xM (XZ W.up) hy
   refine⟨(by show 0≤sizeLine;decide),fun p hp=>?_⟩
   have hpd:p≠d:=fun z=>by rw[z,hd'] at hp;cases hp
   have hd2:(upd H' p (.lst [])) d=some (.dK (tab ad (hs.take i))):=by rw[upd_ne hpd.symm];exact hd'
   refine⟨_,rfl,_,rfl,d,_,rfl,DPut.k (k:=Sum.inl y) hd2 (zo ?_),?_⟩
   ·unfold tab
    rw[List.length_map,List.length_take];omega
   ·have et:hs.take (i+1)=hs.take i++[y]:=by rw[List.take_add_one,hy];rfl
    have hp0:H p=none:=sm.free hp
    have hne:∀ x∈hs.take i,ad x≠p:=fun x hx z=>by
     have:=(hat x hx).1
     rw[z,hp] at this;cases this
    have had:∀ x∈hs.take i,ad x≠d:=fun x hx z=>by
     have:=(hat x hx).1
     rw[z,hd'] at this;cases this
    refine⟨zf9 ad y p,_,rfl,?_,?_,?_,(sm.updF hp0).updF hd⟩
    ·rw[zd,K04.putK_new (by rw[uu,wP];exact hnew),et]
     unfold tab
     rw[List.map_append]
     congr 3
     ·refine List.map_congr_left fun x hx=>?_
      rw[putA_ne (fun z=>hnew (by rw[← z];exact hx))]
     ·show _=[(Sum.inl y,V.ref (zf9 ad y p y))]
      rw[putA_at rfl]
    ·intro x hx
     rw[et,List.mem_append,List.mem_singleton] at hx
     by_cases e:x=y
     ·rw[putA_at e,upd_ne hpd,zd]
      exact⟨rfl,hp0⟩
     ·rw[putA_ne e]
      have hx:=hx.resolve_right e
      rw[upd_ne (had x hx),upd_ne (hne x hx)]
      exact hat x hx
    ·intro x hx z hz
     rw[et,List.mem_append,List.mem_singleton] at hx hz
     by_cases e1:x=y
     ·by_cases e2:z=y
      ·intro _;rw[e1,e2]
      ·rw[putA_at e1,putA_ne e2]
       intro q;exact absurd q.symm (hne z (hz.resolve_right e2))
     ·by_cases e2:z=y
      ·rw[putA_ne e1,putA_at e2]
       intro q;exact absurd q (hne x (hx.resolve_right e1))
      ·rw[putA_ne e1,putA_ne e2]
       exact hinj x (hx.resolve_right e1) z (hz.resolve_right e2)
  ·rintro σ H1 ⟨ad,o,rfl,hd',hat,hinj,sm⟩
   rw[List.length_map,List.take_length] at hd' hat hinj
   refine⟨_,rfl,l,rfl,⟨_,SqL.of (sm _ _ hl)⟩,?_⟩
   refine zY (K:=K) (a:=l) (xs:=rs) (fun i σ H'=>∃ (o1 o2:Option V),σ=[some (.ref h),some (.ref l),some (.ref d),o,o1,o2]∧Near H' d hs (ls.take i) ad∧Same H H') ?_ ?_ ?_ ?_
   ·exact⟨none,none,rfl,⟨hd',fun x hx=>by rw[List.take_zero];exact(hat x hx).1⟩,sm⟩
   ·rintro i σ H' _ ⟨o1,o2,_,_,sm'⟩
    exact SqL.of (sm' _ _ hl)
   ·rintro i x σ H' hi ⟨o1,o2,rfl,N,sm'⟩
    obtain⟨⟨x,y⟩,q,hp,rfl,hq⟩:=(hrs.same sm').get hi
    obtain⟨hx,hy,hxy⟩:=L.ok _ (List.mem_of_getElem? hp)
    dsimp only at hq hx hy hxy
    refine⟨q,_,rfl,SqT.of hq,rfl,_,_,rfl,_,_,rfl,rfl,?_⟩
    have len:∀ z,((nbs (ls.take i) z).map V.int).length<sizeLine:=fun z=>by
     rw[List.length_map]
     have:=Xc (h:=z) (ls:=ls.take i)
     rw[List.length_take] at this
     exact zo (by omega)
    have hdx:ad x≠d:=fun z=>by
     have:=N.nb x hx
     rw[z,N.d] at this;cases this
    have hdy:ad y≠d:=fun z=>by
     have:=N.nb y hy
     rw[z,N.d] at this;cases this
    have hne:ad y≠ad x:=fun z=>by have:=hinj y hy x hx z;omega
    refine⟨_,rfl,_,rfl,d,V.ref (ad x),rfl,yw N.d hx,.inl ⟨rfl,_,SqL.of (N.nb x hx)⟩,_,rfl,_,_,_,rfl,rfl,N.nb x hx,len x,?_⟩
    have nd2:(upd H' (ad x) (.lst ((nbs (ls.take i) x).map V.int++[V.int y]))) d=some (.dK (tab ad hs)):=by rw[upd_ne hdx.symm];exact N.d
    have ny2:(upd H' (ad x) (.lst ((nbs (ls.take i) x).map V.int++[V.int y]))) (ad y)=some (.lst ((nbs (ls.take i) y).map V.int)):=by rw[upd_ne hne];exact N.nb y hy
    refine⟨_,rfl,_,rfl,d,V.ref (ad y),rfl,yw nd2 hy,.inl ⟨rfl,_,SqL.of ny2⟩,_,rfl,_,_,_,rfl,rfl,ny2,len y,?_⟩
    refine⟨_,_,rfl,⟨?_,fun z hz=>?_⟩,(sm'.updF (hat x hx).2).updF (hat y hy).2⟩
    ·rw[upd_ne hdy.symm];exact nd2
    ·rw[Wv hp]
     by_cases e2:z=y
     ·subst e2
      rw[zd,if_neg (by show ¬ x=z;omega),if_pos rfl,List.map_append]
      rfl
     ·rw[upd_ne (fun q=>e2 (hinj z hz y hy q))]
      by_cases e1:z=x
      ·subst e1
       rw[zd,if_pos rfl,if_neg (by show ¬ y=z;omega),List.map_append]
       rfl
      ·rw[upd_ne (fun q=>e1 (hinj z hz x hx q)),if_neg (fun q=>e1 q.symm),if_neg (fun q=>e2 q.symm),List.append_nil,List.append_nil]
       exact N.nb z hz
   ·rintro σ H' ⟨o1,o2,rfl,N,sm'⟩
    rw[hrs.1,List.take_length] at N
    exact⟨_,rfl,k d ad H' sm' hd N⟩
end
end K04

namespace K04
open PySem L2
open L2.Srt (wn)
theorem Near.ext {H H':Hp}{d p dx C:Addr}{fs:List (Str×V)}{hs:List Int}{ls:List (Int×Int)}{ad:Int→Addr}(n:Near H d hs ls ad) (hp:H p=some (.ins C dx fs)) (s:Ext p H H'):Near H' d hs ls ad :=
 ⟨s _ _ n.d (fun z=>by rw[← z,n.d] at hp;cases hp),fun h m=>s _ _ (n.nb h m) (fun z=>by rw[← z,n.nb h m] at hp;cases hp)⟩
theorem LnAt.ext {H H':Hp}{p dx C:Addr}{fs:List (Str×V)}{rs:List V}{ls:List (Int×Int)}(h:LnAt H rs ls) (hp:H p=some (.ins C dx fs)) (s:Ext p H H'):LnAt H' rs ls:=⟨h.1,fun i r q h1 h2=>by
 obtain⟨t,e,ht⟩:=h.2 i r q h1 h2
 exact⟨t,e,s _ _ ht fun z=>by rw[← z,ht] at hp;cases hp⟩⟩
theorem LnAt.mem {H:Hp}{rs:List V}{ls:List (Int×Int)}(h:LnAt H rs ls){y:V}(hy:y∈rs):∃ q i j,y=.ref q∧H q=some (.tup [.int i,.int j]):=by
 obtain⟨i,hi,e⟩:=List.getElem_of_mem hy
 obtain⟨p,q,_,e1,e2⟩:=h.get (i:=i) (r:=y) (by rw[List.getElem?_eq_getElem hi,e])
 exact⟨q,_,_,e1,e2⟩
section
variable {P:Program}{w:World}{K:PySem.W.Frag}{mg:Str→Option Value}{base:Heap}{a:Ad}
structure WebAt (a:Ad) (H:Hp) (p:Addr) (hs:List Int) (ls:List (Int×Int)) (dx oh ol d:Addr) (ad:Int→Addr):Prop where
 p:H p=some (.ins a.c_Web dx [("own_hands",.ref oh),("own_lines",.ref ol),("near",.ref d)])
 oh:H oh=some (.lst (hs.map V.int))
 nr:Near H d hs ls ad
theorem WebAt.same {H H':Hp}{p dx oh ol d:Addr}{hs:List Int}{ls:List (Int×Int)}{ad:Int→Addr}(w:WebAt a H p hs ls dx oh ol d ad) (s:Same H H'):WebAt a H' p hs ls dx oh ol d ad:=⟨s _ _ w.p,s _ _ w.oh,w.nr.same s⟩
def zfR (a:Ad):Sp:=fun vs H Q _=>∃ (p dx h l:Addr) (rs:List V) (hs:List Int) (ls:List (Int×Int)),vs=[.ref p,.ref h,.ref l]∧H p=some (.ins a.c_Web dx [])∧H h=some (.lst (hs.map V.int))∧H l=some (.lst rs)∧LnAt H rs ls∧Hs hs∧Ls hs ls ∧
 ∀ (oh ol d:Addr) (ad:Int→Addr) H',Ext p H H'→WebAt a H' p hs ls dx oh ol d ad→Q .non H'
theorem zgp (T:Txt w K mg a):FnOk P w K mg base CX0 4 a.f_qa0 a.d_qa0 ["self", "hands", "lines"] (zfR a):=by
 have c_qp:Callee P w K mg base "are_hands" a.f_qp a.d_qp ["hands"] 2 Yu:=⟨Wl T,T.g_qp,T.F_qp.kp,T.b_qp⟩
 have c_qr:Callee P w K mg base "are_lines" a.f_qr a.d_qr ["lines", "hands"] 3 Yt:=⟨Wk T,T.g_qr,T.F_qr.kp,T.b_qr⟩
 have c_qs:Callee P w K mg base "near_by_hand" a.f_qs a.d_qs ["hands", "lines"] 1 W2:=⟨V1 T,T.g_qs,T.F_qs.kp,T.b_qs⟩
 refine T.F_qa0.ok zf1 (fun vs H Q E h=>?_) (fun cdv A outer s H vs Q E hr h=>?_)
 ·obtain⟨p,dx,h,l,rs,hs,ls,rfl,_⟩:=h
  rfl
 ·obtain⟨p,dx,h,l,rs,hs,ls,rfl,hp,hh,hl,hrs,W,L,k⟩:=h
  have l66:=L.le
  have np:∀ {b:Addr}{xs:List V},H b=some (.lst xs)→b≠p:=fun e z=>by rw[z,hp] at e;cases e
  refine⟨_,(zD (wz (yJ (yI (Va c_qp (hr.mono (by omega)) (xo (pv 1) zS))))
    (zJ wy)
    yt)
   (zD (wz (yJ (yI (Va c_qr (hr.mono (by omega)) (xo (pv 2) (xo (pv 1) zS)))))
    (zJ wy)
    yt)
   (zD (uC (pv 0) (vo ym (by rfl) T.n_list xm (xo (pv 1) zS)) rfl)
   (zD (uC (pv 0) (yc wn (by rfl) T.n_sorted xU (xo (pv 2) zS)) rfl)
   (zJ (uC (pv 0) (Va c_qs (hr.mono (by omega)) (xo (pv 1) (xo (pv 2) zS))) rfl)))))),?_⟩
  refine⟨_,rfl,h,hs,rfl,hh,W,_,rfl,yh rfl ?_⟩
  refine⟨_,rfl,_,rfl,l,h,rs,hs,ls,rfl,hl,hrs,hh,L,fun H1 s1=>⟨_,rfl,yh rfl ?_⟩⟩
  refine⟨_,rfl,h,_,rfl,.inl (SqL.of (s1 _ _ hh)),fun oh hoh=>?_⟩
  have ohp:oh≠p:=fun z=>by rw[z,s1 _ _ hp] at hoh;cases hoh
  refine⟨_,rfl,p,a.c_Web,dx,_,rfl,(upd_ne ohp.symm).trans (s1 _ _ hp),T.cl_Web,T.na_Web_own_hands,(by show 0<1000;decide),?_⟩
  have x3:=((Ext.same (l:=p) s1).trans (Ext.new (l:=p) (o:=.lst (hs.map V.int)) hoh)).trans (Ext.at (l:=p) (o:=.ins a.c_Web dx [("own_hands",.ref oh)]))
  refine⟨_,rfl,l,rs,rfl,SqL.of (x3 _ _ hl (np hl)),by rw[hrs.1];exact l66,fun y hy=>(hrs.ext hp x3).mem hy,fun ol zs hol z1 z2=>?_⟩
  have olp:ol≠p:=fun z=>by rw[z,zd] at hol;cases hol
  refine⟨_,rfl,p,a.c_Web,dx,_,rfl,(upd_ne olp.symm).trans zd,T.cl_Web,T.na_Web_own_lines,(by show 1<1000;decide),?_⟩
  have x35:=(Ext.new (l:=p) (o:=.lst zs) hol).trans (Ext.at (l:=p) (o:=.ins a.c_Web dx [("own_hands",.ref oh),("own_lines",.ref ol)]))
  have x5:=x3.trans x35
  refine⟨_,rfl,_,rfl,h,l,rs,hs,ls,rfl,x5 _ _ hh (np hh),x5 _ _ hl (np hl),hrs.ext hp x5,W,L,fun d ad H6 s6 hd N=>?_⟩
  have hp6:=s6 _ _ (zd (a:=p))
  refine⟨_,rfl,p,a.c_Web,dx,_,rfl,hp6,T.cl_Web,T.na_Web_near,(by show 2<1000;decide),?_⟩
  refine k oh ol d ad _ ((x5.trans (Ext.same s6)).trans Ext.at) ⟨zd,?_,N.ext hp6 Ext.at⟩
  rw[upd_ne ohp]
  exact s6 _ _ (x35 _ _ ((upd_ne ohp).trans zd) ohp)
end
end K04

namespace K04
open PySem L2
theorem Xb {x:Int}:∀ {ls:List (Int×Int)},ls.Nodup→(∀ p∈ls,p.1<p.2)→(nbs ls x).Nodup
 |[],_,_=>List.nodup_nil
 |p::ls,nd,ok=>by
  obtain⟨n1,n2⟩:=List.nodup_cons.mp nd
  have ih:=Xb (x:=x) n2 fun q hq=>ok q (List.mem_cons_of_mem _ hq)
  have lt:=ok p (List.mem_cons_self ..)
  have e:nbs (p::ls) x=((if p.1=x then[p.2] else[])++if p.2=x then[p.1] else[])++nbs ls x:=by unfold nbs;rw[List.flatMap_cons]
  have no:∀ y,Adj ls x y→y∉((if p.1=x then[p.2] else[])++if p.2=x then[p.1] else[]):=by
   intro y hy hm
   have key:∀ q∈ls,q≠p:=fun q hq z=>n1 (z ▸ hq)
   rcases List.mem_append.mp hm with h | h
   ·by_cases c:p.1=x
    ·rw[if_pos c] at h
     have ey:y=p.2:=List.mem_singleton.mp h
     rcases hy with z | z
     ·exact key _ z (by rw[ey,← c])
     ·have:=ok _ (List.mem_cons_of_mem _ z)
      simp at this
      omega
    ·rw[if_neg c] at h;cases h
   ·by_cases c:p.2=x
    ·rw[if_pos c] at h
     have ey:y=p.1:=List.mem_singleton.mp h
     rcases hy with z | z
     ·have:=ok _ (List.mem_cons_of_mem _ z)
      simp at this
      omega
     ·exact key _ z (by rw[ey,← c])
    ·rw[if_neg c] at h;cases h
  rw[e,List.nodup_append]
  refine⟨?_,ih,fun a ha b hb z=>no b (mem_nbs.mp hb) (z ▸ ha)⟩
  by_cases c1:p.1=x
  ·have c2:¬ p.2=x:=by omega
   rw[if_pos c1,if_neg c2]
   simp
  ·rw[if_neg c1]
   by_cases c2:p.2=x
   ·rw[if_pos c2];simp
   ·rw[if_neg c2];simp
theorem Xd {hs:List Int}{ls:List (Int×Int)}{x:Int}(W:Hs hs) (L:Ls hs ls):(nbs ls x).length≤12:=by
 have nd:=Xb (x:=x) L.nd fun p hp=>(L.ok p hp).2.2
 have sub:∀ y∈nbs ls x,y∈hs:=fun y hy=>by
  rcases mem_nbs.mp hy with z | z
  ·exact(L.ok _ z).2.1
  ·exact(L.ok _ z).1
 have:=Xa nd sub
 have:=W.l12
 omega
theorem WT:∀ {as bs:List Int},as.Pairwise (· < ·)→bs.Pairwise (· < ·)→(∀ x,x∈as↔x∈bs)→as=bs
 |[],[],_,_,_=>rfl
 |[],b::bs,_,_,h=>by have:=(h b).mpr (List.mem_cons_self ..);cases this
 |a::as,[],_,_,h=>by have:=(h a).mp (List.mem_cons_self ..);cases this
 |a::as,b::bs,ha,hb,h=>by
  obtain⟨a1,a2⟩:=List.pairwise_cons.mp ha
  obtain⟨b1,b2⟩:=List.pairwise_cons.mp hb
  have e:a=b:=by
   rcases List.mem_cons.mp ((h a).mp (List.mem_cons_self ..)) with e | e
   ·exact e
   ·rcases List.mem_cons.mp ((h b).mpr (List.mem_cons_self ..)) with e' | e'
    ·exact e'.symm
    ·have:=b1 a e
     have:=a1 b e'
     omega
  subst e
  rw[WT a2 b2 fun x=>⟨fun hx=>by
   rcases List.mem_cons.mp ((h x).mp (List.mem_cons_of_mem _ hx)) with e | e
   ·have:=a1 x hx;omega
   ·exact e,fun hx=>by
   rcases List.mem_cons.mp ((h x).mpr (List.mem_cons_of_mem _ hx)) with e | e
   ·have:=b1 x hx;omega
   ·exact e⟩]
noncomputable def adB (ls:List (Int×Int)) (x y:Int):Bool:=decide ((x,y)∈ls)||decide ((y,x)∈ls)
theorem zah {ls:List (Int×Int)}{x y:Int}:decide (y∈nbs ls x)=adB ls x y:=by
 unfold adB
 rw[Bool.eq_iff_iff,Bool.or_eq_true,decide_eq_true_eq,decide_eq_true_eq,decide_eq_true_eq]
 exact mem_nbs
theorem uz {hs:List Int}{ls:List (Int×Int)}{x:Int}{ms:List Int}(W:Hs hs) (L:Ls hs ls) (pm:ms.Perm (nbs ls x)) (sd:ms.Pairwise (· ≤ ·)):ms=hs.filter (adB ls x):=by
 have nd:ms.Nodup:=pm.nodup_iff.mpr (Xb L.nd fun p hp=>(L.ok p hp).2.2)
 have up:ms.Pairwise (· < ·):=(sd.and (List.nodup_iff_pairwise_ne.mp nd)).imp fun h=>by
  have h1:=h.1
  have h2:=h.2
  omega
 refine WT up (W.up.filter _) fun y=>?_
 rw[pm.mem_iff,List.mem_filter,← zah,decide_eq_true_eq]
 refine⟨fun h=>⟨?_,h⟩,fun h=>h.2⟩
 rcases mem_nbs.mp h with z | z
 ·exact(L.ok _ z).2.1
 ·exact(L.ok _ z).1
section
variable {P:Program}{w:World}{K:PySem.W.Frag}{mg:Str→Option Value}{base:Heap}{a:Ad}
def zmi (a:Ad):Sp:=fun vs H Q _=>∃ (p:Addr) (x:Int) (hs:List Int) (ls:List (Int×Int)) (dx oh ol d:Addr) (ad:Int→Addr),vs=[.ref p,.int x]∧WebAt a H p hs ls dx oh ol d ad∧x∈hs∧Q (.bl true) H
theorem zgt (T:Txt w K mg a):FnOk P w K mg base CX0 2 a.f_qa3 a.d_qa3 ["self", "hand"] (zmi a):=by
 have c_qi:Callee P w K mg base "is_whole" a.f_qi a.d_qi ["value"] 1 wv:=⟨wD T,T.g_qi,T.F_qi.kp,T.b_qi⟩
 refine T.F_qa3.ok zfZ (fun vs H Q E h=>?_) (fun cdv A outer s H vs Q E hr h=>?_)
 ·obtain⟨p,x,hs,ls,dx,oh,ol,d,ad,rfl,_⟩:=h
  rfl
 ·obtain⟨p,x,hs,ls,dx,oh,ol,d,ad,rfl,W,hx,k⟩:=h
  have hu:=xk hr
  refine zB (zf (zh (yl (zk c_qi (hr.mono (by omega)) (w_pa_N (w_pv 1) w_pa_nil)) (yg (XX (XY hu (w_pv 1) (w_pe_fld (w_pv 0) rfl))))))) ?_
  refine⟨_,rfl,x,rfl,_,rfl,Zl ?_⟩
  exact⟨_,rfl,_,rfl,p,_,dx,_,_,rfl,W.p,T.cl_Web,T.na_Web_near,rfl,d,some (V.ref (ad x)),rfl,yw W.nr.d hx,k⟩
def X7 (a:Ad):Sp:=fun vs H Q _=>∃ (p:Addr) (hs:List Int) (ls:List (Int×Int)) (dx oh ol d:Addr) (ad:Int→Addr),vs=[.ref p]∧WebAt a H p hs ls dx oh ol d ad∧∀ q,H q=none→Q (.ref q) (upd H q (.lst (hs.map V.int)))
theorem yY (T:Txt w K mg a):FnOk P w K mg base CX0 1 a.f_qa1 a.d_qa1 ["self"] (X7 a):=by
 refine T.F_qa1.ok zf0 (fun vs H Q E h=>?_) (fun cdv A outer s H vs Q E hr h=>?_)
 ·obtain⟨p,hs,ls,dx,oh,ol,d,ad,rfl,_⟩:=h
  rfl
 ·obtain⟨p,hs,ls,dx,oh,ol,d,ad,rfl,W,k⟩:=h
  refine zB (zf (zh (zG ym (by rfl) T.n_list xm (zg (w_pe_fld (w_pv 0) rfl) w_pa_nil)))) ?_
  exact⟨_,rfl,p,_,dx,_,_,rfl,W.p,T.cl_Web,T.na_Web_own_hands,rfl,oh,_,rfl,.inl (SqL.of W.oh),k⟩
def zwZ (a:Ad):Sp:=fun vs H Q _=>∃ (p:Addr) (x:Int) (hs:List Int) (ls:List (Int×Int)) (dx oh ol d:Addr) (ad:Int→Addr),vs=[.ref p,.int x]∧WebAt a H p hs ls dx oh ol d ad∧Hs hs∧Ls hs ls∧x∈hs ∧
 ∀ (q:Addr),H q=none→Q (.ref q) (upd H q (.lst ((hs.filter (adB ls x)).map V.int)))
theorem V2 (T:Txt w K mg a):FnOk P w K mg base CX0 3 a.f_qa4 a.d_qa4 ["self", "hand"] (zwZ a):=by
 refine T.F_qa4.ok zfY (fun vs H Q E h=>?_) (fun cdv A outer s H vs Q E hr h=>?_)
 ·obtain⟨p,x,hs,ls,dx,oh,ol,d,ad,rfl,_⟩:=h
  rfl
 ·obtain⟨p,x,hs,ls,dx,oh,ol,d,ad,rfl,W,wh,wl,hx,k⟩:=h
  have hu:=xk hr
  refine zB (w_pss_cons (w_ps_if (yS (zV (w_pe_methD (w_pv 0) (w_pa_N (w_pv 1) w_pa_nil))))
    (zf yq)
    zm)
   (zf (zh (w_pe_callB wo (by rfl) T.n_sorted xU (zg (zO hu (w_pe_fld (w_pv 0) rfl) (w_pv 1) (fun _ _=>rfl)) w_pa_nil))))) ?_
  refine⟨_,rfl,p,_,dx,_,_,_,_,_,_,rfl,W.p,rfl,T.cl_Web,T.mt_qa3,zgt (P:=P) (w:=w) T,hr.mono (by omega),T.b_qa3,_,rfl,p,x,hs,ls,dx,oh,ol,d,ad,rfl,W,hx,_,rfl,yh rfl ?_⟩
  have few:=Xd (x:=x) wh wl
  exact⟨_,rfl,p,_,dx,_,_,rfl,W.p,T.cl_Web,T.na_Web_near,rfl,_,rfl,d,V.ref (ad x),rfl,yw W.nr.d hx,ad x,_,rfl,SqL.of (W.nr.nb x hx),by omega,fun q ms hq pm sd=>by rw[uz wh wl pm sd];exact k q hq⟩
end
end K04

namespace K04
open PySem L2
theorem merge_app:∀ {kvs acc:List (Key×V)},((acc++kvs).map (·.1)).Nodup→mergeK acc kvs=acc++kvs
 |[],acc,_=>by simp[mergeK]
 |kv::kvs,acc,h=>by
  have hn:kv.1∉acc.map (·.1):=by
   rw[List.map_append,List.nodup_append] at h
   intro z
   exact h.2.2 _ z _ (by simp) rfl
  show mergeK (putK acc kv.1 kv.2) kvs=_
  rw[putK_new hn,merge_app (by simpa using h)]
  simp
theorem wL {kvs:List (Key×V)}(h:(kvs.map (·.1)).Nodup):mergeK [] kvs=kvs:=by
 have:=merge_app (kvs:=kvs) (acc:=[]) (by simpa using h)
 simpa using this
noncomputable def tabI (f:Int→Int) (us:List Int):List (Key×V):=us.map fun h=>(Sum.inl h,V.int (f h))
theorem yx {f:Int→Int}{us:List Int}:(tabI f us).map (·.1)=us.map Sum.inl:=by
 unfold tabI
 rw[List.map_map]
 rfl
theorem Xp {us:List Int}(h:us.Nodup):(us.map (Sum.inl:Int→Key)).Nodup:=by
 rw[List.nodup_iff_pairwise_ne,List.pairwise_map]
 exact(List.nodup_iff_pairwise_ne.mp h).imp fun {a b} n z=>n (by injection z)
theorem vR {f:Int→Int}{x:Int}:∀ {us:List Int},x∈us→xr (tabI f us) (Sum.inl x:Key)=some (V.int (f x))
 |u::us,h=>by
  unfold tabI xr
  rw[List.map_cons,List.find?_cons]
  by_cases e:u=x
  ·subst e;simp
  ·have:¬ ((Sum.inl u:Key)=Sum.inl x):=fun z=>e (by injection z)
   simp only[decide_eq_false this]
   have:=vR (f:=f) ((List.mem_cons.mp h).resolve_left fun z=>e z.symm)
   unfold tabI xr at this
   exact this
theorem yr {H:Hp}{d:Addr}{f:Int→Int}{us:List Int}{x:Int}(e:H d=some (.dK (tabI f us))) (h:x∈us):DGet H d (V.int x) (some (V.int (f x))):=by
 have:=DGet.k (k:=.inl x) e
 rw[vR h] at this
 exact this
theorem Xq {hs:List Int}(W:Hs hs):hs.Nodup:=List.nodup_iff_pairwise_ne.mpr (W.up.imp fun {a b} h=>by omega)
theorem ProgAt.same {a:Ad}{H H':Hp}{e1 e2 e3 e4:Ex}{r:V}(s:Same H H') (h:ProgAt a H e1 e2 e3 e4 r):ProgAt a H' e1 e2 e3 e4 r:=by
 obtain⟨p,dx,r1,r2,r3,r4,e,hp,⟨⟨a1,b1⟩,⟨a2,b2⟩,⟨a3,b3⟩,⟨a4,b4⟩,z⟩⟩:=h
 exact⟨p,dx,r1,r2,r3,r4,e,s _ _ hp,⟨⟨a1.same s,b1⟩,⟨a2.same s,b2⟩,⟨a3.same s,b3⟩,⟨a4.same s,b4⟩,z⟩⟩
noncomputable def deg (hs:List Int) (ls:List (Int×Int)) (x:Int):Int:=(((hs.filter (adB ls x)).map V.int).length:Int)
noncomputable def w0 (hs:List Int) (ls:List (Int×Int)) (e1:Ex) (x:Int):Int:=e1.val (rho (kvF x (deg hs ls x)))
section
variable {P:Program}{w:World}{K:PySem.W.Frag}{mg:Str→Option Value}{base:Heap}{a:Ad}
structure WbP (a:Ad) (H:Hp) (p:Addr) (hs:List Int) (ls:List (Int×Int)):Prop where
 wh:Hs hs
 wl:Ls hs ls
 at_:∃ dx oh ol d ad,WebAt a H p hs ls dx oh ol d ad
theorem WbP.same {H H':Hp}{p:Addr}{hs:List Int}{ls:List (Int×Int)}(h:WbP a H p hs ls) (s:Same H H'):WbP a H' p hs ls:=⟨h.wh,h.wl,let ⟨dx,oh,ol,d,ad,W⟩:=h.at_;⟨dx,oh,ol,d,ad,W.same s⟩⟩
def zuW (a:Ad):Sp:=fun vs H Q _=>∃ (p:Addr) (hs:List Int) (ls:List (Int×Int)) (r:V) (e1 e2 e3 e4:Ex),vs=[.ref p,r]∧WbP a H p hs ls∧ProgAt a H e1 e2 e3 e4 r ∧
 ∀ q H',H q=none→Same H H'→H' q=some (.dK (tabI (w0 hs ls e1) hs))→Q (.ref q) H'
theorem zm7 (T:Txt w K mg a):FnOk P w K mg base CX0 11 a.f_qa a.d_qa ["web", "program"] (zuW a):=by
 refine T.F_qa.ok zmv (fun vs H Q E h=>?_) (fun cdv A outer s H vs Q E hr h=>?_)
 ·obtain⟨p,hs,ls,r,e1,e2,e3,e4,rfl,_⟩:=h
  rfl
 ·obtain⟨p,hs,ls,r,e1,e2,e3,e4,rfl,W,hP,k⟩:=h
  have hu:=xk hr
  refine zB (zf (zh (zG (xl rfl) (by rfl) T.n_dict wU (zg (ye rfl (N':=["hand", "program", "web"]) (t:=1) (caps:=[1,0]) ⟨rfl,rfl,rfl⟩ (zC (zA (w_pv 0))) (fun _=>(zt (i:=0) (show(["hand", "program", "web"]:List Str).Nodup by decide +kernel) rfl (Or.inl rfl))) (fun _=>yj) (fun _=>(zN (w_pa_N (w_pv 0) (zy (w_pe_methD (w_pv 1) (w_pa_N (w_pv 0) (zy (w_pe_callB zr (by rfl) T.n_len yb (zy (w_pe_methD (w_pv 2) (w_pa_N (w_pv 0) w_pa_nil)) w_pa_nil)) w_pa_nil))) w_pa_nil))))) w_pa_nil)))) ?_
  obtain⟨dx,oh,ol,d,ad,Wb⟩:=W.at_
  refine⟨_,rfl,p,_,dx,_,_,_,_,_,_,rfl,Wb.p,rfl,T.cl_Web,T.mt_qa1,yY (P:=P) (w:=w) T,hr.mono (by omega),T.b_qa1,p,hs,ls,dx,oh,ol,d,ad,rfl,Wb,fun ph hph=>?_⟩
  have s1:=Same.new (o:=HO.lst (hs.map V.int)) hph
  refine⟨ph,rfl,⟨_,SqL.of zd⟩,fun D hD _=>?_⟩
  generalize hH1:upd H ph (HO.lst (hs.map V.int))=H1 at *
  have hph1:H1 ph=some (.lst (hs.map V.int)):=by rw[← hH1];exact zd
  have l12:=W.wh.l12
  refine zZ (K:=K) (a:=ph) (xs:=hs.map V.int) (fun i zs τ H'=>∃ (o:Option V) (qs:List Addr),τ=[o,some r,some (.ref p)]∧zs=qs.map V.ref∧qs.length=i∧(∀ (j:Nat) (q:Addr) (x:Int),qs[j]?=some q→hs[j]?=some x→H' q=some (.tup [.int x,.int (w0 hs ls e1 x)]))∧H' D=some (.lst zs)∧Same H1 H') ?_ ?_ ?_ ?_
  ·exact⟨none,[],rfl,rfl,rfl,fun j q x h=>by simp at h,zd,Same.new hD⟩
  ·rintro i zs τ H' ⟨o,qs,_,_,_,_,_,sm⟩
   exact SqL.of (sm _ _ hph1)
  ·rintro i v zs τ H' hi ⟨o,qs,rfl,rfl,lq,hq,hD',sm⟩
   obtain⟨x,hx,rfl⟩:∃ x,hs[i]?=some x∧v=.int x:=by
    rw[List.getElem?_map] at hi
    obtain⟨x,h1,h2⟩:=Option.map_eq_some_iff.mp hi
    exact⟨x,h1,h2.symm⟩
   have hxm:=List.mem_of_getElem? hx
   have hil:i<hs.length:=(List.getElem?_eq_some_iff.mp hx).1
   have sH:=s1.trans sm
   have Wb':=Wb.same sH
   have hP':=ProgAt.same sH hP
   obtain⟨pp,pdx,r1,r2,r3,r4,hre,hpp,hF⟩:=id hP'
   refine gn_if ?_
   refine⟨_,rfl,_,rfl,pp,_,pdx,_,_,_,_,_,_,hre,hpp,rfl,T.cl_Program,T.mt_qX,Wm (P:=P) (w:=w) T,hr.mono (by omega),T.b_qX,_,rfl,_,rfl,p,_,dx,_,_,_,_,_,_,rfl,Wb'.p,rfl,T.cl_Web,T.mt_qa4,V2 (P:=P) (w:=w) T,hr.mono (by omega),T.b_qa4,_,rfl,p,x,hs,ls,dx,oh,ol,d,ad,rfl,Wb',W.wh,W.wl,hxm,fun q1 hq1=>?_⟩
   have n1:=Same.new (o:=HO.lst ((hs.filter (adB ls x)).map V.int)) hq1
   refine⟨q1,_,rfl,.inl (SqL.of zd),r,e1,e2,e3,e4,x,_,rfl,ProgAt.same n1 hP',fun H2 s2=>⟨(by show 2≤sizeLine;decide),fun pt hpt=>?_⟩⟩
   have n2:=n1.trans (s2.trans (Same.new (o:=HO.tup [V.int x,V.int (w0 hs ls e1 x)]) hpt))
   refine⟨n2 _ _ hD',by rw[List.length_map,lq];exact zo (by omega),some (.int x),qs++[pt],rfl,by simp,by simp[lq],fun j q y hj hy=>?_,zd,Same.updF (sm.trans n2) hD⟩
   have old:∀ b o,H' b=some o→b≠D→upd (upd H2 pt (HO.tup [V.int x,V.int (w0 hs ls e1 x)])) D (HO.lst (qs.map V.ref++[V.ref pt])) b=some o:=fun b o e nb=>by
    rw[upd_ne nb]
    exact n2 _ _ e
   by_cases hji:j<i
   ·rw[List.getElem?_append_left (by omega)] at hj
    have h1:=hq j q y hj hy
    exact old q _ h1 (fun z=>by rw[z,hD'] at h1;cases h1)
   ·rw[List.getElem?_append_right (by omega)] at hj
    have:j=i:=by
     have:=(List.getElem?_eq_some_iff.mp hj).1
     simp at this
     omega
    subst this
    rw[lq,Nat.sub_self] at hj
    cases hj
    rw[hx] at hy
    cases hy
    rw[upd_ne (fun z=>by rw[z] at hpt;rw[s2 _ _ (n1 _ _ hD')] at hpt;cases hpt)]
    exact zd
  ·rintro zs τ H2 ⟨o,qs,rfl,rfl,lq,hq,hD2,sm⟩
   rw[List.length_map] at lq
   refine⟨D,qs,tabI (w0 hs ls e1) hs,rfl,hD2,by rw[lq];unfold tabI;rw[List.length_map],by unfold tabI;rw[List.length_map];omega,fun i q kv h1 h2=>?_,fun pd hpd=>?_⟩
   ·unfold tabI at h2
    rw[List.getElem?_map] at h2
    obtain⟨x,h3,h4⟩:=Option.map_eq_some_iff.mp h2
    subst h4
    exact hq i q x h1 h3
   ·rw[wL (by rw[yx];exact Xp (Xq W.wh))]
    have sE:=s1.trans sm
    exact k pd _ (sE.free hpd) (sE.trans (Same.new hpd)) zd
end
end K04

namespace K04
open PySem L2
structure HrAt (H:Hp) (q:Addr) (ad:Int→Addr) (hs:List Int) (g:Int→List (Int×Int)):Prop where
 q:H q=some (.dK (tab ad hs))
 inj:∀ x∈hs,∀ y∈hs,ad x=ad y→x=y
 at_:∀ x∈hs,∃ rs,H (ad x)=some (.lst rs)∧LnAt H rs (g x)∧rs.length≤100
theorem LnAt.mono {H H':Hp}{rs:List V}{ls:List (Int×Int)}(k:∀ b xs,H b=some (.tup xs)→H' b=some (.tup xs)) (h:LnAt H rs ls):LnAt H' rs ls:=⟨h.1,fun i r p h1 h2=>by
 obtain⟨q,e,hq⟩:=h.2 i r p h1 h2
 exact⟨q,e,k _ _ hq⟩⟩
theorem LnAt.snoc {H:Hp}{rs:List V}{ls:List (Int×Int)}{q:Addr}{p:Int×Int}(h:LnAt H rs ls) (hq:H q=some (.tup [.int p.1,.int p.2])):LnAt H (rs++[.ref q]) (ls++[p]):=by
 refine⟨by simp[h.1],fun i r p' h1 h2=>?_⟩
 have l:=h.1
 by_cases hi:i<rs.length
 ·rw[List.getElem?_append_left hi] at h1
  rw[List.getElem?_append_left (by omega)] at h2
  exact h.2 i r p' h1 h2
 ·rw[List.getElem?_append_right (by omega)] at h1
  rw[List.getElem?_append_right (by omega),← l] at h2
  obtain⟨n,hn⟩:∃ n,n=i-rs.length:=⟨_,rfl⟩
  rw[← hn] at h1 h2
  cases n with
  |zero=>cases h1;cases h2;exact⟨q,rfl,hq⟩
  |succ n=>simp at h1
theorem HrAt.same {H H':Hp}{q:Addr}{ad:Int→Addr}{hs:List Int}{g:Int→List (Int×Int)}(h:HrAt H q ad hs g) (s:Same H H'):HrAt H' q ad hs g:=⟨s _ _ h.q,h.inj,fun x hx=>by
 obtain⟨rs,h1,h2,h3⟩:=h.at_ x hx
 exact⟨rs,s _ _ h1,h2.same s,h3⟩⟩
theorem HrAt.app {H:Hp}{q pt:Addr}{ad:Int→Addr}{hs:List Int}{g g':Int→List (Int×Int)}{x:Int}{rs:List V}{p:Int×Int}(h:HrAt H q ad hs g) (hx:x∈hs) (hr:H (ad x)=some (.lst rs)) (hl:LnAt H rs (g x)) (h3:rs.length<100) (hp:H pt=some (.tup [.int p.1,.int p.2]))
  (e1:g' x=g x++[p]) (e2:∀ y∈hs,y≠x→g' y=g y):HrAt (upd H (ad x) (.lst (rs++[.ref pt]))) q ad hs g':=by
 have mt:∀ b xs,H b=some (.tup xs)→upd H (ad x) (.lst (rs++[.ref pt])) b=some (.tup xs):=fun b xs e=>by
  rw[upd_ne (ne_of e hr (by intro z;cases z))]
  exact e
 refine⟨by rw[upd_ne (ne_of h.q hr (by intro z;cases z))];exact h.q,h.inj,fun y hy=>?_⟩
 by_cases e:y=x
 ·subst e
  refine⟨_,zd,?_,by simp;omega⟩
  rw[e1]
  exact(hl.mono mt).snoc (mt _ _ hp)
 ·obtain⟨rs',h1,h2,h4⟩:=h.at_ y hy
  refine⟨rs',?_,?_,h4⟩
  ·rw[upd_ne (fun z=>e (h.inj y hy x hx z))]
   exact h1
  ·rw[e2 y hy e]
   exact h2.mono mt
noncomputable def msg (hs:List Int) (ls:List (Int×Int)) (e2 e3:Ex) (f:Int→Int) (t:Int) (s x:Int):Option (Int×Int) :=
 if e3.val (rho (kvS (f s) s t (deg hs ls s) x))>0 then some (s,e2.val (rho (kvS (f s) s t (deg hs ls s) x))) else none
noncomputable def vE (hs:List Int) (ls:List (Int×Int)) (e2 e3:Ex) (f:Int→Int) (t:Int) (S:List Int) (x:Int):List (Int×Int):=S.filterMap fun s=>if adB ls s x=true then msg hs ls e2 e3 f t s x else none
theorem WL {hs:List Int}{ls:List (Int×Int)}{e2 e3:Ex}{f:Int→Int}{t:Int}{S:List Int}{x:Int}:(vE hs ls e2 e3 f t S x).length≤S.length:=List.length_filterMap_le _ _
theorem Xs {hs:List Int}{ls:List (Int×Int)}{e2 e3:Ex}{f:Int→Int}{t:Int}{S:List Int}{s x:Int}:vE hs ls e2 e3 f t (S++[s]) x=vE hs ls e2 e3 f t S x++(if adB ls s x=true then(msg hs ls e2 e3 f t s x).toList else[]):=by
 unfold vE
 rw[List.filterMap_append]
 congr 1
 by_cases h:adB ls s x=true
 ·rw[if_pos h]
  simp only[List.filterMap_cons,if_pos h,List.filterMap_nil]
  cases msg hs ls e2 e3 f t s x<;>rfl
 ·rw[if_neg h]
  simp only[List.filterMap_cons,if_neg h,List.filterMap_nil]
theorem HrAt.congr {H:Hp}{q:Addr}{ad:Int→Addr}{hs:List Int}{g g':Int→List (Int×Int)}(h:HrAt H q ad hs g) (e:∀ x∈hs,g' x=g x):HrAt H q ad hs g':=⟨h.q,h.inj,fun x hx=>by rw[e x hx];exact h.at_ x hx⟩
section
variable {P:Program}{w:World}{K:PySem.W.Frag}{mg:Str→Option Value}{base:Heap}{a:Ad}
def zuV (a:Ad):Sp:=fun vs H Q _=>∃ (p:Addr) (hs:List Int) (ls:List (Int×Int)) (r:V) (e1 e2 e3 e4:Ex) (dw:Addr) (f:Int→Int) (t:Int),vs=[.ref p,r,.ref dw,.int t]∧WbP a H p hs ls∧ProgAt a H e1 e2 e3 e4 r∧H dw=some (.dK (tabI f hs)) ∧
 ∀ q ad H',H q=none→(∀ x∈hs,H (ad x)=none)→Same H H'→HrAt H' q ad hs (vE hs ls e2 e3 f t hs)→Q (.ref q) H'
theorem zm6 (T:Txt w K mg a):FnOk P w K mg base CX0 11 a.f_qb a.d_qb ["web", "program", "worths", "turn"] (zuV a):=by
 refine T.F_qb.ok sc_qb (fun vs H Q E h=>?_) (fun cdv A outer s H vs Q E hr h=>?_)
 ·obtain⟨p,hs,ls,r,e1,e2,e3,e4,dw,f,t,rfl,_⟩:=h
  rfl
 ·obtain⟨p,hs,ls,r,e1,e2,e3,e4,dw,f,t,rfl,W,hP,hdw,k⟩:=h
  have hu:=xk hr
  refine zB (w_pss_cons (zj (i:=4) sc_qb.nd rfl (Or.inl rfl) (zG (xl rfl) (by rfl) T.n_dict wU (zg (ye rfl (N':=["hand"]) (t:=1) (caps:=[]) ⟨rfl,rfl,rfl⟩ (zC (zA (w_pv 0))) (fun _=>(zt (i:=0) (show(["hand"]:List Str).Nodup by decide +kernel) rfl (Or.inl rfl))) (fun _=>yj) (fun _=>(zN (w_pa_N (w_pv 0) (zg (zv w_pa_nil) w_pa_nil))))) w_pa_nil)))
   (w_pss_cons (zM PassesOwn.never rfl (zC (zA (w_pv 0))) (zt (i:=5) sc_qb.nd rfl (Or.inl rfl))
    (w_pss_cons (zj (i:=6) sc_qb.nd rfl (Or.inl rfl) (w_pe_methD (w_pv 0) (w_pa_N (w_pv 5) w_pa_nil)))
    (zf (zM PassesOwn.never rfl (zC (w_pv 6)) (zt (i:=7) sc_qb.nd rfl (Or.inl rfl))
     (w_pss_cons (zj (i:=8) sc_qb.nd rfl (Or.inl rfl) (w_pe_methD (w_pv 1) (zg (zO hu (w_pv 2) (w_pv 5) (fun _ _=>rfl)) (w_pa_N (w_pv 5) (w_pa_N (w_pv 3) (zy (w_pe_callB zr (by rfl) T.n_len yb (w_pa_N (w_pv 6) w_pa_nil)) (w_pa_N (w_pv 7) w_pa_nil)))))))
     (zf (w_ps_if (w_pt_cmpR VX (w_pv 8) uo (zw _))
      (zf (zW (yn PySem.F.plainAttrs_list PySem.F.slot_list_append PySem.F.type_list_append zQ (zO hu (w_pv 4) (w_pv 7) (fun _ _=>rfl)) (uq (zN (w_pa_N (w_pv 5) (w_pa_N (w_pv 8) w_pa_nil))) w_pa_nil))))
      zm)))))))
   (zf (zh (w_pv 4))))) ?_
  obtain⟨dx,oh,ol,d,ad0,Wb⟩:=W.at_
  have l12:=W.wh.l12
  have nd:=Xq W.wh
  refine⟨_,rfl,p,_,dx,_,_,_,_,_,_,rfl,Wb.p,rfl,T.cl_Web,T.mt_qa1,yY (P:=P) (w:=w) T,hr.mono (by omega),T.b_qa1,p,hs,ls,dx,oh,ol,d,ad0,rfl,Wb,fun ph hph=>?_⟩
  have s1:=Same.new (o:=HO.lst (hs.map V.int)) hph
  refine⟨ph,rfl,⟨_,SqL.of zd⟩,fun D hD _=>?_⟩
  generalize hH1:upd H ph (HO.lst (hs.map V.int))=H1 at *
  have hph1:H1 ph=some (.lst (hs.map V.int)):=by rw[← hH1];exact zd
  refine zZ (K:=K) (a:=ph) (xs:=hs.map V.int) (fun i zs τ H'=>∃ (o:Option V) (qs:List Addr) (ad:Int→Addr),τ=[o]∧zs=qs.map V.ref∧qs.length=i∧(∀ (j:Nat) (q:Addr) (x:Int),qs[j]?=some q→hs[j]?=some x→H' q=some (.tup [.int x,.ref (ad x)]))∧(∀ x∈hs.take i,H1 (ad x)=none∧ad x≠D∧H' (ad x)=some (.lst []))∧(∀ x∈hs.take i,∀ y∈hs.take i,ad x=ad y→x=y)∧H' D=some (.lst zs)∧Same H1 H') ?_ ?_ ?_ ?_
  ·exact⟨none,[],fun _=>0,rfl,rfl,rfl,fun j q x h=>by simp at h,fun x hx=>by simp at hx,fun x hx=>by simp at hx,zd,Same.new hD⟩
  ·rintro i zs τ H' ⟨o,qs,ad,_,_,_,_,_,_,_,sm⟩
   exact SqL.of (sm _ _ hph1)
  ·rintro i v zs τ H' hi ⟨o,qs,ad,rfl,rfl,lq,hq,had,hinj,hD',sm⟩
   obtain⟨x,hx,rfl⟩:∃ x,hs[i]?=some x∧v=.int x:=by
    rw[List.getElem?_map] at hi
    obtain⟨x,h1,h2⟩:=Option.map_eq_some_iff.mp hi
    exact⟨x,h1,h2.symm⟩
   have hil:i<hs.length:=(List.getElem?_eq_some_iff.mp hx).1
   have hnx:x∉hs.take i:=xM nd hx
   refine gn_if ?_
   refine⟨_,rfl,(by show 0≤sizeLine;decide),fun pe hpe=>?_⟩
   have n1:=Same.new (o:=HO.lst []) hpe
   refine⟨(by show 2≤sizeLine;decide),fun pt hpt=>?_⟩
   have n2:=Same.new (o:=HO.tup [V.int x,V.ref pe]) hpt
   have n12:=n1.trans n2
   have npe:pe≠D:=fun z=>by rw[z,hD'] at hpe;cases hpe
   have npt:pt≠D:=fun z=>by rw[z,n1 _ _ hD'] at hpt;cases hpt
   have old:∀ b o,H' b=some o→b≠D→upd (upd (upd H' pe (HO.lst [])) pt (HO.tup [V.int x,V.ref pe])) D (HO.lst (qs.map V.ref++[V.ref pt])) b=some o:=fun b o e nb=>by
    rw[upd_ne nb]
    exact n12 _ _ e
   have hpe2:upd (upd (upd H' pe (HO.lst [])) pt (HO.tup [V.int x,V.ref pe])) D (HO.lst (qs.map V.ref++[V.ref pt])) pe=some (.lst []):=by
    rw[upd_ne npe]
    exact n2 _ _ zd
   have tk:hs.take (i+1)=hs.take i++[x]:=by rw[List.take_add_one,hx];rfl
   refine⟨n12 _ _ hD',by rw[List.length_map,lq];exact zo (by omega),some (.int x),qs++[pt],zf9 ad x pe,rfl,by simp,by simp[lq],fun j q y hj hy=>?_,fun y hy=>?_,fun y hy z hz e=>?_,zd,Same.updF (sm.trans n12) hD⟩
   ·by_cases hji:j<i
    ·rw[List.getElem?_append_left (by omega)] at hj
     have h1:=hq j q y hj hy
     have hyx:¬ y=x:=fun e=>hnx (by rw[← e];exact List.mem_of_getElem? (by rw[List.getElem?_take_of_lt hji];exact hy))
     rw[putA_ne hyx]
     exact old q _ h1 (fun z=>by rw[z,hD'] at h1;cases h1)
    ·rw[List.getElem?_append_right (by omega)] at hj
     have:j=i:=by
      have:=(List.getElem?_eq_some_iff.mp hj).1
      simp at this
      omega
     subst this
     rw[lq,Nat.sub_self] at hj
     cases hj
     rw[hx] at hy
     cases hy
     rw[putA_at rfl,upd_ne npt]
     exact zd
   ·rw[tk] at hy
    by_cases e:y=x
    ·rw[putA_at e]
     exact⟨sm.free hpe,npe,hpe2⟩
    ·rw[putA_ne e]
     obtain⟨a1,a2,a3⟩:=had y ((List.mem_append.mp hy).resolve_right fun z=>e (List.mem_singleton.mp z))
     exact⟨a1,a2,old _ _ a3 a2⟩
   ·rw[tk] at hy hz
    have fr:∀ u∈hs.take i,ad u≠pe:=fun u hu z=>by rw[← z,(had u hu).2.2] at hpe;cases hpe
    by_cases ey:y=x
    ·by_cases ez:z=x
     ·rw[ey,ez]
     ·rw[putA_at ey,putA_ne ez] at e
      exact absurd e.symm (fr z ((List.mem_append.mp hz).resolve_right fun w=>ez (List.mem_singleton.mp w)))
    ·have hy':=(List.mem_append.mp hy).resolve_right fun w=>ey (List.mem_singleton.mp w)
     by_cases ez:z=x
     ·rw[putA_ne ey,putA_at ez] at e
      exact absurd e (fr y hy')
     ·rw[putA_ne ey,putA_ne ez] at e
      exact hinj y hy' z ((List.mem_append.mp hz).resolve_right fun w=>ez (List.mem_singleton.mp w)) e
  ·rintro zs τ H2 ⟨o,qs,ad,rfl,rfl,lq,hq,had,hinj,hD2,sm⟩
   rw[List.length_map] at lq
   have had:∀ x∈hs,H1 (ad x)=none∧ad x≠D∧H2 (ad x)=some (.lst []):=fun x hx=>had x (by rw[List.length_map,List.take_length];exact hx)
   have hinj:∀ x∈hs,∀ y∈hs,ad x=ad y→x=y:=fun x hx y hy=>hinj x (by rw[List.length_map,List.take_length];exact hx) y (by rw[List.length_map,List.take_length];exact hy)
   refine⟨D,qs,tab ad hs,rfl,hD2,by rw[lq];unfold tab;rw[List.length_map],by unfold tab;rw[List.length_map];omega,fun i q kv h1 h2=>?_,fun pd hpd=>?_⟩
   ·unfold tab at h2
    rw[List.getElem?_map] at h2
    obtain⟨x,h3,h4⟩:=Option.map_eq_some_iff.mp h2
    subst h4
    exact hq i q x h1 h3
   rw[wL (by rw[uu];exact Xp nd)]
   have sE:=s1.trans sm
   have n3:=Same.new (o:=HO.dK (tab ad hs)) hpd
   have hpd0:H pd=none:=sE.free hpd
   have had0:∀ x∈hs,H (ad x)=none:=fun x hx=>s1.free (had x hx).1
   have h0:HrAt (upd H2 pd (HO.dK (tab ad hs))) pd ad hs (vE hs ls e2 e3 f t []):=⟨zd,hinj,fun x hx=>⟨[],n3 _ _ (had x hx).2.2,⟨rfl,fun i r p h=>by simp at h⟩,by simp⟩⟩
   have s3:=sE.trans n3
   generalize hH3:upd H2 pd (HO.dK (tab ad hs))=H3 at *
   have Wb3:=Wb.same s3
   refine⟨_,rfl,p,_,dx,_,_,_,_,_,_,rfl,Wb3.p,rfl,T.cl_Web,T.mt_qa1,yY (P:=P) (w:=w) T,hr.mono (by omega),T.b_qa1,p,hs,ls,dx,oh,ol,d,ad0,rfl,Wb3,fun ph2 hph2=>?_⟩
   have n4:=Same.new (o:=HO.lst (hs.map V.int)) hph2
   have h04:=h0.same n4
   have s4:=s3.trans n4
   have nph:∀ x∈hs,ph2≠ad x:=fun x hx z=>by
    obtain⟨rs,h1,_⟩:=h0.at_ x hx
    rw[← z,hph2] at h1
    cases h1
   refine⟨ph2,rfl,⟨_,SqL.of zd⟩,?_⟩
   have hph2':(upd H3 ph2 (HO.lst (hs.map V.int))) ph2=some (.lst (hs.map V.int)):=zd
   generalize hH4:upd H3 ph2 (HO.lst (hs.map V.int))=H4 at *
   refine zY (xs:=hs.map V.int) (fun i σ H'=>∃ o5 o6 o7 o8,σ=[some (.ref p),some r,some (.ref dw),some (.int t),some (.ref pd),o5,o6,o7,o8]∧HrAt H' pd ad hs (vE hs ls e2 e3 f t (hs.take i))∧Same H H'∧H' ph2=some (.lst (hs.map V.int))) ?_ ?_ ?_ ?_
   ·exact⟨_,_,_,_,rfl,h04,s4,hph2'⟩
   ·rintro i σ H' hi ⟨o5,o6,o7,o8,_,_,_,hp⟩
    exact SqL.of hp
   ·rintro i v σ H5 hi ⟨o5,o6,o7,o8,rfl,hr5,s5,hp5⟩
    obtain⟨sd,hsd,rfl⟩:∃ x,hs[i]?=some x∧v=.int x:=by
     rw[List.getElem?_map] at hi
     obtain⟨x,h1,h2⟩:=Option.map_eq_some_iff.mp hi
     exact⟨x,h1,h2.symm⟩
    have hsm:=List.mem_of_getElem? hsd
    have hil:i<hs.length:=(List.getElem?_eq_some_iff.mp hsd).1
    have Wb5:=Wb.same s5
    refine⟨_,rfl,p,_,dx,_,_,_,_,_,_,rfl,Wb5.p,rfl,T.cl_Web,T.mt_qa4,V2 (P:=P) (w:=w) T,hr.mono (by omega),T.b_qa4,_,rfl,p,sd,hs,ls,dx,oh,ol,d,ad0,rfl,Wb5,W.wh,W.wl,hsm,fun pn hpn=>?_⟩
    have n5:=Same.new (o:=HO.lst ((hs.filter (adB ls sd)).map V.int)) hpn
    have npn:∀ x∈hs,pn≠ad x:=fun x hx z=>by
     obtain⟨rs,h1,_⟩:=hr5.at_ x hx
     rw[← z,hpn] at h1
     cases h1
    have hpn6:(upd H5 pn (HO.lst ((hs.filter (adB ls sd)).map V.int))) pn=some (.lst ((hs.filter (adB ls sd)).map V.int)):=zd
    refine⟨_,rfl,pn,rfl,⟨_,SqL.of zd⟩,?_⟩
    have hr6:=hr5.same n5
    have s6:=s5.trans n5
    have hp6:=n5 _ _ hp5
    generalize hH6:upd H5 pn (HO.lst ((hs.filter (adB ls sd)).map V.int))=H6 at *
    have near_nd:(hs.filter (adB ls sd)).Nodup:=nd.filter _
    refine zY (xs:=(hs.filter (adB ls sd)).map V.int) (fun j σ H'=>∃ o7 o8,σ=[some (.ref p),some r,some (.ref dw),some (.int t),some (.ref pd),some (.int sd),some (.ref pn),o7,o8]∧HrAt H' pd ad hs (fun x=>vE hs ls e2 e3 f t (hs.take i) x++(if x∈(hs.filter (adB ls sd)).take j then(msg hs ls e2 e3 f t sd x).toList else[]))∧Same H H'∧H' ph2=some (.lst (hs.map V.int))∧H' pn=some (.lst ((hs.filter (adB ls sd)).map V.int))) ?_ ?_ ?_ ?_
    ·exact⟨_,_,rfl,hr6.congr fun x _=>by simp,s6,hp6,hpn6⟩
    ·rintro j σ H' hj ⟨o7,o8,_,_,_,_,hp⟩
     exact SqL.of hp
    ·rintro j v σ H7 hj ⟨o7,o8,rfl,hr7,s7,hp7,hpn7⟩
     obtain⟨y,hy,rfl⟩:∃ x,(hs.filter (adB ls sd))[j]?=some x∧v=.int x:=by
      rw[List.getElem?_map] at hj
      obtain⟨x,h1,h2⟩:=Option.map_eq_some_iff.mp hj
      exact⟨x,h1,h2.symm⟩
     have hym:=(List.mem_filter.mp (List.mem_of_getElem? hy)).1
     have hyn:y∉(hs.filter (adB ls sd)).take j:=xM near_nd hy
     have tk:(hs.filter (adB ls sd)).take (j+1)=(hs.filter (adB ls sd)).take j++[y]:=by rw[List.take_add_one,hy];rfl
     have hP7:=ProgAt.same s7 hP
     obtain⟨pp,pdx,r1,r2,r3,r4,hre,hpp,hF⟩:=id hP7
     refine⟨_,rfl,pp,_,pdx,_,_,_,_,_,_,hre,hpp,rfl,T.cl_Program,T.mt_qY,Zc (P:=P) (w:=w) T,hr.mono (by omega),T.b_qY,_,rfl,_,rfl,dw,_,rfl,yr (s7 _ _ hdw) hsm,_,rfl,_,rfl,_,rfl,pn,_,rfl,.inl (SqL.of hpn7),_,rfl,r,e1,e2,e3,e4,f sd,sd,t,_,y,rfl,hP7,fun H8 s8=>?_⟩
     have hr8:=hr7.same s8
     have mdef:msg hs ls e2 e3 f t sd y=if e3.val (rho (kvS (f sd) sd t (deg hs ls sd) y))>0 then some (sd,e2.val (rho (kvS (f sd) sd t (deg hs ls sd) y))) else none:=rfl
     by_cases c:e3.val (rho (kvS (f sd) sd t (deg hs ls sd) y))>0
     ·rw[if_pos c] at mdef
      have cc:e3.val (rho (kvS (f sd) sd t (((hs.filter (adB ls sd)).map V.int).length:Int) y))>0:=c
      rw[if_pos cc]
      refine⟨_,rfl,rfl,_,rfl,iteB rfl ?_⟩
      obtain⟨rs,hrs,hln,hlen⟩:=hr8.at_ y hym
      have lg:=hln.1
      have lh:=WL (hs:=hs) (ls:=ls) (e2:=e2) (e3:=e3) (f:=f) (t:=t) (S:=hs.take i) (x:=y)
      rw[if_neg hyn,List.append_nil] at lg hln
      rw[List.length_take] at lh
      refine⟨_,rfl,_,rfl,pd,V.ref (ad y),rfl,yw hr8.q hym,.inl ⟨rfl,_,SqL.of hrs⟩,_,rfl,_,rfl,(by show 2≤sizeLine;decide),fun pt hpt=>?_⟩
      have n9:=Same.new (o:=HO.tup [V.int sd,V.int (e2.val (rho (kvS (f sd) sd t (deg hs ls sd) y)))]) hpt
      refine⟨ad y,rs,_,rfl,rfl,n9 _ _ hrs,(by exact zo (by omega)),?_⟩
      refine⟨_,_,rfl,(hr8.same n9).app (p:=(sd,e2.val (rho (kvS (f sd) sd t (deg hs ls sd) y)))) hym (n9 _ _ hrs) (by rw[if_neg hyn,List.append_nil];exact hln.same n9) (by omega) zd ?_ ?_,fun b o e=>?_,?_,?_⟩
      ·rw[if_neg hyn,List.append_nil,tk,if_pos (by simp),mdef]
       rfl
      ·intro x hx hne
       rw[tk]
       have:x∈(hs.filter (adB ls sd)).take j++[y]↔x∈(hs.filter (adB ls sd)).take j:=by simp[hne]
       simp only[this]
      ·rw[upd_ne (ne_of_none e (had0 y hym))]
       exact n9 _ _ (s8 _ _ (s7 _ _ e))
      ·rw[upd_ne (nph y hym)]
       exact n9 _ _ (s8 _ _ hp7)
      ·rw[upd_ne (npn y hym)]
       exact n9 _ _ (s8 _ _ hpn7)
     ·rw[if_neg c] at mdef
      have cc:¬ e3.val (rho (kvS (f sd) sd t (((hs.filter (adB ls sd)).map V.int).length:Int) y))>0:=c
      rw[if_neg cc]
      refine⟨_,rfl,rfl,_,rfl,yh rfl ?_⟩
      refine⟨_,_,rfl,hr8.congr fun x hx=>?_,s7.trans s8,s8 _ _ hp7,s8 _ _ hpn7⟩
      rw[tk]
      by_cases hxy:x=y
      ·subst hxy
       rw[if_pos (by simp),if_neg hyn,mdef]
       rfl
      ·have:x∈(hs.filter (adB ls sd)).take j++[y]↔x∈(hs.filter (adB ls sd)).take j:=by simp[hxy]
       simp only[this]
    ·rintro σ H7 ⟨o7,o8,rfl,hr7,s7,hp7,hpn7⟩
     refine⟨_,_,_,_,rfl,hr7.congr fun x hx=>?_,s7,hp7⟩
     rw[List.length_map,List.take_length,List.take_add_one,hsd]
     show vE hs ls e2 e3 f t (hs.take i++[sd]) x=_
     rw[Xs]
     congr 1
     by_cases h:adB ls sd x=true
     ·rw[if_pos h,if_pos (List.mem_filter.mpr ⟨hx,h⟩)]
     ·rw[if_neg h,if_neg (fun z=>h (List.mem_filter.mp z).2)]
   ·rintro σ H5 ⟨o5,o6,o7,o8,rfl,hr5,s5,hp5⟩
    rw[List.length_map,List.take_length] at hr5
    exact⟨_,rfl,k pd ad H5 hpd0 had0 s5 hr5⟩
end
end K04

namespace K04
open PySem L2
theorem LstN.uniq {ns:List Int}{m m':Int}(h:LstN ns m) (h':LstN ns m'):m=m':=by
 rcases h with⟨e,rfl⟩ | ⟨h1,h2⟩
 ·rcases h' with⟨_,rfl⟩ | ⟨h1,_⟩
  ·rfl
  ·rw[e] at h1;cases h1
 ·rcases h' with⟨e,_⟩ | ⟨h1',h2'⟩
  ·rw[e] at h1;cases h1
  ·have:=h2 _ h1'
   have:=h2' _ h1
   omega
theorem MstN.uniq {ns:List Int}{m m':Int}(h:MstN ns m) (h':MstN ns m'):m=m':=by
 rcases h with⟨e,rfl⟩ | ⟨h1,h2⟩
 ·rcases h' with⟨_,rfl⟩ | ⟨h1,_⟩
  ·rfl
  ·rw[e] at h1;cases h1
 ·rcases h' with⟨e,_⟩ | ⟨h1',h2'⟩
  ·rw[e] at h1;cases h1
  ·have:=h2 _ h1'
   have:=h2' _ h1
   omega
def znV (ns:List Int):Int:=(ns.min?).getD 0
def znU (ns:List Int):Int:=(ns.max?).getD 0
theorem zab {ns:List Int}{m:Int}(h:LstN ns m):m=znV ns:=by
 refine LstN.uniq h ?_
 unfold znV
 cases e:ns.min? with
 |none=>exact .inl ⟨List.min?_eq_none_iff.mp e,rfl⟩
 |some x =>
  obtain⟨h1,h2⟩:=(List.min?_eq_some_iff).mp e
  exact .inr ⟨h1,h2⟩
theorem U7 {ns:List Int}{m:Int}(h:MstN ns m):m=znU ns:=by
 refine MstN.uniq h ?_
 unfold znU
 cases e:ns.max? with
 |none=>exact .inl ⟨List.max?_eq_none_iff.mp e,rfl⟩
 |some x =>
  obtain⟨h1,h2⟩:=(List.max?_eq_some_iff).mp e
  exact .inr ⟨h1,h2⟩
noncomputable def nxt (hs:List Int) (ls:List (Int×Int)) (e4:Ex) (f:Int→Int) (t:Int) (g:Int→List (Int×Int)) (x:Int):Int :=
 e4.val (rho (kvR (f x) x t (deg hs ls x) ((g x).map (·.2)).sum (znV ((g x).map (·.2))) (znU ((g x).map (·.2))) ((g x).map (·.2)).length))
section
variable {P:Program}{w:World}{K:PySem.W.Frag}{mg:Str→Option Value}{base:Heap}{a:Ad}
def zuJ (a:Ad):Sp:=fun vs H Q _=>∃ (p:Addr) (hs:List Int) (ls:List (Int×Int)) (r:V) (e1 e2 e3 e4:Ex) (dw hd:Addr) (f:Int→Int) (t:Int) (ad:Int→Addr) (g:Int→List (Int×Int)),vs=[.ref p,r,.ref dw,.int t,.ref hd]∧WbP a H p hs ls∧ProgAt a H e1 e2 e3 e4 r∧H dw=some (.dK (tabI f hs))∧HrAt H hd ad hs g ∧
 ∀ q H',H q=none→Same H H'→H' q=some (.dK (tabI (nxt hs ls e4 f t g) hs))→Q (.ref q) H'
theorem zmX (T:Txt w K mg a):FnOk P w K mg base CX0 11 a.f_qc a.d_qc ["web", "program", "worths", "turn", "heard"] (zuJ a):=by
 refine T.F_qc.ok sc_qc (fun vs H Q E h=>?_) (fun cdv A outer s H vs Q E hr h=>?_)
 ·obtain⟨p,hs,ls,r,e1,e2,e3,e4,dw,hd,f,t,ad,g,rfl,_⟩:=h
  rfl
 ·obtain⟨p,hs,ls,r,e1,e2,e3,e4,dw,hd,f,t,ad,g,rfl,W,hP,hdw,hH,k⟩:=h
  have hu:=xk hr
  refine zB (w_pss_cons (zj (i:=5) sc_qc.nd rfl (Or.inl rfl) uR)
   (w_pss_cons (zM PassesOwn.never rfl (zC (zA (w_pv 0))) (zt (i:=6) sc_qc.nd rfl (Or.inl rfl))
    (w_pss_cons (zj (i:=7) sc_qc.nd rfl (Or.inl rfl) (w_pe_callB zr (by rfl) T.n_len yb (zy (w_pe_methD (w_pv 0) (w_pa_N (w_pv 6) w_pa_nil)) w_pa_nil)))
    (w_pss_cons (xn (i:=8) rfl sc_qc.nd rfl (Or.inl rfl) (N':=["pair"]) (t:=1) (caps:=[]) ⟨rfl,rfl,rfl⟩ (zC (zO hu (w_pv 4) (w_pv 6) (fun _ _=>rfl))) (fun _=>(zt (i:=0) (show(["pair"]:List Str).Nodup by decide +kernel) rfl (Or.inl rfl))) (fun _=>yj) (fun _=>(zu zL (w_pv 0) ze (fun _ _=>rfl))))
    (zf (w_ps_dput hu (w_pv 5) (w_pv 6) (w_pe_methD (w_pv 1) (zg (zO hu (w_pv 2) (w_pv 6) (fun _ _=>rfl)) (w_pa_N (w_pv 6) (w_pa_N (w_pv 3) (w_pa_N (w_pv 7) (w_pa_N (w_pv 8) w_pa_nil)))))) rfl)))))
   (zf (zh (w_pv 5))))) ?_
  obtain⟨dx,oh,ol,d,ad0,Wb⟩:=W.at_
  have l12:=W.wh.l12
  have nd:=Xq W.wh
  refine fun pd hpd=>?_
  have s1:=Same.new (o:=HO.dK []) hpd
  have Wb1:=Wb.same s1
  refine⟨_,rfl,p,_,dx,_,_,_,_,_,_,rfl,Wb1.p,rfl,T.cl_Web,T.mt_qa1,yY (P:=P) (w:=w) T,hr.mono (by omega),T.b_qa1,p,hs,ls,dx,oh,ol,d,ad0,rfl,Wb1,fun ph hph=>?_⟩
  have n2:=Same.new (o:=HO.lst (hs.map V.int)) hph
  have s2:=s1.trans n2
  refine⟨ph,rfl,⟨_,SqL.of zd⟩,?_⟩
  have hph2:(upd (upd H pd (HO.dK [])) ph (HO.lst (hs.map V.int))) ph=some (.lst (hs.map V.int)):=zd
  have hpd2:=n2 _ _ (zd (H:=H) (a:=pd) (o:=HO.dK []))
  have npp:ph≠pd:=fun z=>by rw[z,zd] at hph;cases hph
  generalize hH2:upd (upd H pd (HO.dK [])) ph (HO.lst (hs.map V.int))=H2 at *
  refine zY (xs:=hs.map V.int) (fun i σ H'=>∃ o6 o7 o8,σ=[some (.ref p),some r,some (.ref dw),some (.int t),some (.ref hd),some (.ref pd),o6,o7,o8]∧H' pd=some (.dK (tabI (nxt hs ls e4 f t g) (hs.take i)))∧Same H H'∧H' ph=some (.lst (hs.map V.int))) ?_ ?_ ?_ ?_
  ·exact⟨_,_,_,rfl,hpd2,s2,hph2⟩
  ·rintro i σ H' hi ⟨o6,o7,o8,_,_,_,hp⟩
   exact SqL.of hp
  ·rintro i v σ H3 hi ⟨o6,o7,o8,rfl,hpd3,s3,hp3⟩
   obtain⟨x,hx,rfl⟩:∃ x,hs[i]?=some x∧v=.int x:=by
    rw[List.getElem?_map] at hi
    obtain⟨x,h1,h2⟩:=Option.map_eq_some_iff.mp hi
    exact⟨x,h1,h2.symm⟩
   have hxm:=List.mem_of_getElem? hx
   have hil:i<hs.length:=(List.getElem?_eq_some_iff.mp hx).1
   have Wb3:=Wb.same s3
   refine⟨_,rfl,p,_,dx,_,_,_,_,_,_,rfl,Wb3.p,rfl,T.cl_Web,T.mt_qa4,V2 (P:=P) (w:=w) T,hr.mono (by omega),T.b_qa4,_,rfl,p,x,hs,ls,dx,oh,ol,d,ad0,rfl,Wb3,W.wh,W.wl,hxm,fun pn hpn=>?_⟩
   have n4:=Same.new (o:=HO.lst ((hs.filter (adB ls x)).map V.int)) hpn
   refine⟨pn,_,rfl,.inl (SqL.of zd),?_⟩
   have s4:=s3.trans n4
   have hpd4:=n4 _ _ hpd3
   have hp4:=n4 _ _ hp3
   generalize hH4:upd H3 pn (HO.lst ((hs.filter (adB ls x)).map V.int))=H4 at *
   have hH4':=hH.same s4
   obtain⟨rs,hrs,hln,hlen⟩:=hH4'.at_ x hxm
   refine⟨_,rfl,_,rfl,hd,V.ref (ad x),rfl,yw hH4'.q hxm,ad x,rfl,⟨_,SqL.of hrs⟩,fun D hD _=>?_⟩
   refine zZ (K:=K) (a:=ad x) (xs:=rs) (fun j zs τ H'=>∃ o,τ=[o]∧zs=(((g x).take j).map (·.2)).map V.int∧H' D=some (.lst zs)∧Same H4 H') ?_ ?_ ?_ ?_
   ·exact⟨none,rfl,by simp,zd,Same.new hD⟩
   ·rintro j zs τ H' ⟨o,_,_,_,sm⟩
    exact SqL.of (sm _ _ hrs)
   ·rintro j v zs τ H' hj ⟨o,rfl,rfl,hD',sm⟩
    obtain⟨pr,q,hpr,rfl,hq⟩:=hln.get hj
    have hjl:j<(g x).length:=(List.getElem?_eq_some_iff.mp hpr).1
    have lg:=hln.1
    refine gn_if ?_
    refine⟨_,rfl,q,_,1,_,rfl,rfl,SqT.of (sm _ _ hq),rfl,hD',by simp;exact zo (by omega),some (.ref q),rfl,?_,zd,Same.updF sm hD⟩
    rw[List.take_add_one,hpr]
    simp
   ·rintro zs τ H5 ⟨o,rfl,rfl,hD5,sm⟩
    rw[hln.1,List.take_length] at hD5
    have s5:=s4.trans sm
    have hpd5:=sm _ _ hpd4
    have hP5:=ProgAt.same s5 hP
    obtain⟨pp,pdx,r1,r2,r3,r4,hre,hpp,hF⟩:=id hP5
    refine⟨_,rfl,pp,_,pdx,_,_,_,_,_,_,hre,hpp,rfl,T.cl_Program,T.mt_qZ,V0 (P:=P) (w:=w) T,hr.mono (by omega),T.b_qZ,_,rfl,_,rfl,dw,_,rfl,yr (s5 _ _ hdw) hxm,_,rfl,_,rfl,_,rfl,_,rfl,r,e1,e2,e3,e4,f x,x,t,_,D,(g x).map (·.2),rfl,hP5,hD5,fun H6 mn mx s6 hmn hmx=>?_⟩
    rw[zab hmn,U7 hmx]
    have hpd6:=s6 _ _ hpd5
    refine⟨_,rfl,_,rfl,pd,_,rfl,DPut.k (k:=.inl x) hpd6 (by unfold tabI;rw[List.length_map,List.length_take];exact zo (by omega)),?_⟩
    have s56:=s5.trans s6
    refine⟨_,_,_,rfl,?_,Same.updF s56 hpd,by rw[upd_ne npp];exact s6 _ _ (sm _ _ hp4)⟩
    rw[zd,putK_new (by rw[yx,wP];exact xM nd hx),List.take_add_one,hx]
    unfold tabI
    rw[List.map_append]
    rfl
  ·rintro σ H3 ⟨o6,o7,o8,rfl,hpd3,s3,hp3⟩
   rw[List.length_map,List.take_length] at hpd3
   exact⟨_,rfl,k pd H3 hpd s3 hpd3⟩
end
end K04

namespace K04
open PySem L2
theorem at0 {x:V}{xs:List V}:atI (x::xs) 0=some x:=by
 unfold atI ixN
 simp
noncomputable def hide (st:List Addr) (H:Hp):Hp:=fun b=>if b∈st then none else H b
theorem yP {st:List Addr}{b:Addr}{H:Hp}{o:HO}(n:b∉st) (h:H b=some o):hide st H b=some o:=by unfold hide;rw[if_neg n];exact h
theorem wR {st:List Addr}{b:Addr}{H:Hp}{o:HO}(e:hide st H b=some o):b∉st∧H b=some o:=by
 unfold hide at e
 split at e
 ·cases e
 ·exact⟨‹_›,e⟩
theorem uK {st:List Addr}{H:Hp}:Same (hide st H) H:=fun b o e=>(wR e).2
theorem vD {st:List Addr}{H H':Hp}(x:Same H H'):Same (hide st H) (hide st H'):=fun b o e=>by
 obtain⟨n,e'⟩:=wR e
 exact yP n (x b o e')
theorem wQ {st:List Addr}{p:Addr}{H:Hp}{o:HO}(m:p∈st):Same (hide st H) (hide st (upd H p o)):=fun b o' e=>by
 obtain⟨n,e'⟩:=wR e
 exact yP n (by rw[upd_ne (fun z=>n (by rw[z];exact m))];exact e')
theorem HrAt.hide {st:List Addr}{H:Hp}{q:Addr}{ad:Int→Addr}{hs:List Int}{g:Int→List (Int×Int)}(h:HrAt H q ad hs g) (nq:q∉st) (na:∀ x∈hs,ad x∉st) (nt:∀ b∈st,∀ xs,H b≠some (.tup xs)):HrAt (hide st H) q ad hs g :=
 ⟨yP nq h.q,h.inj,fun x hx=>by
  obtain⟨rs,h1,h2,h3⟩:=h.at_ x hx
  exact⟨rs,yP (na x hx) h1,h2.mono fun b xs e=>yP (fun z=>nt b z xs e) e,h3⟩⟩
theorem X9 {f:Int→Int}{us:List Int}{x v:Int}(hx:x∈us):putK (tabI f us) (.inl x) (.int v)=tabI (fun y=>if y=x then v else f y) us:=by
 unfold putK
 rw[if_pos]
 ·unfold tabI
  rw[List.map_map]
  refine List.map_congr_left fun y _=>?_
  by_cases e:y=x
  ·subst e;simp
  ·have:¬ ((Sum.inl y:Key)=Sum.inl x):=fun z=>e (by injection z)
   simp[e]
 ·rw[List.any_eq_true]
  exact⟨(.inl x,.int (f x)),List.mem_map.mpr ⟨x,hx,rfl⟩,by simp⟩
theorem vy {us:List Int}{f':Int→Int}:∀ {vs:List Int}{f:Int→Int},(∀ x∈vs,x∈us)→vs.Nodup→mergeK (tabI f us) (tabI f' vs)=tabI (fun y=>if y∈vs then f' y else f y) us
 |[],f,_,_=>by
  show tabI f us=_
  congr 1
 |x::vs,f,h,nd=>by
  show mergeK (putK (tabI f us) (.inl x) (.int (f' x))) (tabI f' vs)=_
  obtain⟨n1,n2⟩:=List.nodup_cons.mp nd
  rw[X9 (h x (by simp)),vy (fun y hy=>h y (by simp[hy])) n2]
  congr 1
  funext y
  by_cases e:y=x
  ·subst e
   simp[n1]
  ·simp[e]
theorem Zx {us:List Int}{f f':Int→Int}(h:∀ x∈us,f x=f' x):tabI f us=tabI f' us:=List.map_congr_left fun x hx=>by rw[h x hx]
theorem Ze {us:List Int}{f f':Int→Int}(nd:us.Nodup):mergeK (tabI f us) (tabI f' us)=tabI f' us:=by
 rw[vy (fun x h=>h) nd]
 exact Zx fun x hx=>if_pos hx
section
variable (hs:List Int) (ls:List (Int×Int)) (e1 e2 e3 e4:Ex)
noncomputable def wN:Nat→Int→Int
 |0=>w0 hs ls e1
 |n+1=>nxt hs ls e4 (wN n) ((n+1:Nat):Int) (vE hs ls e2 e3 (wN n) ((n+1:Nat):Int) hs)
noncomputable def gN (n:Nat):Int→List (Int×Int):=vE hs ls e2 e3 (wN hs ls e1 e2 e3 e4 n) ((n+1:Nat):Int) hs
end
structure RnAt (H:Hp) (hs:List Int) (ls:List (Int×Int)) (e1 e2 e3 e4:Ex) (n:Nat) (ws gs:List Addr):Prop where
 lw:ws.length=n+1
 lg:gs.length=n
 w:∀ (k:Nat) (q:Addr),ws[k]?=some q→H q=some (.dK (tabI (wN hs ls e1 e2 e3 e4 k) hs))
 g:∀ (k:Nat) (q:Addr),gs[k]?=some q→∃ ad,HrAt H q ad hs (gN hs ls e1 e2 e3 e4 k)
theorem RnAt.same {H H':Hp}{hs:List Int}{ls:List (Int×Int)}{e1 e2 e3 e4:Ex}{n:Nat}{ws gs:List Addr}(h:RnAt H hs ls e1 e2 e3 e4 n ws gs) (s:Same H H'):RnAt H' hs ls e1 e2 e3 e4 n ws gs :=
 ⟨h.lw,h.lg,fun k q e=>s _ _ (h.w k q e),fun k q e=>let ⟨ad,x⟩:=h.g k q e;⟨ad,x.same s⟩⟩
theorem uh {xs:List V}{v:V}:atI (xs++[v]) (-1)=some v:=by
 unfold atI ixN
 rw[if_neg (by decide),if_pos (by simp;omega)]
 simp
 have:((-1:Int)+((xs.length:Int)+1)).toNat=xs.length:=by omega
 rw[this]
 simp
structure RnS (H H':Hp) (hs:List Int) (ls:List (Int×Int)) (e1 e2 e3 e4:Ex) (dl pw pg:Addr) (k:Nat) (ws gs:List Addr):Prop where
 hdl:H' dl=some (.dK (tabI (wN hs ls e1 e2 e3 e4 k) hs))
 hpw:H' pw=some (.lst (ws.map V.ref))
 hpg:H' pg=some (.lst (gs.map V.ref))
 rn:RnAt (hide [dl,pw,pg] H') hs ls e1 e2 e3 e4 k ws gs
 sm:Same H H'
section
variable {P:Program}{w:World}{K:PySem.W.Frag}{mg:Str→Option Value}{base:Heap}{a:Ad}
def zmh (a:Ad):Sp:=fun vs H Q _=>∃ (lp pt p:Addr) (hs:List Int) (ls:List (Int×Int)) (r:V) (e1 e2 e3 e4:Ex) (n:Nat),vs=[.ref lp,r]∧H lp=some (.lst [.ref pt])∧H pt=some (.tup [.ref p,.int (n:Int)])∧WbP a H p hs ls∧ProgAt a H e1 e2 e3 e4 r∧n≤100 ∧
 ∀ q pw pg ws gs H',H q=none→Same H H'→H' q=some (.tup [.ref pw,.ref pg])→H' pw=some (.lst (ws.map V.ref))→H' pg=some (.lst (gs.map V.ref))→RnAt H' hs ls e1 e2 e3 e4 n ws gs→Q (.ref q) H'
theorem zgr (T:Txt w K mg a):FnOk P w K mg base CX0 12 a.f_qd a.d_qd ["pieces", "program"] (zmh a):=by
 have c_qa:Callee P w K mg base "first_worths" a.f_qa a.d_qa ["web", "program"] 11 (zuW a):=⟨zm7 T,T.g_qa,T.F_qa.kp,T.b_qa⟩
 have c_qb:Callee P w K mg base "heard_in" a.f_qb a.d_qb ["web", "program", "worths", "turn"] 11 (zuV a):=⟨zm6 T,T.g_qb,T.F_qb.kp,T.b_qb⟩
 have c_qc:Callee P w K mg base "worths_behind" a.f_qc a.d_qc ["web", "program", "worths", "turn", "heard"] 11 (zuJ a):=⟨zmX T,T.g_qc,T.F_qc.kp,T.b_qc⟩
 refine T.F_qd.ok sc_qd (fun vs H Q E h=>?_) (fun cdv A outer s H vs Q E hr h=>?_)
 ·obtain⟨lp,pt,p,hs,ls,r,e1,e2,e3,e4,n,rfl,_⟩:=h
  rfl
 ·obtain⟨lp,pt,p,hs,ls,r,e1,e2,e3,e4,n,rfl,hlp,hpt,W,hP,hn,k⟩:=h
  have hu:=xk hr
  refine zB (w_pss_cons (zj (i:=2) sc_qd.nd rfl (Or.inl rfl) (zk c_qa (hr.mono (by omega)) (zg (zu zL (zu zF (w_pv 0) ze (fun _ _=>rfl)) ze (fun _ _=>rfl)) (w_pa_N (w_pv 1) w_pa_nil))))
   (w_pss_cons (zj (i:=3) sc_qd.nd rfl (Or.inl rfl) (zv (zy (zG Zj (by rfl) T.n_dict wU (w_pa_N (w_pv 2) w_pa_nil)) w_pa_nil)))
   (w_pss_cons (zj (i:=4) sc_qd.nd rfl (Or.inl rfl) (zv w_pa_nil))
   (w_pss_cons (zM PassesOwn.never rfl (zC (w_pv 0)) (wp rfl (yi (zt (i:=5) sc_qd.nd rfl (Or.inl rfl)) (yi (zt (i:=6) sc_qd.nd rfl (Or.inl rfl)) xD)))
    (w_pss_cons (zj (i:=7) sc_qd.nd rfl (Or.inl rfl) (w_pe_callB zr (by rfl) T.n_len yb (w_pa_N (w_pv 3) w_pa_nil)))
    (zf (zM PassesOwn.never rfl (vP rfl T.n_range (w_pa_N (w_pv 7) (zU (zi yf (w_pv 7) (w_pv 6)) w_pa_nil))) (zt (i:=8) sc_qd.nd rfl (Or.inl rfl))
     (w_pss_cons (zW (yn PySem.F.plainAttrs_list PySem.F.slot_list_append PySem.F.type_list_append zQ (w_pv 4) (zy (zk c_qb (hr.mono (by omega)) (w_pa_N (w_pv 5) (w_pa_N (w_pv 1) (w_pa_N (w_pv 2) (w_pa_N (w_pv 8) w_pa_nil))))) w_pa_nil)))
     (w_pss_cons (zW (yn PySem.F.plainAttrs_list PySem.F.slot_list_append PySem.F.type_list_append zQ (w_pv 3) (zy (zk c_qc (hr.mono (by omega)) (w_pa_N (w_pv 5) (w_pa_N (w_pv 1) (w_pa_N (w_pv 2) (w_pa_N (w_pv 8) (zg (zu zF (w_pv 4) (wq va ze) (fun _ _=>rfl)) w_pa_nil)))))) w_pa_nil)))
     (zf (zW (Zs (w_pv 2) (zu zF (w_pv 3) (wq va ze) (fun _ _=>rfl)) ⟨rfl,rfl,rfl,rfl⟩)))))))))
   (zf (zh (zN (w_pa_N (w_pv 3) (w_pa_N (w_pv 4) w_pa_nil))))))))) ?_
  have l12:=W.wh.l12
  have nd:=Xq W.wh
  refine⟨_,rfl,lp,_,0,_,rfl,rfl,SqL.of hlp,at0,pt,_,0,_,rfl,rfl,SqT.of hpt,at0,_,rfl,p,hs,ls,r,e1,e2,e3,e4,rfl,W,hP,fun dl H1 hdl0 s1 hdl1=>?_⟩
  refine⟨_,rfl,dl,_,rfl,hdl1,fun q0 hq0=>⟨(by show 1≤sizeLine;decide),fun pw hpw=>?_⟩⟩
  have n2:=Same.new (o:=HO.dK (tabI (w0 hs ls e1) hs)) hq0
  have n3:=Same.new (o:=HO.lst [V.ref q0]) hpw
  refine⟨(by show 0≤sizeLine;decide),fun pg hpg=>?_⟩
  have n4:=Same.new (o:=HO.lst []) hpg
  have n34:=n3.trans n4
  have n24:=n2.trans n34
  have hdl2:=n24 _ _ hdl1
  have hq2:=n34 _ _ (zd (H:=H1) (a:=q0) (o:=HO.dK (tabI (w0 hs ls e1) hs)))
  have hpw2:=n4 _ _ (zd (H:=upd H1 q0 (HO.dK (tabI (w0 hs ls e1) hs))) (a:=pw) (o:=HO.lst [V.ref q0]))
  have hpg2:(upd (upd (upd H1 q0 (HO.dK (tabI (w0 hs ls e1) hs))) pw (HO.lst [V.ref q0])) pg (HO.lst [])) pg=some (.lst []):=zd
  have s2:=s1.trans n24
  have ndw:dl≠pw:=fun z=>by rw[← z,n2 _ _ hdl1] at hpw;cases hpw
  have ndg:dl≠pg:=fun z=>by rw[← z,n3 _ _ (n2 _ _ hdl1)] at hpg;cases hpg
  have nwg:pw≠pg:=fun z=>by rw[← z,zd] at hpg;cases hpg
  have fpw:H pw=none:=(s1.trans n2).free hpw
  have fpg:H pg=none:=(s1.trans (n2.trans n3)).free hpg
  have nq0:q0∉[dl,pw,pg]:=fun z=>by
   simp only[List.mem_cons,List.not_mem_nil,or_false] at z
   rcases z with z | z | z
   ·rw[z,hdl1] at hq0;cases hq0
   ·rw[← z,zd] at hpw;cases hpw
   ·rw[← z,n3 _ _ zd] at hpg;cases hpg
  generalize hH2:upd (upd (upd H1 q0 (HO.dK (tabI (w0 hs ls e1) hs))) pw (HO.lst [V.ref q0])) pg (HO.lst [])=H2 at *
  have R0:RnS H H2 hs ls e1 e2 e3 e4 dl pw pg 0 [q0] []:=⟨hdl2,hpw2,hpg2,⟨rfl,rfl,fun j q h=>by
   cases j with
   |zero=>cases h;exact yP nq0 hq2
   |succ j=>simp at h,fun j q h=>by simp at h⟩,s2⟩
  refine⟨_,rfl,lp,rfl,⟨_,SqL.of (s2 _ _ hlp)⟩,?_⟩
  refine zY (xs:=[V.ref pt]) (fun i σ H'=>(i=0∧σ=[some (.ref lp),some r,some (.ref dl),some (.ref pw),some (.ref pg),none,none,none,none]∧H'=H2)∨(i=1∧∃ o5 o6 o7 o8 ws gs,σ=[some (.ref lp),some r,some (.ref dl),some (.ref pw),some (.ref pg),o5,o6,o7,o8]∧RnS H H' hs ls e1 e2 e3 e4 dl pw pg n ws gs)) ?_ ?_ ?_ ?_
  ·exact .inl ⟨rfl,rfl,rfl⟩
  ·rintro i σ H' hi (⟨_,_,rfl⟩ | ⟨_,o5,o6,o7,o8,ws,gs,_,R⟩)
   ·exact SqL.of (s2 _ _ hlp)
   ·exact SqL.of (R.sm _ _ hlp)
  ·rintro i v σ H' hi (⟨rfl,rfl,rfl⟩ | ⟨rfl,_⟩)
   ·cases hi
    refine⟨pt,_,rfl,SqT.of (s2 _ _ hpt),rfl,_,_,rfl,_,_,rfl,rfl,?_⟩
    refine⟨_,rfl,pw,_,rfl,.inl (SqL.of hpw2),?_⟩
    refine⟨_,rfl,_,rfl,_,rfl,_,_,rfl,rfl,(1:Int),1+(n:Int),rfl,⟨by decide,by decide,by omega,by omega⟩,?_⟩
    rw[show((1+(n:Int))-1).toNat=n by omega]
    refine for_range (lo:=1) (fun j σ H'=>∃ o8 ws gs,σ=[some (.ref lp),some r,some (.ref dl),some (.ref pw),some (.ref pg),some (.ref p),some (.int (n:Int)),some (.int 1),o8]∧RnS H H' hs ls e1 e2 e3 e4 dl pw pg j ws gs) ?_ ?_ ?_
    ·exact⟨none,[q0],[],rfl,R0⟩
    ·rintro j σ H3 hj ⟨o8,ws,gs,rfl,R⟩
     have et:(1+(j:Int))=((j+1:Nat):Int):=by omega
     have lw:=R.rn.lw
     have lg:=R.rn.lg
     refine⟨_,rfl,.inl ⟨rfl,_,SqL.of R.hpg⟩,_,rfl,_,rfl,_,rfl,_,rfl,p,hs,ls,r,e1,e2,e3,e4,dl,wN hs ls e1 e2 e3 e4 j,_,rfl,W.same R.sm,ProgAt.same R.sm hP,R.hdl,fun g ad H4 hg0 had0 s4 hHr=>?_⟩
     rw[et] at hHr
     refine⟨pg,_,_,rfl,rfl,s4 _ _ R.hpg,(by rw[List.length_map];exact zo (by omega)),?_⟩
     have occ:∀ b∈[dl,pw,pg],∃ o,H3 b=some o∧∀ xs,o≠.tup xs:=fun b hb=>by
      simp only[List.mem_cons,List.not_mem_nil,or_false] at hb
      rcases hb with rfl | rfl | rfl
      ·exact⟨_,R.hdl,fun xs z=>by cases z⟩
      ·exact⟨_,R.hpw,fun xs z=>by cases z⟩
      ·exact⟨_,R.hpg,fun xs z=>by cases z⟩
     have out:∀ b,H3 b=none→b∉[dl,pw,pg]:=fun b e hb=>by
      obtain⟨o,h1,_⟩:=occ b hb
      rw[h1] at e
      cases e
     have hHr4:HrAt (hide [dl,pw,pg] H4) g ad hs (gN hs ls e1 e2 e3 e4 j):=HrAt.hide hHr (out g hg0) (fun x hx=>out _ (had0 x hx)) fun b hb xs e=>by
      obtain⟨o,h1,h2⟩:=occ b hb
      rw[s4 _ _ h1] at e
      exact h2 xs (by injection e)
     have rn4:=R.rn.same (vD (st:=[dl,pw,pg]) s4)
     have u5:Same (hide [dl,pw,pg] H4) (hide [dl,pw,pg] (upd H4 pg (HO.lst (gs.map V.ref++[V.ref g])))):=wQ (by simp)
     have s5:Same H (upd H4 pg (HO.lst (gs.map V.ref++[V.ref g]))):=Same.updF (R.sm.trans s4) fpg
     have hdl5:(upd H4 pg (HO.lst (gs.map V.ref++[V.ref g]))) dl=_:=(upd_ne ndg).trans (s4 _ _ R.hdl)
     have hpw5:(upd H4 pg (HO.lst (gs.map V.ref++[V.ref g]))) pw=_:=(upd_ne nwg).trans (s4 _ _ R.hpw)
     have hpg5:(upd H4 pg (HO.lst (gs.map V.ref++[V.ref g]))) pg=some (.lst (gs.map V.ref++[V.ref g])):=zd
     have hHr5:=hHr4.same u5
     have rn5:=rn4.same u5
     generalize hH5:upd H4 pg (HO.lst (gs.map V.ref++[V.ref g]))=H5 at *
     refine⟨_,rfl,.inl ⟨rfl,_,SqL.of hpw5⟩,_,rfl,_,rfl,_,rfl,_,rfl,_,rfl,_,rfl,pg,_,_,_,rfl,rfl,SqL.of hpg5,uh,p,hs,ls,r,e1,e2,e3,e4,dl,g,wN hs ls e1 e2 e3 e4 j,_,ad,gN hs ls e1 e2 e3 e4 j,rfl,W.same s5,ProgAt.same s5 hP,hdl5,hHr5.same uK,fun q H6 hq0 s6 hq=>?_⟩
     rw[et] at hq
     have hq:H6 q=some (.dK (tabI (wN hs ls e1 e2 e3 e4 (j+1)) hs)):=hq
     refine⟨pw,_,_,rfl,rfl,s6 _ _ hpw5,(by rw[List.length_map];exact zo (by omega)),?_⟩
     have nq:q∉[dl,pw,pg]:=fun hb=>by
      simp only[List.mem_cons,List.not_mem_nil,or_false] at hb
      rcases hb with z | z | z
      ·rw[z,hdl5] at hq0;cases hq0
      ·rw[z,hpw5] at hq0;cases hq0
      ·rw[z,hpg5] at hq0;cases hq0
     have nqd:q≠dl:=fun z=>nq (by simp[z])
     have nqw:q≠pw:=fun z=>nq (by simp[z])
     have u6:=vD (st:=[dl,pw,pg]) s6
     have u7:Same (hide [dl,pw,pg] H6) (hide [dl,pw,pg] (upd H6 pw (HO.lst (ws.map V.ref++[V.ref q])))):=wQ (by simp)
     have s7:Same H (upd H6 pw (HO.lst (ws.map V.ref++[V.ref q]))):=Same.updF (s5.trans s6) fpw
     have hdl7:(upd H6 pw (HO.lst (ws.map V.ref++[V.ref q]))) dl=_:=(upd_ne ndw).trans (s6 _ _ hdl5)
     have hpg7:(upd H6 pw (HO.lst (ws.map V.ref++[V.ref q]))) pg=_:=(upd_ne nwg.symm).trans (s6 _ _ hpg5)
     have hpw7:(upd H6 pw (HO.lst (ws.map V.ref++[V.ref q]))) pw=some (.lst (ws.map V.ref++[V.ref q])):=zd
     have hq7:(upd H6 pw (HO.lst (ws.map V.ref++[V.ref q]))) q=_:=(upd_ne nqw).trans hq
     have hHr7:=hHr5.same (u6.trans u7)
     have rn7:=rn5.same (u6.trans u7)
     generalize hH7:upd H6 pw (HO.lst (ws.map V.ref++[V.ref q]))=H7 at *
     refine⟨_,rfl,dl,rfl,.inl ⟨_,.inl hdl7⟩,_,rfl,_,rfl,pw,_,_,_,rfl,rfl,SqL.of hpw7,uh,q,_,_,rfl,nqd.symm,hdl7,hq7,(by unfold tabI;rw[List.length_map,List.length_map];omega),?_⟩
     rw[Ze nd]
     have u8:Same (hide [dl,pw,pg] H7) (hide [dl,pw,pg] (upd H7 dl (HO.dK (tabI (wN hs ls e1 e2 e3 e4 (j+1)) hs)))):=wQ (by simp)
     have rn8:=rn7.same u8
     refine⟨_,ws++[q],gs++[g],rfl,zd,?_,?_,⟨by simp[lw],by simp[lg],fun i b hb=>?_,fun i b hb=>?_⟩,Same.updF s7 hdl0⟩
     ·rw[upd_ne ndw.symm,hpw7,List.map_append]
      rfl
     ·rw[upd_ne ndg.symm,hpg7,List.map_append]
      rfl
     ·by_cases hi:i<ws.length
      ·rw[List.getElem?_append_left hi] at hb
       exact rn8.w i b hb
      ·rw[List.getElem?_append_right (by omega)] at hb
       have:i=j+1:=by
        have:=(List.getElem?_eq_some_iff.mp hb).1
        simp at this
        omega
       subst this
       rw[lw,Nat.sub_self] at hb
       cases hb
       exact u8 _ _ (yP nq hq7)
     ·by_cases hi:i<gs.length
      ·rw[List.getElem?_append_left hi] at hb
       exact rn8.g i b hb
      ·rw[List.getElem?_append_right (by omega)] at hb
       have:i=j:=by
        have:=(List.getElem?_eq_some_iff.mp hb).1
        simp at this
        omega
       subst this
       rw[lg,Nat.sub_self] at hb
       cases hb
       exact⟨ad,hHr7.same u8⟩
    ·rintro σ H3 ⟨o8,ws,gs,rfl,R⟩
     exact .inr ⟨rfl,_,_,_,_,ws,gs,rfl,R⟩
   ·cases hi
  ·rintro σ H3 (⟨z,_⟩ | ⟨_,o5,o6,o7,o8,ws,gs,rfl,R⟩)
   ·cases z
   ·refine⟨_,rfl,_,rfl,(by show 2≤sizeLine;decide),fun q hq=>?_⟩
    have n9:=Same.new (o:=HO.tup [V.ref pw,V.ref pg]) hq
    exact k q pw pg ws gs _ (R.sm.free hq) (R.sm.trans n9) zd (n9 _ _ R.hpw) (n9 _ _ R.hpg) ((R.rn.same uK).same n9)
end
end K04

namespace K04
open PySem L2
def XsAt (H:Hp) (l:Addr):Prop:=∃ ns:List Int,H l=some (.lst (ns.map V.int))∧(∀ n∈ns,0≤n)∧ns.length≤150
theorem XsAt.ne {H:Hp}{l p:Addr}(s:XsAt H l) (h:H p=none):p≠l:=fun z=>by
 obtain⟨ns,e,_⟩:=s
 rw[← z,h] at e
 cases e
theorem XsAt.same {H H':Hp}{l:Addr}(s:XsAt H l) (k:Same H H'):XsAt H' l:=by
 obtain⟨ns,e,h⟩:=s
 exact⟨ns,k _ _ e,h⟩
theorem XsAt.new {H:Hp}{l p:Addr}{o:HO}(s:XsAt H l) (h:H p=none):XsAt (upd H p o) l:=s.same (Same.new h)
theorem XsAt.upd {H:Hp}{l p:Addr}{o:HO}(s:XsAt H l) (h:p≠l):XsAt (upd H p o) l:=by
 obtain⟨ns,e,h'⟩:=s
 exact⟨ns,by rw[upd_ne h.symm];exact e,h'⟩
theorem Told.extX {l:Addr}{H H':Hp}(s:XsAt H l) (k:Ext l H H'){e:Ex}{v:V}(t:Told H e v):Told H' e v:=t.mono fun b xs h=>k b _ h fun z=>by
 obtain⟨ns,e,_⟩:=s
 rw[z,e] at h
 cases h
section
variable {P:Program}{w:World}{K:PySem.W.Frag}{mg:Str→Option Value}{base:Heap}{a:Ad}
def W3 (K:PySem.W.Frag):Sp:=fun vs H Q _=>∃ (l:Addr) (ns:List Int) (k:Int),vs=[.ref l,.int k]∧SqL K H l (ns.map V.int)∧0≤k∧∀ i:Int,Q (.int i) H
theorem V4 (T:Txt w K mg a):FnOk P w K mg base CX0 1 a.f_qt a.d_qt ["_law_script", "_law_k"] (W3 K):=by
 refine T.F_qt.ok zmk (fun vs H Q E h=>?_) (fun cdv A outer s H vs Q E hr h=>?_)
 ·obtain⟨l,ns,k,rfl,_⟩:=h
  rfl
 ·obtain⟨l,ns,k,rfl,hl,k0,q⟩:=h
  refine zB (w_pss_cons (w_ps_if (w_pt_cmpR xI (w_pv 1) (w_pe_callB zr (by rfl) T.n_len yb (w_pa_N (w_pv 0) w_pa_nil)) (zw _))
    (zf (zh (zu zF (w_pv 0) (w_pv 1) (fun _ _=>rfl))))
    zm)
   (zf (zh ze))) ?_
  refine⟨_,rfl,_,rfl,l,_,rfl,.inl hl,_,_,rfl,rfl,_,rfl,?_⟩
  rw[List.length_map]
  refine ite2 (fun z=>?_) (fun z=>?_)
  ·have z:k<ns.length:=of_decide_eq_true z
   obtain⟨n,rfl⟩:∃ n:Nat,k=n:=⟨k.toNat,by omega⟩
   have hn:n<ns.length:=by omega
   refine⟨_,rfl,_,rfl,l,_,_,V.int ns[n],rfl,rfl,hl,yB (by simp[hn]),?_⟩
   exact q _
  ·exact q 0
def xG:Sp:=fun vs H Q _=>∃ (l:Addr) (n:Int),vs=[.ref l,.int n]∧XsAt H l∧0<n∧∀ (d:Int) (H':Hp),0≤d→d<n→XsAt H' l→Ext l H H'→Q (.int d) H'
theorem xj (T:Txt w K mg a):FnOk P w K mg base CX0 1 a.f_qv a.d_qv ["_law_xs", "_law_size"] xG:=by
 refine T.F_qv.ok zmj (fun vs H Q E h=>?_) (fun cdv A outer s H vs Q E hr h=>?_)
 ·obtain⟨l,n,rfl,_⟩:=h
  rfl
 ·obtain⟨l,n,rfl,⟨ns,hl,h0,hlen⟩,hn,k⟩:=h
  have un:∀ n:Nat,n≤3→(A.deeper (PyProof.Rows.envOfC "_law_take" (defScope uV) s.heap.objs.size a.f_qv cdv)).units+n+2<cLine:=fun n hn=>by
   have:=hr.units
   omega
  refine zB (w_pss_cons (w_ps_if (w_pt_cmpR (YO Ve Vf) (w_pv 0) (zv w_pa_nil) (zw _))
    (zf (zh ze))
    zm)
   (zf (zh (zi yW (yn PySem.F.plainAttrs_list PySem.F.slot_list_pop PySem.F.type_list_pop uH (w_pv 0) (zn ze w_pa_nil)) (w_pv 1))))) ?_
  refine⟨_,rfl,(by show 0≤sizeLine;decide),fun q hq=>?_⟩
  have hql:q≠l:=fun z=>by rw[z,hl] at hq;cases hq
  have hl1:(L2.upd H q (.lst [])) l=_:=(upd_ne hql.symm).trans hl
  cases ns with
  |nil =>
   refine .inl ⟨l,q,_,_,fun _=>true,0,rfl,rfl,.inl ⟨SqL.of hl1,SqL.of zd⟩,rfl,?_,?_,?_⟩
   ·exact un 0 (by decide)
   ·intro j x y hx
    cases hx
   ·refine⟨_,rfl,iteB rfl ?_⟩
    exact k 0 _ (Int.le_refl _) hn ⟨[],hl1,h0,hlen⟩ (Ext.new hq)
  |cons n0 ns =>
   refine .inr ⟨l,q,_,_,rfl,rfl,SqL.of hl1,SqL.of zd,(by simp),?_,?_⟩
   ·exact Nat.lt_of_le_of_lt (Nat.le_add_right _ 2) (un 0 (by decide))
   ·refine⟨_,rfl,yh rfl ?_⟩
    refine⟨_,rfl,.inl ⟨rfl,_,SqL.of hl1⟩,l,_,0,0,_,rfl,rfl,hl1,by decide,by decide,(by simp[seqIndex?]),rfl,?_⟩
    refine⟨_,rfl,_,_,rfl,rfl,hn,?_⟩
    refine k _ _ (Int.emod_nonneg _ (Int.ne_of_gt hn)) (Int.emod_lt_of_pos _ hn) ⟨ns,zd,fun x hx=>h0 x (List.mem_cons_of_mem _ hx),?_⟩ ((Ext.new hq).trans Ext.at)
    have:ns.length+1≤150:=hlen
    omega
def ww:Sp:=fun vs H Q _=>∃ (c:Int) (m:Nat),vs=[.int c,.int (m:Int)]∧m≤150∧∀ (q:Addr) (H':Hp),H q=none→XsAt H' q→Same H H'→Q (.ref q) H'
theorem wF (T:Txt w K mg a):FnOk P w K mg base CX0 1 a.f_qu a.d_qu ["_law_cell", "_law_many"] ww:=by
 refine T.F_qu.ok sc_qu (fun vs H Q E h=>?_) (fun cdv A outer s H vs Q E hr h=>?_)
 ·obtain⟨c,m,rfl,_⟩:=h
  rfl
 ·obtain⟨c,m,rfl,hm,k⟩:=h
  refine zB (w_pss_cons (zj (i:=2) sc_qu.nd rfl (Or.inl rfl) (zv w_pa_nil))
   (w_pss_cons (zj (i:=3) sc_qu.nd rfl (Or.inl rfl) ze)
   (xB (w_ps_if (w_pt_cmpR zgo (w_pv 0) (zi yV ze ze) (zw _))
    (zf (zj (i:=3) sc_qu.nd rfl (Or.inl rfl) (zi ya (w_pv 0) (zi yV ze ze))))
    zm)
   (w_pss_cons (x8 PassesOwn.never (ziu (um (w_pt_cmpR op_gt (w_pv 3) ze (zw _)) (wW (w_pt_cmpR xI (w_pe_callB zr (by rfl) T.n_len yb (w_pa_N (w_pv 2) w_pa_nil)) (w_pv 1) (zw _)))))
    (w_pss_cons (zW (yn PySem.F.plainAttrs_list PySem.F.slot_list_append PySem.F.type_list_append zQ (w_pv 2) (zU (zi yW (w_pv 3) (zi yV ze ze)) w_pa_nil)))
    (zf (zj (i:=3) sc_qu.nd rfl (Or.inl rfl) (zi yX (w_pv 3) (zi yV ze ze))))))
   (w_pss_cons (zj (i:=4) sc_qu.nd rfl (Or.inl rfl) (zi yW (zi wg (zi yf (zi yW (w_pv 0) ze) ze) ze) ze))
   (w_pss_cons (zM PassesOwn.never rfl (zT rfl T.n_range (zU (zi ya (w_pv 1) (w_pe_callB zr (by rfl) T.n_len yb (w_pa_N (w_pv 2) w_pa_nil))) w_pa_nil)) (zt (i:=5) sc_qu.nd rfl (Or.inl rfl))
    (w_pss_cons (zj (i:=4) sc_qu.nd rfl (Or.inl rfl) (zi yW (zi wg (zi yf (zi yf (w_pv 4) (zi wg ze (w_pv 5))) ze) ze) ze))
    (w_pss_cons (zj (i:=6) sc_qu.nd rfl (Or.inl rfl) (zi yW (zi wg (w_pv 4) (zi yf (zi yX (w_pv 4) ze) ze)) ze))
    (zf (zW (yn PySem.F.plainAttrs_list PySem.F.slot_list_append PySem.F.type_list_append zQ (w_pv 2) (zU (zi yW (zi wg (w_pv 6) (zi yf (zi yX (w_pv 6) ze) ze)) ze) w_pa_nil)))))))
   (zf (zh (w_pv 2))))))))) ?_
  refine⟨(by show 0≤sizeLine;decide),fun p hp=>?_⟩
  refine⟨fun σ' H'=>∃ rest:Int,σ'=[some (.int c),some (.int m),some (.ref p),some (.int rest),none,none,none]∧H'=L2.upd H p (.lst []),?_,?_⟩
  ·refine⟨_,rfl,_,_,rfl,rfl,⟨by decide,by decide,by decide⟩,_,_,rfl,rfl,_,rfl,?_⟩
   refine ite2 (fun _=>?_) (fun _=>?_)
   ·exact⟨_,rfl,_,_,rfl,rfl,⟨by decide,by decide,by decide⟩,_,_,rfl,rfl,_,rfl,rfl⟩
   ·exact⟨_,rfl,rfl⟩
  ·rintro σ' H' ⟨rest,rfl,rfl⟩
   refine⟨fun μ σ H'=>∃ (ns:List Int) (rest:Int),μ=m-ns.length∧σ=[some (.int c),some (.int m),some (.ref p),some (.int rest),none,none,none]∧H' p=some (.lst (ns.map V.int))∧Same H H'∧(∀ n∈ns,0≤n)∧ns.length≤m,⟨_,[],rest,rfl,rfl,zd,Same.new hp,(fun n hn=>nomatch hn),Nat.zero_le _⟩,?_⟩
   rintro μ σ H1 ⟨ns,rest,rfl,rfl,hp1,s1,h0,hlen⟩
   refine⟨_,rfl,_,_,rfl,rfl,_,rfl,?_⟩
   refine ite2 (fun _=>⟨_,rfl,p,_,rfl,.inl (SqL.of hp1),_,rfl,_,_,rfl,rfl,_,rfl,?gA⟩) (fun _=>?gB)
   case' gA =>
    rw[List.length_map]
    refine ite2 (fun z=>?gC) (fun z=>?gD)
   case gC =>
    have z:(ns.length:Int)<m:=of_decide_eq_true z
    refine⟨_,fun σ' H' h=>h,?_⟩
    refine⟨_,rfl,.inl ⟨rfl,_,SqL.of hp1⟩,_,rfl,_,_,rfl,rfl,⟨by decide,by decide,by decide⟩,_,_,rfl,rfl,(by show(0:Int)<10 ^ Int.toNat 6;decide),p,_,_,rfl,rfl,hp1,(by rw[List.length_map];exact zo (by omega)),?_⟩
    refine⟨_,rfl,_,_,rfl,rfl,⟨by decide,by decide,by decide⟩,_,_,rfl,rfl,⟨(by show(0:Int)<10 ^ Int.toNat 6;decide),(by show(10 ^ Int.toNat 6:Int).natAbs.log2<9000;decide)⟩,?_⟩
    refine⟨m-(ns.length+1),by omega,ns++[rest%10 ^ Int.toNat 6],_,by simp,rfl,?_,Same.updF s1 hp,?_,by simp;omega⟩
    ·rw[zd,List.map_append]
     rfl
    ·intro n hn
     rcases List.mem_append.mp hn with h | h
     ·exact h0 n h
     ·rw[List.mem_singleton.mp h]
      exact Int.emod_nonneg _ (by decide)
   all_goals
    refine⟨_,rfl,_,_,rfl,rfl,(by show(0:Int)<2147483647;decide),_,_,rfl,rfl,_,_,rfl,rfl,.inr ⟨by decide,by decide⟩,_,_,rfl,rfl,(by show(0:Int)<2147483647;decide),?_⟩
    refine⟨_,rfl,_,rfl,p,_,rfl,.inl (SqL.of hp1),_,_,rfl,rfl,?_⟩
    rw[List.length_map]
    refine⟨(m:Int)-ns.length,rfl,by omega,by omega,?_⟩
    generalize ((c%2147483647+1)*48271%2147483647)=x0
    refine for_range (lo:=0) (fun i σ H'=>∃ (ns':List Int) (x:Int) (o5 o6:Option V),σ=[some (.int c),some (.int m),some (.ref p),some (.int rest),some (.int x),o5,o6]∧H' p=some (.lst (ns'.map V.int))∧Same H H'∧(∀ n∈ns',0≤n)∧ns'.length=ns.length+i) ?_ ?_ ?_
    ·exact⟨ns,_,none,none,rfl,hp1,s1,h0,rfl⟩
    ·rintro i σ H2 hi ⟨ns',x,o5,o6,rfl,hp2,s2,h2,hl2⟩
     refine⟨_,rfl,_,rfl,_,_,rfl,rfl,.inl ⟨by decide,by decide⟩,_,_,rfl,rfl,_,_,rfl,rfl,_,_,rfl,rfl,.inr ⟨by decide,by decide⟩,_,_,rfl,rfl,(by show(0:Int)<2147483647;decide),?_⟩
     generalize hv:(x+7919*(0+(i:Int))+1)*48271%2147483647=v
     have v1:0≤v:=by rw[← hv];exact Int.emod_nonneg _ (by decide)
     have v2:v<2147483647:=by rw[← hv];exact Int.emod_lt_of_pos _ (by decide)
     refine⟨_,rfl,_,rfl,_,_,rfl,rfl,⟨by show(0:Int)<1009;decide,log_1009⟩,_,_,rfl,rfl,_,_,rfl,rfl,.inl ⟨by omega,by omega⟩,_,_,rfl,rfl,(by show(0:Int)<2147483647;decide),?_⟩
     generalize hu:v*(v/1009+65537)%2147483647=u
     have u1:0≤u:=by rw[← hu];exact Int.emod_nonneg _ (by decide)
     have u2:u<2147483647:=by rw[← hu];exact Int.emod_lt_of_pos _ (by decide)
     refine⟨_,rfl,.inl ⟨rfl,_,SqL.of hp2⟩,_,rfl,_,rfl,_,_,rfl,rfl,⟨by show(0:Int)<2003;decide,WC⟩,_,_,rfl,rfl,_,_,rfl,rfl,.inl ⟨by omega,by omega⟩,_,_,rfl,rfl,(by show(0:Int)<2147483399;decide),p,_,_,rfl,rfl,hp2,(by rw[List.length_map];exact zo (by omega)),?_⟩
     refine⟨ns'++[u*(u/2003+40697)%2147483399],v,some (.int (0+(i:Int))),some (.int u),(by rw[← hu,← hv];rfl),?_,Same.updF s2 hp,?_,by simp;omega⟩
     ·rw[zd,List.map_append,← hu,← hv]
      rfl
     ·intro n hn
      rcases List.mem_append.mp hn with h | h
      ·exact h2 n h
      ·rw[List.mem_singleton.mp h]
       exact Int.emod_nonneg _ (by decide)
    ·rintro σ H2 ⟨ns',x,o5,o6,rfl,hp2,s2,h2,hl2⟩
     exact⟨_,rfl,k p H2 hp ⟨ns',hp2,h2,by omega⟩ s2⟩
def zfS (a:Ad):Sp:=fun vs H Q _=>∃ (lp pt p:Addr) (hs:List Int) (ls:List (Int×Int)) (r:V) (e1 e2 e3 e4:Ex) (n:Nat),vs=[.ref lp,r]∧H lp=some (.lst [.ref pt])∧H pt=some (.tup [.ref p,.int (n:Int)])∧WbP a H p hs ls∧ProgAt a H e1 e2 e3 e4 r∧n≤100 ∧
 ∀ pw ws gs H',Same H H'→H' pw=some (.lst (ws.map V.ref))→RnAt H' hs ls e1 e2 e3 e4 n ws gs→Q (.ref pw) H'
def zfU (a:Ad):Sp:=fun vs H Q _=>∃ (lp pt p:Addr) (hs:List Int) (ls:List (Int×Int)) (r:V) (e1 e2 e3 e4:Ex) (n:Nat),vs=[.ref lp,r]∧H lp=some (.lst [.ref pt])∧H pt=some (.tup [.ref p,.int (n:Int)])∧WbP a H p hs ls∧ProgAt a H e1 e2 e3 e4 r∧n≤100 ∧
 ∀ pg ws gs H',Same H H'→H' pg=some (.lst (gs.map V.ref))→RnAt H' hs ls e1 e2 e3 e4 n ws gs→Q (.ref pg) H'
theorem zgq (T:Txt w K mg a):FnOk P w K mg base CX0 13 a.f_qe a.d_qe ["pieces", "program"] (zfS a):=by
 have c_qd:Callee P w K mg base "run_pieces" a.f_qd a.d_qd ["pieces", "program"] 12 (zmh a):=⟨zgr T,T.g_qd,T.F_qd.kp,T.b_qd⟩
 refine T.F_qe.ok zmu (fun vs H Q E h=>?_) (fun cdv A outer s H vs Q E hr h=>?_)
 ·obtain⟨lp,pt,p,hs,ls,r,e1,e2,e3,e4,n,rfl,_⟩:=h
  rfl
 ·obtain⟨lp,pt,p,hs,ls,r,e1,e2,e3,e4,n,rfl,hlp,hpt,W,hP,hn,k⟩:=h
  refine zB (zf (zh (zu zL (zk c_qd (hr.mono (by omega)) (w_pa_N (w_pv 0) (w_pa_N (w_pv 1) w_pa_nil))) ze (fun _ _=>rfl)))) ?_
  refine⟨_,rfl,_,rfl,lp,pt,p,hs,ls,r,e1,e2,e3,e4,n,rfl,hlp,hpt,W,hP,hn,fun q pw pg ws gs H' hq s1 hq1 h1 h2 R=>?_⟩
  exact⟨q,_,0,_,rfl,rfl,SqT.of hq1,rfl,k pw ws gs H' s1 h1 R⟩
theorem zgs (T:Txt w K mg a):FnOk P w K mg base CX0 13 a.f_qf a.d_qf ["pieces", "program"] (zfU a):=by
 have c_qd:Callee P w K mg base "run_pieces" a.f_qd a.d_qd ["pieces", "program"] 12 (zmh a):=⟨zgr T,T.g_qd,T.F_qd.kp,T.b_qd⟩
 refine T.F_qf.ok zmt (fun vs H Q E h=>?_) (fun cdv A outer s H vs Q E hr h=>?_)
 ·obtain⟨lp,pt,p,hs,ls,r,e1,e2,e3,e4,n,rfl,_⟩:=h
  rfl
 ·obtain⟨lp,pt,p,hs,ls,r,e1,e2,e3,e4,n,rfl,hlp,hpt,W,hP,hn,k⟩:=h
  refine zB (zf (zh (zu zL (zk c_qd (hr.mono (by omega)) (w_pa_N (w_pv 0) (w_pa_N (w_pv 1) w_pa_nil))) ze (fun _ _=>rfl)))) ?_
  refine⟨_,rfl,_,rfl,lp,pt,p,hs,ls,r,e1,e2,e3,e4,n,rfl,hlp,hpt,W,hP,hn,fun q pw pg ws gs H' hq s1 hq1 h1 h2 R=>?_⟩
  exact⟨q,_,1,_,rfl,rfl,SqT.of hq1,rfl,k pg ws gs H' s1 h2 R⟩
def zuK (a:Ad):Sp:=fun vs H Q _=>∃ (p:Addr) (hs:List Int) (ls:List (Int×Int)) (r:V) (e1 e2 e3 e4:Ex) (n:Nat),vs=[.ref p,r,.int (n:Int)]∧WbP a H p hs ls∧ProgAt a H e1 e2 e3 e4 r∧n≤100 ∧
 ∀ pw ws gs H',Same H H'→H' pw=some (.lst (ws.map V.ref))→RnAt H' hs ls e1 e2 e3 e4 n ws gs→Q (.ref pw) H'
def zuM (a:Ad):Sp:=fun vs H Q _=>∃ (p:Addr) (hs:List Int) (ls:List (Int×Int)) (r:V) (e1 e2 e3 e4:Ex) (n:Nat),vs=[.ref p,r,.int (n:Int)]∧WbP a H p hs ls∧ProgAt a H e1 e2 e3 e4 r∧n≤100 ∧
 ∀ pg ws gs H',Same H H'→H' pg=some (.lst (gs.map V.ref))→RnAt H' hs ls e1 e2 e3 e4 n ws gs→Q (.ref pg) H'
theorem zmY (T:Txt w K mg a):FnOk P w K mg base CX0 14 a.f_qg a.d_qg ["web", "program", "rounds"] (zuK a):=by
 have c_qe:Callee P w K mg base "worths_by_pieces" a.f_qe a.d_qe ["pieces", "program"] 13 (zfS a):=⟨zgq T,T.g_qe,T.F_qe.kp,T.b_qe⟩
 refine T.F_qg.ok zms (fun vs H Q E h=>?_) (fun cdv A outer s H vs Q E hr h=>?_)
 ·obtain⟨p,hs,ls,r,e1,e2,e3,e4,n,rfl,_⟩:=h
  rfl
 ·obtain⟨p,hs,ls,r,e1,e2,e3,e4,n,rfl,W,hP,hn,k⟩:=h
  refine zB (zf (zh (zk c_qe (hr.mono (by omega)) (zg (zv (uq (zN (w_pa_N (w_pv 0) (w_pa_N (w_pv 2) w_pa_nil))) w_pa_nil)) (w_pa_N (w_pv 1) w_pa_nil))))) ?_
  refine⟨_,rfl,_,rfl,(by show 2≤sizeLine;decide),fun pt hpt=>⟨(by show 1≤sizeLine;decide),fun lp hlp=>?_⟩⟩
  have n1:=Same.new (o:=HO.tup [V.ref p,V.int (n:Int)]) hpt
  have n2:=Same.new (o:=HO.lst [V.ref pt]) hlp
  have n12:=n1.trans n2
  exact⟨_,rfl,lp,pt,p,hs,ls,r,e1,e2,e3,e4,n,rfl,zd,n2 _ _ zd,W.same n12,ProgAt.same n12 hP,hn,fun pw ws gs H' s1 h1 R=>k pw ws gs H' (n12.trans s1) h1 R⟩
theorem zm0 (T:Txt w K mg a):FnOk P w K mg base CX0 14 a.f_qh a.d_qh ["web", "program", "rounds"] (zuM a):=by
 have c_qf:Callee P w K mg base "heard_by_pieces" a.f_qf a.d_qf ["pieces", "program"] 13 (zfU a):=⟨zgs T,T.g_qf,T.F_qf.kp,T.b_qf⟩
 refine T.F_qh.ok zmr (fun vs H Q E h=>?_) (fun cdv A outer s H vs Q E hr h=>?_)
 ·obtain⟨p,hs,ls,r,e1,e2,e3,e4,n,rfl,_⟩:=h
  rfl
 ·obtain⟨p,hs,ls,r,e1,e2,e3,e4,n,rfl,W,hP,hn,k⟩:=h
  refine zB (zf (zh (zk c_qf (hr.mono (by omega)) (zg (zv (uq (zN (w_pa_N (w_pv 0) (w_pa_N (w_pv 2) w_pa_nil))) w_pa_nil)) (w_pa_N (w_pv 1) w_pa_nil))))) ?_
  refine⟨_,rfl,_,rfl,(by show 2≤sizeLine;decide),fun pt hpt=>⟨(by show 1≤sizeLine;decide),fun lp hlp=>?_⟩⟩
  have n1:=Same.new (o:=HO.tup [V.ref p,V.int (n:Int)]) hpt
  have n2:=Same.new (o:=HO.lst [V.ref pt]) hlp
  have n12:=n1.trans n2
  exact⟨_,rfl,lp,pt,p,hs,ls,r,e1,e2,e3,e4,n,rfl,zd,n2 _ _ zd,W.same n12,ProgAt.same n12 hP,hn,fun pg ws gs H' s1 h1 R=>k pg ws gs H' (n12.trans s1) h1 R⟩
end
end K04

namespace K04
open PySem L2
theorem Ex.ok_sub {ns ms:List Str}(h:∀ x∈ns,x∈ms):∀ e:Ex,e.ok ns→e.ok ms
 |.num i,o=>o
 |.name x,o=>h x o
 |.two w e1 e2,o=>⟨o.1,ok_sub h e1 o.2.1,ok_sub h e2 o.2.2⟩
 |.mod e1 i,o=>⟨o.1,ok_sub h e1 o.2⟩
 |.less e1 e2 e3 e4,o=>⟨ok_sub h e1 o.1,ok_sub h e2 o.2.1,ok_sub h e3 o.2.2.1,ok_sub h e4 o.2.2.2⟩
def szB:Nat→Nat
 |0=>1
 |d+1=>max 5 (1+2*szB d)
theorem ZI:∀ d,1≤szB d
 |0=>by decide
 |d+1=>by show 1≤max 5 (1+2*szB d);omega
theorem znW {α:Type}{xs:List α}(h:xs.length=4):∃ a b c d,xs=[a,b,c,d]:=by
 cases xs with
 |nil=>cases h
 |cons a xs=>cases xs with
  |nil=>cases h
  |cons b xs=>cases xs with
   |nil=>cases h
   |cons c xs=>cases xs with
    |nil=>cases h
    |cons d xs=>cases xs with
     |nil=>exact⟨a,b,c,d,rfl⟩
     |cons e xs=>simp at h
section
variable {P:Program}{w:World}{K:PySem.W.Frag}{mg:Str→Option Value}{base:Heap}{a:Ad}
def Yv (n:Nat):Sp:=fun vs H Q _=>∃ (l nm:Addr) (names:List Str) (d:Nat),vs=[.ref l,.ref nm,.int (d:Int)]∧XsAt H l∧H nm=some (.lst (names.map V.str))∧nm≠l∧0<names.length∧names.length≤100∧d<n ∧
 ∀ (e:Ex) (v:V) (H':Hp),Told H' e v→e.ok names→e.dep≤d+1→e.size≤szB d→XsAt H' l→Ext l H H'→Q v H'
theorem YS (T:Txt w K mg a):∀ n,FnOk P w K mg base CX0 (n+2) a.f_qz a.d_qz ["_law_xs", "_law_names", "_law_deep"] (Yv n)
 |0=>⟨fun vs H Q E h=>by
   obtain⟨l,nm,names,deep,rfl,_⟩:=h
   rfl,fun A outer s H args us vs Q E _ _ _ _ h=>by
   obtain⟨l,nm,names,deep,_,_,_,_,_,_,h1,_⟩:=h
   omega⟩
 |n+1=>by
  have c_qv:Callee P w K mg base "_law_take" a.f_qv a.d_qv ["_law_xs", "_law_size"] 1 xG:=⟨xj T,T.g_qv,T.F_qv.kp,T.b_qv⟩
  have c_qz:Callee P w K mg base "_law_expr" a.f_qz a.d_qz ["_law_xs", "_law_names", "_law_deep"] (n+2) (Yv n):=⟨YS T n,T.g_qz,T.F_qz.kp,T.b_qz⟩
  refine T.F_qz.ok sc_qz (fun vs H Q E h=>?_) (fun cdv A outer s H vs Q E hr h=>?_)
  ·obtain⟨l,nm,names,deep,rfl,_⟩:=h
   rfl
  ·obtain⟨l,nm,names,d,rfl,hs,hnm,hne,hn0,hn1,hd,k⟩:=h
   refine zB (w_pss_cons (zj (i:=3) sc_qz.nd rfl (Or.inl rfl) (zk c_qv (hr.mono (by omega)) (w_pa_N (w_pv 0) (zn ze w_pa_nil))))
   (w_pss_cons (w_ps_if (ziu (Zo (w_pt_cmpR yu (w_pv 2) ze (zw _)) (ul (w_pt_cmpR xI (w_pv 3) ze (zw _)))))
    (w_pss_cons (w_ps_if (w_pt_cmpR yu (w_pv 3) ze (zw _))
     (zf (zh (zN (zn w_pe_str (zg (zu zF (zv (zU (zi ya (zk c_qv (hr.mono (by omega)) (w_pa_N (w_pv 0) (zn ze w_pa_nil))) ze) (zU (zi wg (zk c_qv (hr.mono (by omega)) (w_pa_N (w_pv 0) (zU (zi yV ze ze) w_pa_nil))) (zi yV ze ze)) w_pa_nil))) (zi yX (zk c_qv (hr.mono (by omega)) (w_pa_N (w_pv 0) (zn ze w_pa_nil))) ze) (fun _ _=>rfl)) w_pa_nil)))))
     zm)
    (zf (zh (zN (zn w_pe_str (zg (zu zF (w_pv 1) (zk c_qv (hr.mono (by omega)) (w_pa_N (w_pv 0) (zy (w_pe_callB zr (by rfl) T.n_len yb (w_pa_N (w_pv 1) w_pa_nil)) w_pa_nil))) (fun _ _=>rfl)) w_pa_nil))))))
    zm)
   (w_pss_cons (w_ps_if (w_pt_cmpR xI (w_pv 3) ze (zw _))
    (w_pss_cons (zj (i:=4) sc_qz.nd rfl (Or.inl rfl) (zu zF (zv (zn w_pe_str (zn w_pe_str (zn w_pe_str (zn w_pe_str w_pa_nil))))) (zi ya (w_pv 3) ze) (fun _ _=>rfl)))
    (zf (zh (zN (w_pa_N (w_pv 4) (zy (zk c_qz (hr.mono (by omega)) (w_pa_N (w_pv 0) (w_pa_N (w_pv 1) (zU (zi ya (w_pv 2) ze) w_pa_nil)))) (zy (zk c_qz (hr.mono (by omega)) (w_pa_N (w_pv 0) (w_pa_N (w_pv 1) (zU (zi ya (w_pv 2) ze) w_pa_nil)))) w_pa_nil)))))))
    zm)
   (w_pss_cons (w_ps_if (w_pt_cmpR yu (w_pv 3) ze (zw _))
    (zf (zh (zN (zn w_pe_str (zy (zk c_qz (hr.mono (by omega)) (w_pa_N (w_pv 0) (w_pa_N (w_pv 1) (zU (zi ya (w_pv 2) ze) w_pa_nil)))) (zU (zi yf ze (zk c_qv (hr.mono (by omega)) (w_pa_N (w_pv 0) (zg (zu zF (zv (zn ze (zU (zi yV ze ze) w_pa_nil))) (zk c_qv (hr.mono (by omega)) (w_pa_N (w_pv 0) (zn ze w_pa_nil))) (fun _ _=>rfl)) w_pa_nil)))) w_pa_nil))))))
    zm)
   (zf (zh (zi VY (zN (zn w_pe_str w_pa_nil)) (zG wT (by rfl) T.n_tuple uQ (zg (ye rfl (N':=["_law_k", "_law_xs", "_law_names"]) (t:=1) (caps:=[0,1]) ⟨rfl,rfl,rfl⟩ (zT rfl T.n_range (zn ze w_pa_nil)) (fun _=>(zt (i:=0) (show(["_law_k", "_law_xs", "_law_names"]:List Str).Nodup by decide +kernel) rfl (Or.inl rfl))) (fun _=>yj) (fun _=>(zk c_qz (hr.mono (by omega)) (w_pa_N (w_pv 1) (w_pa_N (w_pv 2) (zn ze w_pa_nil)))))) w_pa_nil))))))))) ?_
   refine⟨_,rfl,l,8,rfl,hs,by decide,fun kd H1 k0 k1 s1 x1=>?_⟩
   have hnm1:=x1 _ _ hnm hne
   refine⟨_,rfl,rfl,_,rfl,?_⟩
   have zp:=ZI d
   refine ite2 (fun z=>Zl ?gA) (fun z=>⟨_,rfl,_,_,rfl,rfl,_,rfl,ite2 (fun z2=>?gB) (fun z2=>?gC)⟩)
   case gC =>
    have hl1:¬ d=0:=fun z0=>z (by subst z0;rfl)
    have hl2:¬ kd<2:=fun z0=>z2 (decide_eq_true z0)
    obtain⟨c,rfl⟩:∃ c,d=c+1:=⟨d-1,by omega⟩
    have zc:=ZI c
    have ed:((c+1:Nat):Int)-1=(c:Int):=by omega
    refine⟨_,rfl,_,_,rfl,rfl,_,rfl,?_⟩
    refine ite2 (fun h6=>?_) (fun h6=>?_)
    ·have h6:kd<6:=of_decide_eq_true h6
     refine⟨by show 4≤sizeLine;decide,fun p1 hp1=>?_⟩
     obtain⟨wd,hw,aw⟩:=zga (d:=kd-2) (by omega) (by omega)
     refine⟨_,rfl,_,_,rfl,rfl,p1,_,_,_,rfl,rfl,SqL.of zd,aw,?_⟩
     have X2:Ext l H _:=x1.trans (Ext.new (l:=l) (o:=HO.lst [V.str "add",V.str "sub",V.str "min",V.str "max"]) hp1)
     refine⟨_,rfl,_,rfl,_,rfl,_,rfl,_,_,rfl,rfl,l,nm,names,c,(by rw[← ed];rfl),s1.new hp1,X2 _ _ hnm hne,hne,hn0,hn1,by omega,fun e1 v1 H3 t1 o1 de1 z1 s3 x3=>?_⟩
     refine⟨_,rfl,_,rfl,_,rfl,_,_,rfl,rfl,l,nm,names,c,(by rw[← ed];rfl),s3,(X2.trans x3) _ _ hnm hne,hne,hn0,hn1,by omega,fun e2 v2 H4 t2 o2 de2 z2 s4 x4=>?_⟩
     refine⟨by show 3≤sizeLine;decide,fun p hp=>?_⟩
     have y5:=Same.new (o:=HO.tup [V.str wd,v1,v2]) hp
     exact k (.two wd e1 e2) _ _ ⟨p,v1,v2,rfl,zd,(t1.extX s3 x4).same y5,t2.same y5⟩ ⟨hw,o1,o2⟩ (by show max e1.dep e2.dep+1≤c+1+1;omega) (by show 1+e1.size+e2.size≤max 5 (1+2*szB c);omega) (s4.new hp) (((X2.trans x3).trans x4).trans (Ext.new hp))
    refine⟨_,rfl,rfl,_,rfl,?_⟩
    refine ite2 (fun _=>?_) (fun h8=>?_)
    ·refine⟨_,rfl,_,rfl,_,rfl,_,_,rfl,rfl,l,nm,names,c,(by rw[← ed];rfl),s1,hnm1,hne,hn0,hn1,by omega,fun e1 v1 H2 t1 o1 de1 z1 s2 x2=>?_⟩
     refine⟨_,rfl,_,_,rfl,rfl,⟨by decide,by decide,by decide⟩,(by show 2≤sizeLine;decide),fun p1 hp1=>?_⟩
     have n1:=s2.ne hp1
     refine⟨_,rfl,l,2,rfl,s2.new hp1,by decide,fun d1 H3 g1 g2 s3 x3=>?_⟩
     obtain⟨v2,a2,b2⟩:=zgb (x:=9) (y:=(10:Int) ^ Int.toNat 6) g1 g2
     have p6:(10:Int) ^ Int.toNat 6=1000000:=by decide
     rw[p6] at b2
     refine⟨p1,_,d1,_,rfl,rfl,SqL.of (x3 _ _ zd n1),a2,l,v2,rfl,s3,by omega,fun d2 H4 g3 g4 s4 x4=>?_⟩
     refine⟨_,_,rfl,rfl,(by show 3≤sizeLine;decide),fun p hp=>?_⟩
     exact k (.mod e1 (1+d2)) _ _ ⟨p,v1,rfl,zd,(((t1.same (Same.new hp1)).extX (s2.new hp1) x3).extX s3 x4).same (Same.new hp)⟩ ⟨⟨by omega,by omega⟩,o1⟩ (by show e1.dep+1≤c+1+1;omega) (by show 2+e1.size≤max 5 (1+2*szB c);omega) (s4.new hp) (((x1.trans x2).trans ((Ext.new hp1).trans x3)).trans (x4.trans (Ext.new hp)))
    refine⟨by show 1≤sizeLine;decide,fun p1 hp1=>?_⟩
    have hp1l:=s1.ne hp1
    have s1':=s1.new (o:=HO.tup [V.str "less"]) hp1
    have x1':Ext l H1 _:=Ext.new (l:=l) (o:=HO.tup [V.str "less"]) hp1
    have hT1:=zd (H:=H1) (a:=p1) (o:=HO.tup [V.str "less"])
    generalize L2.upd H1 p1 (HO.tup [V.str "less"])=H1' at *
    refine⟨4,rfl,by decide,by decide,fun D hD _=>?_⟩
    have hDl:=s1'.ne hD
    refine Zi (lo:=0) (n:=4) (fun i zs τ H'=>∃ o,τ=[o,some (.ref l),some (.ref nm)]∧zs.length=i∧H' D=some (.lst zs)∧XsAt H' l∧Ext l H1' H'∧∀ v∈zs,∃ e,Told H' e v∧e.ok names∧e.dep≤1∧e.size≤1) ?_ ?_ ?_
    ·exact⟨none,rfl,rfl,zd,s1'.new hD,Ext.new hD,fun v hv=>nomatch hv⟩
    ·rintro i zs τ H2 hi ⟨o,rfl,hz,hD2,s2,x2,hv⟩
     refine gn_if ?_
     refine⟨_,rfl,_,rfl,l,nm,names,0,rfl,s2,x2 _ _ (x1' _ _ hnm1 hne) hne,hne,hn0,hn1,by omega,fun e v H6 t6 o6 d6 z6 s6 x6=>⟨x6 _ _ hD2 hDl,zo (by omega),some (V.int (0+i)),rfl,by simp[hz],zd,s6.upd hDl,?_,fun v' hv'=>?_⟩⟩
     ·intro b o e nb
      rw[upd_ne (ne_of_none e hD)]
      exact(x2.trans x6) b o e nb
     ·have hD6:=x6 _ _ hD2 hDl
      rcases List.mem_append.mp hv' with h | h
      ·obtain⟨e',t',o',d',z'⟩:=hv v' h
       exact⟨e',(t'.extX s2 x6).updL hD6,o',d',z'⟩
      ·rw[List.mem_singleton.mp h]
       exact⟨e,t6.updL hD6,o6,d6,z6⟩
    ·rintro zs τ H2 ⟨o,_,hz,hD2,s2,x2,hv⟩
     obtain⟨z1,z2,z3,z4,rfl⟩:=znW hz
     obtain⟨e1,t1,o1,d1,y1⟩:=hv z1 (by simp)
     obtain⟨e2,t2,o2,d2,y2⟩:=hv z2 (by simp)
     obtain⟨e3,t3,o3,d3,y3⟩:=hv z3 (by simp)
     obtain⟨e4,t4,o4,d4,y4⟩:=hv z4 (by simp)
     refine⟨D,_,rfl,.inl ⟨SqL.of hD2,fun p2 hp2=>?_⟩⟩
     have y:=Same.new (o:=HO.tup [z1,z2,z3,z4]) hp2
     refine⟨p1,p2,_,_,rfl,rfl,SqT.of (y _ _ (x2 _ _ hT1 hp1l)),SqT.of zd,(fun z=>by cases z),(by show 1+4≤sizeLine;decide),(fun z=>by cases z),fun _ p hp=>?_⟩
     have y':=y.trans (Same.new (o:=HO.tup [V.str "less",z1,z2,z3,z4]) hp)
     exact k (.less e1 e2 e3 e4) _ _ ⟨p,z1,z2,z3,z4,rfl,zd,t1.same y',t2.same y',t3.same y',t4.same y'⟩ ⟨o1,o2,o3,o4⟩ (by show max (max e1.dep e2.dep) (max e3.dep e4.dep)+1≤c+1+1;omega) (by show 1+e1.size+e2.size+e3.size+e4.size≤max 5 (1+2*szB c);omega) (s2.same y') ((x1.trans x1').trans (x2.trans (Ext.same y')))
   all_goals
    refine⟨_,rfl,rfl,_,rfl,?_⟩
    refine ite2 (fun _=>?_) (fun _=>?_)
    ·refine⟨_,rfl,l,9,rfl,s1,by decide,fun d1 H2 a1 b1 s2 x2=>?_⟩
     refine⟨_,_,rfl,rfl,_,rfl,_,_,rfl,rfl,⟨by decide,by decide,by decide⟩,l,_,rfl,s2,by decide,fun d2 H3 a2 b2 s3 x3=>?_⟩
     refine⟨_,_,rfl,rfl,⟨by decide,by decide,by decide⟩,_,_,rfl,rfl,.inr ⟨by decide,by decide⟩,(by show 2≤sizeLine;decide),fun p1 hp1=>?_⟩
     have n1:=s3.ne hp1
     refine⟨_,rfl,l,4,rfl,s3.new hp1,by decide,fun d3 H4 a3 b3 s4 x4=>?_⟩
     have q3:0≤d3/3:=Int.ediv_nonneg a3 (by decide)
     have q4:d3/3<2:=by omega
     obtain⟨v1,e1,f1⟩:=zgb (x:=d1-4) (y:=d2*10 ^ Int.toNat 13) q3 q4
     refine⟨_,_,rfl,rfl,⟨by show(0:Int)<3;decide,by show(3:Int).natAbs.log2<9000;decide⟩,p1,_,_,_,rfl,rfl,SqL.of (x4 _ _ zd n1),e1,(by show 2≤sizeLine;decide),fun p hp=>?_⟩
     refine k (.num v1) _ _ ⟨p,rfl,zd⟩ ?_ (Nat.le_add_left _ _) zp (s4.new hp) (((x1.trans x2).trans (x3.trans (Ext.new hp1))).trans (x4.trans (Ext.new hp)))
     have p13:(10:Int) ^ Int.toNat 13=10000000000000:=by decide
     have p6:(10:Int) ^ Int.toNat 6=1000000:=by decide
     have b2:d2<(10:Int) ^ Int.toNat 6:=b2
     rw[p6] at b2
     rw[p13] at f1
     show -100000000000000000000<v1∧v1<100000000000000000000
     omega
    ·refine⟨_,rfl,_,rfl,_,rfl,nm,_,rfl,.inl (SqL.of hnm1),l,_,rfl,s1,(by rw[List.length_map];omega),fun d2 H2 g1 g2 s2 x2=>?_⟩
     obtain⟨x,hx,ea⟩:=zmT g1 g2
     refine⟨nm,_,d2,_,rfl,rfl,SqL.of (x2 _ _ hnm1 hne),ea,(by show 2≤sizeLine;decide),fun p hp=>?_⟩
     exact k (.name x) _ _ ⟨p,rfl,zd⟩ hx (Nat.le_add_left _ _) zp (s2.new hp) ((x1.trans x2).trans (Ext.new hp))
noncomputable def heardNs:List Str:=["worth", "me", "round", "lines", "sum", "least", "most", "count", "sum", "most"]
def zuU:Sp:=fun vs H Q _=>vs=[]∧∀ p,H p=none→Q (.ref p) (L2.upd H p (.lst (heardNs.map V.str)))
theorem zm5 (T:Txt w K mg a):FnOk P w K mg base CX0 1 a.f_qB a.d_qB [] zuU:=by
 refine T.F_qB.ok zmO (fun vs H Q E h=>?_) (fun cdv A outer s H vs Q E hr h=>?_)
 ·obtain⟨rfl,_⟩:=h
  rfl
 ·obtain⟨rfl,k⟩:=h
  refine zB (zf (zh (zv (zn w_pe_str (zn w_pe_str (zn w_pe_str (zn w_pe_str (zn w_pe_str (zn w_pe_str (zn w_pe_str (zn w_pe_str (zn w_pe_str (zn w_pe_str w_pa_nil))))))))))))) ?_
  exact⟨by show 10≤sizeLine;decide,fun p hp=>k p hp⟩
def zit (H:Hp) (e1 e2 e3 e4:Ex) (v1 v2 v3 v4:V):Prop:=(Told H e1 v1∧e1.ok xb∧e1.dep≤4∧e1.size≤15)∧(Told H e2 v2∧e2.ok yH∧e2.dep≤4∧e2.size≤15)∧(Told H e3 v3∧e3.ok yH∧e3.dep≤4∧e3.size≤15)∧(Told H e4 v4∧e4.ok xc∧e4.dep≤4∧e4.size≤15)
def zuN:Sp:=fun vs H Q _=>∃ c:Int,vs=[.int c]∧∀ (q:Addr) (v1 v2 v3 v4:V) (e1 e2 e3 e4:Ex) (H':Hp),H' q=some (.lst [v1,v2,v3,v4])→zit H' e1 e2 e3 e4 v1 v2 v3 v4→Same H H'→Q (.ref q) H'
theorem zm1 (T:Txt w K mg a):FnOk P w K mg base CX0 6 a.f_qA a.d_qA ["_law_cell"] zuN:=by
 have c_qv:Callee P w K mg base "_law_take" a.f_qv a.d_qv ["_law_xs", "_law_size"] 1 xG:=⟨xj T,T.g_qv,T.F_qv.kp,T.b_qv⟩
 have c_qu:Callee P w K mg base "_law_draws" a.f_qu a.d_qu ["_law_cell", "_law_many"] 1 ww:=⟨wF T,T.g_qu,T.F_qu.kp,T.b_qu⟩
 have c_qB:Callee P w K mg base "_law_heard_names" a.f_qB a.d_qB [] 1 zuU:=⟨zm5 T,T.g_qB,T.F_qB.kp,T.b_qB⟩
 have c_qz:Callee P w K mg base "_law_expr" a.f_qz a.d_qz ["_law_xs", "_law_names", "_law_deep"] 5 (Yv 3):=⟨YS T 3,T.g_qz,T.F_qz.kp,T.b_qz⟩
 refine T.F_qA.ok sc_qA (fun vs H Q E h=>?_) (fun cdv A outer s H vs Q E hr h=>?_)
 ·obtain⟨c,rfl,_⟩:=h
  rfl
 ·obtain⟨c,rfl,k⟩:=h
  refine zB (w_pss_cons (zj (i:=1) sc_qA.nd rfl (Or.inl rfl) (zk c_qu (hr.mono (by omega)) (w_pa_N (w_pv 0) (zn ze w_pa_nil))))
   (w_pss_cons (zj (i:=2) sc_qA.nd rfl (Or.inl rfl) (zk c_qz (hr.mono (by omega)) (w_pa_N (w_pv 1) (zg (zv (zn w_pe_str (zn w_pe_str (zn w_pe_str w_pa_nil)))) (zn ze w_pa_nil)))))
   (w_pss_cons (zj (i:=3) sc_qA.nd rfl (Or.inl rfl) (zk c_qz (hr.mono (by omega)) (w_pa_N (w_pv 1) (zg (zv (zn w_pe_str (zn w_pe_str (zn w_pe_str (zn w_pe_str (zn w_pe_str (zn w_pe_str w_pa_nil))))))) (zn ze w_pa_nil)))))
   (w_pss_cons (zj (i:=4) sc_qA.nd rfl (Or.inl rfl) (zk c_qz (hr.mono (by omega)) (w_pa_N (w_pv 1) (zg (zv (zn w_pe_str (zn w_pe_str (zn w_pe_str (zn w_pe_str (zn w_pe_str w_pa_nil)))))) (zn ze w_pa_nil)))))
   (xB (w_ps_if (w_pt_cmpR yu (zk c_qv (hr.mono (by omega)) (w_pa_N (w_pv 1) (zn ze w_pa_nil))) ze (zw _))
    (zf (zj (i:=4) sc_qA.nd rfl (Or.inl rfl) (zN (zn w_pe_str (zn ze w_pa_nil)))))
    zm)
   (zf (zh (zv (w_pa_N (w_pv 2) (w_pa_N (w_pv 3) (w_pa_N (w_pv 4) (zy (zk c_qz (hr.mono (by omega)) (w_pa_N (w_pv 1) (zy (uT c_qB.ok (hr.mono (by omega)) (by rfl) c_qB.g c_qB.kp c_qB.b .nil YJ) (zn ze w_pa_nil)))) w_pa_nil)))))))))))) ?_
  refine⟨_,rfl,c,150,rfl,by decide,fun l H1 hl0 s1 y1=>?_⟩
  refine⟨_,rfl,(by show 3≤sizeLine;decide),fun n1 h1=>?_⟩
  refine⟨l,n1,["me", "lines", "me"],2,rfl,s1.new h1,zd,s1.ne h1,by decide,by decide,by decide,fun e1 v1 H2 t1 o1 d1 z1 s2 x2=>?_⟩
  refine⟨_,rfl,(by show 6≤sizeLine;decide),fun n2 h2=>?_⟩
  refine⟨l,n2,["worth", "me", "round", "lines", "to", "worth"],2,rfl,s2.new h2,zd,s2.ne h2,by decide,by decide,by decide,fun e2 v2 H3 t2 o2 d2 z2 s3 x3=>?_⟩
  refine⟨_,rfl,(by show 5≤sizeLine;decide),fun n3 h3=>?_⟩
  refine⟨l,n3,["worth", "me", "round", "lines", "to"],2,rfl,s3.new h3,zd,s3.ne h3,by decide,by decide,by decide,fun e3 v3 H4 t3 o3 d3 z3 s4 x4=>?_⟩
  have X4:Ext l H1 H4:=((Ext.new h1).trans x2).trans (((Ext.new h2).trans x3).trans ((Ext.new h3).trans x4))
  have T1:=((t1.same (Same.new (o:=HO.lst [V.str "worth",V.str "me",V.str "round",V.str "lines",V.str "to",V.str "worth"]) h2)).extX (s2.new h2) x3).same (Same.new (o:=HO.lst [V.str "worth",V.str "me",V.str "round",V.str "lines",V.str "to"]) h3) |>.extX (s3.new h3) x4
  have T2:=(t2.same (Same.new (o:=HO.lst [V.str "worth",V.str "me",V.str "round",V.str "lines",V.str "to"]) h3)).extX (s3.new h3) x4
  refine⟨fun σ' H'=>∃ (e3:Ex) (v3:V),σ'=[some (.int c),some (.ref l),some v1,some v2,some v3]∧XsAt H' l∧Ext l H1 H'∧Told H' e1 v1∧Told H' e2 v2∧Told H' e3 v3∧e3.ok yH∧e3.dep≤4∧e3.size≤15,?_,?_⟩
  ·refine⟨_,rfl,l,3,rfl,s4,by decide,fun dd H5 g1 g2 s5 x5=>?_⟩
   refine⟨rfl,_,rfl,?_⟩
   refine ite2 (fun _=>?_) (fun _=>?_)
   ·refine⟨by show 2≤sizeLine;decide,fun p hp=>?_⟩
    have y:=Same.new (o:=HO.tup [V.str "num",V.int 1]) hp
    exact⟨.num 1,_,rfl,s5.new hp,(X4.trans x5).trans (Ext.new hp),(T1.extX s4 x5).same y,(T2.extX s4 x5).same y,⟨p,rfl,zd⟩,(by show -100000000000000000000<(1:Int)∧(1:Int)<100000000000000000000;decide),(by show 1≤4;decide),(by show 1≤15;decide)⟩
   ·exact⟨e3,v3,rfl,s5,X4.trans x5,T1.extX s4 x5,T2.extX s4 x5,t3.extX s4 x5,o3,by omega,Nat.le_trans z3 (by decide)⟩
  ·rintro σ' H5 ⟨e3,v3,rfl,s5,x5,T1,T2,T3,o3,d3,z3⟩
   refine⟨_,rfl,_,rfl,_,rfl,_,rfl,rfl,fun n4 h4=>?_⟩
   have y4:=Same.new (o:=HO.lst (heardNs.map V.str)) h4
   refine⟨l,n4,heardNs,2,rfl,s5.new h4,zd,s5.ne h4,by decide,by decide,by decide,fun e4 v4 H6 t4 o4 d4 z4 s6 x6=>?_⟩
   refine⟨by show 4≤sizeLine;decide,fun q hq=>?_⟩
   have y6:=Same.new (o:=HO.lst [v1,v2,v3,v4]) hq
   have sub1:∀ x∈(["me", "lines", "me"]:List Str),x∈xb:=by decide
   have sub2:∀ x∈(["worth", "me", "round", "lines", "to", "worth"]:List Str),x∈yH:=by decide
   have sub4:∀ x∈heardNs,x∈xc:=by decide
   refine k q v1 v2 v3 v4 e1 e2 e3 e4 _ zd ⟨⟨((T1.same y4).extX (s5.new h4) x6).same y6,Ex.ok_sub sub1 e1 o1,by omega,Nat.le_trans z1 (by decide)⟩,⟨((T2.same y4).extX (s5.new h4) x6).same y6,Ex.ok_sub sub2 e2 o2,by omega,Nat.le_trans z2 (by decide)⟩,⟨((T3.same y4).extX (s5.new h4) x6).same y6,o3,d3,z3⟩,⟨t4.same y6,Ex.ok_sub sub4 e4 o4,by omega,Nat.le_trans z4 (by decide)⟩⟩ ?_
   have X:=(x5.trans (Ext.same y4)).trans (x6.trans (Ext.same y6))
   exact fun b o e=>X b o (y1 b o e) fun z=>by rw[z,hl0] at e;cases e
def zuL (a:Ad):Sp:=fun vs H Q _=>∃ (q:Addr) (v1 v2 v3 v4:V) (e1 e2 e3 e4:Ex),vs=[.ref q]∧H q=some (.lst [v1,v2,v3,v4])∧zit H e1 e2 e3 e4 v1 v2 v3 v4∧∀ r H',ProgAt a H' e1 e2 e3 e4 r→Same H H'→Q r H'
theorem zmZ (T:Txt w K mg a):FnOk P w K mg base CX0 24 a.f_qD a.d_qD ["_law_program_here"] (zuL a):=by
 have c_qC:Callee P w K mg base "_law_made" a.f_qC a.d_qC ["_law_told"] 6 (Ys a 4):=⟨YR T 4,T.g_qC,T.F_qC.kp,T.b_qC⟩
 have m_Program:Maker P w K mg base "Program" a.c_Program a.f_qW a.d_qW ["self", "start", "send", "when", "renew"] 22 (W1 a):=⟨VZ T,T.g_Program,T.mk_Program,T.b_qW⟩
 refine T.F_qD.ok zmM (fun vs H Q E h=>?_) (fun cdv A outer s H vs Q E hr h=>?_)
 ·obtain⟨q,v1,v2,v3,v4,e1,e2,e3,e4,rfl,_⟩:=h
  rfl
 ·obtain⟨q,v1,v2,v3,v4,e1,e2,e3,e4,rfl,hq,⟨⟨t1,o1,d1,z1⟩,⟨t2,o2,d2,z2⟩,⟨t3,o3,d3,z3⟩,⟨t4,o4,d4,z4⟩⟩,k⟩:=h
  refine zB (zf (zh (yG m_Program (hr.mono (by omega)) (zy (zk c_qC (hr.mono (by omega)) (zg (zu zF (w_pv 0) ze (fun _ _=>rfl)) w_pa_nil)) (zy (zk c_qC (hr.mono (by omega)) (zg (zu zF (w_pv 0) ze (fun _ _=>rfl)) w_pa_nil)) (zy (zk c_qC (hr.mono (by omega)) (zg (zu zF (w_pv 0) ze (fun _ _=>rfl)) w_pa_nil)) (zy (zk c_qC (hr.mono (by omega)) (zg (zu zF (w_pv 0) ze (fun _ _=>rfl)) w_pa_nil)) w_pa_nil))))))) ?_
  refine⟨_,rfl,q,_,0,_,rfl,rfl,SqL.of hq,rfl,e1,_,_,rfl,t1,d1,o1,fun r1 H1 m1 s1=>?_⟩
  refine⟨_,rfl,q,_,1,_,rfl,rfl,SqL.of (s1 _ _ hq),rfl,e2,_,_,rfl,t2.same s1,d2,o2,fun r2 H2 m2 s2=>?_⟩
  have s12:=s1.trans s2
  refine⟨_,rfl,q,_,2,_,rfl,rfl,SqL.of (s12 _ _ hq),rfl,e3,_,_,rfl,t3.same s12,d3,o3,fun r3 H3 m3 s3=>?_⟩
  have s123:=s12.trans s3
  refine⟨_,rfl,q,_,3,_,rfl,rfl,SqL.of (s123 _ _ hq),rfl,e4,_,_,rfl,t4.same s123,d4,o4,fun r4 H4 m4 s4=>?_⟩
  refine fun x dx nx ndx nex=>?_
  have sN:Same H4 (L2.upd (L2.upd H4 dx (.own x)) x (.ins a.c_Program dx [])):=fun b o e=>by
   rw[upd_ne (ne_of_none e nx),upd_ne (ne_of_none e ndx)]
   exact e
  have m1:=m1.same ((s2.trans s3).trans s4)
  have m2:=m2.same (s3.trans s4)
  have m3:=m3.same s4
  refine⟨x,dx,r1,r2,r3,r4,e1,e2,e3,e4,rfl,zd,⟨⟨m1.same sN,o1,by omega⟩,⟨m2.same sN,o2,by omega⟩,⟨m3.same sN,o3,by omega⟩,⟨m4.same sN,o4,by omega⟩,by omega⟩,fun H5 s5=>⟨rfl,?_⟩⟩
  have s45:Same H4 (L2.upd H5 x (.ins a.c_Program dx [("start",r1),("send",r2),("when",r3),("renew",r4)])):=Same.updF (sN.trans s5) nx
  exact k _ _ ⟨x,dx,r1,r2,r3,r4,rfl,zd,⟨m1.same s45,o1,by omega⟩,⟨m2.same s45,o2,by omega⟩,⟨m3.same s45,o3,by omega⟩,⟨m4.same s45,o4,by omega⟩,by omega⟩ ((s123.trans s4).trans s45)
end
end K04

namespace K04
open PySem L2
noncomputable def ot1 (ls:List (Int×Int)) (x:Int):List Int:=(ls.filter fun p=>decide (p.1=x)).map (·.2)
noncomputable def ot2 (ls:List (Int×Int)) (x:Int):List Int:=(ls.filter fun p=>decide (p.2=x)).map (·.1)
theorem Wj {ls:List (Int×Int)}{p:Int×Int}{x:Int}:ot1 (ls++[p]) x=ot1 ls x++if p.1=x then[p.2] else[]:=by
 unfold ot1
 rw[List.filter_append,List.map_append]
 by_cases c:p.1=x<;>simp[c]
theorem Wi {ls:List (Int×Int)}{p:Int×Int}{x:Int}:ot2 (ls++[p]) x=ot2 ls x++if p.2=x then[p.1] else[]:=by
 unfold ot2
 rw[List.filter_append,List.map_append]
 by_cases c:p.2=x<;>simp[c]
theorem YM {x:Int}:∀ {ls:List (Int×Int)},(ot1 ls x++ot2 ls x).Perm (nbs ls x)
 |[]=>List.Perm.refl _
 |p::ls=>by
  have e:nbs (p::ls) x=((if p.1=x then[p.2] else[])++if p.2=x then[p.1] else[])++nbs ls x:=by unfold nbs;rw[List.flatMap_cons]
  have e1:ot1 (p::ls) x=(if p.1=x then[p.2] else[])++ot1 ls x:=by unfold ot1;by_cases c:p.1=x<;>simp[c]
  have e2:ot2 (p::ls) x=(if p.2=x then[p.1] else[])++ot2 ls x:=by unfold ot2;by_cases c:p.2=x<;>simp[c]
  rw[e,e1,e2]
  refine List.Perm.trans ?_ (List.Perm.append_left _ (YM (ls:=ls)))
  rw[List.append_assoc,List.append_assoc]
  refine List.Perm.append_left _ ?_
  rw[← List.append_assoc,← List.append_assoc]
  exact List.Perm.append_right _ List.perm_append_comm
theorem Vc {ls:List (Int×Int)}{x:Int}:(ot1 ls x).length≤ls.length∧(ot2 ls x).length≤ls.length:=by
 unfold ot1 ot2
 rw[List.length_map,List.length_map]
 exact⟨List.length_filter_le _ _,List.length_filter_le _ _⟩
section
variable {P:Program}{w:World}{K:PySem.W.Frag}{mg:Str→Option Value}{base:Heap}{a:Ad}
def zuO:Sp:=fun vs H Q _=>∃ (q:Addr) (x:Int) (rs:List V) (hs:List Int) (ls:List (Int×Int)),vs=[.ref q,.int x]∧H q=some (.lst rs)∧LnAt H rs ls∧Hs hs∧Ls hs ls ∧
 ∀ (p:Addr) (H':Hp),H p=none→Same H H'→H' p=some (.lst ((hs.filter (adB ls x)).map V.int))→Q (.ref p) H'
theorem zm2 (T:Txt w K mg a):FnOk P w K mg base CX0 1 a.f_qy a.d_qy ["_law_lines_here", "_law_hand"] zuO:=by
 refine T.F_qy.ok sc_qy (fun vs H Q E h=>?_) (fun cdv A outer s H vs Q E hr h=>?_)
 ·obtain⟨q,x,rs,hs,ls,rfl,_⟩:=h
  rfl
 ·obtain⟨q,x,rs,hs,ls,rfl,hq,L,wh,wl,k⟩:=h
  have hu:=xk hr
  have l66:=wl.le
  refine zB (w_pss_cons (xn (i:=2) rfl sc_qy.nd rfl (Or.inl rfl) (N':=["_law_one", "_law_other", "_law_hand"]) (t:=2) (caps:=[1]) ⟨rfl,rfl,rfl⟩ (zC (w_pv 0)) (fun _=>(wp rfl (yi (zt (i:=0) (show(["_law_one", "_law_other", "_law_hand"]:List Str).Nodup by decide +kernel) rfl (Or.inl rfl)) (yi (zt (i:=1) (show(["_law_one", "_law_other", "_law_hand"]:List Str).Nodup by decide +kernel) rfl (Or.inl rfl)) xD)))) (fun _=>(xA (w_pt_cmpR yu (w_pv 0) (w_pv 2) (zw _)))) (fun _=>(w_pv 1)))
   (zf (zh (w_pe_callB wo (by rfl) T.n_sorted xU (zU (zi yM (w_pv 2) (ye rfl (N':=["_law_one", "_law_other", "_law_hand"]) (t:=2) (caps:=[1]) ⟨rfl,rfl,rfl⟩ (zC (w_pv 0)) (fun _=>(wp rfl (yi (zt (i:=0) (show(["_law_one", "_law_other", "_law_hand"]:List Str).Nodup by decide +kernel) rfl (Or.inl rfl)) (yi (zt (i:=1) (show(["_law_one", "_law_other", "_law_hand"]:List Str).Nodup by decide +kernel) rfl (Or.inl rfl)) xD)))) (fun _=>(xA (w_pt_cmpR yu (w_pv 1) (w_pv 2) (zw _)))) (fun _=>(w_pv 0)))) w_pa_nil))))) ?_
  refine⟨_,rfl,q,rfl,⟨_,SqL.of hq⟩,fun D hD _=>?_⟩
  refine zZ (K:=K) (a:=q) (xs:=rs) (fun j zs τ H'=>∃ o1 o2,τ=[o1,o2,some (.int x)]∧zs=(ot1 (ls.take j) x).map V.int∧H' D=some (.lst zs)∧Same H H') ?_ ?_ ?_ ?_
  ·exact⟨none,none,rfl,rfl,zd,Same.new hD⟩
  ·rintro j zs τ H' ⟨o1,o2,_,_,_,sm⟩
   exact SqL.of (sm _ _ hq)
  ·rintro j v zs τ H' hj ⟨o1,o2,rfl,rfl,hD',sm⟩
   obtain⟨pr,r,hpr,rfl,hr'⟩:=L.get hj
   refine⟨r,_,rfl,SqT.of (sm _ _ hr'),rfl,_,_,rfl,_,_,rfl,rfl,?_⟩
   refine⟨_,rfl,_,rfl,rfl,_,rfl,?_⟩
   have st:ot1 (ls.take (j+1)) x=ot1 (ls.take j) x++if pr.1=x then[pr.2] else[]:=by
    rw[List.take_add_one,hpr]
    exact Wj
   refine ite2 (fun z=>?_) (fun z=>?_)
   ·have z:pr.1=x:=by
     have:=of_decide_eq_true z
     injection this
    refine⟨_,rfl,hD',?_,_,_,rfl,?_,zd,Same.updF sm hD⟩
    ·rw[List.length_map]
     have:=(Vc (ls:=ls.take j) (x:=x)).1
     rw[List.length_take] at this
     exact zo (by omega)
    ·rw[st,if_pos z,List.map_append]
     rfl
   ·have z:¬ pr.1=x:=fun e=>z (by rw[e];exact decide_eq_true rfl)
    refine⟨_,_,rfl,?_,hD',sm⟩
    rw[st,if_neg z,List.append_nil]
  ·rintro zs τ H1 ⟨o1,o2,rfl,rfl,hD1,sm⟩
   rw[L.1,List.take_length] at hD1
   refine⟨_,rfl,_,rfl,q,rfl,⟨_,SqL.of (sm _ _ hq)⟩,fun D2 hD2 _=>?_⟩
   refine zZ (K:=K) (a:=q) (xs:=rs) (fun j zs τ H'=>∃ o1 o2,τ=[o1,o2,some (.int x)]∧zs=(ot2 (ls.take j) x).map V.int∧H' D2=some (.lst zs)∧Same H1 H') ?_ ?_ ?_ ?_
   ·exact⟨none,none,rfl,rfl,zd,Same.new hD2⟩
   ·rintro j zs τ H' ⟨o1,o2,_,_,_,sm2⟩
    exact SqL.of (sm2 _ _ (sm _ _ hq))
   ·rintro j v zs τ H' hj ⟨o1,o2,rfl,rfl,hD',sm2⟩
    obtain⟨pr,r,hpr,rfl,hr'⟩:=L.get hj
    refine⟨r,_,rfl,SqT.of (sm2 _ _ (sm _ _ hr')),rfl,_,_,rfl,_,_,rfl,rfl,?_⟩
    refine⟨_,rfl,_,rfl,rfl,_,rfl,?_⟩
    have st:ot2 (ls.take (j+1)) x=ot2 (ls.take j) x++if pr.2=x then[pr.1] else[]:=by
     rw[List.take_add_one,hpr]
     exact Wi
    refine ite2 (fun z=>?_) (fun z=>?_)
    ·have z:pr.2=x:=by
      have:=of_decide_eq_true z
      injection this
     refine⟨_,rfl,hD',?_,_,_,rfl,?_,zd,Same.updF sm2 hD2⟩
     ·rw[List.length_map]
      have:=(Vc (ls:=ls.take j) (x:=x)).2
      rw[List.length_take] at this
      exact zo (by omega)
     ·rw[st,if_pos z,List.map_append]
      rfl
    ·have z:¬ pr.2=x:=fun e=>z (by rw[e];exact decide_eq_true rfl)
     refine⟨_,_,rfl,?_,hD',sm2⟩
     rw[st,if_neg z,List.append_nil]
   ·rintro zs τ H2 ⟨o1',o2',rfl,rfl,hD3,sm2⟩
    rw[L.1,List.take_length] at hD3
    have pmx:=YM (x:=x) (ls:=ls)
    have few:=Xd (x:=x) wh wl
    have flen:=pmx.length_eq
    rw[List.length_append] at flen
    refine⟨D,D2,_,_,rfl,rfl,sm2 _ _ hD1,hD3,(by rw[List.length_map,List.length_map];exact Nat.le_of_lt (zo (by omega))),fun p hp=>?_⟩
    have hp':L2.upd H2 p (HO.lst (List.map V.int (ot1 ls x)++List.map V.int (ot2 ls x))) p=some (.lst ((ot1 ls x++ot2 ls x).map V.int)):=by rw[zd,List.map_append]
    have y3:=Same.new (o:=HO.lst (List.map V.int (ot1 ls x)++List.map V.int (ot2 ls x))) hp
    have y123:=(sm.trans sm2).trans y3
    exact⟨p,_,rfl,SqL.of hp',by rw[List.length_append];omega,fun q' ms hq' pm sd=>by
     rw[uz wh wl (pm.trans pmx) sd]
     exact k q' _ (y123.free hq') (y123.trans (Same.new hq')) zd⟩
def uy:Sp:=fun vs H Q _=>∃ (c:Int) (h:Addr) (hs:List Int),vs=[.int c,.ref h]∧H h=some (.lst (hs.map V.int))∧Hs hs∧∀ (n:Nat) (H':Hp),n≤40→Same H H'→Q (.int (n:Int)) H'
theorem YQ (T:Txt w K mg a):FnOk P w K mg base CX0 2 a.f_qE a.d_qE ["_law_cell", "_law_hands_here"] uy:=by
 have c_qv:Callee P w K mg base "_law_take" a.f_qv a.d_qv ["_law_xs", "_law_size"] 1 xG:=⟨xj T,T.g_qv,T.F_qv.kp,T.b_qv⟩
 have c_qu:Callee P w K mg base "_law_draws" a.f_qu a.d_qu ["_law_cell", "_law_many"] 1 ww:=⟨wF T,T.g_qu,T.F_qu.kp,T.b_qu⟩
 refine T.F_qE.ok sc_qE (fun vs H Q E h=>?_) (fun cdv A outer s H vs Q E hr h=>?_)
 ·obtain⟨c,h,hs,rfl,_⟩:=h
  rfl
 ·obtain⟨c,h,hs,rfl,hh,wh,k⟩:=h
  refine zB (w_pss_cons (zj (i:=2) sc_qE.nd rfl (Or.inl rfl) (zk c_qu (hr.mono (by omega)) (w_pa_N (w_pv 0) (zn ze w_pa_nil))))
   (zf (zh (zk c_qv (hr.mono (by omega)) (w_pa_N (w_pv 2) (zg (zu zF (zv (zn ze (zn ze (zn ze (zn ze w_pa_nil))))) (w_pe_callB (xT rfl) (by rfl) T.n_min bt_min (zn ze (zU (zi yX (zi ya (w_pe_callB zr (by rfl) T.n_len yb (w_pa_N (w_pv 1) w_pa_nil)) ze) ze) w_pa_nil))) (fun _ _=>rfl)) w_pa_nil)))))) ?_
  refine⟨_,rfl,c,3,rfl,by decide,fun l H1 hl0 s1 y1=>?_⟩
  refine⟨_,rfl,(by show 4≤sizeLine;decide),fun p hp=>?_⟩
  have y2:=Same.new (o:=HO.lst [V.int 41,V.int 13,V.int 7,V.int 4]) hp
  have l1:=wh.l1
  have l12:=wh.l12
  refine⟨_,rfl,h,_,rfl,.inl (SqL.of (y2 _ _ (y1 _ _ hh))),_,_,rfl,rfl,_,_,rfl,rfl,⟨by show(0:Int)<3;decide,by show(3:Int).natAbs.log2<9000;decide⟩,?_⟩
  rw[List.length_map]
  generalize hi:((hs.length:Int)-1)/3=i
  have i0:0≤i:=by omega
  refine⟨3,i,by rw[← hi],?_⟩
  obtain⟨v,v1,v2,v3⟩:∃ v:Int,atI [V.int 41,V.int 13,V.int 7,V.int 4] (if i<3 then i else 3)=some (.int v)∧0<v∧v≤41:=by
   by_cases c:i<3
   ·rw[if_pos c]
    rcases(by omega:i=0∨i=1∨i=2) with rfl | rfl | rfl
    ·exact⟨41,rfl,by decide,by decide⟩
    ·exact⟨13,rfl,by decide,by decide⟩
    ·exact⟨7,rfl,by decide,by decide⟩
   ·rw[if_neg c]
    exact⟨4,rfl,by decide,by decide⟩
  refine⟨p,_,_,_,rfl,rfl,SqL.of zd,v1,l,v,rfl,s1.same y2,v2,fun d H2 g1 g2 s2 x2=>?_⟩
  obtain⟨n,rfl⟩:∃ n:Nat,d=n:=⟨d.toNat,by omega⟩
  exact k n H2 (by omega) fun b o e=>x2 b o ((y1.trans y2) b o e) fun z=>by rw[z,hl0] at e;cases e
def zuQ:Sp:=fun vs H Q _=>∃ (l:Addr),vs=[.ref l,.int 12]∧XsAt H l ∧
 ∀ (h:Addr) (hs:List Int) (H':Hp),H h=none→H' h=some (.lst (hs.map V.int))→Hs hs→XsAt H' l→Ext l H H'→Q (.ref h) H'
theorem zm4 (T:Txt w K mg a):FnOk P w K mg base CX0 2 a.f_qw a.d_qw ["_law_xs", "_law_most"] zuQ:=by
 have c_qv:Callee P w K mg base "_law_take" a.f_qv a.d_qv ["_law_xs", "_law_size"] 1 xG:=⟨xj T,T.g_qv,T.F_qv.kp,T.b_qv⟩
 refine T.F_qw.ok sc_qw (fun vs H Q E h=>?_) (fun cdv A outer s H vs Q E hr h=>?_)
 ·obtain⟨l,rfl,_⟩:=h
  rfl
 ·obtain⟨l,rfl,hs,k⟩:=h
  refine zB (w_pss_cons (zj (i:=2) sc_qw.nd rfl (Or.inl rfl) (zk c_qv (hr.mono (by omega)) (w_pa_N (w_pv 0) (zn ze w_pa_nil))))
   (w_pss_cons (zj (i:=3) sc_qw.nd rfl (Or.inr rfl) (zv (w_pa_N (w_pv 2) w_pa_nil)))
   (w_pss_cons (zM PassesOwn.never rfl (zT rfl T.n_range (zy (zk c_qv (hr.mono (by omega)) (w_pa_N (w_pv 0) (w_pa_N (w_pv 1) w_pa_nil))) w_pa_nil)) (zt (i:=4) sc_qw.nd rfl (Or.inl rfl))
    (w_pss_cons (zj (i:=2) sc_qw.nd rfl (Or.inl rfl) (zi yf (zi yf (w_pv 2) ze) (zk c_qv (hr.mono (by omega)) (w_pa_N (w_pv 0) (zn ze w_pa_nil)))))
    (zf (zW (yn PySem.F.plainAttrs_list PySem.F.slot_list_append PySem.F.type_list_append zQ (w_pv 3) (w_pa_N (w_pv 2) w_pa_nil))))))
   (xB (w_ps_if (w_pt_cmpR yu (zk c_qv (hr.mono (by omega)) (w_pa_N (w_pv 0) (zn ze w_pa_nil))) ze (zw _))
    (zf (zj (i:=3) sc_qw.nd rfl (Or.inr rfl) (ye rfl (N':=["_law_one", "_law_found"]) (t:=1) (caps:=[3]) ⟨rfl,rfl,rfl⟩ (zC (w_pv 3)) (fun _=>(zt (i:=0) (show(["_law_one", "_law_found"]:List Str).Nodup by decide +kernel) rfl (Or.inl rfl))) (fun _=>yj) (fun _=>(zi ya (zi yf (w_pv 0) ze) (zu zF (w_pv 1) (wq va ze) (fun _ _=>rfl)))))))
    zm)
   (zf (zh (w_pv 3))))))) ?_
  refine⟨_,rfl,l,5,rfl,hs,by decide,fun d0 H1 g1 g2 s1 x1=>?_⟩
  refine⟨_,rfl,(by show 1≤sizeLine;decide),fun p hp=>?_⟩
  have npl:=s1.ne hp
  refine⟨_,rfl,_,rfl,l,12,rfl,s1.new hp,by decide,fun m H2 g3 g4 s2 x2=>?_⟩
  refine⟨m,rfl,by omega,by omega,?_⟩
  have hp2:H2 p=some (.lst [V.int d0]):=x2 _ _ zd npl
  have X2:Ext l H1 H2:=(Ext.new hp).trans x2
  refine for_range (lo:=0) (fun i σ H'=>∃ (ns:List Int) (x:Int) (o4:Option V),σ=[some (.ref l),some (.int 12),some (.int x),some (.ref p),o4]∧H' p=some (.lst ((ns++[x]).map V.int))∧ns.length=i∧(ns++[x]).Pairwise (· < ·)∧(∀ y∈ns++[x],0≤y)∧(∀ y∈ns++[x],y≤4+8*(i:Int))∧XsAt H' l∧Ext l H1 H') ?_ ?_ ?_
  ·refine⟨[],d0,none,rfl,hp2,rfl,by simp,?_,?_,s2,X2⟩
   ·intro y hy
    rw[List.mem_singleton.mp hy];exact g1
   ·intro y hy
    rw[List.mem_singleton.mp hy];omega
  ·rintro i σ H3 hi ⟨ns,x,o4,rfl,hp3,hln,up,lo,hi',s3,x3⟩
   refine⟨_,rfl,_,_,rfl,rfl,_,rfl,l,8,rfl,s3,by decide,fun d H4 a1 a2 s4 x4=>?_⟩
   have hp4:=x4 _ _ hp3 npl
   refine⟨_,_,rfl,rfl,_,rfl,.inl ⟨rfl,_,SqL.of hp4⟩,_,rfl,p,_,_,rfl,rfl,hp4,(by rw[List.length_map,List.length_append];exact zo (by simp;omega)),?_⟩
   refine⟨ns++[x],x+1+d,_,rfl,?_,by simp[hln],?_,?_,?_,s4.upd npl,?_⟩
   ·rw[zd,List.map_append (l₂:=[x+1+d])]
    rfl
   ·rw[List.pairwise_append]
    refine⟨up,by simp,fun y hy z hz=>?_⟩
    rw[List.mem_singleton.mp hz]
    rcases List.mem_append.mp hy with h | h
    ·have:=(List.pairwise_append.mp up).2.2 y h x (by simp)
     omega
    ·rw[List.mem_singleton.mp h];omega
   ·intro y hy
    rcases List.mem_append.mp hy with h | h
    ·exact lo y h
    ·rw[List.mem_singleton.mp h]
     have:=lo x (by simp)
     omega
   ·intro y hy
    rcases List.mem_append.mp hy with h | h
    ·have:=hi' y h
     omega
    ·rw[List.mem_singleton.mp h]
     have:=hi' x (by simp)
     omega
   ·intro b o e nb
    rw[upd_ne (ne_of_none e hp)]
    exact(x3.trans x4) b o e nb
  ·rintro σ H3 ⟨ns,x,o4,rfl,hp3,hln,up,lo,hi',s3,x3⟩
   have hp0:H p=none:=by
    cases e:H p with
    |none=>rfl
    |some o=>have:=x1 _ _ e npl;rw[hp] at this;cases this
   have X3:=x1.trans x3
   refine⟨fun σ' H'=>∃ (h:Addr) (hs':List Int),σ'=[some (.ref l),some (.int 12),some (.int x),some (.ref h),o4]∧H h=none∧H' h=some (.lst (hs'.map V.int))∧Hs hs'∧XsAt H' l∧Ext l H H',?_,?_⟩
   ·refine⟨_,rfl,l,4,rfl,s3,by decide,fun d H4 a1 a2 s4 x4=>⟨rfl,_,rfl,?_⟩⟩
    have hp4:=x4 _ _ hp3 npl
    have X4:=X3.trans x4
    have hl:(ns++[x]).length=m.toNat+1:=by rw[List.length_append,hln];rfl
    refine ite2 (fun _=>?_) (fun _=>?_)
    ·refine⟨_,rfl,p,rfl,⟨_,SqL.of hp4⟩,fun D hD _=>?_⟩
     have nDl:=s4.ne hD
     have hD0:H D=none:=by
      cases e:H D with
      |none=>rfl
      |some o=>have:=X4 _ _ e nDl;rw[hD] at this;cases this
     refine zZ (K:=K) (a:=p) (xs:=(ns++[x]).map V.int) (fun j zs τ H'=>∃ o,τ=[o,some (.ref p)]∧zs=(((ns++[x]).take j).map fun y=>y+99-x).map V.int∧H' D=some (.lst zs)∧Same H4 H') ?_ ?_ ?_ ?_
     ·exact⟨none,rfl,by simp,zd,Same.new hD⟩
     ·rintro j zs τ H' ⟨o,_,_,_,sm⟩
      exact SqL.of (sm _ _ hp4)
     ·rintro j v zs τ H' hj ⟨o,rfl,rfl,hD',sm⟩
      rw[List.getElem?_map] at hj
      obtain⟨y,hy,rfl⟩:=Option.map_eq_some_iff.mp hj
      have hjl:=(List.getElem?_eq_some_iff.mp hy).1
      refine gn_if ?_
      refine⟨_,rfl,_,_,rfl,rfl,_,rfl,_,rfl,p,_,_,V.int x,rfl,rfl,SqL.of (sm _ _ hp4),(by rw[List.map_append];exact uh),_,_,rfl,rfl,hD',by simp;exact zo (by omega),some (.int y),rfl,?_,zd,Same.updF sm hD⟩
      rw[List.take_add_one,hy]
      simp
     ·rintro zs τ H5 ⟨o,rfl,rfl,hD5,sm⟩
      rw[List.length_map,List.take_length] at hD5
      refine⟨D,_,rfl,hD0,hD5,⟨?_,?_,?_,?_,?_⟩,s4.same sm,X4.trans (Ext.same sm)⟩
      ·rw[List.length_map,hl];omega
      ·rw[List.length_map,hl];omega
      ·rw[List.pairwise_map]
       exact up.imp fun h=>by omega
      ·intro y hy
       obtain⟨z,hz,rfl⟩:=List.mem_map.mp hy
       have h1:=lo z hz
       have h2:=hi' x (by simp)
       omega
      ·intro y hy
       obtain⟨z,hz,rfl⟩:=List.mem_map.mp hy
       rcases List.mem_append.mp hz with h | h
       ·have:=(List.pairwise_append.mp up).2.2 z h x (by simp)
        omega
       ·rw[List.mem_singleton.mp h];omega
    ·refine⟨p,_,rfl,hp0,hp4,⟨?_,?_,up,lo,fun y hy=>?_⟩,s4,X4⟩
     ·rw[hl];omega
     ·rw[hl];omega
     ·have:=hi' y hy
      omega
   ·rintro σ' H4 ⟨h,hs',rfl,hh0,hh,wh,s4,x4⟩
    exact⟨_,rfl,k h hs' H4 hh0 hh wh s4 x4⟩
end
end K04

namespace K04
open PySem L2
def tri:Nat→Nat
 |0=>0
 |n+1=>tri n+n
theorem Vt:∀ n,n≤12→tri n≤66:=by decide
theorem zaE {n j:Nat}(h:j<n):tri j+j≤tri n:=by
 induction n with
 |zero=>omega
 |succ n ih =>
  show tri j+j≤tri n+n
  by_cases c:j=n
  ·subst c;exact Nat.le_refl _
  ·have:=ih (by omega)
   omega
theorem zmU {b1 b2 b3 b4 b5 b6:Bool}{d:Int}(h0:0≤d) (h1:d<6):∃ z,atI [V.bl b1,V.bl b2,V.bl b3,V.bl b4,V.bl b5,V.bl b6] d=some (.bl z):=by
 rcases(by omega:d=0∨d=1∨d=2∨d=3∨d=4∨d=5) with rfl | rfl | rfl | rfl | rfl | rfl
 all_goals exact⟨_,rfl⟩
theorem LnAt.updL {H:Hp}{rs zs:List V}{ls:List (Int×Int)}{p:Addr}{o:HO}(hp:H p=some (.lst zs)) (h:LnAt H rs ls):LnAt (L2.upd H p o) rs ls:=⟨h.1,fun n r pr e1 e2=>by
 obtain⟨q,e,t⟩:=h.2 n r pr e1 e2
 exact⟨q,e,by rw[upd_ne (ne_of t hp (by intro z;cases z))];exact t⟩⟩
theorem LnAt.cut {H:Hp}{rs:List V}{ls:List (Int×Int)}{n:Nat}(h:LnAt H rs ls):LnAt H (rs.drop n++rs.take n) (ls.drop n++ls.take n):=by
 refine⟨by simp[h.1],fun i r p e1 e2=>?_⟩
 by_cases c:i<(ls.drop n).length
 ·rw[List.getElem?_append_left (by simp[h.1];simpa using c)] at e1
  rw[List.getElem?_append_left c] at e2
  rw[List.getElem?_drop] at e1 e2
  exact h.2 _ r p e1 e2
 ·rw[List.getElem?_append_right (by simp[h.1];simpa using c)] at e1
  rw[List.getElem?_append_right (by omega)] at e2
  have e:(rs.drop n).length=(ls.drop n).length:=by simp[h.1]
  rw[e,List.getElem?_take] at e1
  rw[List.getElem?_take] at e2
  split at e1
  ·rw[if_pos ‹_›] at e2
   exact h.2 _ r p e1 e2
  ·cases e1
theorem zn4 {rs:List V}{n:Nat}(h:n≤rs.length):Zm rs (some (n:Int)) none=rs.drop n:=by
 have h1:HT.sIx rs.length 0 (some (n:Int))=n:=by
  unfold HT.sIx
  show(if (n:Int)<0 then _ else _)=n
  rw[if_neg (by omega)]
  simp
  omega
 have h2:HT.sIx rs.length rs.length none=rs.length:=rfl
 unfold Zm
 rw[h1,h2]
 exact List.take_of_length_le (by rw[List.length_drop];omega)
theorem zn3 {rs:List V}{n:Nat}(h:n≤rs.length):Zm rs none (some (n:Int))=rs.take n:=by
 have h1:HT.sIx rs.length rs.length (some (n:Int))=n:=by
  unfold HT.sIx
  show(if (n:Int)<0 then _ else _)=n
  rw[if_neg (by omega)]
  simp
  omega
 have h2:HT.sIx rs.length 0 none=0:=rfl
 unfold Zm
 rw[h1,h2]
 simp
theorem zh6 {hs:List Int}(nd:hs.Nodup){i j:Nat}{x:Int}(h1:hs[i]?=some x) (h2:hs[j]?=some x):i=j:=by
 obtain⟨a1,b1⟩:=List.getElem?_eq_some_iff.mp h1
 obtain⟨a2,b2⟩:=List.getElem?_eq_some_iff.mp h2
 exact(List.getElem?_inj a1 nd).mp (h1.trans h2.symm)
structure Lfd (hs:List Int) (ls:List (Int×Int)) (j k:Nat):Prop where
 nd:ls.Nodup
 at_:∀ p∈ls,∃ k' j',hs[k']?=some p.1∧hs[j']?=some p.2∧k'<j'∧(j'<j∨(j'=j∧k'<k))
 le:ls.length≤tri j+k
theorem Lfd.skip {hs:List Int}{ls:List (Int×Int)}{j k:Nat}(h:Lfd hs ls j k):Lfd hs ls j (k+1) :=
 ⟨h.nd,fun p hp=>by
  obtain⟨k',j',h1,h2,h3,h4⟩:=h.at_ p hp
  exact⟨k',j',h1,h2,h3,by omega⟩,by have:=h.le;omega⟩
theorem Lfd.row {hs:List Int}{ls:List (Int×Int)}{j:Nat}(h:Lfd hs ls j j):Lfd hs ls (j+1) 0 :=
 ⟨h.nd,fun p hp=>by
  obtain⟨k',j',h1,h2,h3,h4⟩:=h.at_ p hp
  exact⟨k',j',h1,h2,h3,by omega⟩,h.le⟩
theorem Lfd.add {hs:List Int}{ls:List (Int×Int)}{j k:Nat}{x y:Int}(W:Hs hs) (h:Lfd hs ls j k) (kj:k<j) (hx:hs[k]?=some x) (hy:hs[j]?=some y):Lfd hs (ls++[(x,y)]) j (k+1):=by
 have nd:=Xq W
 refine⟨?_,fun p hp=>?_,?_⟩
 ·rw[List.nodup_append]
  refine⟨h.nd,by simp,fun a ha b hb z=>?_⟩
  rw[List.mem_singleton.mp hb] at z
  obtain⟨k',j',h1,h2,h3,h4⟩:=h.at_ a ha
  rw[z] at h1 h2
  have:=zh6 nd h1 hx
  have:=zh6 nd h2 hy
  omega
 ·rcases List.mem_append.mp hp with h' | h'
  ·obtain⟨k',j',h1,h2,h3,h4⟩:=h.at_ p h'
   exact⟨k',j',h1,h2,h3,by omega⟩
  ·rw[List.mem_singleton.mp h']
   exact⟨k,j,hx,hy,kj,.inr ⟨rfl,by omega⟩⟩
 ·rw[List.length_append]
  have:=h.le
  simp
  omega
theorem Lfd.ls {hs:List Int}{ls:List (Int×Int)}{n:Nat}(W:Hs hs) (h:Lfd hs ls hs.length 0):Ls hs (ls.drop n++ls.take n):=by
 have pm:(ls.drop n++ls.take n).Perm ls:=List.perm_append_comm.trans (by rw[List.take_append_drop])
 refine⟨pm.nodup_iff.mpr h.nd,fun p hp=>?_,?_⟩
 ·obtain⟨k',j',h1,h2,h3,_⟩:=h.at_ p (pm.mem_iff.mp hp)
  obtain⟨a1,b1⟩:=List.getElem?_eq_some_iff.mp h1
  obtain⟨a2,b2⟩:=List.getElem?_eq_some_iff.mp h2
  refine⟨b1 ▸ List.getElem_mem a1,b2 ▸ List.getElem_mem a2,?_⟩
  rw[← b1,← b2]
  exact List.pairwise_iff_getElem.mp W.up _ _ a1 a2 h3
 ·rw[pm.length_eq]
  have:=h.le
  have:=Vt hs.length W.l12
  omega
section
variable {P:Program}{w:World}{K:PySem.W.Frag}{mg:Str→Option Value}{base:Heap}{a:Ad}
def zuP:Sp:=fun vs H Q _=>∃ (l h:Addr) (hs:List Int),vs=[.ref l,.ref h]∧XsAt H l∧H h=some (.lst (hs.map V.int))∧h≠l∧Hs hs ∧
 ∀ (q:Addr) (rs:List V) (ls:List (Int×Int)) (H':Hp),H' q=some (.lst rs)→LnAt H' rs ls→Ls hs ls→XsAt H' l→Ext l H H'→Q (.ref q) H'
theorem zm3 (T:Txt w K mg a):FnOk P w K mg base CX0 2 a.f_qx a.d_qx ["_law_xs", "_law_hands_here"] zuP:=by
 have c_qv:Callee P w K mg base "_law_take" a.f_qv a.d_qv ["_law_xs", "_law_size"] 1 xG:=⟨xj T,T.g_qv,T.F_qv.kp,T.b_qv⟩
 refine T.F_qx.ok sc_qx (fun vs H Q E h=>?_) (fun cdv A outer s H vs Q E hr h=>?_)
 ·obtain⟨l,h,hs,rfl,_⟩:=h
  rfl
 ·obtain⟨l,h,hs,rfl,sl,hh,nhl,wh,k⟩:=h
  have l12:=wh.l12
  refine zB (w_pss_cons (zj (i:=2) sc_qx.nd rfl (Or.inl rfl) (zk c_qv (hr.mono (by omega)) (w_pa_N (w_pv 0) (zn ze w_pa_nil))))
   (w_pss_cons (zj (i:=3) sc_qx.nd rfl (Or.inl rfl) (zv w_pa_nil))
   (w_pss_cons (zM PassesOwn.never rfl (zT rfl T.n_range (zy (w_pe_callB zr (by rfl) T.n_len yb (w_pa_N (w_pv 1) w_pa_nil)) w_pa_nil)) (zt (i:=4) sc_qx.nd rfl (Or.inl rfl))
    (zf (zM PassesOwn.never rfl (zT rfl T.n_range (w_pa_N (w_pv 4) w_pa_nil)) (zt (i:=5) sc_qx.nd rfl (Or.inl rfl))
     (w_pss_cons (zj (i:=6) sc_qx.nd rfl (Or.inl rfl) (Zp (zP yu (zi ya (w_pv 4) (w_pv 5)) ze (zw _)) (yg (zP yu (zi ya (w_pv 4) (w_pv 5)) (zi ya (w_pe_callB zr (by rfl) T.n_len yb (w_pa_N (w_pv 1) w_pa_nil)) ze) (zw _)))))
     (w_pss_cons (zj (i:=7) sc_qx.nd rfl (Or.inl rfl) (zk c_qv (hr.mono (by omega)) (w_pa_N (w_pv 0) (zn ze w_pa_nil))))
     (zf (w_ps_if (zV (zu zF (zv (w_pa_N (w_pv 6) (zg (zP xI (w_pv 7) ze (zw _)) (zg (zP xI (w_pv 7) ze (zw _)) (zg (zP xI (w_pv 7) ze (zw _)) (zn yo (zg (Zp (zP yu (w_pv 5) (zi yW (w_pv 7) (w_pv 4)) (zw _)) (yg (zP yu (w_pv 7) ze (zw _)))) w_pa_nil))))))) (w_pv 2) (fun _ _=>rfl)))
      (zf (zW (yn PySem.F.plainAttrs_list PySem.F.slot_list_append PySem.F.type_list_append zQ (w_pv 3) (uq (zN (zg (zu zF (w_pv 1) (w_pv 5) (fun _ _=>rfl)) (zg (zu zF (w_pv 1) (w_pv 4) (fun _ _=>rfl)) w_pa_nil))) w_pa_nil))))
      zm)))))))
   (w_pss_cons (zj (i:=8) sc_qx.nd rfl (Or.inl rfl) (zk c_qv (hr.mono (by omega)) (w_pa_N (w_pv 0) (zU (zi yf (w_pe_callB zr (by rfl) T.n_len yb (w_pa_N (w_pv 3) w_pa_nil)) ze) w_pa_nil))))
   (zf (zh (zi yM (wb Yy (w_pv 3) (wX (w_pv 8)) wY) (wb Yy (w_pv 3) wY (wX (w_pv 8)))))))))) ?_
  refine⟨_,rfl,l,6,rfl,sl,by decide,fun way H1 g1 g2 s1 x1=>?_⟩
  refine⟨(by show 0≤sizeLine;decide),fun p hp=>?_⟩
  have npl:=s1.ne hp
  have hh1:=x1 _ _ hh nhl
  have nhp:h≠p:=fun z=>by rw[z,hp] at hh1;cases hh1
  refine⟨_,rfl,h,_,rfl,.inl (SqL.of ((Same.new hp) _ _ hh1)),_,rfl,?_⟩
  rw[List.length_map]
  refine⟨by omega,by omega,?_⟩
  rw[show((hs.length:Int)).toNat=hs.length by omega]
  have St:∀ {rs:List V}{ls:List (Int×Int)}{H':Hp},LnAt H' rs ls→True:=fun _=>trivial
  refine for_range (lo:=0) (fun j σ H'=>∃ (o4 o5 o6 o7:Option V) (rs:List V) (ls:List (Int×Int)),σ=[some (.ref l),some (.ref h),some (.int way),some (.ref p),o4,o5,o6,o7,none]∧H' p=some (.lst rs)∧LnAt H' rs ls∧Lfd hs ls j 0∧XsAt H' l∧Ext l H1 H') ?_ ?_ ?_
  ·exact⟨none,none,none,none,[],[],rfl,zd,⟨rfl,fun i r q e=>by cases e⟩,⟨List.nodup_nil,(fun q hq=>nomatch hq),Nat.zero_le _⟩,s1.new hp,Ext.new hp⟩
  ·rintro j σ H2 hj ⟨o4,o5,o6,o7,rs,ls,rfl,hp2,L,F,s2,x2⟩
   refine⟨_,rfl,0+(j:Int),rfl,by omega,by omega,?_⟩
   rw[show(0+(j:Int)).toNat=j by omega]
   refine for_range (lo:=0) (fun i σ H'=>∃ (o5 o6 o7:Option V) (rs:List V) (ls:List (Int×Int)),σ=[some (.ref l),some (.ref h),some (.int way),some (.ref p),some (.int (0+(j:Int))),o5,o6,o7,none]∧H' p=some (.lst rs)∧LnAt H' rs ls∧Lfd hs ls j i∧XsAt H' l∧Ext l H1 H') ?_ ?_ ?_
   ·exact⟨o5,o6,o7,rs,ls,rfl,hp2,L,F,s2,x2⟩
   ·rintro i σ H3 hi ⟨o5,o6,o7,rs,ls,rfl,hp3,L,F,s3,x3⟩
    have hj2:hs[j]?=some hs[j]:=by simp[hj]
    have hi2:hs[i]?=some (hs[i]'(by omega)):=by simp
    refine⟨_,rfl,_,rfl,_,_,rfl,rfl,rfl,_,rfl,?_⟩
    have hh3:=x3 _ _ hh1 nhl
    refine ite2 (fun _=>?_) (fun _=>⟨_,rfl,_,rfl,_,_,rfl,rfl,_,rfl,h,_,rfl,.inl (SqL.of hh3),_,_,rfl,rfl,rfl,?_⟩)
    all_goals
     refine⟨_,rfl,l,6,rfl,s3,by decide,fun dr H4 a1 a2 s4 x4=>?_⟩
     refine⟨_,rfl,_,rfl,_,_,rfl,rfl,_,rfl,_,_,rfl,rfl,_,rfl,_,_,rfl,rfl,_,rfl,_,rfl,_,rfl,_,_,rfl,rfl,(by show(0:Int)<0+(j:Int);omega),rfl,_,rfl,?_⟩
     have hp4:=x4 _ _ hp3 npl
     have hh4:=x4 _ _ hh3 nhl
     have L4:LnAt H4 rs ls:=⟨L.1,fun n r pr e1 e2=>by
      obtain⟨q,e,t⟩:=L.2 n r pr e1 e2
      exact⟨q,e,x4 _ _ t fun z=>by
       obtain⟨ns,e3,_⟩:=s3
       rw[z,e3] at t
       cases t⟩⟩
     have X4:=x3.trans x4
     refine ite2 (fun _=>?_) (fun _=>⟨_,rfl,rfl,?_⟩)
     all_goals
      refine⟨by show 6≤sizeLine;decide,fun q6 hq6=>?_⟩
      have y5:∀ o,Same H4 (L2.upd H4 q6 o):=fun o=>Same.new hq6
      have u5:∀ o,L2.upd H4 q6 o q6=some o:=fun o=>zd
      generalize L2.upd H4 q6=f at *
      obtain⟨z,hz⟩:=zmU (b1:=_) (b2:=_) (b3:=_) (b4:=_) (b5:=_) (b6:=_) g1 g2
      refine⟨_,rfl,q6,_,_,_,rfl,rfl,SqL.of (u5 _),hz,_,rfl,?_⟩
      have hp5:=fun o=>y5 o _ _ hp4
      have hh5:=fun o=>y5 o _ _ hh4
      have L5:=fun o=>L4.same (y5 o)
      have s5:=fun o=>s4.same (y5 o)
      have X5:=fun o=>X4.trans (Ext.same (y5 o))
      refine ite2 (fun _=>?_) (fun _=>?_)
      ·refine⟨_,rfl,.inl ⟨rfl,_,SqL.of (hp5 _)⟩,_,rfl,_,rfl,h,_,_,V.int (hs[i]'(by omega)),rfl,rfl,SqL.of (hh5 _),(by rw[Int.zero_add];exact yB (by simp)),_,rfl,_,rfl,h,_,_,V.int hs[j],rfl,rfl,SqL.of (hh5 _),(by rw[Int.zero_add];exact yB (by simp[hj])),(by show 2≤sizeLine;decide),fun qt hqt=>?_⟩
       have y6:=Same.new (o:=HO.tup [V.int (hs[i]'(by omega)),V.int hs[j]]) hqt
       have l66:=F.le
       refine⟨p,_,_,rfl,rfl,y6 _ _ (hp5 _),(by rw[L.1];have:=Vt hs.length l12;have:=zaE hj;exact zo (by omega)),?_⟩
       refine⟨_,_,_,_,ls++[(hs[i]'(by omega),hs[j])],rfl,zd,LnAt.updL (y6 _ _ (hp5 _)) (LnAt.snoc (p:=(hs[i]'(by omega),hs[j])) ((L5 _).same y6) (q:=qt) zd),F.add wh hi hi2 hj2,((s5 _).same y6).upd npl.symm.symm,?_⟩
       intro b o e nb
       rw[upd_ne (ne_of_none e hp)]
       exact((X5 _).trans (Ext.same y6)) b o e nb
      ·exact⟨_,_,_,rs,ls,rfl,hp5 _,L5 _,F.skip,s5 _,X5 _⟩
   ·rintro σ H3 ⟨o5,o6,o7,rs,ls,rfl,hp3,L,F,s3,x3⟩
    exact⟨_,_,_,_,rs,ls,rfl,hp3,L,F.row,s3,x3⟩
  ·rintro σ H2 ⟨o4,o5,o6,o7,rs,ls,rfl,hp2,L,F,s2,x2⟩
   refine⟨_,rfl,_,rfl,p,_,rfl,.inl (SqL.of hp2),_,_,rfl,rfl,l,_,rfl,s2,by omega,fun d H3 a1 a2 s3 x3=>?_⟩
   obtain⟨n,rfl⟩:∃ n:Nat,d=n:=⟨d.toNat,by omega⟩
   have hp3:=x3 _ _ hp2 npl
   have L3:LnAt H3 rs ls:=⟨L.1,fun n r pr e1 e2=>by
      obtain⟨q,e,t⟩:=L.2 n r pr e1 e2
      exact⟨q,e,x3 _ _ t fun z=>by
       obtain⟨ns,e3,_⟩:=s2
       rw[z,e3] at t
       cases t⟩⟩
   refine⟨_,rfl,_,rfl,_,rfl,p,_,rfl,SqL.of hp3,fun q1 hq1=>?_⟩
   have y4:=Same.new (o:=HO.lst (Zm rs (some (n:Int)) none)) hq1
   refine⟨_,rfl,_,rfl,_,rfl,p,_,rfl,SqL.of (y4 _ _ hp3),fun q2 hq2=>?_⟩
   have y5:=Same.new (o:=HO.lst (Zm rs none (some (n:Int)))) hq2
   have hnl:n≤rs.length:=by omega
   have l66:=F.le
   have:=Vt hs.length l12
   have l1:=yR rs (some (n:Int)) none
   have l2:=yR rs none (some (n:Int))
   have lL:=L.1
   refine⟨q1,q2,_,_,rfl,rfl,y5 _ _ zd,zd,(Nat.le_of_lt (zo (by omega))),fun q hq=>?_⟩
   have y6:=Same.new (o:=HO.lst (Zm rs (some (n:Int)) none++Zm rs none (some (n:Int)))) hq
   have y456:=(y4.trans y5).trans y6
   refine k q (rs.drop n++rs.take n) (ls.drop n++ls.take n) _ (by rw[zd,zn4 hnl,zn3 hnl]) (L3.same y456).cut (F.ls wh) (s3.same y456) ?_
   exact(x1.trans x2).trans (x3.trans (Ext.same y456))
end
end K04

namespace K04
open PySem L2
theorem ziq {ls ls':List (Int×Int)}(h:∀ p,p∈ls↔p∈ls'):adB ls=adB ls':=by
 funext x y
 unfold adB
 have h1:decide ((x,y)∈ls)=decide ((x,y)∈ls'):=decide_eq_decide.mpr (h _)
 have h2:decide ((y,x)∈ls)=decide ((y,x)∈ls'):=decide_eq_decide.mpr (h _)
 rw[h1,h2]
section
variable {hs:List Int}{ls ls':List (Int×Int)}(h:adB ls=adB ls')
include h
theorem Xw {x:Int}:deg hs ls x=deg hs ls' x:=by unfold deg;rw[h]
theorem zlw {e1:Ex}:w0 hs ls e1=w0 hs ls' e1:=by funext x;unfold w0;rw[Xw h]
theorem zh8 {e2 e3:Ex}{f:Int→Int}{t s x:Int}:msg hs ls e2 e3 f t s x=msg hs ls' e2 e3 f t s x:=by unfold msg;rw[Xw h]
theorem Xu {e2 e3:Ex}{f:Int→Int}{t:Int}{S:List Int}:vE hs ls e2 e3 f t S=vE hs ls' e2 e3 f t S:=by
 funext x
 unfold vE
 rw[h]
 congr 1
 funext s
 rw[zh8 h]
theorem zh5 {e4:Ex}{f:Int→Int}{t:Int}{g:Int→List (Int×Int)}:nxt hs ls e4 f t g=nxt hs ls' e4 f t g:=by funext x;unfold nxt;rw[Xw h]
theorem Vs {e1 e2 e3 e4:Ex}:∀ n,wN hs ls e1 e2 e3 e4 n=wN hs ls' e1 e2 e3 e4 n
 |0=>zlw h
 |n+1=>by
  show nxt hs ls e4 _ _ _=nxt hs ls' e4 _ _ _
  rw[Vs n,Xu h,zh5 h]
theorem znY {e1 e2 e3 e4:Ex}{n:Nat}:gN hs ls e1 e2 e3 e4 n=gN hs ls' e1 e2 e3 e4 n:=by
 unfold gN
 rw[Vs h,Xu h]
end
end K04

namespace K04
open PySem L2
theorem xp {α β:Type}{f g:α→Option β}:∀ {xs:List α},(∀ x∈xs,f x=g x)→xs.filterMap f=xs.filterMap g
 |[],_=>rfl
 |x::xs,h=>by
  rw[List.filterMap_cons,List.filterMap_cons,h x List.mem_cons_self,xp fun y hy=>h y (List.mem_cons_of_mem _ hy)]
noncomputable def Bn (ls:List (Int×Int)) (a b:Int):Nat→Int→Prop
 |0,x=>x=a∨x=b
 |n+1,x=>Bn ls a b n x∨∃ y,Bn ls a b n y∧adB ls y x=true
theorem Bn.zero {ls:List (Int×Int)}{a b x:Int}(h:x=a∨x=b):∀ n,Bn ls a b n x
 |0=>h
 |n+1=>.inl (Bn.zero h n)
section
variable {hs:List Int}{ls ls':List (Int×Int)}{a b:Int}(H:∀ x y,¬ ((x=a∧y=b)∨(x=b∧y=a))→adB ls' x y=adB ls x y)
include H
theorem uf {x:Int}(h:¬ (x=a∨x=b)):deg hs ls x=deg hs ls' x:=by
 unfold deg
 rw[List.filter_congr fun y _=>(H x y fun z=>h (z.imp (·.1) (·.1))).symm]
theorem uL {e2 e3:Ex}{f f':Int→Int}{t:Int}{n:Nat}{x:Int}(hf:∀ y,¬ Bn ls a b n y→f y=f' y) (h:¬ Bn ls a b (n+1) x):vE hs ls e2 e3 f t hs x=vE hs ls' e2 e3 f' t hs x:=by
 unfold vE
 have hx:¬ (x=a∨x=b):=fun z=>h (Bn.zero z _)
 refine xp fun s _=>?_
 have e:adB ls' s x=adB ls s x:=H s x fun z=>hx (z.elim (fun q=>.inr q.2) fun q=>.inl q.2)
 rw[e]
 by_cases c:adB ls s x=true
 ·rw[if_pos c,if_pos c]
  have hs':¬ Bn ls a b n s:=fun z=>h (.inr ⟨s,z,c⟩)
  unfold msg
  rw[hf s hs',uf H fun z=>hs' (Bn.zero z _)]
 ·rw[if_neg c,if_neg c]
theorem ur {e1 e2 e3 e4:Ex}:∀ n x,¬ Bn ls a b n x→wN hs ls e1 e2 e3 e4 n x=wN hs ls' e1 e2 e3 e4 n x
 |0,x,h=>by
  show w0 hs ls e1 x=w0 hs ls' e1 x
  unfold w0
  rw[uf H h]
 |n+1,x,h=>by
  show nxt hs ls e4 _ _ _ x=nxt hs ls' e4 _ _ _ x
  unfold nxt
  rw[ur n x fun z=>h (.inl z),uf H fun z=>h (Bn.zero z _),uL H (fun y hy=>ur n y hy) h]
theorem zij {e1 e2 e3 e4:Ex}{n:Nat}{x:Int}(h:¬ Bn ls a b (n+1) x):gN hs ls e1 e2 e3 e4 n x=gN hs ls' e1 e2 e3 e4 n x:=by
 unfold gN
 exact uL H (fun y hy=>ur H n y hy) h
end
end K04

namespace K04
open PySem L2
structure FarI (ls:List (Int×Int)) (a b:Int) (us row:List Int) (f:Int→Int):Prop where
 ea:a∈us∧f a=0
 eb:b∈us∧f b=0
 sub:∀ x∈row,x∈us
 srt:row.Pairwise fun x y=>f x≤f y
 hi:∀ y∈row.head?,∀ x∈us,f x≤f y+1
 old:∀ u∈us,u∉row→∀ z,adB ls u z=true→z∈us∧f z≤f u+1
structure FarJ (ls:List (Int×Int)) (a b y:Int) (us row:List Int) (f:Int→Int) (dn:List Int):Prop where
 ea:a∈us∧f a=0
 eb:b∈us∧f b=0
 my:y∈us
 sub:∀ x∈row,x∈us
 srt:row.Pairwise fun x y=>f x≤f y
 lo:∀ x∈row,f y≤f x
 hi:∀ x∈us,f x≤f y+1
 old:∀ u∈us,u∉row→u≠y→∀ z,adB ls u z=true→z∈us∧f z≤f u+1
 dn:∀ z∈dn,z∈us
section
variable {ls:List (Int×Int)}{a b y:Int}{us row dn:List Int}{f:Int→Int}
theorem FarI.start (h:FarI ls a b us (y::row) f):FarJ ls a b y us row f []:=by
 obtain⟨s1,s2⟩:=List.pairwise_cons.mp h.srt
 exact⟨h.ea,h.eb,h.sub y List.mem_cons_self,fun x hx=>h.sub x (List.mem_cons_of_mem _ hx),s2,s1,h.hi y rfl,fun u hu hr hy z=>h.old u hu (fun m=>(List.mem_cons.mp m).elim hy hr) z,fun z hz=>nomatch hz⟩
theorem FarJ.skip {z:Int}(h:FarJ ls a b y us row f dn) (hz:z∈us):FarJ ls a b y us row f (dn++[z]) :=
 ⟨h.ea,h.eb,h.my,h.sub,h.srt,h.lo,h.hi,h.old,fun x hx=>(List.mem_append.mp hx).elim (h.dn x) fun q=>by rw[List.mem_singleton.mp q];exact hz⟩
theorem FarJ.add {z:Int}(h:FarJ ls a b y us row f dn) (hz:z∉us):FarJ ls a b y (us++[z]) (row++[z]) (fun x=>if x=z then f y+1 else f x) (dn++[z]):=by
 have k:∀ x∈us,(if x=z then f y+1 else f x)=f x:=fun x hx=>if_neg fun(e:x=z)=>hz (by rw[← e];exact hx)
 have hf0:=h.hi a h.ea.1
 refine⟨⟨by simp[h.ea.1],?_⟩,⟨by simp[h.eb.1],?_⟩,by simp[h.my],fun x hx=>?_,?_,fun x hx=>?_,fun x hx=>?_,fun u hu hr hy v hv=>?_,fun x hx=>?_⟩
 ·show(if a=z then _ else _)=_
  rw[k a h.ea.1];exact h.ea.2
 ·show(if b=z then _ else _)=_
  rw[k b h.eb.1];exact h.eb.2
 ·rcases List.mem_append.mp hx with q | q
  ·exact List.mem_append_left _ (h.sub x q)
  ·exact List.mem_append_right _ q
 ·rw[List.pairwise_append]
  refine⟨?_,by simp,fun x hx v hv=>?_⟩
  ·refine h.srt.imp_of_mem fun {x v} hx hv e=>?_
   rw[k x (h.sub x hx),k v (h.sub v hv)]
   exact e
  ·rw[List.mem_singleton.mp hv,k x (h.sub x hx),if_pos rfl]
   exact h.hi x (h.sub x hx)
 ·show(if y=z then _ else _)≤(if x=z then _ else _)
  rw[k y h.my]
  rcases List.mem_append.mp hx with q | q
  ·rw[k x (h.sub x q)]
   exact h.lo x q
  ·rw[List.mem_singleton.mp q,if_pos rfl]
   omega
 ·show(if x=z then _ else _)≤(if y=z then _ else _)+1
  rw[k y h.my]
  rcases List.mem_append.mp hx with q | q
  ·rw[k x q]
   exact h.hi x q
  ·rw[List.mem_singleton.mp q,if_pos rfl]
   omega
 ·show v∈us++[z]∧(if v=z then _ else _)≤(if u=z then _ else _)+1
  rcases List.mem_append.mp hu with q | q
  ·obtain⟨m,e⟩:=h.old u q (fun m=>hr (List.mem_append_left _ m)) hy v hv
   rw[k u q,k v m]
   exact⟨List.mem_append_left _ m,e⟩
  ·exact absurd (List.mem_append_right _ q) hr
 ·rcases List.mem_append.mp hx with q | q
  ·exact List.mem_append_left _ (h.dn x q)
  ·exact List.mem_append_right _ q
theorem FarJ.done (h:FarJ ls a b y us row f dn) (hd:∀ z,adB ls y z=true→z∈dn):FarI ls a b us row f:=by
 refine⟨h.ea,h.eb,h.sub,h.srt,fun v hv x hx=>?_,fun u hu hr z hz=>?_⟩
 ·have:=h.hi x hx
  have:=h.lo v (List.mem_of_mem_head? hv)
  omega
 ·by_cases c:u=y
  ·subst c
   have m:=h.dn z (hd z hz)
   exact⟨m,h.hi z m⟩
  ·exact h.old u hu hr c z hz
theorem FarI.far (h:FarI ls a b us [] f):∀ n x,Bn ls a b n x→x∈us∧f x≤n
 |0,x,q=>by
  rcases q with rfl | rfl
  ·exact⟨h.ea.1,by rw[h.ea.2];exact Int.le_refl _⟩
  ·exact⟨h.eb.1,by rw[h.eb.2];exact Int.le_refl _⟩
 |n+1,x,q=>by
  rcases q with q | ⟨v,q,e⟩
  ·obtain⟨m,l⟩:=FarI.far h n x q
   exact⟨m,by omega⟩
  ·obtain⟨m,l⟩:=FarI.far h n v q
   obtain⟨m',l'⟩:=h.old v m (by simp) x e
   exact⟨m',by omega⟩
end
end K04

namespace K04
open PySem L2
theorem Zz {H:Hp}{d:Addr}{f:Int→Int}{us:List Int}{x:Int}(e:H d=some (.dK (tabI f us))) (h:x∉us):DGet H d (V.int x) none:=by
 have:=DGet.k (k:=Sum.inl x) e
 have z:=valV_no (kvs:=tabI f us) (k:=(Sum.inl x:Key)) (by rw[yx,wP];exact h)
 cases hv:xr (tabI f us) (Sum.inl x:Key) with
 |none=>rw[hv] at this;exact this
 |some v=>rw[hv] at z;cases z
theorem X0 {f:Int→Int}{us:List Int}{x v:Int}(h:x∉us):putK (tabI f us) (.inl x) (.int v)=tabI (fun y=>if y=x then v else f y) (us++[x]):=by
 rw[putK_new (by rw[yx,wP];exact h)]
 unfold tabI
 rw[List.map_append]
 congr 1
 ·exact List.map_congr_left fun y hy=>by
   show _=(Sum.inl y,V.int (if y=x then v else f y))
   rw[if_neg (fun(e:y=x)=>h (by rw[← e];exact hy))]
 ·simp
theorem zir {hs:List Int}{ls:List (Int×Int)}{x y:Int}(L:Ls hs ls) (h:adB ls x y=true):y∈hs:=by
 unfold adB at h
 rw[Bool.or_eq_true,decide_eq_true_eq,decide_eq_true_eq] at h
 rcases h with h | h
 ·exact(L.ok _ h).2.1
 ·exact(L.ok _ h).1
section
variable {P:Program}{w:World}{K:PySem.W.Frag}{mg:Str→Option Value}{base:Heap}{a:Ad}
def zfV:Sp:=fun vs H Q _=>∃ (q b:Addr) (x y:Int) (rs:List V) (hs:List Int) (ls:List (Int×Int)),vs=[.ref q,.ref b]∧H q=some (.lst rs)∧H b=some (.lst [.int x,.int y])∧LnAt H rs ls∧Hs hs∧Ls hs ls∧x∈hs∧y∈hs∧x≠y ∧
 ∀ (d:Addr) (H':Hp) (us:List Int) (f:Int→Int),Same H H'→H' d=some (.dK (tabI f us))→FarI ls x y us [] f→(∀ z∈us,0≤f z)→Q (.ref d) H'
theorem zgu (T:Txt w K mg a):FnOk P w K mg base CX0 2 a.f_qF a.d_qF ["_law_lines_here", "_law_begins"] zfV:=by
 have c_qy:Callee P w K mg base "_law_near" a.f_qy a.d_qy ["_law_lines_here", "_law_hand"] 1 zuO:=⟨zm2 T,T.g_qy,T.F_qy.kp,T.b_qy⟩
 refine T.F_qF.ok sc_qF (fun vs H Q E h=>?_) (fun cdv A outer s H vs Q E hr h=>?_)
 ·obtain⟨q,b,x,y,rs,hs,ls,rfl,_⟩:=h
  rfl
 ·obtain⟨q,b,x,y,rs,hs,ls,rfl,hq,hb,L,wh,wl,hx,hy,hxy,k⟩:=h
  have hu:=xk hr
  have l12:=wh.l12
  have un:∀ n:Nat,n≤3→(A.deeper (PyProof.Rows.envOfC "_law_far" (defScope u0) s.heap.objs.size a.f_qF cdv)).units+n+2<cLine:=fun n hn=>by
   have:=hr.units
   omega
  refine zB (w_pss_cons (zj (i:=2) sc_qF.nd rfl (Or.inl rfl) (zG (xl rfl) (by rfl) T.n_dict wU (zg (ye rfl (N':=["_law_hand"]) (t:=1) (caps:=[]) ⟨rfl,rfl,rfl⟩ (zC (w_pv 1)) (fun _=>(zt (i:=0) (show(["_law_hand"]:List Str).Nodup by decide +kernel) rfl (Or.inl rfl))) (fun _=>yj) (fun _=>(zN (w_pa_N (w_pv 0) (zn ze w_pa_nil))))) w_pa_nil)))
   (w_pss_cons (zj (i:=3) sc_qF.nd rfl (Or.inl rfl) (zG ym (by rfl) T.n_list xm (w_pa_N (w_pv 1) w_pa_nil)))
   (w_pss_cons (x8 PassesOwn.never (w_pt_cmpR (YO YN zgl) (w_pv 3) (zv w_pa_nil) (zw _))
    (w_pss_cons (zj (i:=4) sc_qF.nd rfl (Or.inl rfl) (yn PySem.F.plainAttrs_list PySem.F.slot_list_pop PySem.F.type_list_pop uH (w_pv 3) (zn ze w_pa_nil)))
    (zf (zM PassesOwn.never rfl (zC (zk c_qy (hr.mono (by omega)) (w_pa_N (w_pv 0) (w_pa_N (w_pv 4) w_pa_nil)))) (zt (i:=5) sc_qF.nd rfl (Or.inl rfl))
     (zf (w_ps_if (XU (vQ hu (w_pv 5) (w_pv 2)))
      (w_pss_cons (w_ps_dput hu (w_pv 2) (w_pv 5) (zi yf (zO hu (w_pv 2) (w_pv 4) (fun _ _=>rfl)) ze) rfl)
      (zf (zW (yn PySem.F.plainAttrs_list PySem.F.slot_list_append PySem.F.type_list_append zQ (w_pv 3) (w_pa_N (w_pv 5) w_pa_nil)))))
      zm))))))
   (zf (zh (w_pv 2)))))) ?_
  refine⟨_,rfl,b,rfl,⟨_,SqL.of hb⟩,fun D hD _=>?_⟩
  refine zZ (K:=K) (a:=b) (xs:=[x,y].map V.int) (fun i zs τ H'=>∃ (o:Option V) (qs:List Addr),τ=[o]∧zs=qs.map V.ref∧qs.length=i∧(∀ (j:Nat) (q:Addr) (z:Int),qs[j]?=some q→[x,y][j]?=some z→H' q=some (.tup [.int z,.int 0]))∧H' D=some (.lst zs)∧Same H H') ?_ ?_ ?_ ?_
  ·exact⟨none,[],rfl,rfl,rfl,fun j q z h=>by simp at h,zd,Same.new hD⟩
  ·rintro i zs τ H' ⟨o,qs,_,_,_,_,_,sm⟩
   exact SqL.of (sm _ _ hb)
  ·rintro i v zs τ H' hi ⟨o,qs,rfl,rfl,lq,hq',hD',sm⟩
   rw[List.getElem?_map] at hi
   obtain⟨z,hz,rfl⟩:=Option.map_eq_some_iff.mp hi
   have hil:i<2:=(List.getElem?_eq_some_iff.mp hz).1
   refine gn_if ?_
   refine⟨_,rfl,(by show 2≤sizeLine;decide),fun pt hpt=>?_⟩
   have n2:=Same.new (o:=HO.tup [V.int z,V.int 0]) hpt
   refine⟨n2 _ _ hD',by rw[List.length_map,lq];exact zo (by omega),some (.int z),qs++[pt],rfl,by simp,by simp[lq],fun j q y' hj hy'=>?_,zd,Same.updF (sm.trans n2) hD⟩
   by_cases hji:j<i
   ·rw[List.getElem?_append_left (by omega)] at hj
    have h1:=hq' j q y' hj hy'
    rw[upd_ne (fun z=>by rw[z,hD'] at h1;cases h1)]
    exact n2 _ _ h1
   ·rw[List.getElem?_append_right (by omega)] at hj
    have:j=i:=by
     have:=(List.getElem?_eq_some_iff.mp hj).1
     simp at this
     omega
    subst this
    rw[lq,Nat.sub_self] at hj
    cases hj
    rw[hz] at hy'
    cases hy'
    rw[upd_ne (fun z=>by rw[z,hD'] at hpt;cases hpt)]
    exact zd
  ·rintro zs τ H2 ⟨o,qs,rfl,rfl,lq,hq',hD2,sm⟩
   refine⟨D,qs,tabI (fun _=>0) [x,y],rfl,hD2,lq,by unfold tabI;show 2≤1000;decide,fun i q kv h1 h2=>?_,fun d hd=>?_⟩
   ·unfold tabI at h2
    rw[List.getElem?_map] at h2
    obtain⟨z,h3,h4⟩:=Option.map_eq_some_iff.mp h2
    subst h4
    exact hq' i q z h1 h3
   have ndxy:[x,y].Nodup:=by simp[hxy]
   rw[wL (by rw[yx];exact Xp ndxy)]
   have sd:=sm.trans (Same.new (o:=HO.dK (tabI (fun _=>0) [x,y])) hd)
   have hdd:=zd (H:=H2) (a:=d) (o:=HO.dK (tabI (fun _=>0) [x,y]))
   have hd0:=sm.free hd
   generalize upd H2 d (HO.dK (tabI (fun _=>0) [x,y]))=H3 at *
   refine⟨_,rfl,b,_,rfl,.inl (SqL.of (sd _ _ hb)),fun r hr0=>?_⟩
   have nrd:d≠r:=fun z=>by rw[z,hr0] at hdd;cases hdd
   have sr:=Same.new (o:=HO.lst ([x,y].map V.int)) hr0
   have hr00:=sd.free hr0
   refine⟨fun m σ H'=>∃ (us row:List Int) (f:Int→Int) (o4 o5:Option V),m=row.length+2*(hs.length-us.length)∧σ=[some (.ref q),some (.ref b),some (.ref d),some (.ref r),o4,o5]∧H' d=some (.dK (tabI f us))∧H' r=some (.lst (row.map V.int))∧us.Nodup∧(∀ z∈us,z∈hs)∧row.length≤us.length∧(∀ z∈us,0≤f z)∧FarI ls x y us row f∧Same H H',⟨_,[x,y],[x,y],fun _=>0,none,none,rfl,rfl,sr _ _ hdd,zd,ndxy,?_,Nat.le_refl _,fun _ _=>Int.le_refl _,?_,sd.trans sr⟩,?_⟩
   ·intro z hz
    simp at hz
    rcases hz with rfl | rfl
    ·exact hx
    ·exact hy
   ·exact⟨⟨by simp,rfl⟩,⟨by simp,rfl⟩,fun _ h=>h,by simp,fun _ _ _ _=>by decide,fun u h1 h2=>absurd h1 h2⟩
   rintro m σ H4 ⟨us,row,f,o4,o5,rfl,rfl,hd4,hr4,nd,hsub,hle,f0,F,s4⟩
   have lus:=Xa nd hsub
   refine⟨_,rfl,(by show 0≤sizeLine;decide),fun e he=>?_⟩
   have se:=Same.new (o:=HO.lst []) he
   cases row with
   |nil =>
    refine .inl ⟨r,e,_,_,fun _=>true,0,rfl,rfl,.inl ⟨SqL.of (se _ _ hr4),SqL.of zd⟩,rfl,un 0 (by omega),(fun j x y hx=>by cases hx),_,rfl,yh rfl ?_⟩
    exact⟨_,rfl,k d _ us f (s4.trans se) (se _ _ hd4) F f0⟩
   |cons z row =>
    refine .inr ⟨r,e,_,_,rfl,rfl,SqL.of (se _ _ hr4),SqL.of zd,(by simp),Nat.lt_of_le_of_lt (Nat.le_add_right _ 2) (un 0 (by omega)),_,rfl,Zl ?_⟩
    refine⟨_,fun σ' H' h=>h,?_⟩
    refine⟨_,rfl,.inl ⟨rfl,_,SqL.of (se _ _ hr4)⟩,r,_,0,0,V.int z,rfl,rfl,se _ _ hr4,by decide,by decide,(by simp[seqIndex?]),rfl,?_⟩
    have hr5:(upd (upd H4 e (HO.lst [])) r (HO.lst (((z::row).map V.int).eraseIdx 0))) r=some (.lst (row.map V.int)):=zd
    have hd5:(upd (upd H4 e (HO.lst [])) r (HO.lst (((z::row).map V.int).eraseIdx 0))) d=_:=(upd_ne nrd).trans (se _ _ hd4)
    have s5:Same H (upd (upd H4 e (HO.lst [])) r (HO.lst (((z::row).map V.int).eraseIdx 0))):=Same.updF (s4.trans se) hr00
    generalize upd (upd H4 e (HO.lst [])) r (HO.lst (((z::row).map V.int).eraseIdx 0))=H5 at *
    refine⟨_,rfl,_,rfl,q,z,rs,hs,ls,rfl,s5 _ _ hq,L.same s5,wh,wl,fun p H6 hp0 s6 hp6=>?_⟩
    refine⟨p,rfl,⟨_,SqL.of hp6⟩,?_⟩
    have npd:p≠d:=fun z=>by rw[z,hd5] at hp0;cases hp0
    have npr:p≠r:=fun z=>by rw[z,hr5] at hp0;cases hp0
    rw[List.length_cons] at hle
    refine zY (xs:=(hs.filter (adB ls z)).map V.int) (fun i σ H'=>∃ (us' row':List Int) (f':Int→Int) (o5:Option V),σ=[some (.ref q),some (.ref b),some (.ref d),some (.ref r),some (.int z),o5]∧H' d=some (.dK (tabI f' us'))∧H' r=some (.lst (row'.map V.int))∧H' p=some (.lst ((hs.filter (adB ls z)).map V.int))∧us'.Nodup∧(∀ v∈us',v∈hs)∧row'.length≤us'.length∧(∀ v∈us',0≤f' v)∧FarJ ls x y z us' row' f' ((hs.filter (adB ls z)).take i)∧Same H H'∧row'.length+2*(hs.length-us'.length)≤row.length+2*(hs.length-us.length)) ?_ ?_ ?_ ?_
    ·exact⟨us,row,f,o5,rfl,s6 _ _ hd5,s6 _ _ hr5,hp6,nd,hsub,by omega,f0,F.start,s5.trans s6,Nat.le_refl _⟩
    ·rintro i σ H' hi ⟨us',row',f',o5,_,_,_,hp',_⟩
     exact SqL.of hp'
    ·rintro i v σ H7 hi ⟨us',row',f',o5,rfl,hd7,hr7,hp7,nd',hsub',hle',f0',J,s7,hm⟩
     rw[List.getElem?_map] at hi
     obtain⟨v,hv,rfl⟩:=Option.map_eq_some_iff.mp hi
     have et:(hs.filter (adB ls z)).take (i+1)=(hs.filter (adB ls z)).take i++[v]:=by
      rw[List.take_add_one,hv]
      rfl
     have lus':=Xa nd' hsub'
     have hvh:v∈hs:=(List.mem_filter.mp (List.mem_of_getElem? hv)).1
     by_cases hvu:v∈us'
     ·refine⟨_,rfl,_,rfl,d,_,rfl,yr hd7 hvu,_,rfl,yh rfl ?_⟩
      exact⟨us',row',f',_,rfl,hd7,hr7,hp7,nd',hsub',hle',f0',by rw[et];exact J.skip hvu,s7,hm⟩
     ·refine⟨_,rfl,_,rfl,d,none,rfl,Zz hd7 hvu,_,rfl,Zl ?_⟩
      refine⟨_,rfl,_,rfl,d,_,rfl,yr hd7 J.my,_,_,rfl,rfl,_,rfl,_,rfl,d,_,rfl,DPut.k (k:=.inl v) hd7 (by unfold tabI;rw[List.length_map];exact zo (by omega)),?_⟩
      rw[X0 hvu]
      have hR:=(upd_ne (o:=HO.dK (tabI (fun y=>if y=v then f' z+1 else f' y) (us'++[v]))) nrd.symm).trans hr7
      have nd2:(us'++[v]).Nodup:=by
       rw[List.nodup_append]
       exact⟨nd',by simp,fun a ha b hb e=>hvu (by rw[List.mem_singleton.mp hb] at e;rw[← e];exact ha)⟩
      have hsub2:∀ u∈us'++[v],u∈hs:=fun u hu=>(List.mem_append.mp hu).elim (hsub' u) fun e=>by rw[List.mem_singleton.mp e];exact hvh
      have lus2:=Xa nd2 hsub2
      rw[List.length_append,List.length_singleton] at lus2
      refine⟨_,rfl,.inl ⟨rfl,_,SqL.of hR⟩,_,rfl,r,_,_,rfl,rfl,hR,(by rw[List.length_map];exact zo (by omega)),?_⟩
      refine⟨us'++[v],row'++[v],_,_,rfl,(upd_ne nrd).trans zd,?_,?_,nd2,hsub2,by simp;exact hle',fun u hu=>?_,by rw[et];exact J.add hvu,Same.updF (Same.updF s7 hd0) hr00,by simp;omega⟩
      ·rw[zd,List.map_append]
       rfl
      ·rw[upd_ne npr,upd_ne npd]
       exact hp7
      ·show 0≤if u=v then _ else _
       split
       ·have:=f0' z J.my
        omega
       ·next hne=>exact f0' u ((List.mem_append.mp hu).resolve_right fun e=>hne (List.mem_singleton.mp e))
    ·rintro σ H7 ⟨us',row',f',o5,rfl,hd7,hr7,hp7,nd',hsub',hle',f0',J,s7,hm⟩
     rw[List.length_map,List.take_length] at J
     refine⟨_,?_,us',row',f',some (.int z),o5,rfl,rfl,hd7,hr7,nd',hsub',hle',f0',J.done fun v hv=>List.mem_filter.mpr ⟨zir wl hv,hv⟩,s7⟩
     rw[List.length_cons]
     omega
end
end K04

namespace K04
open PySem L2
theorem Zw {K:PySem.W.Frag}{H:Hp}{a b:Addr}{x y:Int}{n:Nat}(ha:H a=some (.tup [.int x,.int y])) (hb:H b=some (.tup [.int x,.int y])):EqD K H (.ref a) (.ref b) true (n+1):=by
 by_cases hne:a=b
 ·subst hne;exact .same
 ·have:=EqD.tup (K:=K) (e:=fun _=>true) (n:=n) hne (SqT.of ha) (SqT.of hb) rfl fun j u v e1 e2=>by
   rw[e1] at e2;cases e2
   have:u∈[V.int x,V.int y]:=List.mem_of_getElem? e1
   simp only[List.mem_cons,List.not_mem_nil,or_false] at this
   rcases this with rfl | rfl
   ·exact xS rfl
   ·exact xS rfl
  have e:((List.range [V.int x,V.int y].length).all fun _=>true)=true:=by simp
  rw[e] at this
  exact this
theorem LnAt.eqD {K:PySem.W.Frag}{H:Hp}{rs zs:List V}{ls:List (Int×Int)}{n:Nat}(h1:LnAt H rs ls) (h2:LnAt H zs ls):∀ (j:Nat) x y,rs[j]?=some x→zs[j]?=some y→EqD K H x y ((fun _=>true) j) (n+1):=fun j x y e1 e2=>by
 obtain⟨p,q,hp,rfl,hq⟩:=h1.get e1
 obtain⟨p',q',hp',rfl,hq'⟩:=h2.get e2
 rw[hp] at hp'
 cases hp'
 exact Zw hq hq'
theorem WU {ad:Int→Addr}{us:List Int}{p:Key×V}(h:p∈tab ad us):∃ x∈us,p=(Sum.inl x,V.ref (ad x)):=by
 unfold tab at h
 obtain⟨x,hx,e⟩:=List.mem_map.mp h
 exact⟨x,hx,e.symm⟩
theorem ZA {f:Int→Int}{us:List Int}{p:Key×V}(h:p∈tabI f us):∃ x∈us,p=(Sum.inl x,V.int (f x)):=by
 unfold tabI at h
 obtain⟨x,hx,e⟩:=List.mem_map.mp h
 exact⟨x,hx,e.symm⟩
section
variable {X:Cx}
theorem zn0 {H:Hp}{q q':Addr}{f:Int→Int}{hs:List Int}(h1:H q=some (.dK (tabI f hs))) (h2:H q'=some (.dK (tabI f hs))):EqP X H (.ref q) (.ref q') true 2:=by
 have i:∀ p∈tabI f hs,∃ i,p.1=Sum.inl i:=fun p hp=>by
  obtain⟨x,_,rfl⟩:=ZA hp
  exact⟨x,rfl⟩
 refine EqP.dct h1 h2 rfl i i fun p hp=>?_
 obtain⟨x,hx,rfl⟩:=ZA hp
 exact⟨_,vR hx,EqP.of (xS rfl)⟩
theorem zn1 {H:Hp}{q q':Addr}{ad ad':Int→Addr}{g:Int→List (Int×Int)}{hs:List Int}(h1:HrAt H q ad hs g) (h2:HrAt H q' ad' hs g):EqP X H (.ref q) (.ref q') true 6:=by
 have i:∀ ad p,p∈tab ad hs→∃ i,p.1=Sum.inl i:=fun ad p hp=>by
  obtain⟨x,_,rfl⟩:=WU hp
  exact⟨x,rfl⟩
 refine EqP.dct h1.q h2.q (by unfold tab;rw[List.length_map,List.length_map]) (i ad) (i ad') fun p hp=>?_
 obtain⟨x,hx,rfl⟩:=WU hp
 obtain⟨rs,e1,l1,_⟩:=h1.at_ x hx
 obtain⟨zs,e2,l2,_⟩:=h2.at_ x hx
 exact⟨_,Zy hx,EqP.lst (SqL.of e1) (SqL.of e2) (l1.1.trans l2.1.symm) fun j u v z1 z2=>EqP.of (LnAt.eqD (n:=1) l1 l2 j u v z1 z2)⟩
end
theorem LnAt.rev {H:Hp}{rs:List V}{ls:List (Int×Int)}(h:LnAt H rs ls):LnAt H rs.reverse ls.reverse:=by
 refine⟨by simp[h.1],fun i r p e1 e2=>?_⟩
 have hi:i<rs.length:=by
  have:=(List.getElem?_eq_some_iff.mp e1).1
  simpa using this
 have l:=h.1
 rw[List.getElem?_reverse hi] at e1
 rw[List.getElem?_reverse (by omega),← l] at e2
 exact h.2 _ r p e1 e2
theorem Ls.rev {hs:List Int}{ls:List (Int×Int)}(h:Ls hs ls):Ls hs ls.reverse:=⟨(List.reverse_perm ls).nodup_iff.mpr h.nd,fun p hp=>h.ok p (List.mem_reverse.mp hp),by rw[List.length_reverse];exact h.le⟩
theorem Vq {ls:List (Int×Int)}:adB ls.reverse=adB ls:=ziq fun p=>List.mem_reverse
noncomputable def Zn (ls:List (Int×Int)) (c:Int×Int):List (Int×Int):=ls.filter fun p=>!(decide (p.1=c.1)&&decide (p.2=c.2))
theorem cut_mem {ls:List (Int×Int)}{c p:Int×Int}:p∈Zn ls c↔p∈ls∧p≠c:=by
 unfold Zn
 rw[List.mem_filter]
 refine and_congr_right fun _=>?_
 rw[Bool.not_eq_true',Bool.and_eq_false_iff,decide_eq_false_iff_not,decide_eq_false_iff_not]
 constructor
 ·rintro(h | h) rfl
  ·exact h rfl
  ·exact h rfl
 ·intro h
  by_cases e:p.1=c.1
  ·exact .inr fun e2=>h (Prod.ext e e2)
  ·exact .inl e
theorem Ls.cut {hs:List Int}{ls:List (Int×Int)}{c:Int×Int}(h:Ls hs ls):Ls hs (Zn ls c):=⟨h.nd.filter _,fun p hp=>h.ok p (cut_mem.mp hp).1,Nat.le_trans (List.length_filter_le _ _) h.le⟩
theorem Vn {ls:List (Int×Int)}{c:Int×Int} (x y:Int) (h:¬ ((x=c.1∧y=c.2)∨(x=c.2∧y=c.1))):adB (Zn ls c) x y=adB ls x y:=by
 have h1:(x,y)≠c:=fun e=>h (.inl (by rw[← e];exact⟨rfl,rfl⟩))
 have h2:(y,x)≠c:=fun e=>h (.inr (by rw[← e];exact⟨rfl,rfl⟩))
 unfold adB
 congr 1
 ·exact decide_eq_decide.mpr ⟨fun z=>(cut_mem.mp z).1,fun z=>cut_mem.mpr ⟨z,h1⟩⟩
 ·exact decide_eq_decide.mpr ⟨fun z=>(cut_mem.mp z).1,fun z=>cut_mem.mpr ⟨z,h2⟩⟩
end K04

namespace K04
open PySem L2
theorem sqSm {K:PySem.W.Frag}{H H':Hp}{a:Addr}{xs:List V}(h:SqL K H a xs) (s:Same H H'):SqL K H' a xs:=by
 rcases h with(h | ⟨o,h⟩) | h
 ·exact .inl (.inl (s _ _ h))
 ·exact .inl (.inr ⟨o,s _ _ h⟩)
 ·exact .inr h
section
variable {P:Program}{w:World}{K:PySem.W.Frag}{mg:Str→Option Value}{base:Heap}{a:Ad}
def spLaw (K:PySem.W.Frag):Sp:=fun vs H Q _=>∃ (a:Addr) (ns:List Int),vs=[.ref a]∧SqL K H a (ns.map V.int)∧ns.length≤63∧∀ H',Q (.bl true) H'
theorem sp_law_of {K:PySem.W.Frag}{H:Hp}{a:Addr}{ns:List Int}(hl:ns.length≤63) (hO:zis H) (hS:SqL K H a (ns.map V.int)):spLaw K [.ref a] H (fun v _=>v=.bl true) fun _ _ _=>False:=⟨a,ns,rfl,hS,hl,fun _=>rfl⟩
theorem ok_law (T:Txt w K mg a):FnOk P w K mg base CX0 26 a.f_qG a.d_qG ["_law_script"] (spLaw K):=by
 have c_qt:Callee P w K mg base "_law_cell_at" a.f_qt a.d_qt ["_law_script", "_law_k"] 1 (W3 K):=⟨V4 T,T.g_qt,T.F_qt.kp,T.b_qt⟩
 have c_qu:Callee P w K mg base "_law_draws" a.f_qu a.d_qu ["_law_cell", "_law_many"] 1 ww:=⟨wF T,T.g_qu,T.F_qu.kp,T.b_qu⟩
 have c_qw:Callee P w K mg base "_law_hands" a.f_qw a.d_qw ["_law_xs", "_law_most"] 2 zuQ:=⟨zm4 T,T.g_qw,T.F_qw.kp,T.b_qw⟩
 have c_qx:Callee P w K mg base "_law_lines" a.f_qx a.d_qx ["_law_xs", "_law_hands_here"] 2 zuP:=⟨zm3 T,T.g_qx,T.F_qx.kp,T.b_qx⟩
 have c_qA:Callee P w K mg base "_law_program" a.f_qA a.d_qA ["_law_cell"] 6 zuN:=⟨zm1 T,T.g_qA,T.F_qA.kp,T.b_qA⟩
 have c_qD:Callee P w K mg base "_law_program_made" a.f_qD a.d_qD ["_law_program_here"] 24 (zuL a):=⟨zmZ T,T.g_qD,T.F_qD.kp,T.b_qD⟩
 have c_qE:Callee P w K mg base "_law_rounds" a.f_qE a.d_qE ["_law_cell", "_law_hands_here"] 2 uy:=⟨YQ T,T.g_qE,T.F_qE.kp,T.b_qE⟩
 have c_qv:Callee P w K mg base "_law_take" a.f_qv a.d_qv ["_law_xs", "_law_size"] 1 xG:=⟨xj T,T.g_qv,T.F_qv.kp,T.b_qv⟩
 have c_qF:Callee P w K mg base "_law_far" a.f_qF a.d_qF ["_law_lines_here", "_law_begins"] 2 zfV:=⟨zgu T,T.g_qF,T.F_qF.kp,T.b_qF⟩
 have c_qg:Callee P w K mg base "plain_worths" a.f_qg a.d_qg ["web", "program", "rounds"] 14 (zuK a):=⟨zmY T,T.g_qg,T.F_qg.kp,T.b_qg⟩
 have c_qh:Callee P w K mg base "plain_heard" a.f_qh a.d_qh ["web", "program", "rounds"] 14 (zuM a):=⟨zm0 T,T.g_qh,T.F_qh.kp,T.b_qh⟩
 have m_Web:Maker P w K mg base "Web" a.c_Web a.f_qa0 a.d_qa0 ["self", "hands", "lines"] 4 (zfR a):=⟨zgp T,T.g_Web,T.mk_Web,T.b_qa0⟩
 refine T.F_qG.ok sc_qG (fun vs H Q E h=>?_) (fun cdv A outer s H vs Q E hr h=>?_)
 ·obtain⟨x,ns,rfl,_⟩:=h
  rfl
 ·obtain⟨sc,ns,rfl,hS,hlen,k⟩:=h
  have hu:=xk hr
  have un:∀ n:Nat,n≤6→(A.deeper (PyProof.Rows.envOfC "law" (defScope uZ) s.heap.objs.size a.f_qG cdv)).units+n+2<cLine:=fun n hn=>by
   have:=hr.units
   omega
  refine zB (w_pss_cons (zj (i:=1) sc_qG.nd rfl (Or.inl rfl) (zk c_qu (hr.mono (by omega)) (zy (zk c_qt (hr.mono (by omega)) (w_pa_N (w_pv 0) (zn ze w_pa_nil))) (zn ze w_pa_nil))))
   (w_pss_cons (zj (i:=2) sc_qG.nd rfl (Or.inl rfl) (zk c_qw (hr.mono (by omega)) (w_pa_N (w_pv 1) (zn ze w_pa_nil))))
   (w_pss_cons (zj (i:=3) sc_qG.nd rfl (Or.inl rfl) (zk c_qx (hr.mono (by omega)) (w_pa_N (w_pv 1) (w_pa_N (w_pv 2) w_pa_nil))))
   (w_pss_cons (zj (i:=4) sc_qG.nd rfl (Or.inl rfl) (zk c_qD (hr.mono (by omega)) (zy (zk c_qA (hr.mono (by omega)) (zy (zk c_qt (hr.mono (by omega)) (w_pa_N (w_pv 0) (zn ze w_pa_nil))) w_pa_nil)) w_pa_nil)))
   (w_pss_cons (zj (i:=5) sc_qG.nd rfl (Or.inl rfl) (zk c_qE (hr.mono (by omega)) (zy (zk c_qt (hr.mono (by omega)) (w_pa_N (w_pv 0) (zn ze w_pa_nil))) (w_pa_N (w_pv 2) w_pa_nil))))
   (w_pss_cons (zj (i:=6) sc_qG.nd rfl (Or.inl rfl) (zk c_qg (hr.mono (by omega)) (zy (yG m_Web (hr.mono (by omega)) (w_pa_N (w_pv 2) (w_pa_N (w_pv 3) w_pa_nil))) (w_pa_N (w_pv 4) (w_pa_N (w_pv 5) w_pa_nil)))))
   (w_pss_cons (zj (i:=7) sc_qG.nd rfl (Or.inl rfl) (zk c_qh (hr.mono (by omega)) (zy (yG m_Web (hr.mono (by omega)) (w_pa_N (w_pv 2) (w_pa_N (w_pv 3) w_pa_nil))) (w_pa_N (w_pv 4) (w_pa_N (w_pv 5) w_pa_nil)))))
   (w_pss_cons (zj (i:=8) sc_qG.nd rfl (Or.inl rfl) (yG m_Web (hr.mono (by omega)) (w_pa_N (w_pv 2) (zg (XV (w_pv 3) (wq va ze)) w_pa_nil))))
   (w_pss_cons (w_ps_if (ziu (Zo (w_pt_cmpR Vd (zk c_qg (hr.mono (by omega)) (w_pa_N (w_pv 8) (w_pa_N (w_pv 4) (w_pa_N (w_pv 5) w_pa_nil)))) (w_pv 6) (zw _)) (ul (w_pt_cmpR Vd (zk c_qh (hr.mono (by omega)) (w_pa_N (w_pv 8) (w_pa_N (w_pv 4) (w_pa_N (w_pv 5) w_pa_nil)))) (w_pv 7) (zw _)))))
    (zf (zh yo))
    zm)
   (w_pss_cons (w_ps_if (w_pt_cmpR (YO Ve Vf) (w_pv 3) (zv w_pa_nil) (zw _))
    (zf (zh yo))
    zm)
   (w_pss_cons (zM PassesOwn.never rfl (zT rfl T.n_range (zn ze w_pa_nil)) (zt (i:=9) sc_qG.nd rfl (Or.inl rfl))
    (w_pss_cons (zj (i:=10) sc_qG.nd rfl (Or.inr rfl) (zu zF (w_pv 3) (zk c_qv (hr.mono (by omega)) (zy (zk c_qu (hr.mono (by omega)) (zy (zk c_qt (hr.mono (by omega)) (w_pa_N (w_pv 0) (zU (zi yf ze (w_pv 9)) w_pa_nil))) (zn ze w_pa_nil))) (zy (w_pe_callB zr (by rfl) T.n_len yb (w_pa_N (w_pv 3) w_pa_nil)) w_pa_nil))) (fun _ _=>rfl)))
    (w_pss_cons (zj (i:=11) sc_qG.nd rfl (Or.inl rfl) (yG m_Web (hr.mono (by omega)) (w_pa_N (w_pv 2) (zg (ye rfl (N':=["_law_line", "_law_cut"]) (t:=1) (caps:=[10]) ⟨rfl,rfl,rfl⟩ (zC (w_pv 3)) (fun _=>(zt (i:=0) (show(["_law_line", "_law_cut"]:List Str).Nodup by decide +kernel) rfl (Or.inl rfl))) (fun _=>(xA (w_pt_cmpR YN (w_pv 0) (w_pv 1) (zw _)))) (fun _=>(w_pv 0))) w_pa_nil))))
    (w_pss_cons (zj (i:=12) sc_qG.nd rfl (Or.inl rfl) (zk c_qg (hr.mono (by omega)) (w_pa_N (w_pv 11) (w_pa_N (w_pv 4) (w_pa_N (w_pv 5) w_pa_nil)))))
    (w_pss_cons (zj (i:=13) sc_qG.nd rfl (Or.inl rfl) (zk c_qh (hr.mono (by omega)) (w_pa_N (w_pv 11) (w_pa_N (w_pv 4) (w_pa_N (w_pv 5) w_pa_nil)))))
    (w_pss_cons (zj (i:=14) sc_qG.nd rfl (Or.inl rfl) (zk c_qF (hr.mono (by omega)) (w_pa_N (w_pv 3) (zy (zG ym (by rfl) T.n_list xm (w_pa_N (w_pv 10) w_pa_nil)) w_pa_nil))))
    (zf (zM PassesOwn.never rfl (zC (w_pv 2)) (zt (i:=15) sc_qG.nd rfl (Or.inl rfl))
     (zf (zM PassesOwn.never rfl (zT rfl T.n_range (zy (w_pe_callB (xT rfl) (by rfl) T.n_min bt_min (zU (zi yf (w_pv 5) ze) (zy (uS hu (w_pv 14) (w_pv 15) (zi yf (w_pv 5) ze) ⟨rfl,rfl,rfl,rfl⟩) w_pa_nil))) w_pa_nil)) (zt (i:=16) sc_qG.nd rfl (Or.inl rfl))
      (w_pss_cons (w_ps_if (w_pt_cmpR zgm (zO hu (zu zF (w_pv 6) (w_pv 16) (fun _ _=>rfl)) (w_pv 15) (fun _ _=>rfl)) (zO hu (zu zF (w_pv 12) (w_pv 16) (fun _ _=>rfl)) (w_pv 15) (fun _ _=>rfl)) (zw _))
       (zf (zh yo))
       zm)
      (zf (w_ps_if (ziu (um (w_pt_cmpR op_gt (w_pv 16) ze (zw _)) (wW (w_pt_cmpR YN (zO hu (zu zF (w_pv 7) (zi ya (w_pv 16) ze) (fun _ _=>rfl)) (w_pv 15) (fun _ _=>rfl)) (zO hu (zu zF (w_pv 13) (zi ya (w_pv 16) ze) (fun _ _=>rfl)) (w_pv 15) (fun _ _=>rfl)) (zw _)))))
       (zf (zh yo))
       zm)))))))))))))
   (zf (zh yo))))))))))))) ?_
  refine⟨_,rfl,sc,ns,0,rfl,hS,by decide,fun c0=>?_⟩
  refine⟨c0,90,rfl,by decide,fun l H1 hl0 s1 y1=>?_⟩
  refine⟨_,rfl,l,rfl,s1,fun h hs H2 hh0 hh wh s2 x2=>?_⟩
  have hne:=s1.ne hh0
  refine⟨_,rfl,_,rfl,l,h,hs,rfl,s2,hh,hne,wh,fun q rs ls H3 hq L wl s3 x3=>?_⟩
  have S3:Same H H3:=fun b o e=>(x2.trans x3) b o (y1 b o e) fun z=>by rw[z,hl0] at e;cases e
  have hh3:=x3 _ _ hh hne
  refine⟨_,rfl,sc,ns,1,rfl,sqSm hS S3,by decide,fun c1=>?_⟩
  refine⟨c1,rfl,fun q4 v1 v2 v3 v4 e1 e2 e3 e4 H4 hq4 F4 s4=>?_⟩
  refine⟨q4,v1,v2,v3,v4,e1,e2,e3,e4,rfl,hq4,F4,fun r H5 hP s5=>?_⟩
  have s35:=s4.trans s5
  have hh5:=s35 _ _ hh3
  refine⟨_,rfl,sc,ns,2,rfl,sqSm hS (S3.trans s35),by decide,fun c2=>?_⟩
  refine⟨_,rfl,c2,h,hs,rfl,hh5,wh,fun n H6 hn s6=>?_⟩
  have s36:=s35.trans s6
  have hP6:=ProgAt.same s6 hP
  have hh6:=s36 _ _ hh3
  have hq6:=s36 _ _ hq
  have L6:=L.same s36
  refine⟨_,rfl,_,rfl,fun x dx nx ndx nex=>?_⟩
  have m6:Same H6 (upd (upd H6 dx (.own x)) x (.ins a.c_Web dx [])):=(Same.new ndx).updF nx
  refine⟨x,dx,h,q,rs,hs,ls,rfl,zd,m6 _ _ hh6,m6 _ _ hq6,L6.same m6,wh,wl,fun oh ol d ad H7 x7 W7=>?_⟩
  have s7:Same H6 H7:=fun b o e=>x7 b o (m6 b o e) (ne_of_none e nx)
  refine⟨rfl,_,rfl,_,rfl,x,hs,ls,r,e1,e2,e3,e4,n,rfl,⟨wh,wl,dx,oh,ol,d,ad,W7⟩,ProgAt.same s7 hP6,by omega,fun pw ws gs' H8 s8 hpw R8=>?_⟩
  have s68:=s7.trans s8
  refine⟨_,rfl,_,rfl,fun x' dx' nx' ndx' nex'=>?_⟩
  have m8:Same H8 (upd (upd H8 dx' (.own x')) x' (.ins a.c_Web dx' [])):=(Same.new ndx').updF nx'
  refine⟨x',dx',h,q,rs,hs,ls,rfl,zd,m8 _ _ (s68 _ _ hh6),m8 _ _ (s68 _ _ hq6),(L6.same s68).same m8,wh,wl,fun oh' ol' d' ad' H9 x9 W9=>?_⟩
  have s9:Same H8 H9:=fun b o e=>x9 b o (m8 b o e) (ne_of_none e nx')
  have s69:=s68.trans s9
  refine⟨rfl,_,rfl,_,rfl,x',hs,ls,r,e1,e2,e3,e4,n,rfl,⟨wh,wl,dx',oh',ol',d',ad',W9⟩,ProgAt.same s69 hP6,by omega,fun pg ws' gs H10 s10 hpg R10=>?_⟩
  have s8t:=s9.trans s10
  have st:=s69.trans s10
  have hpwt:=s8t _ _ hpw
  have R8t:=R8.same s8t
  have hht:=st _ _ hh6
  have hqt:=st _ _ hq6
  have Lt:=L6.same st
  have hPt:=ProgAt.same st hP6
  have l12:=wh.l12
  refine⟨_,rfl,_,rfl,_,rfl,rfl,q,_,rfl,SqL.of hqt,fun pr hpr=>fun x2 dx2 nx2 ndx2 nex2=>?_⟩
  have y11:=Same.new (o:=HO.lst rs.reverse) hpr
  have hpr11:=zd (H:=H10) (a:=pr) (o:=HO.lst rs.reverse)
  generalize upd H10 pr (HO.lst rs.reverse)=H11 at *
  have m11:Same H11 (upd (upd H11 dx2 (.own x2)) x2 (.ins a.c_Web dx2 [])):=(Same.new ndx2).updF nx2
  refine⟨x2,dx2,h,pr,rs.reverse,hs,ls.reverse,rfl,zd,m11 _ _ (y11 _ _ hht),m11 _ _ hpr11,((Lt.same y11).rev).same m11,wh,wl.rev,fun oh2 ol2 d2 ad2 H12 x12 W12=>?_⟩
  have s12:Same H10 H12:=y11.trans (fun b o e=>x12 b o (m11 b o e) (ne_of_none e nx2))
  refine⟨rfl,?_⟩
  refine⟨_,rfl,_,rfl,_,rfl,x2,hs,ls.reverse,r,e1,e2,e3,e4,n,rfl,⟨wh,wl.rev,dx2,oh2,ol2,d2,ad2,W12⟩,ProgAt.same s12 hPt,by omega,fun pw2 ws2 gs2 H13 s13 hpw2 R13=>?_⟩
  have S13:=s12.trans s13
  have R13t:=R8t.same S13
  refine⟨_,rfl,pw2,pw,_,_,2,rfl,rfl,.inl ⟨SqL.of hpw2,SqL.of (S13 _ _ hpwt)⟩,by rw[List.length_map,List.length_map,R13.lw,R8.lw],un 2 (by omega),fun j u v hu hv=>?_,?_⟩
  ·rw[List.getElem?_map] at hu hv
   obtain⟨u,h1,rfl⟩:=Option.map_eq_some_iff.mp hu
   obtain⟨v,h2,rfl⟩:=Option.map_eq_some_iff.mp hv
   have h1:=R13.w j u h1
   rw[Vs Vq] at h1
   exact zn0 h1 (R13t.w j v h2)
  refine⟨_,rfl,yh rfl ?_⟩
  refine⟨_,rfl,_,rfl,_,rfl,x2,hs,ls.reverse,r,e1,e2,e3,e4,n,rfl,⟨wh,wl.rev,dx2,oh2,ol2,d2,ad2,W12.same s13⟩,ProgAt.same S13 hPt,by omega,fun pg2 ws3 gs3 H14 s14 hpg2 R14=>?_⟩
  have S14:=S13.trans s14
  have R14t:=R10.same S14
  refine⟨_,rfl,pg2,pg,_,_,6,rfl,rfl,.inl ⟨SqL.of hpg2,SqL.of (S14 _ _ hpg)⟩,by rw[List.length_map,List.length_map,R14.lg,R10.lg],un 6 (by omega),fun j u v hu hv=>?_,?_⟩
  ·rw[List.getElem?_map] at hu hv
   obtain⟨u,h1,rfl⟩:=Option.map_eq_some_iff.mp hu
   obtain⟨v,h2,rfl⟩:=Option.map_eq_some_iff.mp hv
   obtain⟨a1,h1⟩:=R14.g j u h1
   obtain⟨a2,h2⟩:=R14t.g j v h2
   rw[znY Vq] at h1
   exact zn1 h1 h2
  refine⟨_,rfl,yh rfl ?_⟩
  refine⟨_,rfl,(by show 0≤sizeLine;decide),fun e he=>?_⟩
  have S15:=S14.trans (Same.new (o:=HO.lst []) he)
  have he15:=zd (H:=H14) (a:=e) (o:=HO.lst [])
  generalize upd H14 e (HO.lst [])=H15 at *
  have hq15:=S15 _ _ hqt
  by_cases hrs:rs=[]
  ·subst hrs
   refine .inl ⟨q,e,_,_,fun _=>true,0,rfl,rfl,.inl ⟨SqL.of hq15,SqL.of he15⟩,rfl,un 0 (by omega),(fun j x y hx=>by cases hx),_,rfl,Zl ?_⟩
   exact k _
  have hlen1:0<rs.length:=List.length_pos_iff.mpr hrs
  refine .inr ⟨q,e,_,_,rfl,rfl,SqL.of hq15,SqL.of he15,(by simp[hrs]),Nat.lt_of_le_of_lt (Nat.le_add_right _ 2) (un 0 (by omega)),_,rfl,yh rfl ?_⟩
  have l66:=wl.le
  have lL:=L.1
  refine⟨2,rfl,by decide,by decide,?_⟩
  refine for_range (lo:=0) (n:=2) (fun i σ H'=>∃ o9 o10 o11 o12 o13 o14 o15 o16:Option V,σ=[some (.ref sc),some (.ref l),some (.ref h),some (.ref q),some r,some (.int (n:Int)),some (.ref pw),some (.ref pg),some (.ref x2),o9,o10,o11,o12,o13,o14,o15,o16]∧Same H10 H') ?_ ?_ ?_
  ·exact⟨_,_,_,_,_,_,_,_,rfl,S15⟩
  ·rintro i σ H16 hi ⟨o9,o10,o11,o12,o13,o14,o15,o16,rfl,s16⟩
   refine⟨_,rfl,_,rfl,_,rfl,_,_,rfl,rfl,sc,ns,_,rfl,sqSm hS ((S3.trans s36).trans (st.trans s16)),by omega,fun c3=>?_⟩
   refine⟨c3,1,rfl,by decide,fun l3 H17 hl3 s17 y17=>?_⟩
   have S17:=s16.trans y17
   refine⟨_,rfl,q,_,rfl,.inl (SqL.of (S17 _ _ hqt)),l3,_,rfl,s17,by omega,fun i3 H18 i0 i1 s18 x18=>?_⟩
   have S18:Same H10 H18:=fun b o e=>x18 b o (S17 b o e) (ne_of_none (s16 b o e) hl3)
   obtain⟨i3,rfl⟩:∃ j:Nat,i3=j:=⟨i3.toNat,by omega⟩
   have hi3:i3<rs.length:=by omega
   obtain⟨c,qc,hc,hvc,hqc⟩:=Lt.get (List.getElem?_eq_getElem hi3)
   have hcm:=List.mem_of_getElem? hc
   obtain⟨c1h,c2h,c12⟩:=wl.ok c hcm
   refine⟨q,_,_,_,rfl,rfl,SqL.of (S18 _ _ hqt),yB (List.getElem?_eq_getElem hi3),?_⟩
   rw[hvc]
   refine⟨_,rfl,_,rfl,q,rfl,⟨_,SqL.of (S18 _ _ hqt)⟩,fun D hD _=>?_⟩
   refine zZ (K:=K) (a:=q) (xs:=rs) (fun j zs τ H'=>∃ o,τ=[o,some (.ref qc)]∧LnAt H' zs (Zn (ls.take j) c)∧H' D=some (.lst zs)∧Same H18 H') ?_ ?_ ?_ ?_
   ·exact⟨none,rfl,⟨rfl,fun i r p e=>by cases e⟩,zd,Same.new hD⟩
   ·rintro j zs τ H' ⟨o,_,_,_,sm⟩
    exact SqL.of (sm _ _ (S18 _ _ hqt))
   ·rintro j v zs τ H' hj ⟨o,rfl,Lz,hD',sm⟩
    have S':=S18.trans sm
    obtain⟨p,q1,hp,rfl,hq1⟩:=(Lt.same S').get hj
    refine⟨_,rfl,_,rfl,q1,qc,_,_,fun m=>[decide (p.1=c.1),decide (p.2=c.2)].getD m true,0,rfl,rfl,.inr ⟨SqT.of hq1,SqT.of (S' _ _ hqc)⟩,rfl,?_,?_,?_⟩
    ·exact un 0 (by omega)
    ·intro m u v h1 h2
     rcases m with _ | _ | m
     ·cases h1;cases h2
      have:=EqD.flat (K:=K) (H:=H') (n:=0) (x:=V.int p.1) (y:=V.int c.1) rfl rfl
      rwa [show eqV (V.int p.1) (V.int c.1)=decide (p.1=c.1) from rfl] at this
     ·cases h1;cases h2
      have:=EqD.flat (K:=K) (H:=H') (n:=0) (x:=V.int p.2) (y:=V.int c.2) rfl rfl
      rwa [show eqV (V.int p.2) (V.int c.2)=decide (p.2=c.2) from rfl] at this
     ·cases h1
    ·have ec:Zn (ls.take (j+1)) c=Zn (ls.take j) c++if (decide (p.1=c.1)&&decide (p.2=c.2))=true then[] else[p]:=by
      unfold Zn
      rw[List.take_add_one,hp]
      show((ls.take j)++[p]).filter _=_
      rw[List.filter_append,List.filter_cons,List.filter_nil]
      congr 1
      cases decide (p.1=c.1)&&decide (p.2=c.2)<;>rfl
     have eb:((List.range [V.int p.1,V.int p.2].length).all fun m=>[decide (p.1=c.1),decide (p.2=c.2)].getD m true)=(decide (p.1=c.1)&&decide (p.2=c.2)):=by
      show((List.range 2).all _)=_
      simp[List.range_succ]
     rw[if_pos rfl,eb]
     refine⟨_,rfl,?_⟩
     have zl:=Lz.1
     have zl2:(Zn (ls.take j) c).length≤66:=Nat.le_trans (List.length_filter_le _ _) (Nat.le_trans (List.length_take_le' _ _) l66)
     refine ite2 (fun z=>?_) (fun z=>?_)
     ·refine⟨_,rfl,hD',zo (by omega),_,rfl,?_,zd,Same.updF sm hD⟩
      rw[ec,if_neg (by rw[Bool.not_eq_true'] at z;rw[z];decide)]
      exact LnAt.updL hD' (Lz.snoc hq1)
     ·refine⟨_,rfl,?_,hD',sm⟩
      rw[ec,if_pos (by rw[Bool.not_eq_true',Bool.not_eq_false] at z;exact z),List.append_nil]
      exact Lz
   ·rintro zs τ H19 ⟨o,rfl,Lz,hDz,sm⟩
    rw[lL,List.take_length] at Lz
    have S19:=S18.trans sm
    refine fun x3 dx3 nx3 ndx3 nex3=>?_
    have m19:Same H19 (upd (upd H19 dx3 (.own x3)) x3 (.ins a.c_Web dx3 [])):=(Same.new ndx3).updF nx3
    refine⟨x3,dx3,h,D,zs,hs,Zn ls c,rfl,zd,m19 _ _ (S19 _ _ hht),m19 _ _ hDz,Lz.same m19,wh,wl.cut,fun oh3 ol3 d3 ad3 H20 x20 W20=>?_⟩
    have S20:Same H10 H20:=fun b o e=>x20 b o (m19 b o (S19 b o e)) (ne_of_none (S19 b o e) nx3)
    refine⟨rfl,?_⟩
    refine⟨_,rfl,_,rfl,_,rfl,x3,hs,Zn ls c,r,e1,e2,e3,e4,n,rfl,⟨wh,wl.cut,dx3,oh3,ol3,d3,ad3,W20⟩,ProgAt.same S20 hPt,by omega,fun pw3 ws3 gs3 H21 s21 hpw3 R21=>?_⟩
    have S21:=S20.trans s21
    refine⟨_,rfl,_,rfl,_,rfl,x3,hs,Zn ls c,r,e1,e2,e3,e4,n,rfl,⟨wh,wl.cut,dx3,oh3,ol3,d3,ad3,W20.same s21⟩,ProgAt.same S21 hPt,by omega,fun pg3 ws4 gs4 H22 s22 hpg3 R22=>?_⟩
    have S22:=S21.trans s22
    refine⟨_,rfl,_,rfl,qc,_,rfl,.inr (SqT.of (S22 _ _ hqc)),fun lb hlb=>?_⟩
    have y23:=Same.new (o:=HO.lst [V.int c.1,V.int c.2]) hlb
    have S23:=S22.trans y23
    refine⟨q,lb,c.1,c.2,rs,hs,ls,rfl,S23 _ _ hqt,zd,Lt.same S23,wh,wl,c1h,c2h,by omega,fun df H24 us f s24 hdf F f0=>?_⟩
    have S24:=S23.trans s24
    have t22:=y23.trans s24
    have hpw24:=(s22.trans t22) _ _ hpw3
    have hpg24:=t22 _ _ hpg3
    have Ra:=R8t.same S24
    have Rb:=R10.same S24
    have Rc:=R21.same (s22.trans t22)
    have Rd:=R22.same t22
    have hpwa:=S24 _ _ hpwt
    have hpgb:=S24 _ _ hpg
    have hh24:=S24 _ _ hht
    refine⟨_,rfl,h,rfl,⟨_,SqL.of hh24⟩,?_⟩
    refine zY (xs:=hs.map V.int) (fun j σ H'=>∃ o15 o16:Option V,σ=[some (.ref sc),some (.ref l),some (.ref h),some (.ref q),some r,some (.int (n:Int)),some (.ref pw),some (.ref pg),some (.ref x2),some (.int (0+(i:Int))),some (.ref qc),some (.ref x3),some (.ref pw3),some (.ref pg3),some (.ref df),o15,o16]∧H'=H24) ?_ ?_ ?_ ?_
    ·exact⟨_,_,rfl,rfl⟩
    ·rintro j σ H' hj ⟨o15,o16,_,rfl⟩
     exact SqL.of hh24
    ·rintro j v σ H' hj ⟨o15,o16,rfl,rfl⟩
     rw[List.getElem?_map] at hj
     obtain⟨y,hy,rfl⟩:=Option.map_eq_some_iff.mp hj
     have hym:=List.mem_of_getElem? hy
     obtain⟨og,m,hg,em,m0,hm⟩:∃ (og:Option V) (m:Int),DGet H' df (V.int y) og∧og.getD (V.int ((n:Int)+1))=V.int m∧0≤m∧∀ t:Nat,(t:Int)<m→t<n+1→¬ Bn ls c.1 c.2 t y:=by
      by_cases hyu:y∈us
      ·refine⟨_,f y,yr hdf hyu,rfl,f0 y hyu,fun t ht _ b=>?_⟩
       have:=(F.far t y b).2
       omega
      ·exact⟨none,_,Zz hdf hyu,rfl,by omega,fun t _ _ b=>hyu (F.far t y b).1⟩
     refine⟨_,rfl,_,_,rfl,rfl,_,rfl,df,rfl,?_,_,rfl,_,rfl,_,_,rfl,rfl,og,hg,?_⟩
     ·exact .inl ⟨_,.inl hdf⟩
     rw[em]
     refine⟨_,_,rfl,?_⟩
     have hmn:0≤(if m<(n:Int)+1 then m else(n:Int)+1)∧(if m<(n:Int)+1 then m else(n:Int)+1)≤(n:Int)+1∧(if m<(n:Int)+1 then m else(n:Int)+1)≤m:=by split<;>omega
     generalize (if m<(n:Int)+1 then m else(n:Int)+1)=bd at *
     obtain⟨b0,b1,b2⟩:=hmn
     refine⟨bd,rfl,by omega,by omega,?_⟩
     refine for_range (lo:=0) (n:=bd.toNat) (fun t σ H2=>∃ o16:Option V,σ=[some (.ref sc),some (.ref l),some (.ref h),some (.ref q),some r,some (.int (n:Int)),some (.ref pw),some (.ref pg),some (.ref x2),some (.int (0+(i:Int))),some (.ref qc),some (.ref x3),some (.ref pw3),some (.ref pg3),some (.ref df),some (.int y),o16]∧H2=H') ?_ ?_ ?_
     ·exact⟨_,rfl,rfl⟩
     ·rintro t σ H2 ht ⟨o16,rfl,rfl⟩
      have nb:=hm t (by omega) (by omega)
      have wa:=List.getElem?_eq_getElem (l:=ws) (i:=t) (by rw[Ra.lw];omega)
      have wc:=List.getElem?_eq_getElem (l:=ws3) (i:=t) (by rw[Rc.lw];omega)
      generalize ws[t]'(by rw[Ra.lw];omega)=qa at wa
      generalize ws3[t]'(by rw[Rc.lw];omega)=qd at wc
      have e0:(0+(t:Int))=t:=by omega
      refine⟨_,rfl,_,rfl,pw,_,_,_,rfl,rfl,SqL.of hpwa,(by rw[e0];exact yB (by rw[List.getElem?_map,wa];rfl)),_,rfl,_,_,rfl,yr (Ra.w t _ wa) hym,_,rfl,_,rfl,pw3,_,_,_,rfl,rfl,SqL.of hpw24,(by rw[e0];exact yB (by rw[List.getElem?_map,wc];rfl)),_,rfl,_,_,rfl,yr (Rc.w t _ wc) hym,rfl,_,rfl,yh ?_ ?_⟩
      ·show(!decide (V.int _=V.int _))=false
       rw[ur Vn t y nb,decide_eq_true rfl]
       rfl
      refine⟨_,rfl,_,_,rfl,rfl,_,rfl,?_⟩
      cases t with
      |zero=>exact yh rfl (yh rfl ⟨_,rfl,rfl⟩)
      |succ t =>
       refine ite2 (fun _=>?_) (fun z=>absurd (decide_eq_true (show(0:Int)<0+((t+1:Nat):Int) by omega)) z)
       have ga:=List.getElem?_eq_getElem (l:=gs) (i:=t) (by rw[Rb.lg];omega)
       have gc:=List.getElem?_eq_getElem (l:=gs4) (i:=t) (by rw[Rd.lg];omega)
       generalize gs[t]'(by rw[Rb.lg];omega)=qe at ga
       generalize gs4[t]'(by rw[Rd.lg];omega)=qf at gc
       obtain⟨ae,he⟩:=Rb.g t _ ga
       obtain⟨af,hf⟩:=Rd.g t _ gc
       obtain⟨u1,z1,l1,_⟩:=he.at_ y hym
       obtain⟨u2,z2,l2,_⟩:=hf.at_ y hym
       rw[← zij Vn nb] at l2
       have e1:(0+((t+1:Nat):Int))-1=t:=by omega
       refine⟨_,rfl,_,rfl,_,_,rfl,rfl,pg,_,_,_,rfl,rfl,SqL.of hpgb,(by rw[e1];exact yB (by rw[List.getElem?_map,ga];rfl)),_,rfl,_,_,rfl,yw he.q hym,_,rfl,_,rfl,_,_,rfl,rfl,pg3,_,_,_,rfl,rfl,SqL.of hpg24,(by rw[e1];exact yB (by rw[List.getElem?_map,gc];rfl)),_,rfl,_,_,rfl,yw hf.q hym,_,_,_,_,fun _=>true,1,rfl,rfl,.inl ⟨SqL.of z1,SqL.of z2⟩,l1.1.trans l2.1.symm,un 1 (by omega),LnAt.eqD l1 l2,_,rfl,yh (by simp) ⟨_,rfl,rfl⟩⟩
     ·rintro σ H2 ⟨o16,rfl,rfl⟩
      exact⟨_,_,rfl,rfl⟩
    ·rintro σ H' ⟨o15,o16,rfl,rfl⟩
     exact⟨_,_,_,_,_,_,_,_,rfl,S24⟩
  ·rintro σ H' ⟨o9,o10,o11,o12,o13,o14,o15,o16,rfl,s16⟩
   exact k _
end
end K04

noncomputable section
def PySem.W.Fast.tw8434957058355448409:=0
def PySem.W.Fast.tw14633931826345236324:=0
def PySem.W.Fast.tw8856144728478018897:=0
def PySem.W.Fast.tw17062198468877432609:=0
def PySem.W.Fast.tw10598372733321371305:=0
def PySem.W.Fast.tw11616086253799572649:=0
def PySem.W.Fast.tw17758467707605542250:=0
def PySem.W.Fast.tw14338876466950056905:=0
def PySem.W.Fast.tw6496138341281078435:=0
def PySem.W.Fast.tw6216741656489410486:=0
def PySem.W.Fast.tw6123116592370679677:=0
def PySem.W.Fast.tw16627384631628985244:=0
def PySem.W.Fast.tw1688954305291010661:=0
def PySem.W.Fast.tw8697170791317315040:=0
def PySem.W.Fast.tw10579265108948214604:=0
def PySem.W.Fast.tw9532633636177338432:=0
def PySem.W.Fast.tw3299963512692046226:=0
def PySem.W.Fast.tw9316987155075272405:=0
def PySem.W.Fast.tw5518260327533038333:=0
def PySem.W.Fast.tw13793158388811680729:=0
def PySem.W.Fast.tw10330366778594210143:=0
def PySem.W.Fast.tw2679819212127310782:=0
def PySem.W.Fast.tw1689613642844212636:=0
def PySem.W.Fast.tw9031915412781655692:=0
def PySem.W.Fast.tw3858109914732617049:=0
namespace Hd
open PySem PySem.W PySem.Calls PyProof.Rows
variable (P:Params)
def tt {α:Type}(_:α):Bool:=true
noncomputable def S (i:Nat):Stmt:=PySem.Challenge.pw_beatless_k25_whole_no_word_goes_faster.main.body.getD i (.Pass ⟨0,0,0,0⟩)
noncomputable def en (P:Params) (x:Str) (t:Tok) (v:Value):DictEntry:=⟨PyData.keyHash P x,.str x t,v⟩
noncomputable def fd (n q:Str) (s:Stmt) (g:Addr) (cl:List (Str×Addr)) (d k c m:Value) (an:Option Addr) (cd ct:Value) (b:Addr):FuncData :=
 ⟨n,q,L2.defArgs s,.stmts (L2.defBody s),L2.defScope s,g,cl,d,k,c,m,an,cd,ct,b⟩
abbrev an:Option Value:=(Option.some (.ref 6))
noncomputable def env:Env:={ scope:=PySem.Challenge.pw_beatless_k25_whole_no_word_goes_faster.main.scope,locals:=mainNs,globals:=mainNs,cells:=[],code:=(.ref 13),frame:=some 14 }
abbrev bE:List Stmt:=behindTheImports PySem.Challenge.pw_beatless_k25_whole_no_word_goes_faster
abbrev cE:Code:=.body bE env
abbrev qE:Pos:=(Pos.mk 0 0 0 0)
abbrev B:List Frame:=[topFrame qE]
noncomputable def s0 (w:World) (os:OsState):Shared:=⟨boot_heap w.params,⟨[]⟩,boot_drawn,boot_toks,os⟩
noncomputable def zs:List Str:=List.map Str.ofString ["/claim/cut.py", "<module>", "__main__", "__name__", "beatless.exprs", "__doc__", "__package__", "__loader__", "__spec__", "__annotations__", "__builtins__", "__file__", "__cached__", "_wall", "first_worths", "heard_in", "worths_behind", "run_pieces", "worths_by_pieces", "heard_by_pieces", "plain_worths", "plain_heard", "Expr", "k", "beatless.plain", "pieces", "program", "last", "worths", "heard", "web", "rounds", "first", "turn", "__module__", "__qualname__", "__firstlineno__", "__static_attributes__", "__dict__", "__weakref__", "Num", "__init__", "reckon", "told", "words", "self", "value", "Num.__init__", "Num.reckon", "Num.told", "Num.words", "Name", "word", "Name.__init__", "Name.reckon", "Name.told", "Name.words", "Two", "one", "other", "Two.__init__", "Two.reckon", "Two.told", "Two.words", "Mod", "inner", "number", "Mod.__init__", "Mod.reckon", "Mod.told", "Mod.words", "beatless.errors", "Less", "BeatlessError", "third", "fourth", "Less.__init__", "Less.reckon", "Less.told", "Less.words", "NoWeb", "NoHand", "beatless.programs", "NoProgram", "is_whole", "START_NAMES", "SEND_NAMES", "RENEW_NAMES", "TWO_WORDS", "MOST_WORDS", "MOST_DEEP", "is_short_number", "is_word_of", "is_divisor", "are_sound", "is_sound", "count_words", "beatless.wholes", "me", "lines", "worth", "round", "to", "sum", "least", "most", "count", "add", "sub", "min", "max", "parts", "names", "deep", "part", "expr", "beatless.webs", "Program", "MOST_HANDS", "LAST_HAND", "are_hands", "is_line", "are_lines", "near_by_hand", "first_worth", "word_to", "next_worth", "start", "send", "when", "renew", "Program.__init__", "hand", "Program.first_worth", "Program.word_to", "Program.next_worth", "hands", "ahead", "line", "seen", "near", "law_beatless_k25_whole_no_word_goes_faster", "Web", "_law_cell_at", "_law_draws", "_law_take", "_law_hands", "has_hand", "has_line", "neighbours", "groups", "group_of", "Web.__init__", "Web.hands", "Web.lines", "Web.has_hand", "Web.has_line", "Web.neighbours", "Web.groups", "Web.group_of", "own_hands", "own_lines", "_law_script", "_law_k", "_law_cell", "_law_many", "_law_found", "_law_rest", "_law_number", "_law_mixed", "_law_xs", "_law_size", "_law_lines", "_law_near", "_law_expr", "_law_program", "_law_heard_names", "_law_made", "_law_program_made", "_law_rounds", "_law_far", "law", "_law_hands_here", "_law_way", "_law_j", "_law_near_here", "_law_draw", "_law_at", "_law_first", "_law_send", "_law_when", "_law_told", "_law_program_here"]
def s (n:Nat):Str:=zs.getD n ⟨#[]⟩
def k0:Value:=.type "tuple"
def k1:Value:=.type "code"
def k2:Value:=.type "function"
def k3:Value:=.type "frame"
def k4:Value:=.type "dict"
def k5:Value:=.builtin "__main__.__loader__#opaque"
def k6:Value:=.type "builtin_function_or_method"
def k7:Value:=.builtin "type.__prepare__"
def k8:Value:=.type "type"
def k9:Value:=.type "object"
def k10:Value:=.builtin "object.__new__"
def k11:Value:=.type "getset_descriptor"
def k12:Value:=.builtin "function.__dict__"
def k13:Value:=.builtin "function.__dict__#set"
def k14:Value:=.builtin "ExceptionGroup.__weakref__"
def k15:Value:=.type "super"
def k16:Value:=.builtin "object.__init_subclass__"
def k17:Value:=.type "ValueError"
def k18:Value:=.type "Exception"
def k19:Value:=.type "BaseException"
def k20:Value:=.builtin "ValueError.__new__"
noncomputable def tO (l:Array Value):Obj:=Obj.mk k0 .none (Data.seq l 0) #[]
noncomputable def vO (l:Array Value):Obj:=Obj.mk .none .none (Data.fields l) #[]
noncomputable def cO (n q:Str) (a b c:Tok) (l m:Int) (k:Int) (r1 r2 r3 r4 r5:Addr) (x:Int) (y:Tok):Obj:=Obj.mk k1 .none (Data.fields #[(.str n a),(.str q b),(.str (s 0) c),(.int l 0),(.int m 0),(.int 0 0),(.int 0 0),(.int k 0),(.ref r1),(.bool true),(.int 181 0),(.ref r2),.none,(.ref r3),(.ref r4),(.ref r5),(.int x 0),(.int l 0),(.str (s 0) y)]) #[]
noncomputable def uO (n q:Str) (z:Stmt) (m:Str) (t:Tok) (r:Addr):Obj:=Obj.mk k2 .none (Data.func (fd n q z 3 [] .none .none .none (.str m t) .none (.ref r) .none 0)) #[]
noncomputable def gO (n q:Str) (s:Stmt):Obj:=Obj.mk .none .none (Data.func (fd n q s 0 [] .none .none .none .none .none .none .none 0)) #[]
def o0 (P:Params):=tO #[]
def o1 (P:Params):=vO #[]
noncomputable def o2 (P:Params):=Obj.mk k1 .none (Data.fields #[(.str (s 1) 182),(.str (s 1) 183),(.str (s 0) 184),(.int 1 0),(.int 0 0),(.int 0 0),(.int 0 0),(.int 0 0),(.ref 11),(.bool false),(.int 181 0),(.ref 12),.none,.none,.none,.none,(.int 185 0),(.int 1 0),(.str (s 0) 186)]) #[]
noncomputable def o3 (P:Params):=Obj.mk k3 .none Data.plain #[(Option.some (.ref 13)),(Option.some (.ref 3)),(Option.some (.ref 3)),.none,(Option.some (.str (s 2) 164)),.none,(Option.some (.ref 0))]
noncomputable def t14:=BT.node (boot_o_0 P) (BT.node (boot_o_1 P) (BT.node (boot_o_3 P) (BT.node (boot_o_7 P) .nil .nil) (BT.node (o0 P) .nil .nil)) (BT.node (boot_o_5 P) (BT.node (boot_o_9 P) .nil .nil) (BT.node (o2 P) .nil .nil))) (BT.node (boot_o_2 P) (BT.node (boot_o_4 P) (BT.node (boot_o_8 P) .nil .nil) (BT.node (o1 P) .nil .nil)) (BT.node (boot_o_6 P) (BT.node (boot_o_10 P) .nil .nil) (BT.node (o3 P) .nil .nil)))
noncomputable def sa (w:World) (os:OsState):SharedT:=⟨(t14 w.params),15,(Life.mk [] [] [] 0 [] [] false #[] [] 0 false false false 0 [2000,10,10] false 0 true [] [] 0 false),⟨[]⟩,(Drawn.mk 0 0 0 0),187,os⟩
noncomputable def La (w:World) (os:OsState):Option (Shared×Thread):=topGo treeTable PySem.Challenge.pw_beatless_k25_whole_no_word_goes_faster w 11 an 12 (s0 w os) (topStub PySem.Challenge.pw_beatless_k25_whole_no_word_goes_faster)
noncomputable def Ra (w:World) (os:OsState):Option (Shared×Thread):=some ((sa w os).abs,⟨denote treeTable cE,cE,(Pos.mk 0 0 0 0),B⟩)
theorem qa:tt (Hd.La,Hd.Ra)=true:=by k_qdec
theorem ra:∀ w,Fast.tw11367235000924431832 w=Fast.tw15912052731592885781 w:=fun w=>by kernel_rfl
theorem ea (w:World) (os:OsState):Hd.La w os=Hd.Ra w os:=((congrFun (congrFun Fast.te11367235000924431832 w) os).trans (congrFun (ra w) os)).trans (congrFun (congrFun Fast.te15912052731592885781 w) os).symm
noncomputable def sb0 (w:World) (os:OsState):SharedT:=⟨(t14 w.params),15,(Life.mk [] [] [] 0 [] [] false #[] [] 0 false false false 0 [2000,10,10] false 0 true [] [] 0 false),⟨[]⟩,(Drawn.mk 0 0 0 0),187,os⟩
noncomputable def Lb (w:World) (os:OsState):Option (Flow×SharedT×Code×Pos):=segRunT treeTable PySem.Challenge.pw_beatless_k25_whole_no_word_goes_faster w 11 an 1 1 (sa w os) (blockOf bE env cE (Pos.mk 0 0 0 0) B)
noncomputable def Rb (w:World) (os:OsState):Option (Flow×SharedT×Code×Pos):=some (.next,sb0 w os,cE,(Pos.mk 0 0 0 0))
theorem qb:tt (Hd.Lb,Hd.Rb)=true:=by k_qdec
theorem rb:∀ w,Fast.tw16430817790641568776 w=Hd.Rb w:=fun w=>by kernel_rfl
theorem eb (w:World) (os:OsState):Hd.Lb w os=Hd.Rb w os:=(congrFun (congrFun Fast.te16430817790641568776 w) os).trans (congrFun (rb w) os)
noncomputable def zuI:List Stmt:=[S 0,S 1,S 2,S 3,S 4,S 5,S 6,S 7,S 8,S 9,S 10,S 11]
noncomputable def o4:=Obj.mk k4 .none (Data.dict #[en P (s 3) 165 (.str (s 4) 263),en P (s 5) 166 .none,en P (s 6) 167 .none,en P (s 7) 168 k5,en P (s 8) 169 .none,en P (s 9) 170 (.ref 6),en P (s 10) 171 (.ref 4),en P (s 11) 173 (.str (s 0) 172),en P (s 12) 174 .none,en P (s 13) 193 (.ref 21),en P (s 14) 201 (.ref 26),en P (s 15) 207 (.ref 31),en P (s 16) 213 (.ref 36),en P (s 17) 228 (.ref 43),en P (s 18) 236 (.ref 50),en P (s 19) 244 (.ref 57),en P (s 20) 253 (.ref 64),en P (s 21) 262 (.ref 71),en P (s 22) 284 (.ref 81)] 19) #[]
noncomputable def o5 (P:Params):=vO #[(.int 1 0),(.int 0 0),(.ref 20),(.int 5 0),(.int 0 0),(.ref 25),(.int 7 0),(.int 0 0),(.ref 30),(.int 16 0),(.int 0 0),(.ref 35),(.int 23 0),(.int 0 0),(.ref 42),(.int 34 0),(.int 0 0),(.ref 49),(.int 36 0),(.int 0 0),(.ref 56),(.int 38 0),(.int 0 0),(.ref 63),(.int 40 0),(.int 0 0),(.ref 70),(.int 43 0),(.int 0 0),(.ref 77)]
def o6 (P:Params):=tO #[]
def o7 (P:Params):=vO #[]
def o8 (P:Params):=tO #[(.str (s 23) 190)]
def o9 (P:Params):=tO #[]
def o10 (P:Params):=gO (s 13) (s 13) (S 0)
noncomputable def o11 (P:Params):=cO (s 13) (s 13) 187 188 189 1 1 3 15 16 17 18 19 191 192
def o12 (P:Params):=uO (s 13) (s 13) (S 0) (s 2) 164 20
def o13 (P:Params):=tO #[]
def o14 (P:Params):=vO #[]
def o15 (P:Params):=gO (s 14) (s 14) (S 2)
noncomputable def o16 (P:Params):=Obj.mk k1 .none (Data.fields #[(.str (s 14) 196),(.str (s 14) 197),(.str (s 0) 198),(.int 5 0),(.int 2 0),(.int 0 0),(.int 0 0),(.int 3 0),(.ref 22),(.bool true),(.int 181 0),(.ref 23),.none,.none,.none,(.ref 24),(.int 199 0),(.int 5 0),(.str (s 0) 200)]) #[]
def o17 (P:Params):=uO (s 14) (s 14) (S 2) (s 24) 194 25
def o18 (P:Params):=tO #[]
def o19 (P:Params):=vO #[]
def o20 (P:Params):=gO (s 15) (s 15) (S 3)
noncomputable def o21 (P:Params):=Obj.mk k1 .none (Data.fields #[(.str (s 15) 202),(.str (s 15) 203),(.str (s 0) 204),(.int 7 0),(.int 4 0),(.int 0 0),(.int 0 0),(.int 3 0),(.ref 27),(.bool true),(.int 181 0),(.ref 28),.none,.none,.none,(.ref 29),(.int 205 0),(.int 7 0),(.str (s 0) 206)]) #[]
def o22 (P:Params):=uO (s 15) (s 15) (S 3) (s 24) 194 30
def o23 (P:Params):=tO #[]
def o24 (P:Params):=vO #[]
def o25 (P:Params):=gO (s 16) (s 16) (S 4)
noncomputable def o26 (P:Params):=Obj.mk k1 .none (Data.fields #[(.str (s 16) 208),(.str (s 16) 209),(.str (s 0) 210),(.int 16 0),(.int 5 0),(.int 0 0),(.int 0 0),(.int 3 0),(.ref 32),(.bool true),(.int 181 0),(.ref 33),.none,.none,.none,(.ref 34),(.int 211 0),(.int 16 0),(.str (s 0) 212)]) #[]
def o27 (P:Params):=uO (s 16) (s 16) (S 4) (s 24) 194 35
def o28 (P:Params):=tO #[]
def o29 (P:Params):=vO #[]
noncomputable def o30 (P:Params):=tO #[(.str (s 25) 217),(.str (s 26) 218),(.str (s 27) 219),(.str (s 28) 220),(.str (s 29) 221),(.str (s 30) 222),(.str (s 31) 223),(.str (s 32) 224),(.str (s 33) 225)]
def o31 (P:Params):=tO #[]
def o32 (P:Params):=gO (s 17) (s 17) (S 5)
noncomputable def o33 (P:Params):=cO (s 17) (s 17) 214 215 216 23 2 3 37 38 39 40 41 226 227
def o34 (P:Params):=uO (s 17) (s 17) (S 5) (s 24) 194 42
def o35 (P:Params):=tO #[]
def o36 (P:Params):=vO #[]
noncomputable def o37 (P:Params):=tO #[(.str (s 25) 232),(.str (s 26) 233)]
def o38 (P:Params):=tO #[]
def o39 (P:Params):=gO (s 18) (s 18) (S 6)
noncomputable def o40 (P:Params):=cO (s 18) (s 18) 229 230 231 34 2 3 44 45 46 47 48 234 235
def o41 (P:Params):=uO (s 18) (s 18) (S 6) (s 24) 194 49
def o42 (P:Params):=tO #[]
def o43 (P:Params):=vO #[]
noncomputable def o44 (P:Params):=tO #[(.str (s 25) 240),(.str (s 26) 241)]
def o45 (P:Params):=tO #[]
def o46 (P:Params):=gO (s 19) (s 19) (S 7)
noncomputable def o47 (P:Params):=cO (s 19) (s 19) 237 238 239 36 2 3 51 52 53 54 55 242 243
def o48 (P:Params):=uO (s 19) (s 19) (S 7) (s 24) 194 56
def o49 (P:Params):=tO #[]
def o50 (P:Params):=vO #[]
noncomputable def o51 (P:Params):=tO #[(.str (s 30) 248),(.str (s 26) 249),(.str (s 31) 250)]
def o52 (P:Params):=tO #[]
def o53 (P:Params):=gO (s 20) (s 20) (S 8)
noncomputable def o54 (P:Params):=cO (s 20) (s 20) 245 246 247 38 3 3 58 59 60 61 62 251 252
def o55 (P:Params):=uO (s 20) (s 20) (S 8) (s 24) 194 63
def o56 (P:Params):=tO #[]
def o57 (P:Params):=vO #[]
noncomputable def o58 (P:Params):=tO #[(.str (s 30) 257),(.str (s 26) 258),(.str (s 31) 259)]
def o59 (P:Params):=tO #[]
def o60 (P:Params):=gO (s 21) (s 21) (S 9)
noncomputable def o61 (P:Params):=cO (s 21) (s 21) 254 255 256 40 3 3 65 66 67 68 69 260 261
def o62 (P:Params):=uO (s 21) (s 21) (S 9) (s 24) 194 70
def o63 (P:Params):=tO #[]
noncomputable def o64 (P:Params):=Obj.mk k6 .none (Data.fields #[k7,k8]) #[]
noncomputable def o65:=Obj.mk k4 .none (Data.dict #[en P (s 34) 272 (.str (s 4) 263),en P (s 35) 274 (.str (s 22) 273),en P (s 36) 276 (.int 43 275),en P (s 37) 277 (.ref 79)] 4) #[]
def o66 (P:Params):=tO #[]
def o67 (P:Params):=vO #[]
noncomputable def o68 (P:Params):=Obj.mk k1 .none (Data.fields #[(.str (s 22) 267),(.str (s 22) 268),(.str (s 0) 269),(.int 43 0),(.int 0 0),(.int 0 0),(.int 0 0),(.int 0 0),(.ref 75),(.bool false),(.int 181 0),(.ref 76),.none,.none,.none,.none,(.int 270 0),(.int 43 0),(.str (s 0) 271)]) #[]
noncomputable def o69 (P:Params):=Obj.mk k3 .none Data.plain #[(Option.some (.ref 77)),(Option.some (.ref 3)),(Option.some (.ref 74)),.none,(Option.some (.str (s 4) 263)),.none,(Option.some (.ref 0))]
def o70 (P:Params):=tO #[]
noncomputable def o71:=Obj.mk k4 .none (Data.dict #[en P (s 34) 272 (.str (s 4) 263),en P (s 36) 276 (.int 43 275),en P (s 37) 277 (.ref 79),en P (s 38) 279 (.ref 82),en P (s 39) 281 (.ref 83),en P (s 5) 282 .none] 4) #[]
noncomputable def o72 (P:Params):=Obj.mk k8 .none (Data.cls (ClassData.mk (s 22) [k9] [(.ref 81),k9] 80 (s 22) true [] [] false .none false)) #[.none,.none,(Option.some (.str (s 22) 265)),(Option.some (.str (s 22) 273)),(Option.some k10),(Option.some (.bool true))]
noncomputable def o73 (P:Params):=Obj.mk k11 .none (Data.fields #[(.str (s 38) 278),(.ref 81),k12,k13]) #[]
noncomputable def o74 (P:Params):=Obj.mk k11 .none (Data.fields #[(.str (s 39) 280),(.ref 81),k14,.none]) #[]
noncomputable def o75 (P:Params):=Obj.mk k15 .none (Data.fields #[(.ref 81),(.ref 81),(.ref 81)]) #[]
noncomputable def o76 (P:Params):=Obj.mk k6 .none (Data.fields #[k16,(.ref 81)]) #[]
def t15:=BT.node (o54 P) .nil .nil
def t17:=BT.node (o70 P) .nil .nil
def t20:=BT.node (o62 P) .nil .nil
def t25:=BT.node (o58 P) .nil .nil
def t27:=BT.node (o74 P) .nil .nil
def t30:=BT.node (o66 P) .nil .nil
def t36:=BT.node (o56 P) .nil .nil
def t41:=BT.node (o64 P) .nil .nil
def t46:=BT.node (o60 P) .nil .nil
def t48:=BT.node (o76 P) .nil .nil
def t51:=BT.node (o68 P) .nil .nil
noncomputable def t56:=BT.node (boot_o_5 P) (BT.node (boot_o_9 P) (BT.node (o8 P) (BT.node (o24 P) (t36 P) .nil) (BT.node (o40 P) (BT.node (o72 P) .nil .nil) .nil)) (BT.node (o16 P) (BT.node (o32 P) (t41 P) .nil) (BT.node (o48 P) .nil .nil))) (BT.node (o2 P) (BT.node (o12 P) (BT.node (o28 P) (t46 P) .nil) (BT.node (o44 P) (t48 P) .nil)) (BT.node (o20 P) (BT.node (o36 P) (t51 P) .nil) (BT.node (o52 P) .nil .nil)))
def t58:=BT.node (o55 P) .nil .nil
def t60:=BT.node (o71 P) .nil .nil
def t63:=BT.node (o63 P) .nil .nil
def t68:=BT.node (o59 P) .nil .nil
def t70:=BT.node (o75 P) .nil .nil
def t73:=BT.node (o67 P) .nil .nil
def t79:=BT.node (o57 P) .nil .nil
def t81:=BT.node (o73 P) .nil .nil
def t84:=BT.node (o65 P) .nil .nil
def t89:=BT.node (o61 P) .nil .nil
def t93:=BT.node (o69 P) .nil .nil
noncomputable def t98:=BT.node (boot_o_6 P) (BT.node (boot_o_10 P) (BT.node (o9 P) (BT.node (o25 P) (t79 P) .nil) (BT.node (o41 P) (t81 P) .nil)) (BT.node (o17 P) (BT.node (o33 P) (t84 P) .nil) (BT.node (o49 P) .nil .nil))) (BT.node (o3 P) (BT.node (o13 P) (BT.node (o29 P) (t89 P) .nil) (BT.node (o45 P) .nil .nil)) (BT.node (o21 P) (BT.node (o37 P) (t93 P) .nil) (BT.node (o53 P) .nil .nil)))
noncomputable def t99:=BT.node (boot_o_2 P) (BT.node (boot_o_4 P) (BT.node (boot_o_8 P) (BT.node (o7 P) (BT.node (o23 P) (t58 P) .nil) (BT.node (o39 P) (t60 P) .nil)) (BT.node (o15 P) (BT.node (o31 P) (t63 P) .nil) (BT.node (o47 P) .nil .nil))) (BT.node (o5 P) (BT.node (o11 P) (BT.node (o27 P) (t68 P) .nil) (BT.node (o43 P) (t70 P) .nil)) (BT.node (o19 P) (BT.node (o35 P) (t73 P) .nil) (BT.node (o51 P) .nil .nil)))) (t98 P)
noncomputable def zwY:=BT.node (boot_o_0 P) (BT.node (boot_o_1 P) (BT.node (o4 P) (BT.node (boot_o_7 P) (BT.node (o6 P) (BT.node (o22 P) (t15 P) .nil) (BT.node (o38 P) (t17 P) .nil)) (BT.node (o14 P) (BT.node (o30 P) (t20 P) .nil) (BT.node (o46 P) .nil .nil))) (BT.node (o0 P) (BT.node (o10 P) (BT.node (o26 P) (t25 P) .nil) (BT.node (o42 P) (t27 P) .nil)) (BT.node (o18 P) (BT.node (o34 P) (t30 P) .nil) (BT.node (o50 P) .nil .nil)))) (t56 P)) (t99 P)
noncomputable def sb1 (w:World) (os:OsState):SharedT:=⟨(zwY w.params),86,(Life.mk [] [] [] 0 [] [] false #[] [] 0 false false false 0 [2000,10,10] false 0 true [] [] 0 false),⟨[]⟩,(Drawn.mk 0 0 0 0),285,os⟩
noncomputable def L0 (w:World) (os:OsState):Option (Flow×SharedT×Code×Pos):=segRunT treeTable PySem.Challenge.pw_beatless_k25_whole_no_word_goes_faster w 11 an 1 475 (sb0 w os) (piecesOf zuI env cE (Pos.mk 0 0 0 0) B)
noncomputable def R0 (w:World) (os:OsState):Option (Flow×SharedT×Code×Pos):=some (.next,sb1 w os,cE,(Pos.mk 43 0 44 8))
theorem q0:tt (Hd.L0,Hd.R0)=true:=by k_qdec
theorem r0:∀ w,Fast.tw4453942571644881324 w=Hd.R0 w:=fun w=>by kernel_rfl
theorem e0 (w:World) (os:OsState):Hd.L0 w os=Hd.R0 w os:=(congrFun (congrFun Fast.te4453942571644881324 w) os).trans (congrFun (r0 w) os)
def zuH:List Stmt:=[S 12]
noncomputable def o77:=Obj.mk k4 .none (Data.dict #[en P (s 3) 165 (.str (s 4) 263),en P (s 5) 166 .none,en P (s 6) 167 .none,en P (s 7) 168 k5,en P (s 8) 169 .none,en P (s 9) 170 (.ref 6),en P (s 10) 171 (.ref 4),en P (s 11) 173 (.str (s 0) 172),en P (s 12) 174 .none,en P (s 13) 193 (.ref 21),en P (s 14) 201 (.ref 26),en P (s 15) 207 (.ref 31),en P (s 16) 213 (.ref 36),en P (s 17) 228 (.ref 43),en P (s 18) 236 (.ref 50),en P (s 19) 244 (.ref 57),en P (s 20) 253 (.ref 64),en P (s 21) 262 (.ref 71),en P (s 22) 284 (.ref 81),en P (s 40) 331 (.ref 123)] 20) #[]
noncomputable def o78 (P:Params):=vO #[(.int 1 0),(.int 0 0),(.ref 20),(.int 5 0),(.int 0 0),(.ref 25),(.int 7 0),(.int 0 0),(.ref 30),(.int 16 0),(.int 0 0),(.ref 35),(.int 23 0),(.int 0 0),(.ref 42),(.int 34 0),(.int 0 0),(.ref 49),(.int 36 0),(.int 0 0),(.ref 56),(.int 38 0),(.int 0 0),(.ref 63),(.int 40 0),(.int 0 0),(.ref 70),(.int 43 0),(.int 0 0),(.ref 77),(.int 45 0),(.int 0 0),(.ref 91)]
noncomputable def o79 (P:Params):=Obj.mk k8 .none (Data.cls (ClassData.mk (s 22) [k9] [(.ref 81),k9] 80 (s 22) true [] [(.ref 123)] false .none false)) #[.none,.none,(Option.some (.str (s 22) 265)),(Option.some (.str (s 22) 273)),(Option.some k10),(Option.some (.bool true))]
def o80 (P:Params):=tO #[(.ref 81)]
noncomputable def o81 (P:Params):=Obj.mk k6 .none (Data.fields #[k7,k8]) #[]
noncomputable def o82:=Obj.mk k4 .none (Data.dict #[en P (s 34) 292 (.str (s 4) 263),en P (s 35) 294 (.str (s 40) 293),en P (s 36) 296 (.int 45 295),en P (s 41) 304 (.ref 99),en P (s 42) 312 (.ref 106),en P (s 43) 319 (.ref 113),en P (s 44) 326 (.ref 120),en P (s 37) 328 (.ref 121)] 8) #[]
def o83 (P:Params):=tO #[]
noncomputable def o84 (P:Params):=vO #[(.int 47 0),(.int 4 0),(.ref 98),(.int 50 0),(.int 4 0),(.ref 105),(.int 53 0),(.int 4 0),(.ref 112),(.int 56 0),(.int 4 0),(.ref 119)]
noncomputable def o85 (P:Params):=Obj.mk k1 .none (Data.fields #[(.str (s 40) 287),(.str (s 40) 288),(.str (s 0) 289),(.int 45 0),(.int 0 0),(.int 0 0),(.int 0 0),(.int 0 0),(.ref 89),(.bool false),(.int 181 0),(.ref 90),.none,.none,.none,.none,(.int 290 0),(.int 45 0),(.str (s 0) 291)]) #[]
noncomputable def o86 (P:Params):=Obj.mk k3 .none Data.plain #[(Option.some (.ref 91)),(Option.some (.ref 3)),(Option.some (.ref 88)),.none,(Option.some (.str (s 4) 263)),.none,(Option.some (.ref 0))]
def o87 (P:Params):=tO #[]
def o88 (P:Params):=vO #[]
noncomputable def o89 (P:Params):=tO #[(.str (s 45) 300),(.str (s 46) 301)]
def o90 (P:Params):=tO #[]
def o91 (P:Params):=gO (s 41) (s 47) (L2.inClass (S 12) 0)
noncomputable def o92 (P:Params):=cO (s 41) (s 47) 297 298 299 47 2 3 93 94 95 96 97 302 303
noncomputable def o93 (P:Params):=uO (s 41) (s 47) (L2.inClass (S 12) 0) (s 4) 263 98
def o94 (P:Params):=tO #[]
def o95 (P:Params):=vO #[]
noncomputable def o96 (P:Params):=tO #[(.str (s 45) 308),(.str (s 28) 309)]
def o97 (P:Params):=tO #[]
def o98 (P:Params):=gO (s 42) (s 48) (L2.inClass (S 12) 1)
noncomputable def o99 (P:Params):=cO (s 42) (s 48) 305 306 307 50 2 3 100 101 102 103 104 310 311
noncomputable def Y9 (P:Params):=uO (s 42) (s 48) (L2.inClass (S 12) 1) (s 4) 263 105
def Y8 (P:Params):=tO #[]
def Wt (P:Params):=vO #[]
def Y7 (P:Params):=tO #[(.str (s 45) 316)]
def Y6 (P:Params):=tO #[]
def Ws (P:Params):=gO (s 43) (s 49) (L2.inClass (S 12) 2)
noncomputable def Y5 (P:Params):=cO (s 43) (s 49) 313 314 315 53 1 3 107 108 109 110 111 317 318
noncomputable def Y4 (P:Params):=uO (s 43) (s 49) (L2.inClass (S 12) 2) (s 4) 263 112
def Y3 (P:Params):=tO #[]
def Wr (P:Params):=vO #[]
def Y2 (P:Params):=tO #[(.str (s 45) 323)]
def Y1 (P:Params):=tO #[]
def Wq (P:Params):=gO (s 44) (s 50) (L2.inClass (S 12) 3)
noncomputable def Y0 (P:Params):=cO (s 44) (s 50) 320 321 322 56 1 3 114 115 116 117 118 324 325
noncomputable def YZ (P:Params):=uO (s 44) (s 50) (L2.inClass (S 12) 3) (s 4) 263 119
def YY (P:Params):=tO #[(.str (s 46) 327)]
noncomputable def YX:=Obj.mk k4 .none (Data.dict #[en P (s 34) 292 (.str (s 4) 263),en P (s 36) 296 (.int 45 295),en P (s 41) 304 (.ref 99),en P (s 42) 312 (.ref 106),en P (s 43) 319 (.ref 113),en P (s 44) 326 (.ref 120),en P (s 37) 328 (.ref 121),en P (s 5) 329 .none] 2) #[]
noncomputable def YW (P:Params):=Obj.mk k8 .none (Data.cls (ClassData.mk (s 40) [(.ref 81)] [(.ref 123),(.ref 81),k9] 122 (s 40) true [] [] false .none false)) #[(Option.some (.ref 86)),.none,(Option.some (.str (s 40) 285)),(Option.some (.str (s 40) 293)),(Option.some k10),(Option.some (.bool true))]
noncomputable def Wp (P:Params):=Obj.mk k15 .none (Data.fields #[(.ref 123),(.ref 123),(.ref 123)]) #[]
noncomputable def Wo (P:Params):=Obj.mk k6 .none (Data.fields #[k16,(.ref 123)]) #[]
def zuy:=BT.node (Ws P) .nil .nil
def zux:=BT.node (o97 P) .nil .nil
def zuw:=BT.node (Y0 P) .nil .nil
def zuv:=BT.node (Wr P) .nil .nil
def zuu:=BT.node (Y8 P) .nil .nil
def zut:=BT.node (YW P) .nil .nil
def zus:=BT.node (Y4 P) .nil .nil
def zur:=BT.node (o99 P) .nil .nil
def zuq:=BT.node (YY P) .nil .nil
def zup:=BT.node (Y1 P) .nil .nil
def zuo:=BT.node (Y7 P) .nil .nil
def zun:=BT.node (Wo P) .nil .nil
noncomputable def zwX:=BT.node (boot_o_5 P) (BT.node (boot_o_9 P) (BT.node (o8 P) (BT.node (o24 P) (t36 P) (BT.node (o91 P) .nil .nil)) (BT.node (o40 P) (BT.node (o79 P) .nil .nil) (zus P))) (BT.node (o16 P) (BT.node (o32 P) (t41 P) (zur P)) (BT.node (o48 P) (BT.node (o83 P) .nil .nil) (zuq P)))) (BT.node (o2 P) (BT.node (o12 P) (BT.node (o28 P) (t46 P) (BT.node (o95 P) .nil .nil)) (BT.node (o44 P) (t48 P) (zup P))) (BT.node (o20 P) (BT.node (o36 P) (t51 P) (zuo P)) (BT.node (o52 P) (BT.node (o87 P) .nil .nil) (zun P))))
def zum:=BT.node (Y5 P) .nil .nil
def zul:=BT.node (o98 P) .nil .nil
def zuk:=BT.node (YZ P) .nil .nil
def zuj:=BT.node (Y2 P) .nil .nil
def zui:=BT.node (Wt P) .nil .nil
def zuh:=BT.node (Wp P) .nil .nil
def zug:=BT.node (Y3 P) .nil .nil
def zuf:=BT.node (Y9 P) .nil .nil
def zue:=BT.node (YX P) .nil .nil
def zud:=BT.node (o96 P) .nil .nil
def zuc:=BT.node (Wq P) .nil .nil
def zub:=BT.node (Y6 P) .nil .nil
noncomputable def zwW:=BT.node (boot_o_6 P) (BT.node (boot_o_10 P) (BT.node (o9 P) (BT.node (o25 P) (t79 P) (BT.node (o92 P) .nil .nil)) (BT.node (o41 P) (t81 P) (zug P))) (BT.node (o17 P) (BT.node (o33 P) (t84 P) (zuf P)) (BT.node (o49 P) (BT.node (o84 P) .nil .nil) (zue P)))) (BT.node (o3 P) (BT.node (o13 P) (BT.node (o29 P) (t89 P) (zud P)) (BT.node (o45 P) (BT.node (o80 P) .nil .nil) (zuc P))) (BT.node (o21 P) (BT.node (o37 P) (t93 P) (zub P)) (BT.node (o53 P) (BT.node (o88 P) .nil .nil) .nil)))
noncomputable def zwV:=BT.node (boot_o_2 P) (BT.node (boot_o_4 P) (BT.node (boot_o_8 P) (BT.node (o7 P) (BT.node (o23 P) (t58 P) (BT.node (o90 P) .nil .nil)) (BT.node (o39 P) (t60 P) (zum P))) (BT.node (o15 P) (BT.node (o31 P) (t63 P) (zul P)) (BT.node (o47 P) (BT.node (o82 P) .nil .nil) (zuk P)))) (BT.node (o78 P) (BT.node (o11 P) (BT.node (o27 P) (t68 P) (BT.node (o94 P) .nil .nil)) (BT.node (o43 P) (t70 P) (zuj P))) (BT.node (o19 P) (BT.node (o35 P) (t73 P) (zui P)) (BT.node (o51 P) (BT.node (o86 P) .nil .nil) (zuh P))))) (zwW P)
noncomputable def zwU:=BT.node (boot_o_0 P) (BT.node (boot_o_1 P) (BT.node (o77 P) (BT.node (boot_o_7 P) (BT.node (o6 P) (BT.node (o22 P) (t15 P) (BT.node (o89 P) .nil .nil)) (BT.node (o38 P) (t17 P) (zuy P))) (BT.node (o14 P) (BT.node (o30 P) (t20 P) (zux P)) (BT.node (o46 P) (BT.node (o81 P) .nil .nil) (zuw P)))) (BT.node (o0 P) (BT.node (o10 P) (BT.node (o26 P) (t25 P) (BT.node (o93 P) .nil .nil)) (BT.node (o42 P) (t27 P) (zuv P))) (BT.node (o18 P) (BT.node (o34 P) (t30 P) (zuu P)) (BT.node (o50 P) (BT.node (o85 P) .nil .nil) (zut P))))) (zwX P)) (zwV P)
noncomputable def sb2 (w:World) (os:OsState):SharedT:=⟨(zwU w.params),126,(Life.mk [] [] [] 0 [] [] false #[] [] 0 false false false 0 [2000,10,10] false 0 true [] [] 0 false),⟨[]⟩,(Drawn.mk 0 0 0 0),332,os⟩
noncomputable def L1 (w:World) (os:OsState):Option (Flow×SharedT×Code×Pos):=segRunT treeTable PySem.Challenge.pw_beatless_k25_whole_no_word_goes_faster w 11 an 1 340 (sb1 w os) (piecesOf zuH env cE (Pos.mk 43 0 44 8) B)
noncomputable def R1 (w:World) (os:OsState):Option (Flow×SharedT×Code×Pos):=some (.next,sb2 w os,cE,(Pos.mk 45 0 57 32))
theorem q1:tt (Hd.L1,Hd.R1)=true:=by k_qdec
theorem r1:∀ w,Fast.tw6387051279210280424 w=Hd.R1 w:=fun w=>by kernel_rfl
theorem e1 (w:World) (os:OsState):Hd.L1 w os=Hd.R1 w os:=(congrFun (congrFun Fast.te6387051279210280424 w) os).trans (congrFun (r1 w) os)
def zuG:List Stmt:=[S 13]
noncomputable def zxx:=Obj.mk k4 .none (Data.dict #[en P (s 3) 165 (.str (s 4) 263),en P (s 5) 166 .none,en P (s 6) 167 .none,en P (s 7) 168 k5,en P (s 8) 169 .none,en P (s 9) 170 (.ref 6),en P (s 10) 171 (.ref 4),en P (s 11) 173 (.str (s 0) 172),en P (s 12) 174 .none,en P (s 13) 193 (.ref 21),en P (s 14) 201 (.ref 26),en P (s 15) 207 (.ref 31),en P (s 16) 213 (.ref 36),en P (s 17) 228 (.ref 43),en P (s 18) 236 (.ref 50),en P (s 19) 244 (.ref 57),en P (s 20) 253 (.ref 64),en P (s 21) 262 (.ref 71),en P (s 22) 284 (.ref 81),en P (s 40) 331 (.ref 123),en P (s 51) 378 (.ref 163)] 21) #[]
noncomputable def zxw (P:Params):=vO #[(.int 1 0),(.int 0 0),(.ref 20),(.int 5 0),(.int 0 0),(.ref 25),(.int 7 0),(.int 0 0),(.ref 30),(.int 16 0),(.int 0 0),(.ref 35),(.int 23 0),(.int 0 0),(.ref 42),(.int 34 0),(.int 0 0),(.ref 49),(.int 36 0),(.int 0 0),(.ref 56),(.int 38 0),(.int 0 0),(.ref 63),(.int 40 0),(.int 0 0),(.ref 70),(.int 43 0),(.int 0 0),(.ref 77),(.int 45 0),(.int 0 0),(.ref 91),(.int 58 0),(.int 0 0),(.ref 131)]
noncomputable def zxv (P:Params):=Obj.mk k8 .none (Data.cls (ClassData.mk (s 22) [k9] [(.ref 81),k9] 80 (s 22) true [] [(.ref 123),(.ref 163)] false .none false)) #[.none,.none,(Option.some (.str (s 22) 265)),(Option.some (.str (s 22) 273)),(Option.some k10),(Option.some (.bool true))]
def YV (P:Params):=tO #[(.ref 81)]
noncomputable def zh4 (P:Params):=Obj.mk k6 .none (Data.fields #[k7,k8]) #[]
noncomputable def zh3:=Obj.mk k4 .none (Data.dict #[en P (s 34) 339 (.str (s 4) 263),en P (s 35) 341 (.str (s 51) 340),en P (s 36) 343 (.int 58 342),en P (s 41) 351 (.ref 139),en P (s 42) 359 (.ref 146),en P (s 43) 366 (.ref 153),en P (s 44) 373 (.ref 160),en P (s 37) 375 (.ref 161)] 8) #[]
def zh2 (P:Params):=tO #[]
noncomputable def zh1 (P:Params):=vO #[(.int 60 0),(.int 4 0),(.ref 138),(.int 63 0),(.int 4 0),(.ref 145),(.int 66 0),(.int 4 0),(.ref 152),(.int 69 0),(.int 4 0),(.ref 159)]
noncomputable def zh0 (P:Params):=Obj.mk k1 .none (Data.fields #[(.str (s 51) 334),(.str (s 51) 335),(.str (s 0) 336),(.int 58 0),(.int 0 0),(.int 0 0),(.int 0 0),(.int 0 0),(.ref 129),(.bool false),(.int 181 0),(.ref 130),.none,.none,.none,.none,(.int 337 0),(.int 58 0),(.str (s 0) 338)]) #[]
noncomputable def zhZ (P:Params):=Obj.mk k3 .none Data.plain #[(Option.some (.ref 131)),(Option.some (.ref 3)),(Option.some (.ref 128)),.none,(Option.some (.str (s 4) 263)),.none,(Option.some (.ref 0))]
def U5 (P:Params):=tO #[]
def zhY (P:Params):=vO #[]
noncomputable def U4 (P:Params):=tO #[(.str (s 45) 347),(.str (s 52) 348)]
def U3 (P:Params):=tO #[]
def zhX (P:Params):=gO (s 41) (s 53) (L2.inClass (S 13) 0)
noncomputable def U2 (P:Params):=cO (s 41) (s 53) 344 345 346 60 2 3 133 134 135 136 137 349 350
noncomputable def U1 (P:Params):=uO (s 41) (s 53) (L2.inClass (S 13) 0) (s 4) 263 138
def U0 (P:Params):=tO #[]
def zhW (P:Params):=vO #[]
noncomputable def UZ (P:Params):=tO #[(.str (s 45) 355),(.str (s 28) 356)]
def UY (P:Params):=tO #[]
def zhV (P:Params):=gO (s 42) (s 54) (L2.inClass (S 13) 1)
noncomputable def UX (P:Params):=cO (s 42) (s 54) 352 353 354 63 2 3 140 141 142 143 144 357 358
noncomputable def UW (P:Params):=uO (s 42) (s 54) (L2.inClass (S 13) 1) (s 4) 263 145
def UV (P:Params):=tO #[]
def zhU (P:Params):=vO #[]
def UU (P:Params):=tO #[(.str (s 45) 363)]
def UT (P:Params):=tO #[]
def zhT (P:Params):=gO (s 43) (s 55) (L2.inClass (S 13) 2)
noncomputable def US (P:Params):=cO (s 43) (s 55) 360 361 362 66 1 3 147 148 149 150 151 364 365
noncomputable def UR (P:Params):=uO (s 43) (s 55) (L2.inClass (S 13) 2) (s 4) 263 152
def UQ (P:Params):=tO #[]
def zhS (P:Params):=vO #[]
def UP (P:Params):=tO #[(.str (s 45) 370)]
def UO (P:Params):=tO #[]
def zhR (P:Params):=gO (s 44) (s 56) (L2.inClass (S 13) 3)
noncomputable def UN (P:Params):=cO (s 44) (s 56) 367 368 369 69 1 3 154 155 156 157 158 371 372
noncomputable def UM (P:Params):=uO (s 44) (s 56) (L2.inClass (S 13) 3) (s 4) 263 159
def UL (P:Params):=tO #[(.str (s 52) 374)]
noncomputable def UK:=Obj.mk k4 .none (Data.dict #[en P (s 34) 339 (.str (s 4) 263),en P (s 36) 343 (.int 58 342),en P (s 41) 351 (.ref 139),en P (s 42) 359 (.ref 146),en P (s 43) 366 (.ref 153),en P (s 44) 373 (.ref 160),en P (s 37) 375 (.ref 161),en P (s 5) 376 .none] 2) #[]
noncomputable def UJ (P:Params):=Obj.mk k8 .none (Data.cls (ClassData.mk (s 51) [(.ref 81)] [(.ref 163),(.ref 81),k9] 162 (s 51) true [] [] false .none false)) #[(Option.some (.ref 126)),.none,(Option.some (.str (s 51) 332)),(Option.some (.str (s 51) 340)),(Option.some k10),(Option.some (.bool true))]
noncomputable def zhQ (P:Params):=Obj.mk k15 .none (Data.fields #[(.ref 163),(.ref 163),(.ref 163)]) #[]
noncomputable def zhP (P:Params):=Obj.mk k6 .none (Data.fields #[k16,(.ref 163)]) #[]
def zua:=BT.node (zh4 P) .nil .nil
def zt9:=BT.node (UN P) .nil .nil
def zt8:=BT.node (o89 P) (zt9 P) .nil
def zt7:=BT.node (UY P) .nil .nil
def zt6:=BT.node (o70 P) (zt7 P) .nil
def zt5:=BT.node (U4 P) .nil .nil
def zt4:=BT.node (zhT P) .nil .nil
def zt3:=BT.node (o81 P) (zt4 P) .nil
def zt2:=BT.node (zh0 P) .nil .nil
def zt1:=BT.node (UJ P) .nil .nil
def zt0:=BT.node (o93 P) (zt1 P) .nil
def ztZ:=BT.node (UV P) .nil .nil
def ztY:=BT.node (o74 P) (ztZ P) .nil
def ztX:=BT.node (U1 P) .nil .nil
def ztW:=BT.node (zhS P) .nil .nil
def ztV:=BT.node (o85 P) (ztW P) .nil
def ztU:=BT.node (zh2 P) .nil .nil
def ztT:=BT.node (UL P) .nil .nil
def ztS:=BT.node (o91 P) (ztT P) .nil
def zlB:=BT.node (UX P) .nil .nil
def ztR:=BT.node (zhX P) .nil .nil
def ztQ:=BT.node (UR P) .nil .nil
def ztP:=BT.node (o83 P) (ztQ P) .nil
def ztO:=BT.node (U5 P) .nil .nil
def ztN:=BT.node (zhP P) .nil .nil
def ztM:=BT.node (o95 P) (ztN P) .nil
def ztL:=BT.node (UU P) .nil .nil
def ztK:=BT.node (o76 P) (ztL P) .nil
def ztJ:=BT.node (zhW P) .nil .nil
def ztI:=BT.node (UO P) .nil .nil
def ztH:=BT.node (o87 P) (ztI P) .nil
noncomputable def zwT:=BT.node (boot_o_5 P) (BT.node (boot_o_9 P) (BT.node (o8 P) (BT.node (o24 P) (BT.node (o56 P) (ztU P) .nil) (ztS P)) (BT.node (o40 P) (BT.node (zxv P) (zlB P) .nil) (zus P))) (BT.node (o16 P) (BT.node (o32 P) (BT.node (o64 P) (ztR P) .nil) (zur P)) (BT.node (o48 P) (ztP P) (zuq P)))) (BT.node (o2 P) (BT.node (o12 P) (BT.node (o28 P) (BT.node (o60 P) (ztO P) .nil) (ztM P)) (BT.node (o44 P) (ztK P) (zup P))) (BT.node (o20 P) (BT.node (o36 P) (BT.node (o68 P) (ztJ P) .nil) (zuo P)) (BT.node (o52 P) (ztH P) (zun P))))
def ztG:=BT.node (zh3 P) .nil .nil
def ztF:=BT.node (UM P) .nil .nil
def ztE:=BT.node (o90 P) (ztF P) .nil
def ztD:=BT.node (zhV P) .nil .nil
def ztC:=BT.node (o71 P) (ztD P) .nil
def ztB:=BT.node (U3 P) .nil .nil
def ztA:=BT.node (US P) .nil .nil
def ztz:=BT.node (o82 P) (ztA P) .nil
def zty:=BT.node (zhZ P) .nil .nil
def ztx:=BT.node (zhQ P) .nil .nil
def ztw:=BT.node (o94 P) (ztx P) .nil
def ztv:=BT.node (zhU P) .nil .nil
def ztu:=BT.node (o75 P) (ztv P) .nil
def ztt:=BT.node (U0 P) .nil .nil
def zts:=BT.node (UP P) .nil .nil
def ztr:=BT.node (o86 P) (zts P) .nil
def ztq:=BT.node (zh1 P) .nil .nil
def ztp:=BT.node (UK P) .nil .nil
def zto:=BT.node (o92 P) (ztp P) .nil
def ztn:=BT.node (UW P) .nil .nil
def ztm:=BT.node (o73 P) (ztn P) .nil
def ztl:=BT.node (U2 P) .nil .nil
def ztk:=BT.node (UQ P) .nil .nil
def ztj:=BT.node (o84 P) (ztk P) .nil
def zti:=BT.node (zhY P) .nil .nil
def zth:=BT.node (UT P) .nil .nil
def ztg:=BT.node (o80 P) (zth P) .nil
def ztf:=BT.node (UZ P) .nil .nil
def zte:=BT.node (o69 P) (ztf P) .nil
def ztd:=BT.node (zhR P) .nil .nil
def ztc:=BT.node (o88 P) (ztd P) .nil
noncomputable def zwS:=BT.node (boot_o_6 P) (BT.node (boot_o_10 P) (BT.node (o9 P) (BT.node (o25 P) (BT.node (o57 P) (ztq P) .nil) (zto P)) (BT.node (o41 P) (ztm P) (zug P))) (BT.node (o17 P) (BT.node (o33 P) (BT.node (o65 P) (ztl P) .nil) (zuf P)) (BT.node (o49 P) (ztj P) (zue P)))) (BT.node (o3 P) (BT.node (o13 P) (BT.node (o29 P) (BT.node (o61 P) (zti P) .nil) (zud P)) (BT.node (o45 P) (ztg P) (zuc P))) (BT.node (o21 P) (BT.node (o37 P) (zte P) (zub P)) (BT.node (o53 P) (ztc P) (BT.node (YV P) .nil .nil))))
noncomputable def zwR:=BT.node (boot_o_2 P) (BT.node (boot_o_4 P) (BT.node (boot_o_8 P) (BT.node (o7 P) (BT.node (o23 P) (BT.node (o55 P) (ztG P) .nil) (ztE P)) (BT.node (o39 P) (ztC P) (zum P))) (BT.node (o15 P) (BT.node (o31 P) (BT.node (o63 P) (ztB P) .nil) (zul P)) (BT.node (o47 P) (ztz P) (zuk P)))) (BT.node (zxw P) (BT.node (o11 P) (BT.node (o27 P) (BT.node (o59 P) (zty P) .nil) (ztw P)) (BT.node (o43 P) (ztu P) (zuj P))) (BT.node (o19 P) (BT.node (o35 P) (BT.node (o67 P) (ztt P) .nil) (zui P)) (BT.node (o51 P) (ztr P) (zuh P))))) (zwS P)
noncomputable def zwQ:=BT.node (boot_o_0 P) (BT.node (boot_o_1 P) (BT.node (zxx P) (BT.node (boot_o_7 P) (BT.node (o6 P) (BT.node (o22 P) (BT.node (o54 P) (zua P) .nil) (zt8 P)) (BT.node (o38 P) (zt6 P) (zuy P))) (BT.node (o14 P) (BT.node (o30 P) (BT.node (o62 P) (zt5 P) .nil) (zux P)) (BT.node (o46 P) (zt3 P) (zuw P)))) (BT.node (o0 P) (BT.node (o10 P) (BT.node (o26 P) (BT.node (o58 P) (zt2 P) .nil) (zt0 P)) (BT.node (o42 P) (ztY P) (zuv P))) (BT.node (o18 P) (BT.node (o34 P) (BT.node (o66 P) (ztX P) .nil) (zuu P)) (BT.node (o50 P) (ztV P) (zut P))))) (zwT P)) (zwR P)
noncomputable def sb3 (w:World) (os:OsState):SharedT:=⟨(zwQ w.params),166,(Life.mk [] [] [] 0 [] [] false #[] [] 0 false false false 0 [2000,10,10] false 0 true [] [] 0 false),⟨[]⟩,(Drawn.mk 0 0 0 0),379,os⟩
noncomputable def L2 (w:World) (os:OsState):Option (Flow×SharedT×Code×Pos):=segRunT treeTable PySem.Challenge.pw_beatless_k25_whole_no_word_goes_faster w 11 an 1 340 (sb2 w os) (piecesOf zuG env cE (Pos.mk 45 0 57 32) B)
noncomputable def R2 (w:World) (os:OsState):Option (Flow×SharedT×Code×Pos):=some (.next,sb3 w os,cE,(Pos.mk 58 0 70 26))
theorem q2:tt (Hd.L2,Hd.R2)=true:=by k_qdec
theorem r2:∀ w,Fast.tw9171306275460833034 w=Hd.R2 w:=fun w=>by kernel_rfl
theorem e2 (w:World) (os:OsState):Hd.L2 w os=Hd.R2 w os:=(congrFun (congrFun Fast.te9171306275460833034 w) os).trans (congrFun (r2 w) os)
def zuF:List Stmt:=[S 14]
noncomputable def zxu:=Obj.mk k4 .none (Data.dict #[en P (s 3) 165 (.str (s 4) 263),en P (s 5) 166 .none,en P (s 6) 167 .none,en P (s 7) 168 k5,en P (s 8) 169 .none,en P (s 9) 170 (.ref 6),en P (s 10) 171 (.ref 4),en P (s 11) 173 (.str (s 0) 172),en P (s 12) 174 .none,en P (s 13) 193 (.ref 21),en P (s 14) 201 (.ref 26),en P (s 15) 207 (.ref 31),en P (s 16) 213 (.ref 36),en P (s 17) 228 (.ref 43),en P (s 18) 236 (.ref 50),en P (s 19) 244 (.ref 57),en P (s 20) 253 (.ref 64),en P (s 21) 262 (.ref 71),en P (s 22) 284 (.ref 81),en P (s 40) 331 (.ref 123),en P (s 51) 378 (.ref 163),en P (s 57) 431 (.ref 203)] 22) #[]
noncomputable def zxt (P:Params):=vO #[(.int 1 0),(.int 0 0),(.ref 20),(.int 5 0),(.int 0 0),(.ref 25),(.int 7 0),(.int 0 0),(.ref 30),(.int 16 0),(.int 0 0),(.ref 35),(.int 23 0),(.int 0 0),(.ref 42),(.int 34 0),(.int 0 0),(.ref 49),(.int 36 0),(.int 0 0),(.ref 56),(.int 38 0),(.int 0 0),(.ref 63),(.int 40 0),(.int 0 0),(.ref 70),(.int 43 0),(.int 0 0),(.ref 77),(.int 45 0),(.int 0 0),(.ref 91),(.int 58 0),(.int 0 0),(.ref 131),(.int 71 0),(.int 0 0),(.ref 171)]
noncomputable def zxs (P:Params):=Obj.mk k8 .none (Data.cls (ClassData.mk (s 22) [k9] [(.ref 81),k9] 80 (s 22) true [] [(.ref 123),(.ref 163),(.ref 203)] false .none false)) #[.none,.none,(Option.some (.str (s 22) 265)),(Option.some (.str (s 22) 273)),(Option.some k10),(Option.some (.bool true))]
def UI (P:Params):=tO #[(.ref 81)]
noncomputable def UH (P:Params):=Obj.mk k6 .none (Data.fields #[k7,k8]) #[]
noncomputable def zhO:=Obj.mk k4 .none (Data.dict #[en P (s 34) 386 (.str (s 4) 263),en P (s 35) 388 (.str (s 57) 387),en P (s 36) 390 (.int 71 389),en P (s 41) 400 (.ref 179),en P (s 42) 410 (.ref 186),en P (s 43) 417 (.ref 193),en P (s 44) 424 (.ref 200),en P (s 37) 428 (.ref 201)] 8) #[]
def zhN (P:Params):=tO #[]
noncomputable def zhM (P:Params):=vO #[(.int 73 0),(.int 4 0),(.ref 178),(.int 78 0),(.int 4 0),(.ref 185),(.int 89 0),(.int 4 0),(.ref 192),(.int 92 0),(.int 4 0),(.ref 199)]
noncomputable def zhL (P:Params):=Obj.mk k1 .none (Data.fields #[(.str (s 57) 381),(.str (s 57) 382),(.str (s 0) 383),(.int 71 0),(.int 0 0),(.int 0 0),(.int 0 0),(.int 0 0),(.ref 169),(.bool false),(.int 181 0),(.ref 170),.none,.none,.none,.none,(.int 384 0),(.int 71 0),(.str (s 0) 385)]) #[]
noncomputable def zhK (P:Params):=Obj.mk k3 .none Data.plain #[(Option.some (.ref 171)),(Option.some (.ref 3)),(Option.some (.ref 168)),.none,(Option.some (.str (s 4) 263)),.none,(Option.some (.ref 0))]
def UG (P:Params):=tO #[]
def zhJ (P:Params):=vO #[]
noncomputable def UF (P:Params):=tO #[(.str (s 45) 394),(.str (s 52) 395),(.str (s 58) 396),(.str (s 59) 397)]
def UE (P:Params):=tO #[]
def zhI (P:Params):=gO (s 41) (s 60) (L2.inClass (S 14) 0)
noncomputable def UD (P:Params):=cO (s 41) (s 60) 391 392 393 73 4 3 173 174 175 176 177 398 399
noncomputable def UC (P:Params):=uO (s 41) (s 60) (L2.inClass (S 14) 0) (s 4) 263 178
def UB (P:Params):=tO #[]
def zhH (P:Params):=vO #[]
noncomputable def UA (P:Params):=tO #[(.str (s 45) 404),(.str (s 28) 405),(.str (s 58) 406),(.str (s 59) 407)]
def Uz (P:Params):=tO #[]
def zhG (P:Params):=gO (s 42) (s 61) (L2.inClass (S 14) 1)
noncomputable def Uy (P:Params):=cO (s 42) (s 61) 401 402 403 78 2 3 180 181 182 183 184 408 409
noncomputable def Ux (P:Params):=uO (s 42) (s 61) (L2.inClass (S 14) 1) (s 4) 263 185
def Uw (P:Params):=tO #[]
def zhF (P:Params):=vO #[]
def Uv (P:Params):=tO #[(.str (s 45) 414)]
def Uu (P:Params):=tO #[]
def zhE (P:Params):=gO (s 43) (s 62) (L2.inClass (S 14) 2)
noncomputable def Ut (P:Params):=cO (s 43) (s 62) 411 412 413 89 1 3 187 188 189 190 191 415 416
noncomputable def Us (P:Params):=uO (s 43) (s 62) (L2.inClass (S 14) 2) (s 4) 263 192
def Ur (P:Params):=tO #[]
def zhD (P:Params):=vO #[]
def Uq (P:Params):=tO #[(.str (s 45) 421)]
def Up (P:Params):=tO #[]
def zhC (P:Params):=gO (s 44) (s 63) (L2.inClass (S 14) 3)
noncomputable def Uo (P:Params):=cO (s 44) (s 63) 418 419 420 92 1 3 194 195 196 197 198 422 423
noncomputable def Um (P:Params):=uO (s 44) (s 63) (L2.inClass (S 14) 3) (s 4) 263 199
noncomputable def Ul (P:Params):=tO #[(.str (s 58) 425),(.str (s 59) 426),(.str (s 52) 427)]
noncomputable def Uk:=Obj.mk k4 .none (Data.dict #[en P (s 34) 386 (.str (s 4) 263),en P (s 36) 390 (.int 71 389),en P (s 41) 400 (.ref 179),en P (s 42) 410 (.ref 186),en P (s 43) 417 (.ref 193),en P (s 44) 424 (.ref 200),en P (s 37) 428 (.ref 201),en P (s 5) 429 .none] 2) #[]
noncomputable def Uj (P:Params):=Obj.mk k8 .none (Data.cls (ClassData.mk (s 57) [(.ref 81)] [(.ref 203),(.ref 81),k9] 202 (s 57) true [] [] false .none false)) #[(Option.some (.ref 166)),.none,(Option.some (.str (s 57) 379)),(Option.some (.str (s 57) 387)),(Option.some k10),(Option.some (.bool true))]
noncomputable def zhB (P:Params):=Obj.mk k15 .none (Data.fields #[(.ref 203),(.ref 203),(.ref 203)]) #[]
noncomputable def zhA (P:Params):=Obj.mk k6 .none (Data.fields #[k16,(.ref 203)]) #[]
def ztb:=BT.node (zhE P) .nil .nil
def zta:=BT.node (o54 P) (zua P) (ztb P)
def zs9:=BT.node (UF P) .nil .nil
def zs8:=BT.node (Uo P) .nil .nil
def zs7:=BT.node (o62 P) (zt5 P) (zs8 P)
def zs6:=BT.node (UH P) .nil .nil
def zs5:=BT.node (Uz P) .nil .nil
def zs4:=BT.node (Y0 P) (zs5 P) .nil
def zs3:=BT.node (zhD P) .nil .nil
def zs2:=BT.node (o58 P) (zt2 P) (zs3 P)
def zs1:=BT.node (UC P) .nil .nil
def zs0:=BT.node (Uj P) .nil .nil
def zsZ:=BT.node (o66 P) (ztX P) (zs0 P)
def zsY:=BT.node (zhL P) .nil .nil
def zsX:=BT.node (Uw P) .nil .nil
def zsW:=BT.node (YW P) (zsX P) .nil
def zsV:=BT.node (Us P) .nil .nil
def zsU:=BT.node (o56 P) (ztU P) (zsV P)
def zsT:=BT.node (zhI P) .nil .nil
def zsS:=BT.node (Ul P) .nil .nil
def zsR:=BT.node (o64 P) (ztR P) (zsS P)
def zsQ:=BT.node (zhN P) .nil .nil
def zsP:=BT.node (Uy P) .nil .nil
def zsO:=BT.node (YY P) (zsP P) .nil
def zsN:=BT.node (Up P) .nil .nil
def zsM:=BT.node (o60 P) (ztO P) (zsN P)
def zsL:=BT.node (zhH P) .nil .nil
def zsK:=BT.node (zhA P) .nil .nil
def zsJ:=BT.node (o68 P) (ztJ P) (zsK P)
def zsI:=BT.node (UG P) .nil .nil
def zsH:=BT.node (Uv P) .nil .nil
def zsG:=BT.node (Wo P) (zsH P) .nil
noncomputable def zwP:=BT.node (boot_o_5 P) (BT.node (boot_o_9 P) (BT.node (o8 P) (BT.node (o24 P) (zsU P) (ztS P)) (BT.node (o40 P) (BT.node (zxs P) (zlB P) .nil) (BT.node (Y4 P) (zsT P) .nil))) (BT.node (o16 P) (BT.node (o32 P) (zsR P) (BT.node (o99 P) (zsQ P) .nil)) (BT.node (o48 P) (ztP P) (zsO P)))) (BT.node (o2 P) (BT.node (o12 P) (BT.node (o28 P) (zsM P) (ztM P)) (BT.node (o44 P) (ztK P) (BT.node (Y1 P) (zsL P) .nil))) (BT.node (o20 P) (BT.node (o36 P) (zsJ P) (BT.node (Y7 P) (zsI P) .nil)) (BT.node (o52 P) (ztH P) (zsG P))))
def zsF:=BT.node (Ut P) .nil .nil
def zsE:=BT.node (o55 P) (ztG P) (zsF P)
def zsD:=BT.node (UE P) .nil .nil
def zsC:=BT.node (Um P) .nil .nil
def zsB:=BT.node (o63 P) (ztB P) (zsC P)
def zsA:=BT.node (zhO P) .nil .nil
def zsz:=BT.node (zhG P) .nil .nil
def zsy:=BT.node (YZ P) (zsz P) .nil
def zsx:=BT.node (Uq P) .nil .nil
def zsw:=BT.node (o59 P) (zty P) (zsx P)
def zsv:=BT.node (UB P) .nil .nil
def zsu:=BT.node (zhB P) .nil .nil
def zst:=BT.node (o67 P) (ztt P) (zsu P)
def zss:=BT.node (zhK P) .nil .nil
def zsr:=BT.node (zhF P) .nil .nil
def zsq:=BT.node (Wp P) (zsr P) .nil
def zsp:=BT.node (Ur P) .nil .nil
def zso:=BT.node (o57 P) (ztq P) (zsp P)
def zsn:=BT.node (UD P) .nil .nil
def zsm:=BT.node (Uk P) .nil .nil
def zsl:=BT.node (o65 P) (ztl P) (zsm P)
def zsk:=BT.node (zhM P) .nil .nil
def zsj:=BT.node (Ux P) .nil .nil
def zsi:=BT.node (YX P) (zsj P) .nil
def zsh:=BT.node (zhC P) .nil .nil
def zsg:=BT.node (o61 P) (zti P) (zsh P)
def zsf:=BT.node (UI P) .nil .nil
def zse:=BT.node (UA P) .nil .nil
def zsd:=BT.node (Wq P) (zse P) .nil
def zsc:=BT.node (zhJ P) .nil .nil
def zsb:=BT.node (Uu P) .nil .nil
def zsa:=BT.node (YV P) (zsb P) .nil
noncomputable def zwO:=BT.node (boot_o_6 P) (BT.node (boot_o_10 P) (BT.node (o9 P) (BT.node (o25 P) (zso P) (zto P)) (BT.node (o41 P) (ztm P) (BT.node (Y3 P) (zsn P) .nil))) (BT.node (o17 P) (BT.node (o33 P) (zsl P) (BT.node (Y9 P) (zsk P) .nil)) (BT.node (o49 P) (ztj P) (zsi P)))) (BT.node (o3 P) (BT.node (o13 P) (BT.node (o29 P) (zsg P) (BT.node (o96 P) (zsf P) .nil)) (BT.node (o45 P) (ztg P) (zsd P))) (BT.node (o21 P) (BT.node (o37 P) (zte P) (BT.node (Y6 P) (zsc P) .nil)) (BT.node (o53 P) (ztc P) (zsa P))))
noncomputable def zwN:=BT.node (boot_o_2 P) (BT.node (boot_o_4 P) (BT.node (boot_o_8 P) (BT.node (o7 P) (BT.node (o23 P) (zsE P) (ztE P)) (BT.node (o39 P) (ztC P) (BT.node (Y5 P) (zsD P) .nil))) (BT.node (o15 P) (BT.node (o31 P) (zsB P) (BT.node (o98 P) (zsA P) .nil)) (BT.node (o47 P) (ztz P) (zsy P)))) (BT.node (zxt P) (BT.node (o11 P) (BT.node (o27 P) (zsw P) (ztw P)) (BT.node (o43 P) (ztu P) (BT.node (Y2 P) (zsv P) .nil))) (BT.node (o19 P) (BT.node (o35 P) (zst P) (BT.node (Wt P) (zss P) .nil)) (BT.node (o51 P) (ztr P) (zsq P))))) (zwO P)
noncomputable def zwM:=BT.node (boot_o_0 P) (BT.node (boot_o_1 P) (BT.node (zxu P) (BT.node (boot_o_7 P) (BT.node (o6 P) (BT.node (o22 P) (zta P) (zt8 P)) (BT.node (o38 P) (zt6 P) (BT.node (Ws P) (zs9 P) .nil))) (BT.node (o14 P) (BT.node (o30 P) (zs7 P) (BT.node (o97 P) (zs6 P) .nil)) (BT.node (o46 P) (zt3 P) (zs4 P)))) (BT.node (o0 P) (BT.node (o10 P) (BT.node (o26 P) (zs2 P) (zt0 P)) (BT.node (o42 P) (ztY P) (BT.node (Wr P) (zs1 P) .nil))) (BT.node (o18 P) (BT.node (o34 P) (zsZ P) (BT.node (Y8 P) (zsY P) .nil)) (BT.node (o50 P) (ztV P) (zsW P))))) (zwP P)) (zwN P)
noncomputable def sb4 (w:World) (os:OsState):SharedT:=⟨(zwM w.params),206,(Life.mk [] [] [] 0 [] [] false #[] [] 0 false false false 0 [2000,10,10] false 0 true [] [] 0 false),⟨[]⟩,(Drawn.mk 0 0 0 0),432,os⟩
noncomputable def L3 (w:World) (os:OsState):Option (Flow×SharedT×Code×Pos):=segRunT treeTable PySem.Challenge.pw_beatless_k25_whole_no_word_goes_faster w 11 an 1 346 (sb3 w os) (piecesOf zuF env cE (Pos.mk 58 0 70 26) B)
noncomputable def R3 (w:World) (os:OsState):Option (Flow×SharedT×Code×Pos):=some (.next,sb4 w os,cE,(Pos.mk 71 0 93 66))
theorem q3:tt (Hd.L3,Hd.R3)=true:=by k_qdec
theorem r3:∀ w,Fast.tw6196771281854559479 w=Hd.R3 w:=fun w=>by kernel_rfl
theorem e3 (w:World) (os:OsState):Hd.L3 w os=Hd.R3 w os:=(congrFun (congrFun Fast.te6196771281854559479 w) os).trans (congrFun (r3 w) os)
def zuE:List Stmt:=[S 15]
noncomputable def zxr:=Obj.mk k4 .none (Data.dict #[en P (s 3) 165 (.str (s 4) 263),en P (s 5) 166 .none,en P (s 6) 167 .none,en P (s 7) 168 k5,en P (s 8) 169 .none,en P (s 9) 170 (.ref 6),en P (s 10) 171 (.ref 4),en P (s 11) 173 (.str (s 0) 172),en P (s 12) 174 .none,en P (s 13) 193 (.ref 21),en P (s 14) 201 (.ref 26),en P (s 15) 207 (.ref 31),en P (s 16) 213 (.ref 36),en P (s 17) 228 (.ref 43),en P (s 18) 236 (.ref 50),en P (s 19) 244 (.ref 57),en P (s 20) 253 (.ref 64),en P (s 21) 262 (.ref 71),en P (s 22) 284 (.ref 81),en P (s 40) 331 (.ref 123),en P (s 51) 378 (.ref 163),en P (s 57) 431 (.ref 203),en P (s 64) 480 (.ref 243)] 23) #[]
noncomputable def zxq (P:Params):=vO #[(.int 1 0),(.int 0 0),(.ref 20),(.int 5 0),(.int 0 0),(.ref 25),(.int 7 0),(.int 0 0),(.ref 30),(.int 16 0),(.int 0 0),(.ref 35),(.int 23 0),(.int 0 0),(.ref 42),(.int 34 0),(.int 0 0),(.ref 49),(.int 36 0),(.int 0 0),(.ref 56),(.int 38 0),(.int 0 0),(.ref 63),(.int 40 0),(.int 0 0),(.ref 70),(.int 43 0),(.int 0 0),(.ref 77),(.int 45 0),(.int 0 0),(.ref 91),(.int 58 0),(.int 0 0),(.ref 131),(.int 71 0),(.int 0 0),(.ref 171),(.int 94 0),(.int 0 0),(.ref 211)]
noncomputable def zxp (P:Params):=Obj.mk k8 .none (Data.cls (ClassData.mk (s 22) [k9] [(.ref 81),k9] 80 (s 22) true [] [(.ref 123),(.ref 163),(.ref 203),(.ref 243)] false .none false)) #[.none,.none,(Option.some (.str (s 22) 265)),(Option.some (.str (s 22) 273)),(Option.some k10),(Option.some (.bool true))]
def Ui (P:Params):=tO #[(.ref 81)]
noncomputable def zhz (P:Params):=Obj.mk k6 .none (Data.fields #[k7,k8]) #[]
noncomputable def zhy:=Obj.mk k4 .none (Data.dict #[en P (s 34) 439 (.str (s 4) 263),en P (s 35) 441 (.str (s 64) 440),en P (s 36) 443 (.int 94 442),en P (s 41) 452 (.ref 219),en P (s 42) 460 (.ref 226),en P (s 43) 467 (.ref 233),en P (s 44) 474 (.ref 240),en P (s 37) 477 (.ref 241)] 8) #[]
def zhx (P:Params):=tO #[]
noncomputable def zhw (P:Params):=vO #[(.int 96 0),(.int 4 0),(.ref 218),(.int 100 0),(.int 4 0),(.ref 225),(.int 103 0),(.int 4 0),(.ref 232),(.int 106 0),(.int 4 0),(.ref 239)]
noncomputable def zhv (P:Params):=Obj.mk k1 .none (Data.fields #[(.str (s 64) 434),(.str (s 64) 435),(.str (s 0) 436),(.int 94 0),(.int 0 0),(.int 0 0),(.int 0 0),(.int 0 0),(.ref 209),(.bool false),(.int 181 0),(.ref 210),.none,.none,.none,.none,(.int 437 0),(.int 94 0),(.str (s 0) 438)]) #[]
noncomputable def zhu (P:Params):=Obj.mk k3 .none Data.plain #[(Option.some (.ref 211)),(Option.some (.ref 3)),(Option.some (.ref 208)),.none,(Option.some (.str (s 4) 263)),.none,(Option.some (.ref 0))]
def Uh (P:Params):=tO #[]
def zht (P:Params):=vO #[]
noncomputable def Ug (P:Params):=tO #[(.str (s 45) 447),(.str (s 65) 448),(.str (s 66) 449)]
def Uf (P:Params):=tO #[]
def zhs (P:Params):=gO (s 41) (s 67) (L2.inClass (S 15) 0)
noncomputable def Ue (P:Params):=cO (s 41) (s 67) 444 445 446 96 3 3 213 214 215 216 217 450 451
noncomputable def Ud (P:Params):=uO (s 41) (s 67) (L2.inClass (S 15) 0) (s 4) 263 218
def Uc (P:Params):=tO #[]
def zhr (P:Params):=vO #[]
noncomputable def Ub (P:Params):=tO #[(.str (s 45) 456),(.str (s 28) 457)]
def Ua (P:Params):=tO #[]
def zhq (P:Params):=gO (s 42) (s 68) (L2.inClass (S 15) 1)
noncomputable def V9 (P:Params):=cO (s 42) (s 68) 453 454 455 100 2 3 220 221 222 223 224 458 459
noncomputable def V8 (P:Params):=uO (s 42) (s 68) (L2.inClass (S 15) 1) (s 4) 263 225
def V7 (P:Params):=tO #[]
def zhp (P:Params):=vO #[]
def V6 (P:Params):=tO #[(.str (s 45) 464)]
def zaw (P:Params):=tO #[]
def zlu (P:Params):=gO (s 43) (s 69) (L2.inClass (S 15) 2)
noncomputable def zav (P:Params):=cO (s 43) (s 69) 461 462 463 103 1 3 227 228 229 230 231 465 466
noncomputable def zau (P:Params):=uO (s 43) (s 69) (L2.inClass (S 15) 2) (s 4) 263 232
def zat (P:Params):=tO #[]
def zlt (P:Params):=vO #[]
def zas (P:Params):=tO #[(.str (s 45) 471)]
def zar (P:Params):=tO #[]
def zls (P:Params):=gO (s 44) (s 70) (L2.inClass (S 15) 3)
noncomputable def zaq (P:Params):=cO (s 44) (s 70) 468 469 470 106 1 3 234 235 236 237 238 472 473
noncomputable def zap (P:Params):=uO (s 44) (s 70) (L2.inClass (S 15) 3) (s 4) 263 239
noncomputable def zao (P:Params):=tO #[(.str (s 65) 475),(.str (s 66) 476)]
noncomputable def zan:=Obj.mk k4 .none (Data.dict #[en P (s 34) 439 (.str (s 4) 263),en P (s 36) 443 (.int 94 442),en P (s 41) 452 (.ref 219),en P (s 42) 460 (.ref 226),en P (s 43) 467 (.ref 233),en P (s 44) 474 (.ref 240),en P (s 37) 477 (.ref 241),en P (s 5) 478 .none] 2) #[]
noncomputable def zam (P:Params):=Obj.mk k8 .none (Data.cls (ClassData.mk (s 64) [(.ref 81)] [(.ref 243),(.ref 81),k9] 242 (s 64) true [] [] false .none false)) #[(Option.some (.ref 206)),.none,(Option.some (.str (s 64) 432)),(Option.some (.str (s 64) 440)),(Option.some k10),(Option.some (.bool true))]
noncomputable def zlr (P:Params):=Obj.mk k15 .none (Data.fields #[(.ref 243),(.ref 243),(.ref 243)]) #[]
noncomputable def zlq (P:Params):=Obj.mk k6 .none (Data.fields #[k16,(.ref 243)]) #[]
def zr9:=BT.node (Ua P) .nil .nil
def zr8:=BT.node (zhz P) .nil .nil
def zr7:=BT.node (zaq P) .nil .nil
def zr6:=BT.node (Ws P) (zs9 P) (zr7 P)
def zlA:=BT.node (zlu P) .nil .nil
def zr5:=BT.node (Ug P) .nil .nil
def zr4:=BT.node (V7 P) .nil .nil
def zr3:=BT.node (zhv P) .nil .nil
def zr2:=BT.node (zam P) .nil .nil
def zr1:=BT.node (Wr P) (zs1 P) (zr2 P)
def zr0:=BT.node (zlt P) .nil .nil
def zrZ:=BT.node (Y8 P) (zsY P) (zr0 P)
def zrY:=BT.node (Ud P) .nil .nil
def zrX:=BT.node (V9 P) .nil .nil
def zrW:=BT.node (zhx P) .nil .nil
def zrV:=BT.node (zao P) .nil .nil
def zrU:=BT.node (Y4 P) (zsT P) (zrV P)
def zrT:=BT.node (zau P) .nil .nil
def zrS:=BT.node (zhs P) .nil .nil
def zrR:=BT.node (V6 P) .nil .nil
def zrQ:=BT.node (Uh P) .nil .nil
def zrP:=BT.node (zlq P) .nil .nil
def zrO:=BT.node (Y1 P) (zsL P) (zrP P)
def zrN:=BT.node (zar P) .nil .nil
def zrM:=BT.node (Y7 P) (zsI P) (zrN P)
def zrL:=BT.node (zhr P) .nil .nil
noncomputable def zwL:=BT.node (boot_o_5 P) (BT.node (boot_o_9 P) (BT.node (o8 P) (BT.node (o24 P) (zsU P) (BT.node (o91 P) (ztT P) (zrX P))) (BT.node (o40 P) (BT.node (zxp P) (zlB P) (zrW P)) (zrU P))) (BT.node (o16 P) (BT.node (o32 P) (zsR P) (BT.node (o99 P) (zsQ P) (zrT P))) (BT.node (o48 P) (BT.node (o83 P) (ztQ P) (zrS P)) (zsO P)))) (BT.node (o2 P) (BT.node (o12 P) (BT.node (o28 P) (zsM P) (BT.node (o95 P) (ztN P) (zrR P))) (BT.node (o44 P) (BT.node (o76 P) (ztL P) (zrQ P)) (zrO P))) (BT.node (o20 P) (BT.node (o36 P) (zsJ P) (zrM P)) (BT.node (o52 P) (BT.node (o87 P) (ztI P) (zrL P)) (zsG P))))
def zrK:=BT.node (zhq P) .nil .nil
def zrJ:=BT.node (zhy P) .nil .nil
def zrI:=BT.node (zap P) .nil .nil
def zrH:=BT.node (Y5 P) (zsD P) (zrI P)
def zrG:=BT.node (zav P) .nil .nil
def zrF:=BT.node (Uf P) .nil .nil
def zrE:=BT.node (zhp P) .nil .nil
def zrD:=BT.node (zhu P) .nil .nil
def zrC:=BT.node (zlr P) .nil .nil
def zrB:=BT.node (Y2 P) (zsv P) (zrC P)
def zrA:=BT.node (zas P) .nil .nil
def zrz:=BT.node (Wt P) (zss P) (zrA P)
def zry:=BT.node (Uc P) .nil .nil
def zrx:=BT.node (V8 P) .nil .nil
def zrw:=BT.node (zhw P) .nil .nil
def zrv:=BT.node (zan P) .nil .nil
def zru:=BT.node (Y3 P) (zsn P) (zrv P)
def zrt:=BT.node (zat P) .nil .nil
def zrs:=BT.node (Ue P) .nil .nil
def zrr:=BT.node (zaw P) .nil .nil
def zrq:=BT.node (zht P) .nil .nil
def zrp:=BT.node (Ui P) .nil .nil
def zro:=BT.node (zls P) .nil .nil
def zrn:=BT.node (Y6 P) (zsc P) (zro P)
def zrm:=BT.node (Ub P) .nil .nil
noncomputable def zwK:=BT.node (boot_o_6 P) (BT.node (boot_o_10 P) (BT.node (o9 P) (BT.node (o25 P) (zso P) (BT.node (o92 P) (ztp P) (zrx P))) (BT.node (o41 P) (BT.node (o73 P) (ztn P) (zrw P)) (zru P))) (BT.node (o17 P) (BT.node (o33 P) (zsl P) (BT.node (Y9 P) (zsk P) (zrt P))) (BT.node (o49 P) (BT.node (o84 P) (ztk P) (zrs P)) (zsi P)))) (BT.node (o3 P) (BT.node (o13 P) (BT.node (o29 P) (zsg P) (BT.node (o96 P) (zsf P) (zrr P))) (BT.node (o45 P) (BT.node (o80 P) (zth P) (zrq P)) (zsd P))) (BT.node (o21 P) (BT.node (o37 P) (BT.node (o69 P) (ztf P) (zrp P)) (zrn P)) (BT.node (o53 P) (BT.node (o88 P) (ztd P) (zrm P)) (zsa P))))
noncomputable def zwJ:=BT.node (boot_o_2 P) (BT.node (boot_o_4 P) (BT.node (boot_o_8 P) (BT.node (o7 P) (BT.node (o23 P) (zsE P) (BT.node (o90 P) (ztF P) (zrK P))) (BT.node (o39 P) (BT.node (o71 P) (ztD P) (zrJ P)) (zrH P))) (BT.node (o15 P) (BT.node (o31 P) (zsB P) (BT.node (o98 P) (zsA P) (zrG P))) (BT.node (o47 P) (BT.node (o82 P) (ztA P) (zrF P)) (zsy P)))) (BT.node (zxq P) (BT.node (o11 P) (BT.node (o27 P) (zsw P) (BT.node (o94 P) (ztx P) (zrE P))) (BT.node (o43 P) (BT.node (o75 P) (ztv P) (zrD P)) (zrB P))) (BT.node (o19 P) (BT.node (o35 P) (zst P) (zrz P)) (BT.node (o51 P) (BT.node (o86 P) (zts P) (zry P)) (zsq P))))) (zwK P)
noncomputable def zwI:=BT.node (boot_o_0 P) (BT.node (boot_o_1 P) (BT.node (zxr P) (BT.node (boot_o_7 P) (BT.node (o6 P) (BT.node (o22 P) (zta P) (BT.node (o89 P) (zt9 P) (zr9 P))) (BT.node (o38 P) (BT.node (o70 P) (zt7 P) (zr8 P)) (zr6 P))) (BT.node (o14 P) (BT.node (o30 P) (zs7 P) (BT.node (o97 P) (zs6 P) (zlA P))) (BT.node (o46 P) (BT.node (o81 P) (zt4 P) (zr5 P)) (zs4 P)))) (BT.node (o0 P) (BT.node (o10 P) (BT.node (o26 P) (zs2 P) (BT.node (o93 P) (zt1 P) (zr4 P))) (BT.node (o42 P) (BT.node (o74 P) (ztZ P) (zr3 P)) (zr1 P))) (BT.node (o18 P) (BT.node (o34 P) (zsZ P) (zrZ P)) (BT.node (o50 P) (BT.node (o85 P) (ztW P) (zrY P)) (zsW P))))) (zwL P)) (zwJ P)
noncomputable def sb5 (w:World) (os:OsState):SharedT:=⟨(zwI w.params),246,(Life.mk [] [] [] 0 [] [] false #[] [] 0 false false false 0 [2000,10,10] false 0 true [] [] 0 false),⟨[]⟩,(Drawn.mk 0 0 0 0),481,os⟩
noncomputable def L4 (w:World) (os:OsState):Option (Flow×SharedT×Code×Pos):=segRunT treeTable PySem.Challenge.pw_beatless_k25_whole_no_word_goes_faster w 11 an 1 342 (sb4 w os) (piecesOf zuE env cE (Pos.mk 71 0 93 66) B)
noncomputable def R4 (w:World) (os:OsState):Option (Flow×SharedT×Code×Pos):=some (.next,sb5 w os,cE,(Pos.mk 94 0 107 64))
theorem q4:tt (Hd.L4,Hd.R4)=true:=by k_qdec
theorem r4:∀ w,Fast.tw18063231807419426806 w=Hd.R4 w:=fun w=>by kernel_rfl
theorem e4 (w:World) (os:OsState):Hd.L4 w os=Hd.R4 w os:=(congrFun (congrFun Fast.te18063231807419426806 w) os).trans (congrFun (r4 w) os)
def zuD:List Stmt:=[S 16,S 17,S 18]
noncomputable def zxo:=Obj.mk k4 .none (Data.dict #[en P (s 3) 165 (.str (s 71) 534),en P (s 5) 166 .none,en P (s 6) 167 .none,en P (s 7) 168 k5,en P (s 8) 169 .none,en P (s 9) 170 (.ref 6),en P (s 10) 171 (.ref 4),en P (s 11) 173 (.str (s 0) 172),en P (s 12) 174 .none,en P (s 13) 193 (.ref 21),en P (s 14) 201 (.ref 26),en P (s 15) 207 (.ref 31),en P (s 16) 213 (.ref 36),en P (s 17) 228 (.ref 43),en P (s 18) 236 (.ref 50),en P (s 19) 244 (.ref 57),en P (s 20) 253 (.ref 64),en P (s 21) 262 (.ref 71),en P (s 22) 284 (.ref 81),en P (s 40) 331 (.ref 123),en P (s 51) 378 (.ref 163),en P (s 57) 431 (.ref 203),en P (s 64) 480 (.ref 243),en P (s 72) 533 (.ref 283),en P (s 73) 553 (.ref 295)] 25) #[]
noncomputable def zxn (P:Params):=vO #[(.int 1 0),(.int 0 0),(.ref 20),(.int 5 0),(.int 0 0),(.ref 25),(.int 7 0),(.int 0 0),(.ref 30),(.int 16 0),(.int 0 0),(.ref 35),(.int 23 0),(.int 0 0),(.ref 42),(.int 34 0),(.int 0 0),(.ref 49),(.int 36 0),(.int 0 0),(.ref 56),(.int 38 0),(.int 0 0),(.ref 63),(.int 40 0),(.int 0 0),(.ref 70),(.int 43 0),(.int 0 0),(.ref 77),(.int 45 0),(.int 0 0),(.ref 91),(.int 58 0),(.int 0 0),(.ref 131),(.int 71 0),(.int 0 0),(.ref 171),(.int 94 0),(.int 0 0),(.ref 211),(.int 108 0),(.int 0 0),(.ref 251),(.int 127 0),(.int 0 0),(.ref 291)]
noncomputable def Vh (P:Params):=Obj.mk k8 .none (Data.cls (ClassData.mk (s 22) [k9] [(.ref 81),k9] 80 (s 22) true [] [(.ref 123),(.ref 163),(.ref 203),(.ref 243),(.ref 283)] false .none false)) #[.none,.none,(Option.some (.str (s 22) 265)),(Option.some (.str (s 22) 273)),(Option.some k10),(Option.some (.bool true))]
def zal (P:Params):=tO #[(.ref 81)]
noncomputable def zlp (P:Params):=Obj.mk k6 .none (Data.fields #[k7,k8]) #[]
noncomputable def zlo:=Obj.mk k4 .none (Data.dict #[en P (s 34) 488 (.str (s 4) 263),en P (s 35) 490 (.str (s 72) 489),en P (s 36) 492 (.int 108 491),en P (s 41) 503 (.ref 259),en P (s 42) 511 (.ref 266),en P (s 43) 518 (.ref 273),en P (s 44) 525 (.ref 280),en P (s 37) 530 (.ref 281)] 8) #[]
def zln (P:Params):=tO #[]
noncomputable def zlm (P:Params):=vO #[(.int 110 0),(.int 4 0),(.ref 258),(.int 116 0),(.int 4 0),(.ref 265),(.int 121 0),(.int 4 0),(.ref 272),(.int 124 0),(.int 4 0),(.ref 279)]
noncomputable def zll (P:Params):=Obj.mk k1 .none (Data.fields #[(.str (s 72) 483),(.str (s 72) 484),(.str (s 0) 485),(.int 108 0),(.int 0 0),(.int 0 0),(.int 0 0),(.int 0 0),(.ref 249),(.bool false),(.int 181 0),(.ref 250),.none,.none,.none,.none,(.int 486 0),(.int 108 0),(.str (s 0) 487)]) #[]
noncomputable def zlk (P:Params):=Obj.mk k3 .none Data.plain #[(Option.some (.ref 251)),(Option.some (.ref 3)),(Option.some (.ref 248)),.none,(Option.some (.str (s 4) 263)),.none,(Option.some (.ref 0))]
def zak (P:Params):=tO #[]
def zlj (P:Params):=vO #[]
noncomputable def zho (P:Params):=tO #[(.str (s 45) 496),(.str (s 58) 497),(.str (s 59) 498),(.str (s 74) 499),(.str (s 75) 500)]
def zhn (P:Params):=tO #[]
def znT (P:Params):=gO (s 41) (s 76) (L2.inClass (S 16) 0)
noncomputable def zhm (P:Params):=cO (s 41) (s 76) 493 494 495 110 5 3 253 254 255 256 257 501 502
noncomputable def zhl (P:Params):=uO (s 41) (s 76) (L2.inClass (S 16) 0) (s 4) 263 258
def zhk (P:Params):=tO #[]
def znS (P:Params):=vO #[]
noncomputable def zhj (P:Params):=tO #[(.str (s 45) 507),(.str (s 28) 508)]
def zhi (P:Params):=tO #[]
def znR (P:Params):=gO (s 42) (s 77) (L2.inClass (S 16) 1)
noncomputable def zhh (P:Params):=cO (s 42) (s 77) 504 505 506 116 2 3 260 261 262 263 264 509 510
noncomputable def zhg (P:Params):=uO (s 42) (s 77) (L2.inClass (S 16) 1) (s 4) 263 265
def zhf (P:Params):=tO #[]
def znQ (P:Params):=vO #[]
def zhe (P:Params):=tO #[(.str (s 45) 515)]
def zhd (P:Params):=tO #[]
def znP (P:Params):=gO (s 43) (s 78) (L2.inClass (S 16) 2)
noncomputable def zhc (P:Params):=cO (s 43) (s 78) 512 513 514 121 1 3 267 268 269 270 271 516 517
noncomputable def zhb (P:Params):=uO (s 43) (s 78) (L2.inClass (S 16) 2) (s 4) 263 272
def zha (P:Params):=tO #[]
def znO (P:Params):=vO #[]
def zg9 (P:Params):=tO #[(.str (s 45) 522)]
def zg8 (P:Params):=tO #[]
def znN (P:Params):=gO (s 44) (s 79) (L2.inClass (S 16) 3)
noncomputable def zg7 (P:Params):=cO (s 44) (s 79) 519 520 521 124 1 3 274 275 276 277 278 523 524
noncomputable def zg6 (P:Params):=uO (s 44) (s 79) (L2.inClass (S 16) 3) (s 4) 263 279
noncomputable def zg5 (P:Params):=tO #[(.str (s 75) 526),(.str (s 58) 527),(.str (s 59) 528),(.str (s 74) 529)]
noncomputable def zg4:=Obj.mk k4 .none (Data.dict #[en P (s 34) 488 (.str (s 4) 263),en P (s 36) 492 (.int 108 491),en P (s 41) 503 (.ref 259),en P (s 42) 511 (.ref 266),en P (s 43) 518 (.ref 273),en P (s 44) 525 (.ref 280),en P (s 37) 530 (.ref 281),en P (s 5) 531 .none] 2) #[]
noncomputable def zg3 (P:Params):=Obj.mk k8 .none (Data.cls (ClassData.mk (s 72) [(.ref 81)] [(.ref 283),(.ref 81),k9] 282 (s 72) true [] [] false .none false)) #[(Option.some (.ref 246)),.none,(Option.some (.str (s 72) 481)),(Option.some (.str (s 72) 489)),(Option.some k10),(Option.some (.bool true))]
noncomputable def znM (P:Params):=Obj.mk k15 .none (Data.fields #[(.ref 283),(.ref 283),(.ref 283)]) #[]
noncomputable def znL (P:Params):=Obj.mk k6 .none (Data.fields #[k16,(.ref 283)]) #[]
def zg2 (P:Params):=tO #[k17]
noncomputable def znK (P:Params):=Obj.mk k6 .none (Data.fields #[k7,k8]) #[]
noncomputable def znJ:=Obj.mk k4 .none (Data.dict #[en P (s 34) 543 (.str (s 71) 534),en P (s 35) 545 (.str (s 73) 544),en P (s 36) 547 (.int 127 546),en P (s 37) 548 (.ref 293)] 4) #[]
def znI (P:Params):=tO #[]
def znH (P:Params):=vO #[]
noncomputable def znG (P:Params):=Obj.mk k1 .none (Data.fields #[(.str (s 73) 538),(.str (s 73) 539),(.str (s 0) 540),(.int 127 0),(.int 0 0),(.int 0 0),(.int 0 0),(.int 0 0),(.ref 289),(.bool false),(.int 181 0),(.ref 290),.none,.none,.none,.none,(.int 541 0),(.int 127 0),(.str (s 0) 542)]) #[]
noncomputable def znF (P:Params):=Obj.mk k3 .none Data.plain #[(Option.some (.ref 291)),(Option.some (.ref 3)),(Option.some (.ref 288)),.none,(Option.some (.str (s 71) 534)),.none,(Option.some (.ref 0))]
def zg1 (P:Params):=tO #[]
noncomputable def zg0:=Obj.mk k4 .none (Data.dict #[en P (s 34) 543 (.str (s 71) 534),en P (s 36) 547 (.int 127 546),en P (s 37) 548 (.ref 293),en P (s 39) 550 (.ref 296),en P (s 5) 551 .none] 3) #[]
noncomputable def zxm (P:Params):=Obj.mk k8 .none (Data.cls (ClassData.mk (s 73) [k17] [(.ref 295),k17,k18,k19,k9] 294 (s 73) true [] [] false .none false)) #[(Option.some (.ref 286)),.none,(Option.some (.str (s 73) 536)),(Option.some (.str (s 73) 544)),(Option.some k20),(Option.some (.bool true))]
noncomputable def zgZ (P:Params):=Obj.mk k11 .none (Data.fields #[(.str (s 39) 549),(.ref 295),k14,.none]) #[]
noncomputable def znE (P:Params):=Obj.mk k15 .none (Data.fields #[(.ref 295),(.ref 295),(.ref 295)]) #[]
noncomputable def znD (P:Params):=Obj.mk k6 .none (Data.fields #[k16,(.ref 295)]) #[]
def zrl:=BT.node (zho P) .nil .nil
def zrk:=BT.node (zh4 P) (zrl P) .nil
def zrj:=BT.node (znK P) .nil .nil
def zri:=BT.node (UN P) (zrj P) .nil
def zrh:=BT.node (o89 P) (zri P) (zr9 P)
def zrg:=BT.node (znP P) .nil .nil
def zrf:=BT.node (UY P) (zrg P) .nil
def zre:=BT.node (o70 P) (zrf P) (zr8 P)
def zrd:=BT.node (zhi P) .nil .nil
def zrc:=BT.node (U4 P) (zrd P) .nil
def zrb:=BT.node (o62 P) (zrc P) (zs8 P)
def zra:=BT.node (zg7 P) .nil .nil
def zq9:=BT.node (zhT P) (zra P) .nil
def zq8:=BT.node (o81 P) (zq9 P) (zr5 P)
def zq7:=BT.node (zlp P) .nil .nil
def zq6:=BT.node (zhl P) .nil .nil
def zq5:=BT.node (zh0 P) (zq6 P) .nil
def zq4:=BT.node (znG P) .nil .nil
def zq3:=BT.node (UJ P) (zq4 P) .nil
noncomputable def zq2:=BT.node (o26 P) (BT.node (o58 P) (zq5 P) (zs3 P)) (BT.node (o93 P) (zq3 P) (zr4 P))
def zq1:=BT.node (znO P) .nil .nil
def zq0:=BT.node (UV P) (zq1 P) .nil
def zqZ:=BT.node (o74 P) (zq0 P) (zr3 P)
def zqY:=BT.node (zhf P) .nil .nil
def zqX:=BT.node (U1 P) (zqY P) .nil
def zqW:=BT.node (o66 P) (zqX P) (zs0 P)
def zqV:=BT.node (zg3 P) .nil .nil
def zqU:=BT.node (zhS P) (zqV P) .nil
def zqT:=BT.node (o85 P) (zqU P) (zrY P)
def zqS:=BT.node (zll P) .nil .nil
def zqR:=BT.node (znT P) .nil .nil
def zqQ:=BT.node (zh2 P) (zqR P) .nil
def zqP:=BT.node (znI P) .nil .nil
def zqO:=BT.node (UL P) (zqP P) .nil
def zqN:=BT.node (o91 P) (zqO P) (zrX P)
def zqM:=BT.node (zhb P) .nil .nil
def zqL:=BT.node (UX P) (zqM P) .nil
def zqK:=BT.node (Vh P) (zqL P) (zrW P)
def zqJ:=BT.node (zhh P) .nil .nil
def zqI:=BT.node (zhX P) (zqJ P) .nil
def zqH:=BT.node (znE P) .nil .nil
def zqG:=BT.node (zhN P) (zqH P) .nil
noncomputable def zqF:=BT.node (o32 P) (BT.node (o64 P) (zqI P) (zsS P)) (BT.node (o99 P) (zqG P) (zrT P))
def zqE:=BT.node (zg5 P) .nil .nil
def zqD:=BT.node (UR P) (zqE P) .nil
def zqC:=BT.node (o83 P) (zqD P) (zrS P)
def zqB:=BT.node (zln P) .nil .nil
def zqA:=BT.node (znS P) .nil .nil
def zqz:=BT.node (U5 P) (zqA P) .nil
def zqy:=BT.node (zg1 P) .nil .nil
def zqx:=BT.node (zhP P) (zqy P) .nil
noncomputable def zqw:=BT.node (o28 P) (BT.node (o60 P) (zqz P) (zsN P)) (BT.node (o95 P) (zqx P) (zrR P))
def zqv:=BT.node (zg8 P) .nil .nil
def zqu:=BT.node (UU P) (zqv P) .nil
def zqt:=BT.node (o76 P) (zqu P) (zrQ P)
def zqs:=BT.node (zhe P) .nil .nil
def zqr:=BT.node (zhW P) (zqs P) .nil
def zqq:=BT.node (o68 P) (zqr P) (zsK P)
def zqp:=BT.node (znL P) .nil .nil
def zqo:=BT.node (UO P) (zqp P) .nil
def zqn:=BT.node (o87 P) (zqo P) (zrL P)
def zqm:=BT.node (zak P) .nil .nil
noncomputable def zwH:=BT.node (boot_o_5 P) (BT.node (boot_o_9 P) (BT.node (o8 P) (BT.node (o24 P) (BT.node (o56 P) (zqQ P) (zsV P)) (zqN P)) (BT.node (o40 P) (zqK P) (zrU P))) (BT.node (o16 P) (zqF P) (BT.node (o48 P) (zqC P) (BT.node (YY P) (zsP P) (zqB P))))) (BT.node (o2 P) (BT.node (o12 P) (zqw P) (BT.node (o44 P) (zqt P) (zrO P))) (BT.node (o20 P) (BT.node (o36 P) (zqq P) (zrM P)) (BT.node (o52 P) (zqn P) (BT.node (Wo P) (zsH P) (zqm P)))))
def zql:=BT.node (zhn P) .nil .nil
def zqk:=BT.node (zh3 P) (zql P) .nil
def zqj:=BT.node (znJ P) .nil .nil
def zqi:=BT.node (UM P) (zqj P) .nil
def zqh:=BT.node (o90 P) (zqi P) (zrK P)
def zqg:=BT.node (zhc P) .nil .nil
def zqf:=BT.node (zhV P) (zqg P) .nil
def zqe:=BT.node (o71 P) (zqf P) (zrJ P)
def zqd:=BT.node (znR P) .nil .nil
def zqc:=BT.node (U3 P) (zqd P) .nil
def zqb:=BT.node (zgZ P) .nil .nil
def zqa:=BT.node (zhO P) (zqb P) .nil
noncomputable def zp9:=BT.node (o31 P) (BT.node (o63 P) (zqc P) (zsC P)) (BT.node (o98 P) (zqa P) (zrG P))
def zp8:=BT.node (zg6 P) .nil .nil
def zp7:=BT.node (US P) (zp8 P) .nil
def zp6:=BT.node (o82 P) (zp7 P) (zrF P)
def zp5:=BT.node (zlo P) .nil .nil
def zp4:=BT.node (zhk P) .nil .nil
def zp3:=BT.node (zhZ P) (zp4 P) .nil
def zp2:=BT.node (znF P) .nil .nil
def zp1:=BT.node (zhQ P) (zp2 P) .nil
noncomputable def zp0:=BT.node (o27 P) (BT.node (o59 P) (zp3 P) (zsx P)) (BT.node (o94 P) (zp1 P) (zrE P))
def zpZ:=BT.node (zg9 P) .nil .nil
def zpY:=BT.node (zhU P) (zpZ P) .nil
def zpX:=BT.node (o75 P) (zpY P) (zrD P)
def zpW:=BT.node (znQ P) .nil .nil
def zpV:=BT.node (U0 P) (zpW P) .nil
def zpU:=BT.node (o67 P) (zpV P) (zsu P)
def zpT:=BT.node (znM P) .nil .nil
def zpS:=BT.node (UP P) (zpT P) .nil
def zpR:=BT.node (o86 P) (zpS P) (zry P)
def zpQ:=BT.node (zlk P) .nil .nil
def zpP:=BT.node (zhm P) .nil .nil
def zpO:=BT.node (zh1 P) (zpP P) .nil
def zpN:=BT.node (znH P) .nil .nil
def zpM:=BT.node (UK P) (zpN P) .nil
def zpL:=BT.node (o92 P) (zpM P) (zrx P)
def zpK:=BT.node (zha P) .nil .nil
def zpJ:=BT.node (UW P) (zpK P) .nil
def zpI:=BT.node (o73 P) (zpJ P) (zrw P)
def zpH:=BT.node (zhg P) .nil .nil
def zpG:=BT.node (U2 P) (zpH P) .nil
def zpF:=BT.node (znD P) .nil .nil
def zpE:=BT.node (zhM P) (zpF P) .nil
noncomputable def zpD:=BT.node (o33 P) (BT.node (o65 P) (zpG P) (zsm P)) (BT.node (Y9 P) (zpE P) (zrt P))
def zpC:=BT.node (zg4 P) .nil .nil
def zpB:=BT.node (UQ P) (zpC P) .nil
def zpA:=BT.node (o84 P) (zpB P) (zrs P)
def zpz:=BT.node (zlm P) .nil .nil
def zpy:=BT.node (zhj P) .nil .nil
def zpx:=BT.node (zhY P) (zpy P) .nil
def zpw:=BT.node (zg0 P) .nil .nil
def zpv:=BT.node (UI P) (zpw P) .nil
noncomputable def zpu:=BT.node (o29 P) (BT.node (o61 P) (zpx P) (zsh P)) (BT.node (o96 P) (zpv P) (zrr P))
def zpt:=BT.node (znN P) .nil .nil
def zps:=BT.node (UT P) (zpt P) .nil
def zpr:=BT.node (o80 P) (zps P) (zrq P)
def zpq:=BT.node (zal P) .nil .nil
def zpp:=BT.node (zhd P) .nil .nil
def zpo:=BT.node (UZ P) (zpp P) .nil
def zpn:=BT.node (o69 P) (zpo P) (zrp P)
def zpm:=BT.node (zg2 P) .nil .nil
def zpl:=BT.node (zhR P) (zpm P) .nil
def zpk:=BT.node (o88 P) (zpl P) (zrm P)
def zpj:=BT.node (zlj P) .nil .nil
noncomputable def zwG:=BT.node (boot_o_6 P) (BT.node (boot_o_10 P) (BT.node (o9 P) (BT.node (o25 P) (BT.node (o57 P) (zpO P) (zsp P)) (zpL P)) (BT.node (o41 P) (zpI P) (zru P))) (BT.node (o17 P) (zpD P) (BT.node (o49 P) (zpA P) (BT.node (YX P) (zsj P) (zpz P))))) (BT.node (o3 P) (BT.node (o13 P) (zpu P) (BT.node (o45 P) (zpr P) (BT.node (Wq P) (zse P) (zpq P)))) (BT.node (o21 P) (BT.node (o37 P) (zpn P) (zrn P)) (BT.node (o53 P) (zpk P) (BT.node (YV P) (zsb P) (zpj P)))))
noncomputable def zwF:=BT.node (boot_o_2 P) (BT.node (boot_o_4 P) (BT.node (boot_o_8 P) (BT.node (o7 P) (BT.node (o23 P) (BT.node (o55 P) (zqk P) (zsF P)) (zqh P)) (BT.node (o39 P) (zqe P) (zrH P))) (BT.node (o15 P) (zp9 P) (BT.node (o47 P) (zp6 P) (BT.node (YZ P) (zsz P) (zp5 P))))) (BT.node (zxn P) (BT.node (o11 P) (zp0 P) (BT.node (o43 P) (zpX P) (zrB P))) (BT.node (o19 P) (BT.node (o35 P) (zpU P) (zrz P)) (BT.node (o51 P) (zpR P) (BT.node (Wp P) (zsr P) (zpQ P)))))) (zwG P)
noncomputable def zwE:=BT.node (boot_o_0 P) (BT.node (boot_o_1 P) (BT.node (zxo P) (BT.node (boot_o_7 P) (BT.node (o6 P) (BT.node (o22 P) (BT.node (o54 P) (zrk P) (ztb P)) (zrh P)) (BT.node (o38 P) (zre P) (zr6 P))) (BT.node (o14 P) (BT.node (o30 P) (zrb P) (BT.node (o97 P) (BT.node (UH P) (BT.node (zxm P) .nil .nil) .nil) (zlA P))) (BT.node (o46 P) (zq8 P) (BT.node (Y0 P) (zs5 P) (zq7 P))))) (BT.node (o0 P) (BT.node (o10 P) (zq2 P) (BT.node (o42 P) (zqZ P) (zr1 P))) (BT.node (o18 P) (BT.node (o34 P) (zqW P) (zrZ P)) (BT.node (o50 P) (zqT P) (BT.node (YW P) (zsX P) (zqS P)))))) (zwH P)) (zwF P)
noncomputable def sb6 (w:World) (os:OsState):SharedT:=⟨(zwE w.params),299,(Life.mk [] [] [] 0 [] [] false #[] [] 0 false false false 0 [2000,10,10] false 0 true [] [] 0 false),⟨[]⟩,(Drawn.mk 0 0 0 0),554,os⟩
noncomputable def L5 (w:World) (os:OsState):Option (Flow×SharedT×Code×Pos):=segRunT treeTable PySem.Challenge.pw_beatless_k25_whole_no_word_goes_faster w 11 an 1 541 (sb5 w os) (piecesOf zuD env cE (Pos.mk 94 0 107 64) B)
noncomputable def R5 (w:World) (os:OsState):Option (Flow×SharedT×Code×Pos):=some (.next,sb6 w os,cE,(Pos.mk 127 0 128 8))
theorem q5:tt (Hd.L5,Hd.R5)=true:=by k_qdec
theorem r5:∀ w,Fast.tw7289443652863241282 w=Hd.R5 w:=fun w=>by kernel_rfl
theorem e5 (w:World) (os:OsState):Hd.L5 w os=Hd.R5 w os:=(congrFun (congrFun Fast.te7289443652863241282 w) os).trans (congrFun (r5 w) os)
def zuC:List Stmt:=[S 19,S 20]
noncomputable def zxl:=Obj.mk k4 .none (Data.dict #[en P (s 3) 165 (.str (s 71) 534),en P (s 5) 166 .none,en P (s 6) 167 .none,en P (s 7) 168 k5,en P (s 8) 169 .none,en P (s 9) 170 (.ref 6),en P (s 10) 171 (.ref 4),en P (s 11) 173 (.str (s 0) 172),en P (s 12) 174 .none,en P (s 13) 193 (.ref 21),en P (s 14) 201 (.ref 26),en P (s 15) 207 (.ref 31),en P (s 16) 213 (.ref 36),en P (s 17) 228 (.ref 43),en P (s 18) 236 (.ref 50),en P (s 19) 244 (.ref 57),en P (s 20) 253 (.ref 64),en P (s 21) 262 (.ref 71),en P (s 22) 284 (.ref 81),en P (s 40) 331 (.ref 123),en P (s 51) 378 (.ref 163),en P (s 57) 431 (.ref 203),en P (s 64) 480 (.ref 243),en P (s 72) 533 (.ref 283),en P (s 73) 553 (.ref 295),en P (s 80) 569 (.ref 308),en P (s 81) 585 (.ref 320)] 27) #[]
noncomputable def zxk (P:Params):=vO #[(.int 1 0),(.int 0 0),(.ref 20),(.int 5 0),(.int 0 0),(.ref 25),(.int 7 0),(.int 0 0),(.ref 30),(.int 16 0),(.int 0 0),(.ref 35),(.int 23 0),(.int 0 0),(.ref 42),(.int 34 0),(.int 0 0),(.ref 49),(.int 36 0),(.int 0 0),(.ref 56),(.int 38 0),(.int 0 0),(.ref 63),(.int 40 0),(.int 0 0),(.ref 70),(.int 43 0),(.int 0 0),(.ref 77),(.int 45 0),(.int 0 0),(.ref 91),(.int 58 0),(.int 0 0),(.ref 131),(.int 71 0),(.int 0 0),(.ref 171),(.int 94 0),(.int 0 0),(.ref 211),(.int 108 0),(.int 0 0),(.ref 251),(.int 127 0),(.int 0 0),(.ref 291),(.int 129 0),(.int 0 0),(.ref 304),(.int 131 0),(.int 0 0),(.ref 316)]
noncomputable def zxj (P:Params):=Obj.mk k8 .none (Data.cls (ClassData.mk (s 73) [k17] [(.ref 295),k17,k18,k19,k9] 294 (s 73) true [] [(.ref 308),(.ref 320)] false .none false)) #[(Option.some (.ref 286)),.none,(Option.some (.str (s 73) 536)),(Option.some (.str (s 73) 544)),(Option.some k20),(Option.some (.bool true))]
def zgY (P:Params):=tO #[(.ref 295)]
noncomputable def znC (P:Params):=Obj.mk k6 .none (Data.fields #[k7,k8]) #[]
noncomputable def znB:=Obj.mk k4 .none (Data.dict #[en P (s 34) 561 (.str (s 71) 534),en P (s 35) 563 (.str (s 80) 562),en P (s 36) 565 (.int 129 564),en P (s 37) 566 (.ref 306)] 4) #[]
def znA (P:Params):=tO #[]
def znz (P:Params):=vO #[]
noncomputable def zny (P:Params):=Obj.mk k1 .none (Data.fields #[(.str (s 80) 556),(.str (s 80) 557),(.str (s 0) 558),(.int 129 0),(.int 0 0),(.int 0 0),(.int 0 0),(.int 0 0),(.ref 302),(.bool false),(.int 181 0),(.ref 303),.none,.none,.none,.none,(.int 559 0),(.int 129 0),(.str (s 0) 560)]) #[]
noncomputable def znx (P:Params):=Obj.mk k3 .none Data.plain #[(Option.some (.ref 304)),(Option.some (.ref 3)),(Option.some (.ref 301)),.none,(Option.some (.str (s 71) 534)),.none,(Option.some (.ref 0))]
def zgX (P:Params):=tO #[]
noncomputable def zgW:=Obj.mk k4 .none (Data.dict #[en P (s 34) 561 (.str (s 71) 534),en P (s 36) 565 (.int 129 564),en P (s 37) 566 (.ref 306),en P (s 5) 567 .none] 2) #[]
noncomputable def zgV (P:Params):=Obj.mk k8 .none (Data.cls (ClassData.mk (s 80) [(.ref 295)] [(.ref 308),(.ref 295),k17,k18,k19,k9] 307 (s 80) true [] [] false .none false)) #[(Option.some (.ref 299)),.none,(Option.some (.str (s 80) 554)),(Option.some (.str (s 80) 562)),(Option.some k20),(Option.some (.bool true))]
noncomputable def znw (P:Params):=Obj.mk k15 .none (Data.fields #[(.ref 308),(.ref 308),(.ref 308)]) #[]
noncomputable def znv (P:Params):=Obj.mk k6 .none (Data.fields #[k16,(.ref 308)]) #[]
def zgU (P:Params):=tO #[(.ref 295)]
noncomputable def znu (P:Params):=Obj.mk k6 .none (Data.fields #[k7,k8]) #[]
noncomputable def znt:=Obj.mk k4 .none (Data.dict #[en P (s 34) 577 (.str (s 71) 534),en P (s 35) 579 (.str (s 81) 578),en P (s 36) 581 (.int 131 580),en P (s 37) 582 (.ref 318)] 4) #[]
def zns (P:Params):=tO #[]
def znr (P:Params):=vO #[]
noncomputable def znq (P:Params):=Obj.mk k1 .none (Data.fields #[(.str (s 81) 572),(.str (s 81) 573),(.str (s 0) 574),(.int 131 0),(.int 0 0),(.int 0 0),(.int 0 0),(.int 0 0),(.ref 314),(.bool false),(.int 181 0),(.ref 315),.none,.none,.none,.none,(.int 575 0),(.int 131 0),(.str (s 0) 576)]) #[]
noncomputable def znp (P:Params):=Obj.mk k3 .none Data.plain #[(Option.some (.ref 316)),(Option.some (.ref 3)),(Option.some (.ref 313)),.none,(Option.some (.str (s 71) 534)),.none,(Option.some (.ref 0))]
def zgT (P:Params):=tO #[]
noncomputable def zgS:=Obj.mk k4 .none (Data.dict #[en P (s 34) 577 (.str (s 71) 534),en P (s 36) 581 (.int 131 580),en P (s 37) 582 (.ref 318),en P (s 5) 583 .none] 2) #[]
noncomputable def zgR (P:Params):=Obj.mk k8 .none (Data.cls (ClassData.mk (s 81) [(.ref 295)] [(.ref 320),(.ref 295),k17,k18,k19,k9] 319 (s 81) true [] [] false .none false)) #[(Option.some (.ref 311)),.none,(Option.some (.str (s 81) 570)),(Option.some (.str (s 81) 578)),(Option.some k20),(Option.some (.bool true))]
noncomputable def zno (P:Params):=Obj.mk k15 .none (Data.fields #[(.ref 320),(.ref 320),(.ref 320)]) #[]
noncomputable def znn (P:Params):=Obj.mk k6 .none (Data.fields #[k16,(.ref 320)]) #[]
def zpi:=BT.node (zgS P) .nil .nil
def zph:=BT.node (zhE P) (zpi P) .nil
def zpg:=BT.node (znz P) .nil .nil
def zpf:=BT.node (UF P) (zpg P) .nil
def zpe:=BT.node (zgU P) .nil .nil
def zpd:=BT.node (Uz P) (zpe P) .nil
def zpc:=BT.node (zgW P) .nil .nil
def zpb:=BT.node (UC P) (zpc P) .nil
def zpa:=BT.node (zgY P) .nil .nil
def zo9:=BT.node (zhL P) (zpa P) .nil
def zo8:=BT.node (znr P) .nil .nil
def zo7:=BT.node (Uw P) (zo8 P) .nil
def zo6:=BT.node (zno P) .nil .nil
def zo5:=BT.node (Us P) (zo6 P) .nil
def zo4:=BT.node (znx P) .nil .nil
def zo3:=BT.node (zhI P) (zo4 P) .nil
def zo2:=BT.node (znt P) .nil .nil
def zo1:=BT.node (Uy P) (zo2 P) .nil
def zo0:=BT.node (znw P) .nil .nil
def zoZ:=BT.node (zhH P) (zo0 P) .nil
def zoY:=BT.node (znB P) .nil .nil
def zoX:=BT.node (UG P) (zoY P) .nil
def zoW:=BT.node (znp P) .nil .nil
def zoV:=BT.node (Uv P) (zoW P) .nil
noncomputable def zwD:=BT.node (boot_o_5 P) (BT.node (boot_o_9 P) (BT.node (o8 P) (BT.node (o24 P) (BT.node (o56 P) (zqQ P) (zo5 P)) (zqN P)) (BT.node (o40 P) (zqK P) (BT.node (Y4 P) (zo3 P) (zrV P)))) (BT.node (o16 P) (zqF P) (BT.node (o48 P) (zqC P) (BT.node (YY P) (zo1 P) (zqB P))))) (BT.node (o2 P) (BT.node (o12 P) (zqw P) (BT.node (o44 P) (zqt P) (BT.node (Y1 P) (zoZ P) (zrP P)))) (BT.node (o20 P) (BT.node (o36 P) (zqq P) (BT.node (Y7 P) (zoX P) (zrN P))) (BT.node (o52 P) (zqn P) (BT.node (Wo P) (zoV P) (zqm P)))))
noncomputable def zwC:=BT.node (boot_o_1 P) (BT.node (zxl P) (BT.node (boot_o_7 P) (BT.node (o6 P) (BT.node (o22 P) (BT.node (o54 P) (zrk P) (zph P)) (zrh P)) (BT.node (o38 P) (zre P) (BT.node (Ws P) (zpf P) (zr7 P)))) (BT.node (o14 P) (BT.node (o30 P) (zrb P) (BT.node (o97 P) (BT.node (UH P) (BT.node (zxj P) .nil .nil) .nil) (zlA P))) (BT.node (o46 P) (zq8 P) (BT.node (Y0 P) (zpd P) (zq7 P))))) (BT.node (o0 P) (BT.node (o10 P) (zq2 P) (BT.node (o42 P) (zqZ P) (BT.node (Wr P) (zpb P) (zr2 P)))) (BT.node (o18 P) (BT.node (o34 P) (zqW P) (BT.node (Y8 P) (zo9 P) (zr0 P))) (BT.node (o50 P) (zqT P) (BT.node (YW P) (zo7 P) (zqS P)))))) (zwD P)
def zoU:=BT.node (zgR P) .nil .nil
def zoT:=BT.node (Ut P) (zoU P) .nil
def zoS:=BT.node (zny P) .nil .nil
def zoR:=BT.node (UE P) (zoS P) .nil
def zoQ:=BT.node (znu P) .nil .nil
def zoP:=BT.node (zhG P) (zoQ P) .nil
def zoO:=BT.node (zgV P) .nil .nil
def zoN:=BT.node (UB P) (zoO P) .nil
def zoM:=BT.node (znC P) .nil .nil
def zoL:=BT.node (zhK P) (zoM P) .nil
def zoK:=BT.node (znq P) .nil .nil
def zoJ:=BT.node (zhF P) (zoK P) .nil
def zoI:=BT.node (znn P) .nil .nil
noncomputable def zoH:=BT.node (o57 P) (zpO P) (BT.node (Ur P) (zoI P) .nil)
def zoG:=BT.node (zgX P) .nil .nil
def zoF:=BT.node (UD P) (zoG P) .nil
def zoE:=BT.node (zns P) .nil .nil
def zoD:=BT.node (Ux P) (zoE P) .nil
def zoC:=BT.node (znv P) .nil .nil
def zoB:=BT.node (UA P) (zoC P) .nil
def zoA:=BT.node (znA P) .nil .nil
def zoz:=BT.node (zhJ P) (zoA P) .nil
def zoy:=BT.node (zgT P) .nil .nil
def zox:=BT.node (Uu P) (zoy P) .nil
noncomputable def zwB:=BT.node (boot_o_6 P) (BT.node (boot_o_10 P) (BT.node (o9 P) (BT.node (o25 P) (zoH P) (zpL P)) (BT.node (o41 P) (zpI P) (BT.node (Y3 P) (zoF P) (zrv P)))) (BT.node (o17 P) (zpD P) (BT.node (o49 P) (zpA P) (BT.node (YX P) (zoD P) (zpz P))))) (BT.node (o3 P) (BT.node (o13 P) (zpu P) (BT.node (o45 P) (zpr P) (BT.node (Wq P) (zoB P) (zpq P)))) (BT.node (o21 P) (BT.node (o37 P) (zpn P) (BT.node (Y6 P) (zoz P) (zro P))) (BT.node (o53 P) (zpk P) (BT.node (YV P) (zox P) (zpj P)))))
noncomputable def zwA:=BT.node (boot_o_0 P) (zwC P) (BT.node (boot_o_2 P) (BT.node (boot_o_4 P) (BT.node (boot_o_8 P) (BT.node (o7 P) (BT.node (o23 P) (BT.node (o55 P) (zqk P) (zoT P)) (zqh P)) (BT.node (o39 P) (zqe P) (BT.node (Y5 P) (zoR P) (zrI P)))) (BT.node (o15 P) (zp9 P) (BT.node (o47 P) (zp6 P) (BT.node (YZ P) (zoP P) (zp5 P))))) (BT.node (zxk P) (BT.node (o11 P) (zp0 P) (BT.node (o43 P) (zpX P) (BT.node (Y2 P) (zoN P) (zrC P)))) (BT.node (o19 P) (BT.node (o35 P) (zpU P) (BT.node (Wt P) (zoL P) (zrA P))) (BT.node (o51 P) (zpR P) (BT.node (Wp P) (zoJ P) (zpQ P)))))) (zwB P))
noncomputable def sb7 (w:World) (os:OsState):SharedT:=⟨(zwA w.params),323,(Life.mk [] [] [] 0 [] [] false #[] [] 0 false false false 0 [2000,10,10] false 0 true [] [] 0 false),⟨[]⟩,(Drawn.mk 0 0 0 0),586,os⟩
noncomputable def L6 (w:World) (os:OsState):Option (Flow×SharedT×Code×Pos):=segRunT treeTable PySem.Challenge.pw_beatless_k25_whole_no_word_goes_faster w 11 an 1 427 (sb6 w os) (piecesOf zuC env cE (Pos.mk 127 0 128 8) B)
noncomputable def R6 (w:World) (os:OsState):Option (Flow×SharedT×Code×Pos):=some (.next,sb7 w os,cE,(Pos.mk 131 0 132 8))
theorem q6:tt (Hd.L6,Hd.R6)=true:=by k_qdec
theorem r6:∀ w,Fast.tw11518265509499319272 w=Hd.R6 w:=fun w=>by kernel_rfl
theorem e6 (w:World) (os:OsState):Hd.L6 w os=Hd.R6 w os:=(congrFun (congrFun Fast.te11518265509499319272 w) os).trans (congrFun (r6 w) os)
noncomputable def zuB:List Stmt:=[S 21,S 22,S 23,S 24,S 25,S 26,S 27,S 28,S 29,S 30,S 31,S 32,S 33,S 34,S 35,S 36]
noncomputable def zxi:=Obj.mk k4 .none (Data.dict #[en P (s 3) 165 (.str (s 82) 611),en P (s 5) 166 .none,en P (s 6) 167 .none,en P (s 7) 168 k5,en P (s 8) 169 .none,en P (s 9) 170 (.ref 6),en P (s 10) 171 (.ref 4),en P (s 11) 173 (.str (s 0) 172),en P (s 12) 174 .none,en P (s 13) 193 (.ref 21),en P (s 14) 201 (.ref 26),en P (s 15) 207 (.ref 31),en P (s 16) 213 (.ref 36),en P (s 17) 228 (.ref 43),en P (s 18) 236 (.ref 50),en P (s 19) 244 (.ref 57),en P (s 20) 253 (.ref 64),en P (s 21) 262 (.ref 71),en P (s 22) 284 (.ref 81),en P (s 40) 331 (.ref 123),en P (s 51) 378 (.ref 163),en P (s 57) 431 (.ref 203),en P (s 64) 480 (.ref 243),en P (s 72) 533 (.ref 283),en P (s 73) 553 (.ref 295),en P (s 80) 569 (.ref 308),en P (s 81) 585 (.ref 320),en P (s 83) 601 (.ref 332),en P (s 84) 610 (.ref 341),en P (s 85) 615 (.ref 342),en P (s 86) 621 (.ref 343),en P (s 87) 630 (.ref 344),en P (s 88) 635 (.ref 345),en P (s 89) 637 (.int 60 636),en P (s 90) 639 (.int 8 638),en P (s 91) 646 (.ref 352),en P (s 92) 654 (.ref 359),en P (s 93) 661 (.ref 366),en P (s 94) 671 (.ref 373),en P (s 95) 680 (.ref 380),en P (s 96) 686 (.ref 385)] 41) #[]
noncomputable def zxh (P:Params):=vO #[(.int 1 0),(.int 0 0),(.ref 20),(.int 5 0),(.int 0 0),(.ref 25),(.int 7 0),(.int 0 0),(.ref 30),(.int 16 0),(.int 0 0),(.ref 35),(.int 23 0),(.int 0 0),(.ref 42),(.int 34 0),(.int 0 0),(.ref 49),(.int 36 0),(.int 0 0),(.ref 56),(.int 38 0),(.int 0 0),(.ref 63),(.int 40 0),(.int 0 0),(.ref 70),(.int 43 0),(.int 0 0),(.ref 77),(.int 45 0),(.int 0 0),(.ref 91),(.int 58 0),(.int 0 0),(.ref 131),(.int 71 0),(.int 0 0),(.ref 171),(.int 94 0),(.int 0 0),(.ref 211),(.int 108 0),(.int 0 0),(.ref 251),(.int 127 0),(.int 0 0),(.ref 291),(.int 129 0),(.int 0 0),(.ref 304),(.int 131 0),(.int 0 0),(.ref 316),(.int 133 0),(.int 0 0),(.ref 328),(.int 136 0),(.int 0 0),(.ref 340),(.int 145 0),(.int 0 0),(.ref 351),(.int 147 0),(.int 0 0),(.ref 358),(.int 149 0),(.int 0 0),(.ref 365),(.int 151 0),(.int 0 0),(.ref 372),(.int 156 0),(.int 0 0),(.ref 379),(.int 170 0),(.int 0 0),(.ref 384)]
noncomputable def zgQ (P:Params):=Obj.mk k8 .none (Data.cls (ClassData.mk (s 73) [k17] [(.ref 295),k17,k18,k19,k9] 294 (s 73) true [] [(.ref 308),(.ref 320),(.ref 332)] false .none false)) #[(Option.some (.ref 286)),.none,(Option.some (.str (s 73) 536)),(Option.some (.str (s 73) 544)),(Option.some k20),(Option.some (.bool true))]
def zgP (P:Params):=tO #[(.ref 295)]
noncomputable def znm (P:Params):=Obj.mk k6 .none (Data.fields #[k7,k8]) #[]
noncomputable def znl:=Obj.mk k4 .none (Data.dict #[en P (s 34) 593 (.str (s 71) 534),en P (s 35) 595 (.str (s 83) 594),en P (s 36) 597 (.int 133 596),en P (s 37) 598 (.ref 330)] 4) #[]
def znk (P:Params):=tO #[]
def znj (P:Params):=vO #[]
noncomputable def zni (P:Params):=Obj.mk k1 .none (Data.fields #[(.str (s 83) 588),(.str (s 83) 589),(.str (s 0) 590),(.int 133 0),(.int 0 0),(.int 0 0),(.int 0 0),(.int 0 0),(.ref 326),(.bool false),(.int 181 0),(.ref 327),.none,.none,.none,.none,(.int 591 0),(.int 133 0),(.str (s 0) 592)]) #[]
noncomputable def znh (P:Params):=Obj.mk k3 .none Data.plain #[(Option.some (.ref 328)),(Option.some (.ref 3)),(Option.some (.ref 325)),.none,(Option.some (.str (s 71) 534)),.none,(Option.some (.ref 0))]
def zgO (P:Params):=tO #[]
noncomputable def zgN:=Obj.mk k4 .none (Data.dict #[en P (s 34) 593 (.str (s 71) 534),en P (s 36) 597 (.int 133 596),en P (s 37) 598 (.ref 330),en P (s 5) 599 .none] 2) #[]
noncomputable def zgM (P:Params):=Obj.mk k8 .none (Data.cls (ClassData.mk (s 83) [(.ref 295)] [(.ref 332),(.ref 295),k17,k18,k19,k9] 331 (s 83) true [] [] false .none false)) #[(Option.some (.ref 323)),.none,(Option.some (.str (s 83) 586)),(Option.some (.str (s 83) 594)),(Option.some k20),(Option.some (.bool true))]
noncomputable def zng (P:Params):=Obj.mk k15 .none (Data.fields #[(.ref 332),(.ref 332),(.ref 332)]) #[]
noncomputable def znf (P:Params):=Obj.mk k6 .none (Data.fields #[k16,(.ref 332)]) #[]
def zgL (P:Params):=tO #[]
def zne (P:Params):=vO #[]
def zgK (P:Params):=tO #[(.str (s 46) 607)]
def zgJ (P:Params):=tO #[]
def znd (P:Params):=gO (s 84) (s 84) (S 23)
noncomputable def zgI (P:Params):=cO (s 84) (s 84) 604 605 606 136 1 3 335 336 337 338 339 608 609
def zgH (P:Params):=uO (s 84) (s 84) (S 23) (s 97) 602 340
noncomputable def zgG (P:Params):=tO #[(.str (s 98) 613),(.str (s 99) 614)]
noncomputable def zgF (P:Params):=tO #[(.str (s 100) 616),(.str (s 98) 617),(.str (s 101) 618),(.str (s 99) 619),(.str (s 102) 620)]
noncomputable def zgE (P:Params):=tO #[(.str (s 100) 622),(.str (s 98) 623),(.str (s 101) 624),(.str (s 99) 625),(.str (s 103) 626),(.str (s 104) 627),(.str (s 105) 628),(.str (s 106) 629)]
noncomputable def zgD (P:Params):=tO #[(.str (s 107) 631),(.str (s 108) 632),(.str (s 109) 633),(.str (s 110) 634)]
def zgC (P:Params):=tO #[]
def znc (P:Params):=vO #[]
def zgB (P:Params):=tO #[(.str (s 46) 643)]
def zgA (P:Params):=tO #[]
def znb (P:Params):=gO (s 91) (s 91) (S 31)
noncomputable def zgz (P:Params):=cO (s 91) (s 91) 640 641 642 145 1 3 346 347 348 349 350 644 645
def zgy (P:Params):=uO (s 91) (s 91) (S 31) (s 82) 611 351
def zgx (P:Params):=tO #[]
def zna (P:Params):=vO #[]
noncomputable def zgw (P:Params):=tO #[(.str (s 52) 650),(.str (s 44) 651)]
def zgv (P:Params):=tO #[]
def zm9 (P:Params):=gO (s 92) (s 92) (S 32)
noncomputable def zli (P:Params):=cO (s 92) (s 92) 647 648 649 147 2 3 353 354 355 356 357 652 653
def zlh (P:Params):=uO (s 92) (s 92) (S 32) (s 82) 611 358
def zlg (P:Params):=tO #[]
def zwt (P:Params):=vO #[]
def zlf (P:Params):=tO #[(.str (s 66) 658)]
def zle (P:Params):=tO #[]
def zws (P:Params):=gO (s 93) (s 93) (S 33)
noncomputable def zld (P:Params):=cO (s 93) (s 93) 655 656 657 149 1 3 360 361 362 363 364 659 660
def zlc (P:Params):=uO (s 93) (s 93) (S 33) (s 82) 611 365
def zlb (P:Params):=tO #[]
def zwr (P:Params):=vO #[]
noncomputable def zla (P:Params):=tO #[(.str (s 111) 665),(.str (s 112) 666),(.str (s 113) 667),(.str (s 114) 668)]
def zk9 (P:Params):=tO #[]
def zwq (P:Params):=gO (s 94) (s 94) (S 34)
noncomputable def zk8 (P:Params):=cO (s 94) (s 94) 662 663 664 151 3 3 367 368 369 370 371 669 670
def zk7 (P:Params):=uO (s 94) (s 94) (S 34) (s 82) 611 372
def zk6 (P:Params):=tO #[]
def zwp (P:Params):=vO #[]
noncomputable def zk5 (P:Params):=tO #[(.str (s 115) 675),(.str (s 112) 676),(.str (s 113) 677)]
def zk4 (P:Params):=tO #[]
def zwo (P:Params):=gO (s 95) (s 95) (S 35)
noncomputable def zk3 (P:Params):=cO (s 95) (s 95) 672 673 674 156 3 3 374 375 376 377 378 678 679
def zk2 (P:Params):=uO (s 95) (s 95) (S 35) (s 82) 611 379
def zk1 (P:Params):=tO #[]
def zwn (P:Params):=vO #[]
def zwm (P:Params):=gO (s 96) (s 96) (S 36)
noncomputable def zk0 (P:Params):=Obj.mk k1 .none (Data.fields #[(.str (s 96) 681),(.str (s 96) 682),(.str (s 0) 683),(.int 170 0),(.int 1 0),(.int 0 0),(.int 0 0),(.int 3 0),(.ref 381),(.bool true),(.int 181 0),(.ref 382),.none,.none,.none,(.ref 383),(.int 684 0),(.int 170 0),(.str (s 0) 685)]) #[]
def zkZ (P:Params):=uO (s 96) (s 96) (S 36) (s 82) 611 384
def zow:=BT.node (zwm P) .nil .nil
def zov:=BT.node (zh4 P) (zrl P) (zow P)
def zou:=BT.node (zgz P) .nil .nil
def zot:=BT.node (Ua P) (zou P) .nil
def zos:=BT.node (zgL P) .nil .nil
def zor:=BT.node (zhz P) (zos P) .nil
def zoq:=BT.node (zlb P) .nil .nil
def zop:=BT.node (zaq P) (zoq P) .nil
def zoo:=BT.node (znj P) .nil .nil
def zon:=BT.node (zgQ P) .nil .nil
def zom:=BT.node (zlh P) .nil .nil
def zol:=BT.node (zlu P) (zom P) .nil
def zfP:=BT.node (zgF P) .nil .nil
def zfO:=BT.node (Ug P) (zfP P) .nil
def zfN:=BT.node (zwp P) .nil .nil
def zfM:=BT.node (zlp P) (zfN P) .nil
def zfL:=BT.node (zgP P) .nil .nil
def zfK:=BT.node (zgw P) .nil .nil
def zfJ:=BT.node (V7 P) (zfK P) .nil
def zfI:=BT.node (znd P) .nil .nil
def zfH:=BT.node (zhv P) (zfI P) .nil
def zfG:=BT.node (zwq P) .nil .nil
def zfF:=BT.node (zam P) (zfG P) .nil
def zfE:=BT.node (zgN P) .nil .nil
def zfD:=BT.node (Uj P) (zfE P) .nil
def zfC:=BT.node (zle P) .nil .nil
def zfB:=BT.node (zlt P) (zfC P) .nil
def zfA:=BT.node (znc P) .nil .nil
def zfz:=BT.node (Ud P) (zfA P) .nil
def zfy:=BT.node (zk3 P) .nil .nil
def zfx:=BT.node (zll P) (zfy P) .nil
noncomputable def zmg:=BT.node (o0 P) (BT.node (o10 P) (BT.node (o26 P) (BT.node (o58 P) (zq5 P) (BT.node (zhD P) (zfL P) .nil)) (BT.node (o93 P) (zq3 P) (zfJ P))) (BT.node (o42 P) (BT.node (o74 P) (zq0 P) (zfH P)) (BT.node (Wr P) (zpb P) (zfF P)))) (BT.node (o18 P) (BT.node (o34 P) (BT.node (o66 P) (zqX P) (zfD P)) (BT.node (Y8 P) (zo9 P) (zfB P))) (BT.node (o50 P) (BT.node (o85 P) (zqU P) (zfz P)) (BT.node (YW P) (zo7 P) (zfx P))))
def zfw:=BT.node (zkZ P) .nil .nil
def zfv:=BT.node (zh2 P) (zqR P) (zfw P)
def zfu:=BT.node (zgx P) .nil .nil
def zft:=BT.node (V9 P) (zfu P) .nil
def zfs:=BT.node (zgK P) .nil .nil
def zfr:=BT.node (zhx P) (zfs P) .nil
def zfq:=BT.node (zla P) .nil .nil
def zfp:=BT.node (zao P) (zfq P) .nil
def zfo:=BT.node (znh P) .nil .nil
def zfn:=BT.node (Ul P) (zfo P) .nil
def zfm:=BT.node (zwt P) .nil .nil
def zfl:=BT.node (zau P) (zfm P) .nil
def zfk:=BT.node (zgD P) .nil .nil
def zfj:=BT.node (zhs P) (zfk P) .nil
def zfi:=BT.node (zk4 P) .nil .nil
def zfh:=BT.node (zln P) (zfi P) .nil
def zfg:=BT.node (znl P) .nil .nil
def zff:=BT.node (zm9 P) .nil .nil
def zfe:=BT.node (V6 P) (zff P) .nil
def zfd:=BT.node (zgH P) .nil .nil
def zfc:=BT.node (Uh P) (zfd P) .nil
def zfb:=BT.node (zk7 P) .nil .nil
def zfa:=BT.node (zlq P) (zfb P) .nil
def ze9:=BT.node (zng P) .nil .nil
def ze8:=BT.node (zhA P) (ze9 P) .nil
def ze7:=BT.node (zld P) .nil .nil
def ze6:=BT.node (zar P) (ze7 P) .nil
def ze5:=BT.node (zgA P) .nil .nil
def ze4:=BT.node (zhr P) (ze5 P) .nil
def ze3:=BT.node (zk1 P) .nil .nil
def ze2:=BT.node (zak P) (ze3 P) .nil
noncomputable def zmf:=BT.node (o2 P) (BT.node (o12 P) (BT.node (o28 P) (BT.node (o60 P) (zqz P) (BT.node (Up P) (zfg P) .nil)) (BT.node (o95 P) (zqx P) (zfe P))) (BT.node (o44 P) (BT.node (o76 P) (zqu P) (zfc P)) (BT.node (Y1 P) (zoZ P) (zfa P)))) (BT.node (o20 P) (BT.node (o36 P) (BT.node (o68 P) (zqr P) (ze8 P)) (BT.node (Y7 P) (zoX P) (ze6 P))) (BT.node (o52 P) (BT.node (o87 P) (zqo P) (ze4 P)) (BT.node (Wo P) (zoV P) (ze2 P))))
noncomputable def zme:=BT.node (boot_o_5 P) (BT.node (boot_o_9 P) (BT.node (o8 P) (BT.node (o24 P) (BT.node (o56 P) (zfv P) (zo5 P)) (BT.node (o91 P) (zqO P) (zft P))) (BT.node (o40 P) (BT.node (Vh P) (zqL P) (zfr P)) (BT.node (Y4 P) (zo3 P) (zfp P)))) (BT.node (o16 P) (BT.node (o32 P) (BT.node (o64 P) (zqI P) (zfn P)) (BT.node (o99 P) (zqG P) (zfl P))) (BT.node (o48 P) (BT.node (o83 P) (zqD P) (zfj P)) (BT.node (YY P) (zo1 P) (zfh P))))) (zmf P)
def ze1:=BT.node (zk0 P) .nil .nil
def ze0:=BT.node (zh3 P) (zql P) (ze1 P)
def zeZ:=BT.node (zgy P) .nil .nil
def zeY:=BT.node (zhq P) (zeZ P) .nil
def zeX:=BT.node (zne P) .nil .nil
def zeW:=BT.node (zhy P) (zeX P) .nil
def zeV:=BT.node (zwr P) .nil .nil
def zeU:=BT.node (zap P) (zeV P) .nil
def zeT:=BT.node (zni P) .nil .nil
def zeS:=BT.node (Um P) (zeT P) .nil
def zeR:=BT.node (zlg P) .nil .nil
def zeQ:=BT.node (zav P) (zeR P) .nil
def zeP:=BT.node (zgE P) .nil .nil
def zeO:=BT.node (Uf P) (zeP P) .nil
def zeN:=BT.node (zk5 P) .nil .nil
def zeM:=BT.node (zlo P) (zeN P) .nil
def zeL:=BT.node (znm P) .nil .nil
def zeK:=BT.node (zgv P) .nil .nil
def zeJ:=BT.node (zhp P) (zeK P) .nil
def zeI:=BT.node (zgI P) .nil .nil
def zeH:=BT.node (zhu P) (zeI P) .nil
def zeG:=BT.node (zk8 P) .nil .nil
def zeF:=BT.node (zlr P) (zeG P) .nil
def zeE:=BT.node (zgM P) .nil .nil
def zeD:=BT.node (zhB P) (zeE P) .nil
def zeC:=BT.node (zws P) .nil .nil
def zeB:=BT.node (zas P) (zeC P) .nil
def zeA:=BT.node (zgB P) .nil .nil
def zez:=BT.node (Uc P) (zeA P) .nil
def zey:=BT.node (zk2 P) .nil .nil
def zex:=BT.node (zlk P) (zey P) .nil
noncomputable def zmd:=BT.node (zxh P) (BT.node (o11 P) (BT.node (o27 P) (BT.node (o59 P) (zp3 P) (BT.node (Uq P) (zeL P) .nil)) (BT.node (o94 P) (zp1 P) (zeJ P))) (BT.node (o43 P) (BT.node (o75 P) (zpY P) (zeH P)) (BT.node (Y2 P) (zoN P) (zeF P)))) (BT.node (o19 P) (BT.node (o35 P) (BT.node (o67 P) (zpV P) (zeD P)) (BT.node (Wt P) (zoL P) (zeB P))) (BT.node (o51 P) (BT.node (o86 P) (zpS P) (zez P)) (BT.node (Wp P) (zoJ P) (zex P))))
def zew:=BT.node (zna P) .nil .nil
def zev:=BT.node (V8 P) (zew P) .nil
def zeu:=BT.node (zgJ P) .nil .nil
def zet:=BT.node (zhw P) (zeu P) .nil
def zes:=BT.node (zk9 P) .nil .nil
def zer:=BT.node (zan P) (zes P) .nil
def zeq:=BT.node (zgO P) .nil .nil
def zep:=BT.node (Uk P) (zeq P) .nil
def zeo:=BT.node (zlf P) .nil .nil
def zen:=BT.node (zat P) (zeo P) .nil
def zem:=BT.node (zgC P) .nil .nil
def zel:=BT.node (Ue P) (zem P) .nil
def zek:=BT.node (zwo P) .nil .nil
def zej:=BT.node (zlm P) (zek P) .nil
def zei:=BT.node (znk P) .nil .nil
def zeh:=BT.node (zli P) .nil .nil
def zeg:=BT.node (zaw P) (zeh P) .nil
def zef:=BT.node (zgG P) .nil .nil
def zee:=BT.node (zht P) (zef P) .nil
def zed:=BT.node (zk6 P) .nil .nil
def zec:=BT.node (zal P) (zed P) .nil
def zeb:=BT.node (znf P) .nil .nil
def zea:=BT.node (Ui P) (zeb P) .nil
def zd9:=BT.node (zlc P) .nil .nil
def zd8:=BT.node (zls P) (zd9 P) .nil
def zd7:=BT.node (znb P) .nil .nil
def zd6:=BT.node (Ub P) (zd7 P) .nil
def zd5:=BT.node (zwn P) .nil .nil
def zd4:=BT.node (zlj P) (zd5 P) .nil
noncomputable def zmc:=BT.node (o3 P) (BT.node (o13 P) (BT.node (o29 P) (BT.node (o61 P) (zpx P) (BT.node (zhC P) (zei P) .nil)) (BT.node (o96 P) (zpv P) (zeg P))) (BT.node (o45 P) (BT.node (o80 P) (zps P) (zee P)) (BT.node (Wq P) (zoB P) (zec P)))) (BT.node (o21 P) (BT.node (o37 P) (BT.node (o69 P) (zpo P) (zea P)) (BT.node (Y6 P) (zoz P) (zd8 P))) (BT.node (o53 P) (BT.node (o88 P) (zpl P) (zd6 P)) (BT.node (YV P) (zox P) (zd4 P))))
noncomputable def zmb:=BT.node (boot_o_6 P) (BT.node (boot_o_10 P) (BT.node (o9 P) (BT.node (o25 P) (zoH P) (BT.node (o92 P) (zpM P) (zev P))) (BT.node (o41 P) (BT.node (o73 P) (zpJ P) (zet P)) (BT.node (Y3 P) (zoF P) (zer P)))) (BT.node (o17 P) (BT.node (o33 P) (BT.node (o65 P) (zpG P) (zep P)) (BT.node (Y9 P) (zpE P) (zen P))) (BT.node (o49 P) (BT.node (o84 P) (zpB P) (zel P)) (BT.node (YX P) (zoD P) (zej P))))) (zmc P)
noncomputable def zma:=BT.node (boot_o_2 P) (BT.node (boot_o_4 P) (BT.node (boot_o_8 P) (BT.node (o7 P) (BT.node (o23 P) (BT.node (o55 P) (ze0 P) (zoT P)) (BT.node (o90 P) (zqi P) (zeY P))) (BT.node (o39 P) (BT.node (o71 P) (zqf P) (zeW P)) (BT.node (Y5 P) (zoR P) (zeU P)))) (BT.node (o15 P) (BT.node (o31 P) (BT.node (o63 P) (zqc P) (zeS P)) (BT.node (o98 P) (zqa P) (zeQ P))) (BT.node (o47 P) (BT.node (o82 P) (zp7 P) (zeO P)) (BT.node (YZ P) (zoP P) (zeM P))))) (zmd P)) (zmb P)
noncomputable def zl9:=BT.node (boot_o_0 P) (BT.node (boot_o_1 P) (BT.node (zxi P) (BT.node (boot_o_7 P) (BT.node (o6 P) (BT.node (o22 P) (BT.node (o54 P) (zov P) (zph P)) (BT.node (o89 P) (zri P) (zot P))) (BT.node (o38 P) (BT.node (o70 P) (zrf P) (zor P)) (BT.node (Ws P) (zpf P) (zop P)))) (BT.node (o14 P) (BT.node (o30 P) (BT.node (o62 P) (zrc P) (BT.node (Uo P) (zoo P) .nil)) (BT.node (o97 P) (BT.node (UH P) (zon P) .nil) (zol P))) (BT.node (o46 P) (BT.node (o81 P) (zq9 P) (zfO P)) (BT.node (Y0 P) (zpd P) (zfM P))))) (zmg P)) (zme P)) (zma P)
noncomputable def sb8 (w:World) (os:OsState):SharedT:=⟨(zl9 w.params),386,(Life.mk [] [] [] 0 [] [] false #[] [] 0 false false false 0 [2000,10,10] false 0 true [] [] 0 false),⟨[]⟩,(Drawn.mk 0 0 0 0),687,os⟩
noncomputable def L7 (w:World) (os:OsState):Option (Flow×SharedT×Code×Pos):=segRunT treeTable PySem.Challenge.pw_beatless_k25_whole_no_word_goes_faster w 11 an 1 515 (sb7 w os) (piecesOf zuB env cE (Pos.mk 131 0 132 8) B)
noncomputable def R7 (w:World) (os:OsState):Option (Flow×SharedT×Code×Pos):=some (.next,sb8 w os,cE,(Pos.mk 170 0 171 53))
theorem q7:tt (Hd.L7,Hd.R7)=true:=by k_qdec
theorem r7:∀ w,Fast.tw9490284035958612641 w=Hd.R7 w:=fun w=>by kernel_rfl
theorem e7 (w:World) (os:OsState):Hd.L7 w os=Hd.R7 w os:=(congrFun (congrFun Fast.te9490284035958612641 w) os).trans (congrFun (r7 w) os)
noncomputable def zuA:List Stmt:=[S 37,S 38,S 39,S 40,S 41,S 42,S 43,S 44]
noncomputable def zxg:=Obj.mk k4 .none (Data.dict #[en P (s 3) 165 (.str (s 116) 757),en P (s 5) 166 .none,en P (s 6) 167 .none,en P (s 7) 168 k5,en P (s 8) 169 .none,en P (s 9) 170 (.ref 6),en P (s 10) 171 (.ref 4),en P (s 11) 173 (.str (s 0) 172),en P (s 12) 174 .none,en P (s 13) 193 (.ref 21),en P (s 14) 201 (.ref 26),en P (s 15) 207 (.ref 31),en P (s 16) 213 (.ref 36),en P (s 17) 228 (.ref 43),en P (s 18) 236 (.ref 50),en P (s 19) 244 (.ref 57),en P (s 20) 253 (.ref 64),en P (s 21) 262 (.ref 71),en P (s 22) 284 (.ref 81),en P (s 40) 331 (.ref 123),en P (s 51) 378 (.ref 163),en P (s 57) 431 (.ref 203),en P (s 64) 480 (.ref 243),en P (s 72) 533 (.ref 283),en P (s 73) 553 (.ref 295),en P (s 80) 569 (.ref 308),en P (s 81) 585 (.ref 320),en P (s 83) 601 (.ref 332),en P (s 84) 610 (.ref 341),en P (s 85) 615 (.ref 342),en P (s 86) 621 (.ref 343),en P (s 87) 630 (.ref 344),en P (s 88) 635 (.ref 345),en P (s 89) 637 (.int 60 636),en P (s 90) 639 (.int 8 638),en P (s 91) 646 (.ref 352),en P (s 92) 654 (.ref 359),en P (s 93) 661 (.ref 366),en P (s 94) 671 (.ref 373),en P (s 95) 680 (.ref 380),en P (s 96) 686 (.ref 385),en P (s 117) 756 (.ref 423),en P (s 118) 760 (.int 12 759),en P (s 119) 762 (.int 99 761),en P (s 120) 771 (.ref 434),en P (s 121) 779 (.ref 441),en P (s 122) 789 (.ref 448),en P (s 123) 801 (.ref 455)] 48) #[]
noncomputable def zxf (P:Params):=vO #[(.int 1 0),(.int 0 0),(.ref 20),(.int 5 0),(.int 0 0),(.ref 25),(.int 7 0),(.int 0 0),(.ref 30),(.int 16 0),(.int 0 0),(.ref 35),(.int 23 0),(.int 0 0),(.ref 42),(.int 34 0),(.int 0 0),(.ref 49),(.int 36 0),(.int 0 0),(.ref 56),(.int 38 0),(.int 0 0),(.ref 63),(.int 40 0),(.int 0 0),(.ref 70),(.int 43 0),(.int 0 0),(.ref 77),(.int 45 0),(.int 0 0),(.ref 91),(.int 58 0),(.int 0 0),(.ref 131),(.int 71 0),(.int 0 0),(.ref 171),(.int 94 0),(.int 0 0),(.ref 211),(.int 108 0),(.int 0 0),(.ref 251),(.int 127 0),(.int 0 0),(.ref 291),(.int 129 0),(.int 0 0),(.ref 304),(.int 131 0),(.int 0 0),(.ref 316),(.int 133 0),(.int 0 0),(.ref 328),(.int 136 0),(.int 0 0),(.ref 340),(.int 145 0),(.int 0 0),(.ref 351),(.int 147 0),(.int 0 0),(.ref 358),(.int 149 0),(.int 0 0),(.ref 365),(.int 151 0),(.int 0 0),(.ref 372),(.int 156 0),(.int 0 0),(.ref 379),(.int 170 0),(.int 0 0),(.ref 384),(.int 172 0),(.int 0 0),(.ref 391),(.int 207 0),(.int 0 0),(.ref 433),(.int 216 0),(.int 0 0),(.ref 440),(.int 222 0),(.int 0 0),(.ref 447),(.int 231 0),(.int 0 0),(.ref 454)]
def zwl (P:Params):=tO #[]
noncomputable def zwk (P:Params):=Obj.mk k6 .none (Data.fields #[k7,k8]) #[]
noncomputable def zwj:=Obj.mk k4 .none (Data.dict #[en P (s 34) 694 (.str (s 82) 611),en P (s 35) 696 (.str (s 117) 695),en P (s 36) 698 (.int 172 697),en P (s 41) 709 (.ref 399),en P (s 124) 718 (.ref 406),en P (s 125) 731 (.ref 413),en P (s 126) 744 (.ref 420),en P (s 37) 749 (.ref 421)] 8) #[]
def zwi (P:Params):=tO #[]
noncomputable def zwh (P:Params):=vO #[(.int 174 0),(.int 4 0),(.ref 398),(.int 188 0),(.int 4 0),(.ref 405),(.int 191 0),(.int 4 0),(.ref 412),(.int 197 0),(.int 4 0),(.ref 419)]
noncomputable def zwg (P:Params):=Obj.mk k1 .none (Data.fields #[(.str (s 117) 689),(.str (s 117) 690),(.str (s 0) 691),(.int 172 0),(.int 0 0),(.int 0 0),(.int 0 0),(.int 0 0),(.ref 389),(.bool false),(.int 181 0),(.ref 390),.none,.none,.none,.none,(.int 692 0),(.int 172 0),(.str (s 0) 693)]) #[]
noncomputable def zwf (P:Params):=Obj.mk k3 .none Data.plain #[(Option.some (.ref 391)),(Option.some (.ref 3)),(Option.some (.ref 388)),.none,(Option.some (.str (s 82) 611)),.none,(Option.some (.ref 0))]
def zkY (P:Params):=tO #[]
def zwe (P:Params):=vO #[]
noncomputable def zkX (P:Params):=tO #[(.str (s 45) 702),(.str (s 127) 703),(.str (s 128) 704),(.str (s 129) 705),(.str (s 130) 706)]
def zkW (P:Params):=tO #[]
def zwd (P:Params):=gO (s 41) (s 131) (L2.inClass (S 37) 0)
noncomputable def zkV (P:Params):=cO (s 41) (s 131) 699 700 701 174 5 3 393 394 395 396 397 707 708
noncomputable def zkU (P:Params):=uO (s 41) (s 131) (L2.inClass (S 37) 0) (s 82) 611 398
def zkT (P:Params):=tO #[]
def zwc (P:Params):=vO #[]
noncomputable def zkS (P:Params):=tO #[(.str (s 45) 713),(.str (s 132) 714),(.str (s 99) 715)]
def zkR (P:Params):=tO #[]
noncomputable def zwb (P:Params):=gO (s 124) (s 133) (L2.inClass (S 37) 1)
noncomputable def zkQ (P:Params):=cO (s 124) (s 133) 710 711 712 188 3 3 400 401 402 403 404 716 717
noncomputable def zkP (P:Params):=uO (s 124) (s 133) (L2.inClass (S 37) 1) (s 82) 611 405
def zkO (P:Params):=tO #[]
def zwa (P:Params):=vO #[]
noncomputable def zkN (P:Params):=tO #[(.str (s 45) 722),(.str (s 100) 723),(.str (s 132) 724),(.str (s 33) 725),(.str (s 99) 726),(.str (s 59) 727),(.str (s 28) 728)]
def zkM (P:Params):=tO #[]
noncomputable def zv9 (P:Params):=gO (s 125) (s 134) (L2.inClass (S 37) 2)
noncomputable def zkL (P:Params):=cO (s 125) (s 134) 719 720 721 191 6 3 407 408 409 410 411 729 730
noncomputable def zkK (P:Params):=uO (s 125) (s 134) (L2.inClass (S 37) 2) (s 82) 611 412
def zkJ (P:Params):=tO #[]
def zv8 (P:Params):=vO #[]
noncomputable def zkI (P:Params):=tO #[(.str (s 45) 735),(.str (s 100) 736),(.str (s 132) 737),(.str (s 33) 738),(.str (s 99) 739),(.str (s 29) 740),(.str (s 28) 741)]
def zkH (P:Params):=tO #[]
noncomputable def zv7 (P:Params):=gO (s 126) (s 135) (L2.inClass (S 37) 3)
noncomputable def zkG (P:Params):=cO (s 126) (s 135) 732 733 734 197 6 3 414 415 416 417 418 742 743
noncomputable def zkF (P:Params):=uO (s 126) (s 135) (L2.inClass (S 37) 3) (s 82) 611 419
noncomputable def zkE (P:Params):=tO #[(.str (s 130) 745),(.str (s 128) 746),(.str (s 127) 747),(.str (s 129) 748)]
noncomputable def zkD:=Obj.mk k4 .none (Data.dict #[en P (s 34) 694 (.str (s 82) 611),en P (s 36) 698 (.int 172 697),en P (s 41) 709 (.ref 399),en P (s 124) 718 (.ref 406),en P (s 125) 731 (.ref 413),en P (s 126) 744 (.ref 420),en P (s 37) 749 (.ref 421),en P (s 38) 751 (.ref 424),en P (s 39) 753 (.ref 425),en P (s 5) 754 .none] 4) #[]
noncomputable def zkC (P:Params):=Obj.mk k8 .none (Data.cls (ClassData.mk (s 117) [k9] [(.ref 423),k9] 422 (s 117) true [] [] false .none false)) #[.none,.none,(Option.some (.str (s 117) 687)),(Option.some (.str (s 117) 695)),(Option.some k10),(Option.some (.bool true))]
noncomputable def zkB (P:Params):=Obj.mk k11 .none (Data.fields #[(.str (s 38) 750),(.ref 423),k12,k13]) #[]
noncomputable def zkA (P:Params):=Obj.mk k11 .none (Data.fields #[(.str (s 39) 752),(.ref 423),k14,.none]) #[]
noncomputable def zv6 (P:Params):=Obj.mk k15 .none (Data.fields #[(.ref 423),(.ref 423),(.ref 423)]) #[]
noncomputable def zv5 (P:Params):=Obj.mk k6 .none (Data.fields #[k16,(.ref 423)]) #[]
def zkz (P:Params):=tO #[]
def zv4 (P:Params):=vO #[]
noncomputable def zky (P:Params):=tO #[(.str (s 136) 766),(.str (s 137) 767),(.str (s 132) 768)]
def zkx (P:Params):=tO #[]
def zv3 (P:Params):=gO (s 120) (s 120) (S 41)
noncomputable def zkw (P:Params):=cO (s 120) (s 120) 763 764 765 207 1 3 428 429 430 431 432 769 770
noncomputable def zkv (P:Params):=uO (s 120) (s 120) (S 41) (s 116) 757 433
def zku (P:Params):=tO #[]
def zv2 (P:Params):=vO #[]
noncomputable def zkt (P:Params):=tO #[(.str (s 138) 775),(.str (s 136) 776)]
def zks (P:Params):=tO #[]
def zv1 (P:Params):=gO (s 121) (s 121) (S 42)
noncomputable def zkr (P:Params):=cO (s 121) (s 121) 772 773 774 216 2 3 435 436 437 438 439 777 778
noncomputable def zkq (P:Params):=uO (s 121) (s 121) (S 42) (s 116) 757 440
def zkp (P:Params):=tO #[]
def zv0 (P:Params):=vO #[]
noncomputable def zko (P:Params):=tO #[(.str (s 99) 783),(.str (s 136) 784),(.str (s 139) 785),(.str (s 138) 786)]
def zkn (P:Params):=tO #[]
def zvZ (P:Params):=gO (s 122) (s 122) (S 43)
noncomputable def zkm (P:Params):=cO (s 122) (s 122) 780 781 782 222 2 3 442 443 444 445 446 787 788
noncomputable def zkl (P:Params):=uO (s 122) (s 122) (S 43) (s 116) 757 447
def zkk (P:Params):=tO #[]
def zvY (P:Params):=vO #[]
noncomputable def zkj (P:Params):=tO #[(.str (s 136) 793),(.str (s 99) 794),(.str (s 140) 795),(.str (s 132) 796),(.str (s 58) 797),(.str (s 59) 798)]
def zki (P:Params):=tO #[]
def zvX (P:Params):=gO (s 123) (s 123) (S 44)
noncomputable def zkh (P:Params):=cO (s 123) (s 123) 790 791 792 231 2 3 449 450 451 452 453 799 800
noncomputable def zkg (P:Params):=uO (s 123) (s 123) (S 44) (s 116) 757 454
def zd3:=BT.node (zkm P) .nil .nil
def zd2:=BT.node (zhE P) (zpi P) (zd3 P)
def zd1:=BT.node (zv8 P) .nil .nil
def zd0:=BT.node (zkU P) .nil .nil
def zdZ:=BT.node (zkx P) .nil .nil
def zdY:=BT.node (UF P) (zpg P) (zdZ P)
def zdX:=BT.node (zwg P) .nil .nil
def zdW:=BT.node (zkg P) .nil .nil
def zdV:=BT.node (Uo P) (zoo P) (zdW P)
def zdU:=BT.node (zkC P) .nil .nil
def zdT:=BT.node (zkO P) .nil .nil
def zdS:=BT.node (zv1 P) .nil .nil
def zdR:=BT.node (Uz P) (zpe P) (zdS P)
def zdQ:=BT.node (zwk P) .nil .nil
def zdP:=BT.node (zkj P) .nil .nil
def zdO:=BT.node (zhD P) (zfL P) (zdP P)
def zdN:=BT.node (zkG P) .nil .nil
def zdM:=BT.node (zkR P) .nil .nil
def zdL:=BT.node (zku P) .nil .nil
def zdK:=BT.node (UC P) (zpc P) (zdL P)
def zdJ:=BT.node (zkX P) .nil .nil
def zdI:=BT.node (zv5 P) .nil .nil
def zdH:=BT.node (zhL P) (zpa P) (zdI P)
def zdG:=BT.node (zv9 P) .nil .nil
def zdF:=BT.node (zv0 P) .nil .nil
def zdE:=BT.node (Uw P) (zo8 P) (zdF P)
noncomputable def zl8:=BT.node (o0 P) (BT.node (o10 P) (BT.node (o26 P) (BT.node (o58 P) (BT.node (zh0 P) (zq6 P) (zdQ P)) (zdO P)) (BT.node (o93 P) (BT.node (UJ P) (zq4 P) (zdN P)) (zfJ P))) (BT.node (o42 P) (BT.node (o74 P) (BT.node (UV P) (zq1 P) (zdM P)) (zfH P)) (BT.node (Wr P) (zdK P) (zfF P)))) (BT.node (o18 P) (BT.node (o34 P) (BT.node (o66 P) (BT.node (U1 P) (zqY P) (zdJ P)) (zfD P)) (BT.node (Y8 P) (zdH P) (zfB P))) (BT.node (o50 P) (BT.node (o85 P) (BT.node (zhS P) (zqV P) (zdG P)) (zfz P)) (BT.node (YW P) (zdE P) (zfx P))))
def zdD:=BT.node (zkk P) .nil .nil
def zdC:=BT.node (Us P) (zo6 P) (zdD P)
def zdB:=BT.node (zkH P) .nil .nil
def zdA:=BT.node (zwc P) .nil .nil
def zdz:=BT.node (zkw P) .nil .nil
def zdy:=BT.node (zhI P) (zo4 P) (zdz P)
def zdx:=BT.node (zkY P) .nil .nil
def zdw:=BT.node (zkA P) .nil .nil
def zdv:=BT.node (zhN P) (zqH P) (zdw P)
def zdu:=BT.node (zkN P) .nil .nil
def zdt:=BT.node (zkq P) .nil .nil
def zds:=BT.node (Uy P) (zo2 P) (zdt P)
def zdr:=BT.node (zwi P) .nil .nil
def zdq:=BT.node (zvX P) .nil .nil
def zdp:=BT.node (Up P) (zfg P) (zdq P)
def zdo:=BT.node (zkE P) .nil .nil
def zdn:=BT.node (zkQ P) .nil .nil
def zdm:=BT.node (zkt P) .nil .nil
def zdl:=BT.node (zhH P) (zo0 P) (zdm P)
def zdk:=BT.node (zwd P) .nil .nil
def zdj:=BT.node (zv4 P) .nil .nil
def zdi:=BT.node (UG P) (zoY P) (zdj P)
def zdh:=BT.node (zkK P) .nil .nil
def zdg:=BT.node (zkn P) .nil .nil
def zdf:=BT.node (Uv P) (zoW P) (zdg P)
noncomputable def zl7:=BT.node (o2 P) (BT.node (o12 P) (BT.node (o28 P) (BT.node (o60 P) (BT.node (U5 P) (zqA P) (zdr P)) (zdp P)) (BT.node (o95 P) (BT.node (zhP P) (zqy P) (zdo P)) (zfe P))) (BT.node (o44 P) (BT.node (o76 P) (BT.node (UU P) (zqv P) (zdn P)) (zfc P)) (BT.node (Y1 P) (zdl P) (zfa P)))) (BT.node (o20 P) (BT.node (o36 P) (BT.node (o68 P) (BT.node (zhW P) (zqs P) (zdk P)) (ze8 P)) (BT.node (Y7 P) (zdi P) (ze6 P))) (BT.node (o52 P) (BT.node (o87 P) (BT.node (UO P) (zqp P) (zdh P)) (ze4 P)) (BT.node (Wo P) (zdf P) (ze2 P))))
noncomputable def zl6:=BT.node (boot_o_5 P) (BT.node (boot_o_9 P) (BT.node (o8 P) (BT.node (o24 P) (BT.node (o56 P) (zfv P) (zdC P)) (BT.node (o91 P) (BT.node (UL P) (zqP P) (zdB P)) (zft P))) (BT.node (o40 P) (BT.node (Vh P) (BT.node (UX P) (zqM P) (zdA P)) (zfr P)) (BT.node (Y4 P) (zdy P) (zfp P)))) (BT.node (o16 P) (BT.node (o32 P) (BT.node (o64 P) (BT.node (zhX P) (zqJ P) (zdx P)) (zfn P)) (BT.node (o99 P) (zdv P) (zfl P))) (BT.node (o48 P) (BT.node (o83 P) (BT.node (UR P) (zqE P) (zdu P)) (zfj P)) (BT.node (YY P) (zds P) (zfh P))))) (zl7 P)
def zde:=BT.node (zkl P) .nil .nil
def zdd:=BT.node (Ut P) (zoU P) (zde P)
def zdc:=BT.node (zkI P) .nil .nil
def zdb:=BT.node (zkT P) .nil .nil
def zda:=BT.node (zv3 P) .nil .nil
def zc9:=BT.node (UE P) (zoS P) (zda P)
def zc8:=BT.node (zwf P) .nil .nil
def zc7:=BT.node (zkB P) .nil .nil
def zc6:=BT.node (zhO P) (zqb P) (zc7 P)
def zc5:=BT.node (zwa P) .nil .nil
def zc4:=BT.node (zkr P) .nil .nil
def zc3:=BT.node (zhG P) (zoQ P) (zc4 P)
def zc2:=BT.node (zwj P) .nil .nil
def zc1:=BT.node (zki P) .nil .nil
def zc0:=BT.node (Uq P) (zeL P) (zc1 P)
def zcZ:=BT.node (zkF P) .nil .nil
def zcY:=BT.node (zwb P) .nil .nil
def zcX:=BT.node (zv2 P) .nil .nil
def zcW:=BT.node (UB P) (zoO P) (zcX P)
def zcV:=BT.node (zkW P) .nil .nil
def zcU:=BT.node (zkz P) .nil .nil
def zcT:=BT.node (zhK P) (zoM P) (zcU P)
def zcS:=BT.node (zkL P) .nil .nil
def zcR:=BT.node (zko P) .nil .nil
def zcQ:=BT.node (zhF P) (zoK P) (zcR P)
noncomputable def zl5:=BT.node (zxf P) (BT.node (o11 P) (BT.node (o27 P) (BT.node (o59 P) (BT.node (zhZ P) (zp4 P) (zc2 P)) (zc0 P)) (BT.node (o94 P) (BT.node (zhQ P) (zp2 P) (zcZ P)) (zeJ P))) (BT.node (o43 P) (BT.node (o75 P) (BT.node (zhU P) (zpZ P) (zcY P)) (zeH P)) (BT.node (Y2 P) (zcW P) (zeF P)))) (BT.node (o19 P) (BT.node (o35 P) (BT.node (o67 P) (BT.node (U0 P) (zpW P) (zcV P)) (zeD P)) (BT.node (Wt P) (zcT P) (zeB P))) (BT.node (o51 P) (BT.node (o86 P) (BT.node (UP P) (zpT P) (zcS P)) (zez P)) (BT.node (Wp P) (zcQ P) (zex P))))
def zcP:=BT.node (zwl P) .nil .nil
def zcO:=BT.node (zvY P) .nil .nil
def zcN:=BT.node (Ur P) (zoI P) (zcO P)
def zcM:=BT.node (zv7 P) .nil .nil
def zcL:=BT.node (zkS P) .nil .nil
def zcK:=BT.node (zkv P) .nil .nil
def zcJ:=BT.node (UD P) (zoG P) (zcK P)
def zcI:=BT.node (zwe P) .nil .nil
def zcH:=BT.node (zv6 P) .nil .nil
def zcG:=BT.node (zhM P) (zpF P) (zcH P)
def zcF:=BT.node (zkM P) .nil .nil
def zcE:=BT.node (zkp P) .nil .nil
def zcD:=BT.node (Ux P) (zoE P) (zcE P)
def zcC:=BT.node (zwh P) .nil .nil
def zcB:=BT.node (zkh P) .nil .nil
def zcA:=BT.node (zhC P) (zei P) (zcB P)
def zcz:=BT.node (zkD P) .nil .nil
def zcy:=BT.node (zkP P) .nil .nil
def zcx:=BT.node (zks P) .nil .nil
def zcw:=BT.node (UA P) (zoC P) (zcx P)
def zcv:=BT.node (zkV P) .nil .nil
def zcu:=BT.node (zky P) .nil .nil
def zct:=BT.node (zhJ P) (zoA P) (zcu P)
def zcs:=BT.node (zkJ P) .nil .nil
def zcr:=BT.node (zvZ P) .nil .nil
def zcq:=BT.node (Uu P) (zoy P) (zcr P)
noncomputable def zl4:=BT.node (o3 P) (BT.node (o13 P) (BT.node (o29 P) (BT.node (o61 P) (BT.node (zhY P) (zpy P) (zcC P)) (zcA P)) (BT.node (o96 P) (BT.node (UI P) (zpw P) (zcz P)) (zeg P))) (BT.node (o45 P) (BT.node (o80 P) (BT.node (UT P) (zpt P) (zcy P)) (zee P)) (BT.node (Wq P) (zcw P) (zec P)))) (BT.node (o21 P) (BT.node (o37 P) (BT.node (o69 P) (BT.node (UZ P) (zpp P) (zcv P)) (zea P)) (BT.node (Y6 P) (zct P) (zd8 P))) (BT.node (o53 P) (BT.node (o88 P) (BT.node (zhR P) (zpm P) (zcs P)) (zd6 P)) (BT.node (YV P) (zcq P) (zd4 P))))
noncomputable def zl3:=BT.node (boot_o_6 P) (BT.node (boot_o_10 P) (BT.node (o9 P) (BT.node (o25 P) (BT.node (o57 P) (BT.node (zh1 P) (zpP P) (zcP P)) (zcN P)) (BT.node (o92 P) (BT.node (UK P) (zpN P) (zcM P)) (zev P))) (BT.node (o41 P) (BT.node (o73 P) (BT.node (UW P) (zpK P) (zcL P)) (zet P)) (BT.node (Y3 P) (zcJ P) (zer P)))) (BT.node (o17 P) (BT.node (o33 P) (BT.node (o65 P) (BT.node (U2 P) (zpH P) (zcI P)) (zep P)) (BT.node (Y9 P) (zcG P) (zen P))) (BT.node (o49 P) (BT.node (o84 P) (BT.node (UQ P) (zpC P) (zcF P)) (zel P)) (BT.node (YX P) (zcD P) (zej P))))) (zl4 P)
noncomputable def zl1:=BT.node (boot_o_2 P) (BT.node (boot_o_4 P) (BT.node (boot_o_8 P) (BT.node (o7 P) (BT.node (o23 P) (BT.node (o55 P) (ze0 P) (zdd P)) (BT.node (o90 P) (BT.node (UM P) (zqj P) (zdc P)) (zeY P))) (BT.node (o39 P) (BT.node (o71 P) (BT.node (zhV P) (zqg P) (zdb P)) (zeW P)) (BT.node (Y5 P) (zc9 P) (zeU P)))) (BT.node (o15 P) (BT.node (o31 P) (BT.node (o63 P) (BT.node (U3 P) (zqd P) (zc8 P)) (zeS P)) (BT.node (o98 P) (zc6 P) (zeQ P))) (BT.node (o47 P) (BT.node (o82 P) (BT.node (US P) (zp8 P) (zc5 P)) (zeO P)) (BT.node (YZ P) (zc3 P) (zeM P))))) (zl5 P)) (zl3 P)
noncomputable def zl0:=BT.node (boot_o_0 P) (BT.node (boot_o_1 P) (BT.node (zxg P) (BT.node (boot_o_7 P) (BT.node (o6 P) (BT.node (o22 P) (BT.node (o54 P) (zov P) (zd2 P)) (BT.node (o89 P) (BT.node (UN P) (zrj P) (zd1 P)) (zot P))) (BT.node (o38 P) (BT.node (o70 P) (BT.node (UY P) (zrg P) (zd0 P)) (zor P)) (BT.node (Ws P) (zdY P) (zop P)))) (BT.node (o14 P) (BT.node (o30 P) (BT.node (o62 P) (BT.node (U4 P) (zrd P) (zdX P)) (zdV P)) (BT.node (o97 P) (BT.node (UH P) (zon P) (zdU P)) (zol P))) (BT.node (o46 P) (BT.node (o81 P) (BT.node (zhT P) (zra P) (zdT P)) (zfO P)) (BT.node (Y0 P) (zdR P) (zfM P))))) (zl8 P)) (zl6 P)) (zl1 P)
noncomputable def sb9 (w:World) (os:OsState):SharedT:=⟨(zl0 w.params),456,(Life.mk [] [] [] 0 [] [] false #[] [] 0 false false false 0 [2000,10,10] false 0 true [] [] 0 false),⟨[]⟩,(Drawn.mk 0 0 0 0),802,os⟩
noncomputable def L8 (w:World) (os:OsState):Option (Flow×SharedT×Code×Pos):=segRunT treeTable PySem.Challenge.pw_beatless_k25_whole_no_word_goes_faster w 11 an 1 490 (sb8 w os) (piecesOf zuA env cE (Pos.mk 170 0 171 53) B)
noncomputable def R8 (w:World) (os:OsState):Option (Flow×SharedT×Code×Pos):=some (.next,sb9 w os,cE,(Pos.mk 231 0 238 15))
theorem q8:tt (Hd.L8,Hd.R8)=true:=by k_qdec
theorem r8:∀ w,Fast.tw7116466485190837356 w=Hd.R8 w:=fun w=>by kernel_rfl
theorem e8 (w:World) (os:OsState):Hd.L8 w os=Hd.R8 w os:=(congrFun (congrFun Fast.te7116466485190837356 w) os).trans (congrFun (r8 w) os)
def zuz:List Stmt:=[S 45,S 46,S 47,S 48,S 49,S 50]
noncomputable def zxe:=Obj.mk k4 .none (Data.dict #[en P (s 3) 165 (.str (s 141) 888),en P (s 5) 166 .none,en P (s 6) 167 .none,en P (s 7) 168 k5,en P (s 8) 169 .none,en P (s 9) 170 (.ref 6),en P (s 10) 171 (.ref 4),en P (s 11) 173 (.str (s 0) 172),en P (s 12) 174 .none,en P (s 13) 193 (.ref 21),en P (s 14) 201 (.ref 26),en P (s 15) 207 (.ref 31),en P (s 16) 213 (.ref 36),en P (s 17) 228 (.ref 43),en P (s 18) 236 (.ref 50),en P (s 19) 244 (.ref 57),en P (s 20) 253 (.ref 64),en P (s 21) 262 (.ref 71),en P (s 22) 284 (.ref 81),en P (s 40) 331 (.ref 123),en P (s 51) 378 (.ref 163),en P (s 57) 431 (.ref 203),en P (s 64) 480 (.ref 243),en P (s 72) 533 (.ref 283),en P (s 73) 553 (.ref 295),en P (s 80) 569 (.ref 308),en P (s 81) 585 (.ref 320),en P (s 83) 601 (.ref 332),en P (s 84) 610 (.ref 341),en P (s 85) 615 (.ref 342),en P (s 86) 621 (.ref 343),en P (s 87) 630 (.ref 344),en P (s 88) 635 (.ref 345),en P (s 89) 637 (.int 60 636),en P (s 90) 639 (.int 8 638),en P (s 91) 646 (.ref 352),en P (s 92) 654 (.ref 359),en P (s 93) 661 (.ref 366),en P (s 94) 671 (.ref 373),en P (s 95) 680 (.ref 380),en P (s 96) 686 (.ref 385),en P (s 117) 756 (.ref 423),en P (s 118) 760 (.int 12 759),en P (s 119) 762 (.int 99 761),en P (s 120) 771 (.ref 434),en P (s 121) 779 (.ref 441),en P (s 122) 789 (.ref 448),en P (s 123) 801 (.ref 455),en P (s 142) 887 (.ref 521),en P (s 143) 897 (.ref 532),en P (s 144) 910 (.ref 539),en P (s 145) 918 (.ref 546),en P (s 146) 924 (.ref 551)] 53) #[]
noncomputable def zxd (P:Params):=vO #[(.int 1 0),(.int 0 0),(.ref 20),(.int 5 0),(.int 0 0),(.ref 25),(.int 7 0),(.int 0 0),(.ref 30),(.int 16 0),(.int 0 0),(.ref 35),(.int 23 0),(.int 0 0),(.ref 42),(.int 34 0),(.int 0 0),(.ref 49),(.int 36 0),(.int 0 0),(.ref 56),(.int 38 0),(.int 0 0),(.ref 63),(.int 40 0),(.int 0 0),(.ref 70),(.int 43 0),(.int 0 0),(.ref 77),(.int 45 0),(.int 0 0),(.ref 91),(.int 58 0),(.int 0 0),(.ref 131),(.int 71 0),(.int 0 0),(.ref 171),(.int 94 0),(.int 0 0),(.ref 211),(.int 108 0),(.int 0 0),(.ref 251),(.int 127 0),(.int 0 0),(.ref 291),(.int 129 0),(.int 0 0),(.ref 304),(.int 131 0),(.int 0 0),(.ref 316),(.int 133 0),(.int 0 0),(.ref 328),(.int 136 0),(.int 0 0),(.ref 340),(.int 145 0),(.int 0 0),(.ref 351),(.int 147 0),(.int 0 0),(.ref 358),(.int 149 0),(.int 0 0),(.ref 365),(.int 151 0),(.int 0 0),(.ref 372),(.int 156 0),(.int 0 0),(.ref 379),(.int 170 0),(.int 0 0),(.ref 384),(.int 172 0),(.int 0 0),(.ref 391),(.int 207 0),(.int 0 0),(.ref 433),(.int 216 0),(.int 0 0),(.ref 440),(.int 222 0),(.int 0 0),(.ref 447),(.int 231 0),(.int 0 0),(.ref 454),(.int 239 0),(.int 0 0),(.ref 461),(.int 273 0),(.int 0 0),(.ref 531),(.int 277 0),(.int 0 0),(.ref 538),(.int 291 0),(.int 0 0),(.ref 545),(.int 295 0),(.int 0 0),(.ref 550)]
def zvW (P:Params):=tO #[]
noncomputable def zvV (P:Params):=Obj.mk k6 .none (Data.fields #[k7,k8]) #[]
noncomputable def zvU:=Obj.mk k4 .none (Data.dict #[en P (s 34) 809 (.str (s 116) 757),en P (s 35) 811 (.str (s 142) 810),en P (s 36) 813 (.int 239 812),en P (s 41) 822 (.ref 469),en P (s 136) 829 (.ref 476),en P (s 99) 836 (.ref 483),en P (s 147) 844 (.ref 490),en P (s 148) 853 (.ref 497),en P (s 149) 861 (.ref 504),en P (s 150) 868 (.ref 511),en P (s 151) 876 (.ref 518),en P (s 37) 880 (.ref 519)] 12) #[]
def zvT (P:Params):=tO #[]
noncomputable def zvS (P:Params):=vO #[(.int 241 0),(.int 4 0),(.ref 468),(.int 250 0),(.int 4 0),(.ref 475),(.int 253 0),(.int 4 0),(.ref 482),(.int 256 0),(.int 4 0),(.ref 489),(.int 259 0),(.int 4 0),(.ref 496),(.int 262 0),(.int 4 0),(.ref 503),(.int 267 0),(.int 4 0),(.ref 510),(.int 270 0),(.int 4 0),(.ref 517)]
noncomputable def zvR (P:Params):=Obj.mk k1 .none (Data.fields #[(.str (s 142) 804),(.str (s 142) 805),(.str (s 0) 806),(.int 239 0),(.int 0 0),(.int 0 0),(.int 0 0),(.int 0 0),(.ref 459),(.bool false),(.int 181 0),(.ref 460),.none,.none,.none,.none,(.int 807 0),(.int 239 0),(.str (s 0) 808)]) #[]
noncomputable def zvQ (P:Params):=Obj.mk k3 .none Data.plain #[(Option.some (.ref 461)),(Option.some (.ref 3)),(Option.some (.ref 458)),.none,(Option.some (.str (s 116) 757)),.none,(Option.some (.ref 0))]
def zkf (P:Params):=tO #[]
def zvP (P:Params):=vO #[]
noncomputable def zke (P:Params):=tO #[(.str (s 45) 817),(.str (s 136) 818),(.str (s 99) 819)]
def zkd (P:Params):=tO #[]
def zvO (P:Params):=gO (s 41) (s 152) (L2.inClass (S 45) 0)
noncomputable def zkc (P:Params):=cO (s 41) (s 152) 814 815 816 241 3 3 463 464 465 466 467 820 821
noncomputable def zkb (P:Params):=uO (s 41) (s 152) (L2.inClass (S 45) 0) (s 116) 757 468
def zka (P:Params):=tO #[]
def zvN (P:Params):=vO #[]
def zj9 (P:Params):=tO #[(.str (s 45) 826)]
def zj8 (P:Params):=tO #[]
noncomputable def zvM (P:Params):=gO (s 136) (s 153) (L2.inClass (S 45) 1)
noncomputable def zj7 (P:Params):=cO (s 136) (s 153) 823 824 825 250 1 3 470 471 472 473 474 827 828
noncomputable def zj6 (P:Params):=uO (s 136) (s 153) (L2.inClass (S 45) 1) (s 116) 757 475
def zj5 (P:Params):=tO #[]
def zvL (P:Params):=vO #[]
def zj4 (P:Params):=tO #[(.str (s 45) 833)]
def zj3 (P:Params):=tO #[]
noncomputable def zvK (P:Params):=gO (s 99) (s 154) (L2.inClass (S 45) 2)
noncomputable def zj2 (P:Params):=cO (s 99) (s 154) 830 831 832 253 1 3 477 478 479 480 481 834 835
noncomputable def zj1 (P:Params):=uO (s 99) (s 154) (L2.inClass (S 45) 2) (s 116) 757 482
def zj0 (P:Params):=tO #[]
def zvJ (P:Params):=vO #[]
noncomputable def zjZ (P:Params):=tO #[(.str (s 45) 840),(.str (s 132) 841)]
def zjY (P:Params):=tO #[]
noncomputable def zvI (P:Params):=gO (s 147) (s 155) (L2.inClass (S 45) 3)
noncomputable def zjX (P:Params):=cO (s 147) (s 155) 837 838 839 256 2 3 484 485 486 487 488 842 843
noncomputable def zjW (P:Params):=uO (s 147) (s 155) (L2.inClass (S 45) 3) (s 116) 757 489
def zjV (P:Params):=tO #[]
def zvH (P:Params):=vO #[]
noncomputable def zjU (P:Params):=tO #[(.str (s 45) 848),(.str (s 58) 849),(.str (s 59) 850)]
def zjT (P:Params):=tO #[]
noncomputable def zvG (P:Params):=gO (s 148) (s 156) (L2.inClass (S 45) 4)
noncomputable def zjS (P:Params):=cO (s 148) (s 156) 845 846 847 259 3 3 491 492 493 494 495 851 852
noncomputable def zjR (P:Params):=uO (s 148) (s 156) (L2.inClass (S 45) 4) (s 116) 757 496
def zjQ (P:Params):=tO #[]
def zvF (P:Params):=vO #[]
noncomputable def zjP (P:Params):=tO #[(.str (s 45) 857),(.str (s 132) 858)]
def zjO (P:Params):=tO #[]
noncomputable def zvE (P:Params):=gO (s 149) (s 157) (L2.inClass (S 45) 5)
noncomputable def zjN (P:Params):=cO (s 149) (s 157) 854 855 856 262 2 3 498 499 500 501 502 859 860
noncomputable def zjM (P:Params):=uO (s 149) (s 157) (L2.inClass (S 45) 5) (s 116) 757 503
def zjL (P:Params):=tO #[]
def zvD (P:Params):=vO #[]
def zjK (P:Params):=tO #[(.str (s 45) 865)]
def zjJ (P:Params):=tO #[]
noncomputable def zvC (P:Params):=gO (s 150) (s 158) (L2.inClass (S 45) 6)
noncomputable def zjI (P:Params):=cO (s 150) (s 158) 862 863 864 267 1 3 505 506 507 508 509 866 867
noncomputable def zjH (P:Params):=uO (s 150) (s 158) (L2.inClass (S 45) 6) (s 116) 757 510
def zjG (P:Params):=tO #[]
def zvB (P:Params):=vO #[]
noncomputable def zjF (P:Params):=tO #[(.str (s 45) 872),(.str (s 132) 873)]
def zjE (P:Params):=tO #[]
noncomputable def zvA (P:Params):=gO (s 151) (s 159) (L2.inClass (S 45) 7)
noncomputable def zjD (P:Params):=cO (s 151) (s 159) 869 870 871 270 2 3 512 513 514 515 516 874 875
noncomputable def zjC (P:Params):=uO (s 151) (s 159) (L2.inClass (S 45) 7) (s 116) 757 517
noncomputable def zjB (P:Params):=tO #[(.str (s 140) 877),(.str (s 160) 878),(.str (s 161) 879)]
noncomputable def zjA:=Obj.mk k4 .none (Data.dict #[en P (s 34) 809 (.str (s 116) 757),en P (s 36) 813 (.int 239 812),en P (s 41) 822 (.ref 469),en P (s 136) 829 (.ref 476),en P (s 99) 836 (.ref 483),en P (s 147) 844 (.ref 490),en P (s 148) 853 (.ref 497),en P (s 149) 861 (.ref 504),en P (s 150) 868 (.ref 511),en P (s 151) 876 (.ref 518),en P (s 37) 880 (.ref 519),en P (s 38) 882 (.ref 522),en P (s 39) 884 (.ref 523),en P (s 5) 885 .none] 4) #[]
noncomputable def zjz (P:Params):=Obj.mk k8 .none (Data.cls (ClassData.mk (s 142) [k9] [(.ref 521),k9] 520 (s 142) true [] [] false .none false)) #[.none,.none,(Option.some (.str (s 142) 802)),(Option.some (.str (s 142) 810)),(Option.some k10),(Option.some (.bool true))]
noncomputable def zjy (P:Params):=Obj.mk k11 .none (Data.fields #[(.str (s 38) 881),(.ref 521),k12,k13]) #[]
noncomputable def zjx (P:Params):=Obj.mk k11 .none (Data.fields #[(.str (s 39) 883),(.ref 521),k14,.none]) #[]
noncomputable def zvz (P:Params):=Obj.mk k15 .none (Data.fields #[(.ref 521),(.ref 521),(.ref 521)]) #[]
noncomputable def zvy (P:Params):=Obj.mk k6 .none (Data.fields #[k16,(.ref 521)]) #[]
def zjw (P:Params):=tO #[]
def zvx (P:Params):=vO #[]
noncomputable def zjv (P:Params):=tO #[(.str (s 162) 893),(.str (s 163) 894)]
def zju (P:Params):=tO #[]
def zvw (P:Params):=gO (s 143) (s 143) (S 47)
noncomputable def zjt (P:Params):=cO (s 143) (s 143) 890 891 892 273 2 3 526 527 528 529 530 895 896
noncomputable def zjs (P:Params):=uO (s 143) (s 143) (S 47) (s 141) 888 531
def zjr (P:Params):=tO #[]
def zvv (P:Params):=vO #[]
noncomputable def zjq (P:Params):=tO #[(.str (s 164) 901),(.str (s 165) 902),(.str (s 166) 903),(.str (s 167) 904),(.str (s 168) 905),(.str (s 163) 906),(.str (s 169) 907)]
def zjp (P:Params):=tO #[]
def zvu (P:Params):=gO (s 144) (s 144) (S 48)
noncomputable def zjo (P:Params):=cO (s 144) (s 144) 898 899 900 277 2 3 533 534 535 536 537 908 909
noncomputable def zjn (P:Params):=uO (s 144) (s 144) (S 48) (s 141) 888 538
def zjm (P:Params):=tO #[]
def zvt (P:Params):=vO #[]
noncomputable def zjl (P:Params):=tO #[(.str (s 170) 914),(.str (s 171) 915)]
def zjk (P:Params):=tO #[]
def zvs (P:Params):=gO (s 145) (s 145) (S 49)
noncomputable def zjj (P:Params):=cO (s 145) (s 145) 911 912 913 291 2 3 540 541 542 543 544 916 917
noncomputable def zji (P:Params):=uO (s 145) (s 145) (S 49) (s 141) 888 545
def zjh (P:Params):=tO #[]
def zvr (P:Params):=vO #[]
def zvq (P:Params):=gO (s 146) (s 146) (S 50)
noncomputable def zjg (P:Params):=Obj.mk k1 .none (Data.fields #[(.str (s 146) 919),(.str (s 146) 920),(.str (s 0) 921),(.int 295 0),(.int 2 0),(.int 0 0),(.int 0 0),(.int 3 0),(.ref 547),(.bool true),(.int 181 0),(.ref 548),.none,.none,.none,(.ref 549),(.int 922 0),(.int 295 0),(.str (s 0) 923)]) #[]
noncomputable def zjf (P:Params):=uO (s 146) (s 146) (S 50) (s 141) 888 550
noncomputable def zcp:=BT.node (zh4 P) (BT.node (zho P) (BT.node (zjH P) .nil .nil) .nil) (zow P)
noncomputable def zco:=BT.node (UN P) (BT.node (znK P) (BT.node (zjk P) .nil .nil) .nil) (zd1 P)
def zcn:=BT.node (zj4 P) .nil .nil
noncomputable def zcm:=BT.node (UY P) (BT.node (znP P) (BT.node (zvx P) .nil .nil) .nil) (zd0 P)
def zcl:=BT.node (zkf P) .nil .nil
noncomputable def zck:=BT.node (zaq P) (zoq P) (BT.node (zvG P) .nil .nil)
noncomputable def zcj:=BT.node (U4 P) (BT.node (zhi P) (BT.node (zjB P) .nil .nil) .nil) (zdX P)
noncomputable def zci:=BT.node (o97 P) (BT.node (UH P) (BT.node (zgQ P) (BT.node (zjf P) .nil .nil) .nil) (zdU P)) (BT.node (zlu P) (zom P) (BT.node (zjY P) .nil .nil))
noncomputable def zch:=BT.node (zhT P) (BT.node (zg7 P) (BT.node (zjq P) .nil .nil) .nil) (zdT P)
def zcg:=BT.node (zvN P) .nil .nil
noncomputable def zcf:=BT.node (zlp P) (zfN P) (BT.node (zjN P) .nil .nil)
noncomputable def zce:=BT.node (zh0 P) (BT.node (zhl P) (BT.node (zjE P) .nil .nil) .nil) (zdQ P)
noncomputable def zcd:=BT.node (UJ P) (BT.node (znG P) (BT.node (zjh P) .nil .nil) .nil) (zdN P)
def zcc:=BT.node (zj1 P) .nil .nil
noncomputable def zcb:=BT.node (UV P) (BT.node (znO P) (BT.node (zjt P) .nil .nil) .nil) (zdM P)
def zca:=BT.node (zvO P) .nil .nil
noncomputable def zb9:=BT.node (zam P) (zfG P) (BT.node (zvF P) .nil .nil)
noncomputable def zb8:=BT.node (U1 P) (BT.node (zhf P) (BT.node (zjx P) .nil .nil) .nil) (zdJ P)
def zb7:=BT.node (zvT P) .nil .nil
noncomputable def zb6:=BT.node (zlt P) (zfC P) (BT.node (zjV P) .nil .nil)
noncomputable def zb5:=BT.node (zhS P) (BT.node (zg3 P) (BT.node (zjn P) .nil .nil) .nil) (zdG P)
def zb4:=BT.node (zj7 P) .nil .nil
noncomputable def zb3:=BT.node (zll P) (zfy P) (BT.node (zjK P) .nil .nil)
noncomputable def zlZ:=BT.node (o0 P) (BT.node (o10 P) (BT.node (o26 P) (BT.node (o58 P) (zce P) (zdO P)) (BT.node (o93 P) (zcd P) (BT.node (V7 P) (zfK P) (zcc P)))) (BT.node (o42 P) (BT.node (o74 P) (zcb P) (BT.node (zhv P) (zfI P) (zca P))) (BT.node (Wr P) (zdK P) (zb9 P)))) (BT.node (o18 P) (BT.node (o34 P) (BT.node (o66 P) (zb8 P) (BT.node (Uj P) (zfE P) (zb7 P))) (BT.node (Y8 P) (zdH P) (zb6 P))) (BT.node (o50 P) (BT.node (o85 P) (zb5 P) (BT.node (Ud P) (zfA P) (zb4 P))) (BT.node (YW P) (zdE P) (zb3 P))))
noncomputable def zb2:=BT.node (zh2 P) (BT.node (znT P) (BT.node (zvB P) .nil .nil) .nil) (zfw P)
noncomputable def zb1:=BT.node (UL P) (BT.node (znI P) (BT.node (zjj P) .nil .nil) .nil) (zdB P)
def zb0:=BT.node (zvK P) .nil .nil
noncomputable def zbZ:=BT.node (UX P) (BT.node (zhb P) (BT.node (zju P) .nil .nil) .nil) (zdA P)
def zbY:=BT.node (zke P) .nil .nil
noncomputable def zbX:=BT.node (zao P) (zfq P) (BT.node (zjR P) .nil .nil)
noncomputable def zbW:=BT.node (zhX P) (BT.node (zhh P) (BT.node (zjz P) .nil .nil) .nil) (zdx P)
def zbV:=BT.node (zvV P) .nil .nil
noncomputable def zbU:=BT.node (zau P) (zfm P) (BT.node (zjX P) .nil .nil)
noncomputable def zbT:=BT.node (UR P) (BT.node (zg5 P) (BT.node (zvu P) .nil .nil) .nil) (zdu P)
def zbS:=BT.node (zj8 P) .nil .nil
noncomputable def zbR:=BT.node (zln P) (zfi P) (BT.node (zjL P) .nil .nil)
noncomputable def zbQ:=BT.node (U5 P) (BT.node (znS P) (BT.node (zjD P) .nil .nil) .nil) (zdr P)
noncomputable def zbP:=BT.node (zhP P) (BT.node (zg1 P) (BT.node (zvq P) .nil .nil) .nil) (zdo P)
def zbO:=BT.node (zvJ P) .nil .nil
noncomputable def zbN:=BT.node (UU P) (BT.node (zg8 P) (BT.node (zjr P) .nil .nil) .nil) (zdn P)
def zbM:=BT.node (zkb P) .nil .nil
noncomputable def zbL:=BT.node (zlq P) (zfb P) (BT.node (zjO P) .nil .nil)
noncomputable def zbK:=BT.node (zhW P) (BT.node (zhe P) (BT.node (zvy P) .nil .nil) .nil) (zdk P)
def zbJ:=BT.node (zvR P) .nil .nil
noncomputable def zbI:=BT.node (zar P) (ze7 P) (BT.node (zjU P) .nil .nil)
noncomputable def zbH:=BT.node (UO P) (BT.node (znL P) (BT.node (zvt P) .nil .nil) .nil) (zdh P)
def zbG:=BT.node (zj5 P) .nil .nil
noncomputable def zbF:=BT.node (zak P) (ze3 P) (BT.node (zvC P) .nil .nil)
noncomputable def zlY:=BT.node (o2 P) (BT.node (o12 P) (BT.node (o28 P) (BT.node (o60 P) (zbQ P) (zdp P)) (BT.node (o95 P) (zbP P) (BT.node (V6 P) (zff P) (zbO P)))) (BT.node (o44 P) (BT.node (o76 P) (zbN P) (BT.node (Uh P) (zfd P) (zbM P))) (BT.node (Y1 P) (zdl P) (zbL P)))) (BT.node (o20 P) (BT.node (o36 P) (BT.node (o68 P) (zbK P) (BT.node (zhA P) (ze9 P) (zbJ P))) (BT.node (Y7 P) (zdi P) (zbI P))) (BT.node (o52 P) (BT.node (o87 P) (zbH P) (BT.node (zhr P) (ze5 P) (zbG P))) (BT.node (Wo P) (zdf P) (zbF P))))
noncomputable def zlX:=BT.node (boot_o_5 P) (BT.node (boot_o_9 P) (BT.node (o8 P) (BT.node (o24 P) (BT.node (o56 P) (zb2 P) (zdC P)) (BT.node (o91 P) (zb1 P) (BT.node (V9 P) (zfu P) (zb0 P)))) (BT.node (o40 P) (BT.node (Vh P) (zbZ P) (BT.node (zhx P) (zfs P) (zbY P))) (BT.node (Y4 P) (zdy P) (zbX P)))) (BT.node (o16 P) (BT.node (o32 P) (BT.node (o64 P) (zbW P) (BT.node (Ul P) (zfo P) (zbV P))) (BT.node (o99 P) (zdv P) (zbU P))) (BT.node (o48 P) (BT.node (o83 P) (zbT P) (BT.node (zhs P) (zfk P) (zbS P))) (BT.node (YY P) (zds P) (zbR P))))) (zlY P)
noncomputable def zbE:=BT.node (zh3 P) (BT.node (zhn P) (BT.node (zjG P) .nil .nil) .nil) (ze1 P)
noncomputable def zbD:=BT.node (UM P) (BT.node (znJ P) (BT.node (zvs P) .nil .nil) .nil) (zdc P)
def zbC:=BT.node (zj3 P) .nil .nil
noncomputable def zbB:=BT.node (zhV P) (BT.node (zhc P) (BT.node (zjv P) .nil .nil) .nil) (zdb P)
def zbA:=BT.node (zvP P) .nil .nil
noncomputable def zbz:=BT.node (zap P) (zeV P) (BT.node (zjS P) .nil .nil)
noncomputable def zby:=BT.node (U3 P) (BT.node (znR P) (BT.node (zjA P) .nil .nil) .nil) (zc8 P)
def zbx:=BT.node (zvW P) .nil .nil
noncomputable def zbw:=BT.node (zav P) (zeR P) (BT.node (zvI P) .nil .nil)
noncomputable def zbv:=BT.node (US P) (BT.node (zg6 P) (BT.node (zjp P) .nil .nil) .nil) (zc5 P)
def zbu:=BT.node (zj9 P) .nil .nil
noncomputable def zbt:=BT.node (zlo P) (zeN P) (BT.node (zjM P) .nil .nil)
noncomputable def zbs:=BT.node (zhZ P) (BT.node (zhk P) (BT.node (zvA P) .nil .nil) .nil) (zc2 P)
noncomputable def zbr:=BT.node (zhQ P) (BT.node (znF P) (BT.node (zvr P) .nil .nil) .nil) (zcZ P)
def zbq:=BT.node (zj0 P) .nil .nil
noncomputable def zbp:=BT.node (zhU P) (BT.node (zg9 P) (BT.node (zjs P) .nil .nil) .nil) (zcY P)
def zbo:=BT.node (zkc P) .nil .nil
noncomputable def zbn:=BT.node (zlr P) (zeG P) (BT.node (zjP P) .nil .nil)
noncomputable def zbm:=BT.node (U0 P) (BT.node (znQ P) (BT.node (zvz P) .nil .nil) .nil) (zcV P)
def zbl:=BT.node (zvS P) .nil .nil
noncomputable def zbk:=BT.node (zas P) (zeC P) (BT.node (zvH P) .nil .nil)
noncomputable def zbj:=BT.node (UP P) (BT.node (znM P) (BT.node (zjm P) .nil .nil) .nil) (zcS P)
def zbi:=BT.node (zj6 P) .nil .nil
noncomputable def zbh:=BT.node (zlk P) (zey P) (BT.node (zjJ P) .nil .nil)
noncomputable def zlW:=BT.node (zxd P) (BT.node (o11 P) (BT.node (o27 P) (BT.node (o59 P) (zbs P) (zc0 P)) (BT.node (o94 P) (zbr P) (BT.node (zhp P) (zeK P) (zbq P)))) (BT.node (o43 P) (BT.node (o75 P) (zbp P) (BT.node (zhu P) (zeI P) (zbo P))) (BT.node (Y2 P) (zcW P) (zbn P)))) (BT.node (o19 P) (BT.node (o35 P) (BT.node (o67 P) (zbm P) (BT.node (zhB P) (zeE P) (zbl P))) (BT.node (Wt P) (zcT P) (zbk P))) (BT.node (o51 P) (BT.node (o86 P) (zbj P) (BT.node (Uc P) (zeA P) (zbi P))) (BT.node (Wp P) (zcQ P) (zbh P))))
noncomputable def zbg:=BT.node (zh1 P) (BT.node (zhm P) (BT.node (zjF P) .nil .nil) .nil) (zcP P)
noncomputable def zbf:=BT.node (UK P) (BT.node (znH P) (BT.node (zji P) .nil .nil) .nil) (zcM P)
def zbe:=BT.node (zj2 P) .nil .nil
noncomputable def zbd:=BT.node (UW P) (BT.node (zha P) (BT.node (zvw P) .nil .nil) .nil) (zcL P)
def zbc:=BT.node (zkd P) .nil .nil
noncomputable def zbb:=BT.node (zan P) (zes P) (BT.node (zjQ P) .nil .nil)
noncomputable def zba:=BT.node (U2 P) (BT.node (zhg P) (BT.node (zjy P) .nil .nil) .nil) (zcI P)
def za9:=BT.node (zvU P) .nil .nil
noncomputable def za8:=BT.node (zat P) (zeo P) (BT.node (zjW P) .nil .nil)
noncomputable def za7:=BT.node (UQ P) (BT.node (zg4 P) (BT.node (zjo P) .nil .nil) .nil) (zcF P)
def za6:=BT.node (zvM P) .nil .nil
noncomputable def za5:=BT.node (zlm P) (zek P) (BT.node (zvD P) .nil .nil)
noncomputable def za4:=BT.node (zhY P) (BT.node (zhj P) (BT.node (zjC P) .nil .nil) .nil) (zcC P)
noncomputable def za3:=BT.node (o96 P) (BT.node (UI P) (BT.node (zg0 P) (BT.node (zjg P) .nil .nil) .nil) (zcz P)) (BT.node (zaw P) (zeh P) (BT.node (zjZ P) .nil .nil))
noncomputable def za2:=BT.node (UT P) (BT.node (znN P) (BT.node (zvv P) .nil .nil) .nil) (zcy P)
def za1:=BT.node (zka P) .nil .nil
noncomputable def za0:=BT.node (zal P) (zed P) (BT.node (zvE P) .nil .nil)
noncomputable def zaZ:=BT.node (UZ P) (BT.node (zhd P) (BT.node (zjw P) .nil .nil) .nil) (zcv P)
def zaY:=BT.node (zvQ P) .nil .nil
noncomputable def zaX:=BT.node (zls P) (zd9 P) (BT.node (zjT P) .nil .nil)
noncomputable def zaW:=BT.node (zhR P) (BT.node (zg2 P) (BT.node (zjl P) .nil .nil) .nil) (zcs P)
def zaV:=BT.node (zvL P) .nil .nil
noncomputable def zaU:=BT.node (zlj P) (zd5 P) (BT.node (zjI P) .nil .nil)
noncomputable def zlV:=BT.node (o3 P) (BT.node (o13 P) (BT.node (o29 P) (BT.node (o61 P) (za4 P) (zcA P)) (za3 P)) (BT.node (o45 P) (BT.node (o80 P) (za2 P) (BT.node (zht P) (zef P) (za1 P))) (BT.node (Wq P) (zcw P) (za0 P)))) (BT.node (o21 P) (BT.node (o37 P) (BT.node (o69 P) (zaZ P) (BT.node (Ui P) (zeb P) (zaY P))) (BT.node (Y6 P) (zct P) (zaX P))) (BT.node (o53 P) (BT.node (o88 P) (zaW P) (BT.node (Ub P) (zd7 P) (zaV P))) (BT.node (YV P) (zcq P) (zaU P))))
noncomputable def zlU:=BT.node (boot_o_6 P) (BT.node (boot_o_10 P) (BT.node (o9 P) (BT.node (o25 P) (BT.node (o57 P) (zbg P) (zcN P)) (BT.node (o92 P) (zbf P) (BT.node (V8 P) (zew P) (zbe P)))) (BT.node (o41 P) (BT.node (o73 P) (zbd P) (BT.node (zhw P) (zeu P) (zbc P))) (BT.node (Y3 P) (zcJ P) (zbb P)))) (BT.node (o17 P) (BT.node (o33 P) (BT.node (o65 P) (zba P) (BT.node (Uk P) (zeq P) (za9 P))) (BT.node (Y9 P) (zcG P) (za8 P))) (BT.node (o49 P) (BT.node (o84 P) (za7 P) (BT.node (Ue P) (zem P) (za6 P))) (BT.node (YX P) (zcD P) (za5 P))))) (zlV P)
noncomputable def zlT:=BT.node (boot_o_2 P) (BT.node (boot_o_4 P) (BT.node (boot_o_8 P) (BT.node (o7 P) (BT.node (o23 P) (BT.node (o55 P) (zbE P) (zdd P)) (BT.node (o90 P) (zbD P) (BT.node (zhq P) (zeZ P) (zbC P)))) (BT.node (o39 P) (BT.node (o71 P) (zbB P) (BT.node (zhy P) (zeX P) (zbA P))) (BT.node (Y5 P) (zc9 P) (zbz P)))) (BT.node (o15 P) (BT.node (o31 P) (BT.node (o63 P) (zby P) (BT.node (Um P) (zeT P) (zbx P))) (BT.node (o98 P) (zc6 P) (zbw P))) (BT.node (o47 P) (BT.node (o82 P) (zbv P) (BT.node (Uf P) (zeP P) (zbu P))) (BT.node (YZ P) (zc3 P) (zbt P))))) (zlW P)) (zlU P)
noncomputable def zlS:=BT.node (boot_o_0 P) (BT.node (boot_o_1 P) (BT.node (zxe P) (BT.node (boot_o_7 P) (BT.node (o6 P) (BT.node (o22 P) (BT.node (o54 P) (zcp P) (zd2 P)) (BT.node (o89 P) (zco P) (BT.node (Ua P) (zou P) (zcn P)))) (BT.node (o38 P) (BT.node (o70 P) (zcm P) (BT.node (zhz P) (zos P) (zcl P))) (BT.node (Ws P) (zdY P) (zck P)))) (BT.node (o14 P) (BT.node (o30 P) (BT.node (o62 P) (zcj P) (zdV P)) (zci P)) (BT.node (o46 P) (BT.node (o81 P) (zch P) (BT.node (Ug P) (zfP P) (zcg P))) (BT.node (Y0 P) (zdR P) (zcf P))))) (zlZ P)) (zlX P)) (zlT P)
noncomputable def zuZ (w:World) (os:OsState):SharedT:=⟨(zlS w.params),552,(Life.mk [] [] [] 0 [] [] false #[] [] 0 false false false 0 [2000,10,10] false 0 true [] [] 0 false),⟨[]⟩,(Drawn.mk 0 0 0 0),925,os⟩
noncomputable def L9 (w:World) (os:OsState):Option (Flow×SharedT×Code×Pos):=segRunT treeTable PySem.Challenge.pw_beatless_k25_whole_no_word_goes_faster w 11 an 1 578 (sb9 w os) (piecesOf zuz env cE (Pos.mk 231 0 238 15) B)
noncomputable def R9 (w:World) (os:OsState):Option (Flow×SharedT×Code×Pos):=some (.next,zuZ w os,cE,(Pos.mk 295 0 303 21))
theorem q9:tt (Hd.L9,Hd.R9)=true:=by k_qdec
theorem r9:∀ w,Fast.tw16134767483146388640 w=Hd.R9 w:=fun w=>by kernel_rfl
theorem e9 (w:World) (os:OsState):Hd.L9 w os=Hd.R9 w os:=(congrFun (congrFun Fast.te16134767483146388640 w) os).trans (congrFun (r9 w) os)
noncomputable def zfQ:List Stmt:=[S 51,S 52,S 53,S 54,S 55,S 56,S 57,S 58,S 59,S 60]
noncomputable def zje:=Obj.mk k4 .none (Data.dict #[en P (s 3) 165 (.str (s 141) 888),en P (s 5) 166 .none,en P (s 6) 167 .none,en P (s 7) 168 k5,en P (s 8) 169 .none,en P (s 9) 170 (.ref 6),en P (s 10) 171 (.ref 4),en P (s 11) 173 (.str (s 0) 172),en P (s 12) 174 .none,en P (s 13) 193 (.ref 21),en P (s 14) 201 (.ref 26),en P (s 15) 207 (.ref 31),en P (s 16) 213 (.ref 36),en P (s 17) 228 (.ref 43),en P (s 18) 236 (.ref 50),en P (s 19) 244 (.ref 57),en P (s 20) 253 (.ref 64),en P (s 21) 262 (.ref 71),en P (s 22) 284 (.ref 81),en P (s 40) 331 (.ref 123),en P (s 51) 378 (.ref 163),en P (s 57) 431 (.ref 203),en P (s 64) 480 (.ref 243),en P (s 72) 533 (.ref 283),en P (s 73) 553 (.ref 295),en P (s 80) 569 (.ref 308),en P (s 81) 585 (.ref 320),en P (s 83) 601 (.ref 332),en P (s 84) 610 (.ref 341),en P (s 85) 615 (.ref 342),en P (s 86) 621 (.ref 343),en P (s 87) 630 (.ref 344),en P (s 88) 635 (.ref 345),en P (s 89) 637 (.int 60 636),en P (s 90) 639 (.int 8 638),en P (s 91) 646 (.ref 352),en P (s 92) 654 (.ref 359),en P (s 93) 661 (.ref 366),en P (s 94) 671 (.ref 373),en P (s 95) 680 (.ref 380),en P (s 96) 686 (.ref 385),en P (s 117) 756 (.ref 423),en P (s 118) 760 (.int 12 759),en P (s 119) 762 (.int 99 761),en P (s 120) 771 (.ref 434),en P (s 121) 779 (.ref 441),en P (s 122) 789 (.ref 448),en P (s 123) 801 (.ref 455),en P (s 142) 887 (.ref 521),en P (s 143) 897 (.ref 532),en P (s 144) 910 (.ref 539),en P (s 145) 918 (.ref 546),en P (s 146) 924 (.ref 551),en P (s 172) 939 (.ref 558),en P (s 173) 945 (.ref 563),en P (s 174) 951 (.ref 568),en P (s 175) 962 (.ref 575),en P (s 176) 968 (.ref 582),en P (s 177) 975 (.ref 589),en P (s 178) 982 (.ref 596),en P (s 179) 991 (.ref 603),en P (s 180) 997 (.ref 608),en P (s 181) 1003 (.ref 613)] 63) #[]
noncomputable def zvp (P:Params):=vO #[(.int 1 0),(.int 0 0),(.ref 20),(.int 5 0),(.int 0 0),(.ref 25),(.int 7 0),(.int 0 0),(.ref 30),(.int 16 0),(.int 0 0),(.ref 35),(.int 23 0),(.int 0 0),(.ref 42),(.int 34 0),(.int 0 0),(.ref 49),(.int 36 0),(.int 0 0),(.ref 56),(.int 38 0),(.int 0 0),(.ref 63),(.int 40 0),(.int 0 0),(.ref 70),(.int 43 0),(.int 0 0),(.ref 77),(.int 45 0),(.int 0 0),(.ref 91),(.int 58 0),(.int 0 0),(.ref 131),(.int 71 0),(.int 0 0),(.ref 171),(.int 94 0),(.int 0 0),(.ref 211),(.int 108 0),(.int 0 0),(.ref 251),(.int 127 0),(.int 0 0),(.ref 291),(.int 129 0),(.int 0 0),(.ref 304),(.int 131 0),(.int 0 0),(.ref 316),(.int 133 0),(.int 0 0),(.ref 328),(.int 136 0),(.int 0 0),(.ref 340),(.int 145 0),(.int 0 0),(.ref 351),(.int 147 0),(.int 0 0),(.ref 358),(.int 149 0),(.int 0 0),(.ref 365),(.int 151 0),(.int 0 0),(.ref 372),(.int 156 0),(.int 0 0),(.ref 379),(.int 170 0),(.int 0 0),(.ref 384),(.int 172 0),(.int 0 0),(.ref 391),(.int 207 0),(.int 0 0),(.ref 433),(.int 216 0),(.int 0 0),(.ref 440),(.int 222 0),(.int 0 0),(.ref 447),(.int 231 0),(.int 0 0),(.ref 454),(.int 239 0),(.int 0 0),(.ref 461),(.int 273 0),(.int 0 0),(.ref 531),(.int 277 0),(.int 0 0),(.ref 538),(.int 291 0),(.int 0 0),(.ref 545),(.int 295 0),(.int 0 0),(.ref 550),(.int 304 0),(.int 0 0),(.ref 557),(.int 315 0),(.int 0 0),(.ref 562),(.int 318 0),(.int 0 0),(.ref 567),(.int 330 0),(.int 0 0),(.ref 574),(.int 338 0),(.int 0 0),(.ref 581),(.int 340 0),(.int 0 0),(.ref 588),(.int 350 0),(.int 0 0),(.ref 595),(.int 352 0),(.int 0 0),(.ref 602),(.int 355 0),(.int 0 0),(.ref 607),(.int 365 0),(.int 0 0),(.ref 612)]
def zjd (P:Params):=tO #[]
def zvo (P:Params):=vO #[]
noncomputable def zjc (P:Params):=tO #[(.str (s 170) 928),(.str (s 182) 929),(.str (s 183) 930),(.str (s 166) 931),(.str (s 184) 932),(.str (s 163) 933),(.str (s 185) 934),(.str (s 186) 935),(.str (s 187) 936)]
def zjb (P:Params):=tO #[]
def zvn (P:Params):=gO (s 172) (s 172) (S 51)
noncomputable def zja (P:Params):=cO (s 172) (s 172) 925 926 927 304 2 3 552 553 554 555 556 937 938
noncomputable def zi9 (P:Params):=uO (s 172) (s 172) (S 51) (s 141) 888 557
def zi8 (P:Params):=tO #[]
def zvm (P:Params):=vO #[]
def zvl (P:Params):=gO (s 173) (s 173) (S 52)
noncomputable def zi7 (P:Params):=Obj.mk k1 .none (Data.fields #[(.str (s 173) 940),(.str (s 173) 941),(.str (s 0) 942),(.int 315 0),(.int 2 0),(.int 0 0),(.int 0 0),(.int 3 0),(.ref 559),(.bool true),(.int 181 0),(.ref 560),.none,.none,.none,(.ref 561),(.int 943 0),(.int 315 0),(.str (s 0) 944)]) #[]
noncomputable def zi6 (P:Params):=uO (s 173) (s 173) (S 52) (s 141) 888 562
def zi5 (P:Params):=tO #[]
def zvk (P:Params):=vO #[]
def zvj (P:Params):=gO (s 174) (s 174) (S 53)
noncomputable def zi4 (P:Params):=Obj.mk k1 .none (Data.fields #[(.str (s 174) 946),(.str (s 174) 947),(.str (s 0) 948),(.int 318 0),(.int 3 0),(.int 0 0),(.int 0 0),(.int 3 0),(.ref 564),(.bool true),(.int 181 0),(.ref 565),.none,.none,.none,(.ref 566),(.int 949 0),(.int 318 0),(.str (s 0) 950)]) #[]
noncomputable def zi3 (P:Params):=uO (s 174) (s 174) (S 53) (s 141) 888 567
def zi2 (P:Params):=tO #[]
def zvi (P:Params):=vO #[]
noncomputable def zi1 (P:Params):=tO #[(.str (s 164) 955),(.str (s 170) 956),(.str (s 188) 957),(.str (s 189) 958),(.str (s 190) 959)]
def zi0 (P:Params):=tO #[]
def zvh (P:Params):=gO (s 175) (s 175) (S 54)
noncomputable def ziZ (P:Params):=cO (s 175) (s 175) 952 953 954 330 1 3 569 570 571 572 573 960 961
noncomputable def ziY (P:Params):=uO (s 175) (s 175) (S 54) (s 141) 888 574
def ziX (P:Params):=tO #[]
def zvg (P:Params):=vO #[]
def ziW (P:Params):=tO #[]
def ziV (P:Params):=tO #[]
def zvf (P:Params):=gO (s 176) (s 176) (S 55)
noncomputable def ziU (P:Params):=cO (s 176) (s 176) 963 964 965 338 0 3 576 577 578 579 580 966 967
noncomputable def ziT (P:Params):=uO (s 176) (s 176) (S 55) (s 141) 888 581
def ziS (P:Params):=tO #[]
def zve (P:Params):=vO #[]
def ziR (P:Params):=tO #[(.str (s 191) 972)]
def ziQ (P:Params):=tO #[]
def zvd (P:Params):=gO (s 177) (s 177) (S 56)
noncomputable def ziP (P:Params):=cO (s 177) (s 177) 969 970 971 340 1 3 583 584 585 586 587 973 974
noncomputable def ziO (P:Params):=uO (s 177) (s 177) (S 56) (s 141) 888 588
def ziN (P:Params):=tO #[]
def zvc (P:Params):=vO #[]
def ziM (P:Params):=tO #[(.str (s 192) 979)]
def ziL (P:Params):=tO #[]
def zvb (P:Params):=gO (s 178) (s 178) (S 57)
noncomputable def ziK (P:Params):=cO (s 178) (s 178) 976 977 978 350 1 3 590 591 592 593 594 980 981
noncomputable def ziJ (P:Params):=uO (s 178) (s 178) (S 57) (s 141) 888 595
def ziI (P:Params):=tO #[]
def zva (P:Params):=vO #[]
noncomputable def ziH (P:Params):=tO #[(.str (s 164) 986),(.str (s 182) 987),(.str (s 170) 988)]
def ziG (P:Params):=tO #[]
def zu9 (P:Params):=gO (s 179) (s 179) (S 58)
noncomputable def ziF (P:Params):=cO (s 179) (s 179) 983 984 985 352 2 3 597 598 599 600 601 989 990
noncomputable def ziE (P:Params):=uO (s 179) (s 179) (S 58) (s 141) 888 602
def ziD (P:Params):=tO #[]
def zu8 (P:Params):=vO #[]
def zu7 (P:Params):=gO (s 180) (s 180) (S 59)
noncomputable def ziC (P:Params):=Obj.mk k1 .none (Data.fields #[(.str (s 180) 992),(.str (s 180) 993),(.str (s 0) 994),(.int 355 0),(.int 2 0),(.int 0 0),(.int 0 0),(.int 3 0),(.ref 604),(.bool true),(.int 181 0),(.ref 605),.none,.none,.none,(.ref 606),(.int 995 0),(.int 355 0),(.str (s 0) 996)]) #[]
noncomputable def ziB (P:Params):=uO (s 180) (s 180) (S 59) (s 141) 888 607
def ziA (P:Params):=tO #[]
def zu6 (P:Params):=vO #[]
def zu5 (P:Params):=gO (s 181) (s 181) (S 60)
noncomputable def ziz (P:Params):=Obj.mk k1 .none (Data.fields #[(.str (s 181) 998),(.str (s 181) 999),(.str (s 0) 1000),(.int 365 0),(.int 1 0),(.int 0 0),(.int 0 0),(.int 3 0),(.ref 609),(.bool true),(.int 181 0),(.ref 610),.none,.none,.none,(.ref 611),(.int 1001 0),(.int 365 0),(.str (s 0) 1002)]) #[]
noncomputable def ziy (P:Params):=uO (s 181) (s 181) (S 60) (s 141) 888 612
noncomputable def zlR:=BT.node (o14 P) (BT.node (o30 P) (BT.node (o62 P) (zcj P) (BT.node (Uo P) (BT.node (znj P) (BT.node (ziS P) .nil .nil) .nil) (zdW P))) (zci P)) (BT.node (o46 P) (BT.node (o81 P) (zch P) (BT.node (Ug P) (BT.node (zgF P) (BT.node (ziH P) .nil .nil) .nil) (zcg P))) (BT.node (Y0 P) (BT.node (Uz P) (BT.node (zgU P) (BT.node (zi4 P) .nil .nil) .nil) (zdS P)) (zcf P)))
noncomputable def zlQ:=BT.node (o18 P) (BT.node (o34 P) (BT.node (o66 P) (zb8 P) (BT.node (Uj P) (BT.node (zgN P) (BT.node (zvd P) .nil .nil) .nil) (zb7 P))) (BT.node (Y8 P) (BT.node (zhL P) (BT.node (zgY P) (BT.node (zjb P) .nil .nil) .nil) (zdI P)) (zb6 P))) (BT.node (o50 P) (BT.node (o85 P) (zb5 P) (BT.node (Ud P) (BT.node (znc P) (BT.node (ziE P) .nil .nil) .nil) (zb4 P))) (BT.node (YW P) (BT.node (Uw P) (BT.node (znr P) (BT.node (zi1 P) .nil .nil) .nil) (zdF P)) (zb3 P)))
noncomputable def zlP:=BT.node (o0 P) (BT.node (o10 P) (BT.node (o26 P) (BT.node (o58 P) (zce P) (BT.node (zhD P) (BT.node (zgP P) (BT.node (ziV P) .nil .nil) .nil) (zdP P))) (BT.node (o93 P) (zcd P) (BT.node (V7 P) (BT.node (zgw P) (BT.node (zu5 P) .nil .nil) .nil) (zcc P)))) (BT.node (o42 P) (BT.node (o74 P) (zcb P) (BT.node (zhv P) (BT.node (znd P) (BT.node (ziK P) .nil .nil) .nil) (zca P))) (BT.node (Wr P) (BT.node (UC P) (BT.node (zgW P) (BT.node (zi6 P) .nil .nil) .nil) (zdL P)) (zb9 P)))) (zlQ P)
noncomputable def zlO:=BT.node (o16 P) (BT.node (o32 P) (BT.node (o64 P) (zbW P) (BT.node (Ul P) (BT.node (znh P) (BT.node (ziR P) .nil .nil) .nil) (zbV P))) (BT.node (o99 P) (BT.node (zhN P) (BT.node (znE P) (BT.node (zvo P) .nil .nil) .nil) (zdw P)) (zbU P))) (BT.node (o48 P) (BT.node (o83 P) (zbT P) (BT.node (zhs P) (BT.node (zgD P) (BT.node (zu9 P) .nil .nil) .nil) (zbS P))) (BT.node (YY P) (BT.node (Uy P) (BT.node (znt P) (BT.node (zi2 P) .nil .nil) .nil) (zdt P)) (zbR P)))
noncomputable def zlN:=BT.node (o20 P) (BT.node (o36 P) (BT.node (o68 P) (zbK P) (BT.node (zhA P) (BT.node (zng P) (BT.node (ziO P) .nil .nil) .nil) (zbJ P))) (BT.node (Y7 P) (BT.node (UG P) (BT.node (znB P) (BT.node (zja P) .nil .nil) .nil) (zdj P)) (zbI P))) (BT.node (o52 P) (BT.node (o87 P) (zbH P) (BT.node (zhr P) (BT.node (zgA P) (BT.node (zu8 P) .nil .nil) .nil) (zbG P))) (BT.node (Wo P) (BT.node (Uv P) (BT.node (znp P) (BT.node (zvh P) .nil .nil) .nil) (zdg P)) (zbF P)))
noncomputable def zlM:=BT.node (o2 P) (BT.node (o12 P) (BT.node (o28 P) (BT.node (o60 P) (zbQ P) (BT.node (Up P) (BT.node (znl P) (BT.node (ziU P) .nil .nil) .nil) (zdq P))) (BT.node (o95 P) (zbP P) (BT.node (V6 P) (BT.node (zm9 P) (BT.node (ziy P) .nil .nil) .nil) (zbO P)))) (BT.node (o44 P) (BT.node (o76 P) (zbN P) (BT.node (Uh P) (BT.node (zgH P) (BT.node (ziI P) .nil .nil) .nil) (zbM P))) (BT.node (Y1 P) (BT.node (zhH P) (BT.node (znw P) (BT.node (zvk P) .nil .nil) .nil) (zdm P)) (zbL P)))) (zlN P)
noncomputable def zlL:=BT.node (boot_o_5 P) (BT.node (boot_o_9 P) (BT.node (o8 P) (BT.node (o24 P) (BT.node (o56 P) (zb2 P) (BT.node (Us P) (BT.node (zno P) (BT.node (zvg P) .nil .nil) .nil) (zdD P))) (BT.node (o91 P) (zb1 P) (BT.node (V9 P) (BT.node (zgx P) (BT.node (ziA P) .nil .nil) .nil) (zb0 P)))) (BT.node (o40 P) (BT.node (Vh P) (zbZ P) (BT.node (zhx P) (BT.node (zgK P) (BT.node (ziL P) .nil .nil) .nil) (zbY P))) (BT.node (Y4 P) (BT.node (zhI P) (BT.node (znx P) (BT.node (zvl P) .nil .nil) .nil) (zdz P)) (zbX P)))) (zlO P)) (zlM P)
noncomputable def zlK:=BT.node (o15 P) (BT.node (o31 P) (BT.node (o63 P) (zby P) (BT.node (Um P) (BT.node (zni P) (BT.node (zve P) .nil .nil) .nil) (zbx P))) (BT.node (o98 P) (BT.node (zhO P) (BT.node (zgZ P) (BT.node (zjd P) .nil .nil) .nil) (zc7 P)) (zbw P))) (BT.node (o47 P) (BT.node (o82 P) (zbv P) (BT.node (Uf P) (BT.node (zgE P) (BT.node (ziG P) .nil .nil) .nil) (zbu P))) (BT.node (YZ P) (BT.node (zhG P) (BT.node (znu P) (BT.node (zi3 P) .nil .nil) .nil) (zc4 P)) (zbt P)))
noncomputable def zlJ:=BT.node (o19 P) (BT.node (o35 P) (BT.node (o67 P) (zbm P) (BT.node (zhB P) (BT.node (zgM P) (BT.node (ziP P) .nil .nil) .nil) (zbl P))) (BT.node (Wt P) (BT.node (zhK P) (BT.node (znC P) (BT.node (zvn P) .nil .nil) .nil) (zcU P)) (zbk P))) (BT.node (o51 P) (BT.node (o86 P) (zbj P) (BT.node (Uc P) (BT.node (zgB P) (BT.node (ziD P) .nil .nil) .nil) (zbi P))) (BT.node (Wp P) (BT.node (zhF P) (BT.node (znq P) (BT.node (zi0 P) .nil .nil) .nil) (zcR P)) (zbh P)))
noncomputable def zlI:=BT.node (zvp P) (BT.node (o11 P) (BT.node (o27 P) (BT.node (o59 P) (zbs P) (BT.node (Uq P) (BT.node (znm P) (BT.node (zvf P) .nil .nil) .nil) (zc1 P))) (BT.node (o94 P) (zbr P) (BT.node (zhp P) (BT.node (zgv P) (BT.node (ziz P) .nil .nil) .nil) (zbq P)))) (BT.node (o43 P) (BT.node (o75 P) (zbp P) (BT.node (zhu P) (BT.node (zgI P) (BT.node (ziJ P) .nil .nil) .nil) (zbo P))) (BT.node (Y2 P) (BT.node (UB P) (BT.node (zgV P) (BT.node (zi5 P) .nil .nil) .nil) (zcX P)) (zbn P)))) (zlJ P)
noncomputable def zlH:=BT.node (o17 P) (BT.node (o33 P) (BT.node (o65 P) (zba P) (BT.node (Uk P) (BT.node (zgO P) (BT.node (ziQ P) .nil .nil) .nil) (za9 P))) (BT.node (Y9 P) (BT.node (zhM P) (BT.node (znD P) (BT.node (zjc P) .nil .nil) .nil) (zcH P)) (za8 P))) (BT.node (o49 P) (BT.node (o84 P) (za7 P) (BT.node (Ue P) (BT.node (zgC P) (BT.node (ziF P) .nil .nil) .nil) (za6 P))) (BT.node (YX P) (BT.node (Ux P) (BT.node (zns P) (BT.node (zvi P) .nil .nil) .nil) (zcE P)) (za5 P)))
noncomputable def zlG:=BT.node (o21 P) (BT.node (o37 P) (BT.node (o69 P) (zaZ P) (BT.node (Ui P) (BT.node (znf P) (BT.node (ziN P) .nil .nil) .nil) (zaY P))) (BT.node (Y6 P) (BT.node (zhJ P) (BT.node (znA P) (BT.node (zi9 P) .nil .nil) .nil) (zcu P)) (zaX P))) (BT.node (o53 P) (BT.node (o88 P) (zaW P) (BT.node (Ub P) (BT.node (znb P) (BT.node (zu7 P) .nil .nil) .nil) (zaV P))) (BT.node (YV P) (BT.node (Uu P) (BT.node (zgT P) (BT.node (ziZ P) .nil .nil) .nil) (zcr P)) (zaU P)))
noncomputable def zlF:=BT.node (o3 P) (BT.node (o13 P) (BT.node (o29 P) (BT.node (o61 P) (za4 P) (BT.node (zhC P) (BT.node (znk P) (BT.node (ziT P) .nil .nil) .nil) (zcB P))) (za3 P)) (BT.node (o45 P) (BT.node (o80 P) (za2 P) (BT.node (zht P) (BT.node (zgG P) (BT.node (zva P) .nil .nil) .nil) (za1 P))) (BT.node (Wq P) (BT.node (UA P) (BT.node (znv P) (BT.node (zvj P) .nil .nil) .nil) (zcx P)) (za0 P)))) (zlG P)
noncomputable def zlE:=BT.node (boot_o_6 P) (BT.node (boot_o_10 P) (BT.node (o9 P) (BT.node (o25 P) (BT.node (o57 P) (zbg P) (BT.node (Ur P) (BT.node (znn P) (BT.node (ziW P) .nil .nil) .nil) (zcO P))) (BT.node (o92 P) (zbf P) (BT.node (V8 P) (BT.node (zna P) (BT.node (zu6 P) .nil .nil) .nil) (zbe P)))) (BT.node (o41 P) (BT.node (o73 P) (zbd P) (BT.node (zhw P) (BT.node (zgJ P) (BT.node (zvb P) .nil .nil) .nil) (zbc P))) (BT.node (Y3 P) (BT.node (UD P) (BT.node (zgX P) (BT.node (zi7 P) .nil .nil) .nil) (zcK P)) (zbb P)))) (zlH P)) (zlF P)
noncomputable def zlD:=BT.node (boot_o_2 P) (BT.node (boot_o_4 P) (BT.node (boot_o_8 P) (BT.node (o7 P) (BT.node (o23 P) (BT.node (o55 P) (zbE P) (BT.node (Ut P) (BT.node (zgR P) (BT.node (ziX P) .nil .nil) .nil) (zde P))) (BT.node (o90 P) (zbD P) (BT.node (zhq P) (BT.node (zgy P) (BT.node (ziB P) .nil .nil) .nil) (zbC P)))) (BT.node (o39 P) (BT.node (o71 P) (zbB P) (BT.node (zhy P) (BT.node (zne P) (BT.node (ziM P) .nil .nil) .nil) (zbA P))) (BT.node (Y5 P) (BT.node (UE P) (BT.node (zny P) (BT.node (zvm P) .nil .nil) .nil) (zda P)) (zbz P)))) (zlK P)) (zlI P)) (zlE P)
noncomputable def zlC:=BT.node (boot_o_0 P) (BT.node (boot_o_1 P) (BT.node (zje P) (BT.node (boot_o_7 P) (BT.node (o6 P) (BT.node (o22 P) (BT.node (o54 P) (zcp P) (BT.node (zhE P) (BT.node (zgS P) (BT.node (ziY P) .nil .nil) .nil) (zd3 P))) (BT.node (o89 P) (zco P) (BT.node (Ua P) (BT.node (zgz P) (BT.node (ziC P) .nil .nil) .nil) (zcn P)))) (BT.node (o38 P) (BT.node (o70 P) (zcm P) (BT.node (zhz P) (BT.node (zgL P) (BT.node (zvc P) .nil .nil) .nil) (zcl P))) (BT.node (Ws P) (BT.node (UF P) (BT.node (znz P) (BT.node (zi8 P) .nil .nil) .nil) (zdZ P)) (zck P)))) (zlR P)) (zlP P)) (zlL P)) (zlD P)
noncomputable def zuY (w:World) (os:OsState):SharedT:=⟨(zlC w.params),614,(Life.mk [] [] [] 0 [] [] false #[] [] 0 false false false 0 [2000,10,10] false 0 true [] [] 0 false),⟨[]⟩,(Drawn.mk 0 0 0 0),1004,os⟩
noncomputable def L10 (w:World) (os:OsState):Option (Flow×SharedT×Code×Pos):=segRunT treeTable PySem.Challenge.pw_beatless_k25_whole_no_word_goes_faster w 11 an 1 292 (zuZ w os) (piecesOf zfQ env cE (Pos.mk 295 0 303 21) B)
noncomputable def R10 (w:World) (os:OsState):Option (Flow×SharedT×Code×Pos):=some (.next,zuY w os,cE,(Pos.mk 365 0 390 15))
theorem q10:tt (Hd.L10,Hd.R10)=true:=by k_qdec
theorem r10:∀ w,Fast.tw8817224096938630680 w=Hd.R10 w:=fun w=>by kernel_rfl
theorem e10 (w:World) (os:OsState):Hd.L10 w os=Hd.R10 w os:=(congrFun (congrFun Fast.te8817224096938630680 w) os).trans (congrFun (r10 w) os)
def h51:List Obj:=ziz P::ziy P::[]
noncomputable def h50:List Obj:=ziG P::zu9 P::ziF P::ziE P::ziD P::zu8 P::zu7 P::ziC P::ziB P::ziA P::zu6 P::zu5 P::h51 P
noncomputable def h49:List Obj:=ziP P::ziO P::ziN P::zvc P::ziM P::ziL P::zvb P::ziK P::ziJ P::ziI P::zva P::ziH P::h50 P
noncomputable def h48:List Obj:=ziX P::zvg P::ziW P::ziV P::zvf P::ziU P::ziT P::ziS P::zve P::ziR P::ziQ P::zvd P::h49 P
noncomputable def h47:List Obj:=zi5 P::zvk P::zvj P::zi4 P::zi3 P::zi2 P::zvi P::zi1 P::zi0 P::zvh P::ziZ P::ziY P::h48 P
noncomputable def h46:List Obj:=zjd P::zvo P::zjc P::zjb P::zvn P::zja P::zi9 P::zi8 P::zvm P::zvl P::zi7 P::zi6 P::h47 P
noncomputable def h45:List Obj:=zjm P::zvt P::zjl P::zjk P::zvs P::zjj P::zji P::zjh P::zvr P::zvq P::zjg P::zjf P::h46 P
noncomputable def h44:List Obj:=zjv P::zju P::zvw P::zjt P::zjs P::zjr P::zvv P::zjq P::zjp P::zvu P::zjo P::zjn P::h45 P
noncomputable def h43:List Obj:=zvA P::zjD P::zjC P::zjB P::zjA P::zjz P::zjy P::zjx P::zvz P::zvy P::zjw P::zvx P::h44 P
noncomputable def h42:List Obj:=zjM P::zjL P::zvD P::zjK P::zjJ P::zvC P::zjI P::zjH P::zjG P::zvB P::zjF P::zjE P::h43 P
noncomputable def h41:List Obj:=zvH P::zjU P::zjT P::zvG P::zjS P::zjR P::zjQ P::zvF P::zjP P::zjO P::zvE P::zjN P::h42 P
noncomputable def h40:List Obj:=zj3 P::zvK P::zj2 P::zj1 P::zj0 P::zvJ P::zjZ P::zjY P::zvI P::zjX P::zjW P::zjV P::h41 P
noncomputable def h39:List Obj:=zkc P::zkb P::zka P::zvN P::zj9 P::zj8 P::zvM P::zj7 P::zj6 P::zj5 P::zvL P::zj4 P::h40 P
noncomputable def h38:List Obj:=zvW P::zvV P::zvU P::zvT P::zvS P::zvR P::zvQ P::zkf P::zvP P::zke P::zkd P::zvO P::h39 P
noncomputable def h37:List Obj:=zko P::zkn P::zvZ P::zkm P::zkl P::zkk P::zvY P::zkj P::zki P::zvX P::zkh P::zkg P::h38 P
noncomputable def h36:List Obj:=zv3 P::zkw P::zkv P::zku P::zv2 P::zkt P::zks P::zv1 P::zkr P::zkq P::zkp P::zv0 P::h37 P
noncomputable def h35:List Obj:=zkF P::zkE P::zkD P::zkC P::zkB P::zkA P::zv6 P::zv5 P::zkz P::zv4 P::zky P::zkx P::h36 P
noncomputable def h34:List Obj:=zwa P::zkN P::zkM P::zv9 P::zkL P::zkK P::zkJ P::zv8 P::zkI P::zkH P::zv7 P::zkG P::h35 P
noncomputable def h33:List Obj:=zkW P::zwd P::zkV P::zkU P::zkT P::zwc P::zkS P::zkR P::zwb P::zkQ P::zkP P::zkO P::h34 P
noncomputable def h32:List Obj:=zk0 P::zkZ P::zwl P::zwk P::zwj P::zwi P::zwh P::zwg P::zwf P::zkY P::zwe P::zkX P::h33 P
noncomputable def h31:List Obj:=zk8 P::zk7 P::zk6 P::zwp P::zk5 P::zk4 P::zwo P::zk3 P::zk2 P::zk1 P::zwn P::zwm P::h32 P
noncomputable def h30:List Obj:=zlg P::zwt P::zlf P::zle P::zws P::zld P::zlc P::zlb P::zwr P::zla P::zk9 P::zwq P::h31 P
noncomputable def h29:List Obj:=zgB P::zgA P::znb P::zgz P::zgy P::zgx P::zna P::zgw P::zgv P::zm9 P::zli P::zlh P::h30 P
noncomputable def h28:List Obj:=zne P::zgK P::zgJ P::znd P::zgI P::zgH P::zgG P::zgF P::zgE P::zgD P::zgC P::znc P::h29 P
noncomputable def h27:List Obj:=znm P::znl P::znk P::znj P::zni P::znh P::zgO P::zgN P::zgM P::zng P::znf P::zgL P::h28 P
noncomputable def h26:List Obj:=znu P::znt P::zns P::znr P::znq P::znp P::zgT P::zgS P::zgR P::zno P::znn P::zgP P::h27 P
noncomputable def h25:List Obj:=znC P::znB P::znA P::znz P::zny P::znx P::zgX P::zgW P::zgV P::znw P::znv P::zgU P::h26 P
noncomputable def h24:List Obj:=znJ P::znI P::znH P::znG P::znF P::zg1 P::zg0 P::zgQ P::zgZ P::znE P::znD P::zgY P::h25 P
noncomputable def h23:List Obj:=zg9 P::zg8 P::znN P::zg7 P::zg6 P::zg5 P::zg4 P::zg3 P::znM P::znL P::zg2 P::znK P::h24 P
noncomputable def h22:List Obj:=znR P::zhh P::zhg P::zhf P::znQ P::zhe P::zhd P::znP P::zhc P::zhb P::zha P::znO P::h23 P
noncomputable def h21:List Obj:=zlk P::zak P::zlj P::zho P::zhn P::znT P::zhm P::zhl P::zhk P::znS P::zhj P::zhi P::h22 P
noncomputable def h20:List Obj:=zap P::zao P::zan P::zam P::zlr P::zlq P::zal P::zlp P::zlo P::zln P::zlm P::zll P::h21 P
noncomputable def h19:List Obj:=zhp P::V6 P::zaw P::zlu P::zav P::zau P::zat P::zlt P::zas P::zar P::zls P::zaq P::h20 P
noncomputable def h18:List Obj:=Uf P::zhs P::Ue P::Ud P::Uc P::zhr P::Ub P::Ua P::zhq P::V9 P::V8 P::V7 P::h19 P
noncomputable def h17:List Obj:=zhB P::zhA P::Ui P::zhz P::zhy P::zhx P::zhw P::zhv P::zhu P::Uh P::zht P::Ug P::h18 P
noncomputable def h16:List Obj:=Ut P::Us P::Ur P::zhD P::Uq P::Up P::zhC P::Uo P::Um P::Ul P::Uk P::Uj P::h17 P
noncomputable def h15:List Obj:=UB P::zhH P::UA P::Uz P::zhG P::Uy P::Ux P::Uw P::zhF P::Uv P::Uu P::zhE P::h16 P
noncomputable def h14:List Obj:=zhO P::zhN P::zhM P::zhL P::zhK P::UG P::zhJ P::UF P::UE P::zhI P::UD P::UC P::h15 P
noncomputable def h13:List Obj:=UP P::UO P::zhR P::UN P::UM P::UL P::UK P::UJ P::zhQ P::zhP P::UI P::UH P::h14 P
noncomputable def h12:List Obj:=zhV P::UX P::UW P::UV P::zhU P::UU P::UT P::zhT P::US P::UR P::UQ P::zhS P::h13 P
noncomputable def h11:List Obj:=zhZ P::U5 P::zhY P::U4 P::U3 P::zhX P::U2 P::U1 P::U0 P::zhW P::UZ P::UY P::h12 P
noncomputable def h10:List Obj:=YZ P::YY P::YX P::YW P::Wp P::Wo P::YV P::zh4 P::zh3 P::zh2 P::zh1 P::zh0 P::h11 P
noncomputable def h9:List Obj:=Wt P::Y7 P::Y6 P::Ws P::Y5 P::Y4 P::Y3 P::Wr P::Y2 P::Y1 P::Wq P::Y0 P::h10 P
noncomputable def h8:List Obj:=o90 P::o91 P::o92 P::o93 P::o94 P::o95 P::o96 P::o97 P::o98 P::o99 P::Y9 P::Y8 P::h9 P
noncomputable def h7:List Obj:=o75 P::o76 P::o80 P::o81 P::o82 P::o83 P::o84 P::o85 P::o86 P::o87 P::o88 P::o89 P::h8 P
noncomputable def h6:List Obj:=o63 P::o64 P::o65 P::o66 P::o67 P::o68 P::o69 P::o70 P::o71 P::Vh P::o73 P::o74 P::h7 P
noncomputable def h5:List Obj:=o51 P::o52 P::o53 P::o54 P::o55 P::o56 P::o57 P::o58 P::o59 P::o60 P::o61 P::o62 P::h6 P
noncomputable def h4:List Obj:=o39 P::o40 P::o41 P::o42 P::o43 P::o44 P::o45 P::o46 P::o47 P::o48 P::o49 P::o50 P::h5 P
noncomputable def h3:List Obj:=o27 P::o28 P::o29 P::o30 P::o31 P::o32 P::o33 P::o34 P::o35 P::o36 P::o37 P::o38 P::h4 P
noncomputable def h2:List Obj:=o15 P::o16 P::o17 P::o18 P::o19 P::o20 P::o21 P::o22 P::o23 P::o24 P::o25 P::o26 P::h3 P
noncomputable def h1:List Obj:=zvp P::o2 P::o3 P::o6 P::o7 P::o8 P::o9 P::o10 P::o11 P::o12 P::o13 P::o14 P::h2 P
noncomputable def h0:List Obj:=boot_o_0 P::boot_o_1 P::boot_o_2 P::zje P::boot_o_4 P::boot_o_5 P::boot_o_6 P::boot_o_7 P::boot_o_8 P::boot_o_9 P::boot_o_10 P::o0 P::h1 P
noncomputable def H1:Heap:=⟨⟨h0 P⟩,(Life.mk [] [] [] 0 [] [] false #[] [] 0 false false false 0 [2000,10,10] false 0 true [] [] 0 false)⟩
noncomputable def sf (w:World) (os:OsState):Shared:=⟨H1 w.params,⟨[]⟩,(Drawn.mk 0 0 0 0),1004,os⟩
noncomputable def Lf (w:World) (os:OsState):Option Shared:=topRun treeTable PySem.Challenge.pw_beatless_k25_whole_no_word_goes_faster w 11 an 2 (zuY w os).abs ⟨doneF .next,cE,(Pos.mk 365 0 390 15),B⟩
noncomputable def Rf (w:World) (os:OsState):Option Shared:=some (sf w os)
theorem qf:tt (Hd.Lf,Hd.Rf)=true:=by k_qdec
theorem rf:∀ w,Fast.tw2640074843757178226 w=Hd.Rf w:=fun w=>by kernel_rfl
theorem ef (w:World) (os:OsState):Hd.Lf w os=Hd.Rf w os:=(congrFun (congrFun Fast.te2640074843757178226 w) os).trans (congrFun (rf w) os)
theorem cut:bE=zuI++(zuH++(zuG++(zuF++(zuE++(zuD++(zuC++(zuB++(zuA++(zuz++(zfQ++([]))))))))))):=by kernel_rfl
theorem run (w:World) (os:OsState):topRun treeTable PySem.Challenge.pw_beatless_k25_whole_no_word_goes_faster w 11 an (12+(1+(475+(340+(340+(346+(342+(541+(427+(515+(490+(578+(292+2))))))))))))) (s0 w os) (topStub PySem.Challenge.pw_beatless_k25_whole_no_word_goes_faster)=some (sf w os):=by
 refine go_top (ea w os) (piece_block (q:=qE) (env:=env) (b:=bE) (segRun_of (eb w os)) ?_)
 rw[show restOf bE env cE (Pos.mk 0 0 0 0) [topFrame qE]=restOf _ env cE _ [topFrame qE] from congrArg (fun l=>restOf l env cE (Pos.mk 0 0 0 0) [topFrame qE]) cut]
 refine piece_app (segRun_of (e0 w os)) ?_
 refine piece_app (segRun_of (e1 w os)) ?_
 refine piece_app (segRun_of (e2 w os)) ?_
 refine piece_app (segRun_of (e3 w os)) ?_
 refine piece_app (segRun_of (e4 w os)) ?_
 refine piece_app (segRun_of (e5 w os)) ?_
 refine piece_app (segRun_of (e6 w os)) ?_
 refine piece_app (segRun_of (e7 w os)) ?_
 refine piece_app (segRun_of (e8 w os)) ?_
 refine piece_app (segRun_of (e9 w os)) ?_
 refine piece_app (segRun_of (e10 w os)) ?_
 exact ef w os
noncomputable def M:Nat:=12+(1+(475+(340+(340+(346+(342+(541+(427+(515+(490+(578+(292+2))))))))))))
abbrev rW:RowW:=(PySem.Challenge.rw_beatless_k25_whole_no_word_goes_faster.row).toRowW
noncomputable def Q:Program:={ PySem.Challenge.pw_beatless_k25_whole_no_word_goes_faster with main:={ PySem.Challenge.pw_beatless_k25_whole_no_word_goes_faster.main with body:=[S 0,S 2,S 3,S 4,S 5,S 6,S 7,S 8,S 9,S 11,S 12,S 13,S 14,S 15,S 16,S 18,S 19,S 20,S 21,S 23,S 25,S 26,S 27,S 28,S 29,S 30,S 31,S 32,S 33,S 34,S 35,S 36,S 37,S 39,S 40,S 41,S 42,S 43,S 44,S 45,S 47,S 48,S 49,S 50,S 51,S 52,S 53,S 54,S 55,S 56,S 57,S 58,S 59,S 60] } }
noncomputable def Xt (s:Shared):Bool:=xlAt Q [] s&&recOk (RowW.records rW) s
noncomputable def K:Frag:=(nat_lit 2,boot_o_2 P)::(nat_lit 3,zje P)::(nat_lit 15,o6 P)::(nat_lit 17,o8 P)::(nat_lit 18,o9 P)::(nat_lit 20,o11 P)::(nat_lit 21,o12 P)::(nat_lit 22,o13 P)::(nat_lit 25,o16 P)::(nat_lit 26,o17 P)::(nat_lit 27,o18 P)::(nat_lit 30,o21 P)::(nat_lit 31,o22 P)::(nat_lit 32,o23 P)::(nat_lit 35,o26 P)::(nat_lit 36,o27 P)::(nat_lit 37,o28 P)::(nat_lit 39,o30 P)::(nat_lit 40,o31 P)::(nat_lit 42,o33 P)::(nat_lit 43,o34 P)::(nat_lit 44,o35 P)::(nat_lit 46,o37 P)::(nat_lit 47,o38 P)::(nat_lit 49,o40 P)::(nat_lit 50,o41 P)::(nat_lit 51,o42 P)::(nat_lit 53,o44 P)::(nat_lit 54,o45 P)::(nat_lit 56,o47 P)::(nat_lit 57,o48 P)::(nat_lit 58,o49 P)::(nat_lit 60,o51 P)::(nat_lit 61,o52 P)::(nat_lit 63,o54 P)::(nat_lit 64,o55 P)::(nat_lit 65,o56 P)::(nat_lit 67,o58 P)::(nat_lit 68,o59 P)::(nat_lit 70,o61 P)::(nat_lit 71,o62 P)::(nat_lit 79,o70 P)::(nat_lit 80,o71 P)::(nat_lit 81,Vh P)::(nat_lit 82,o73 P)::(nat_lit 83,o74 P)::(nat_lit 86,o80 P)::(nat_lit 93,o87 P)::(nat_lit 95,o89 P)::(nat_lit 96,o90 P)::(nat_lit 98,o92 P)::(nat_lit 99,o93 P)::(nat_lit 100,o94 P)::(nat_lit 102,o96 P)::(nat_lit 103,o97 P)::(nat_lit 105,o99 P)::(nat_lit 106,Y9 P)::(nat_lit 107,Y8 P)::(nat_lit 109,Y7 P)::(nat_lit 110,Y6 P)::(nat_lit 112,Y5 P)::(nat_lit 113,Y4 P)::(nat_lit 114,Y3 P)::(nat_lit 116,Y2 P)::(nat_lit 117,Y1 P)::(nat_lit 119,Y0 P)::(nat_lit 120,YZ P)::(nat_lit 121,YY P)::(nat_lit 122,YX P)::(nat_lit 123,YW P)::(nat_lit 126,YV P)::(nat_lit 133,U5 P)::(nat_lit 135,U4 P)::(nat_lit 136,U3 P)::(nat_lit 138,U2 P)::(nat_lit 139,U1 P)::(nat_lit 140,U0 P)::(nat_lit 142,UZ P)::(nat_lit 143,UY P)::(nat_lit 145,UX P)::(nat_lit 146,UW P)::(nat_lit 147,UV P)::(nat_lit 149,UU P)::(nat_lit 150,UT P)::(nat_lit 152,US P)::(nat_lit 153,UR P)::(nat_lit 154,UQ P)::(nat_lit 156,UP P)::(nat_lit 157,UO P)::(nat_lit 159,UN P)::(nat_lit 160,UM P)::(nat_lit 161,UL P)::(nat_lit 162,UK P)::(nat_lit 163,UJ P)::(nat_lit 166,UI P)::(nat_lit 173,UG P)::(nat_lit 175,UF P)::(nat_lit 176,UE P)::(nat_lit 178,UD P)::(nat_lit 179,UC P)::(nat_lit 180,UB P)::(nat_lit 182,UA P)::(nat_lit 183,Uz P)::(nat_lit 185,Uy P)::(nat_lit 186,Ux P)::(nat_lit 187,Uw P)::(nat_lit 189,Uv P)::(nat_lit 190,Uu P)::(nat_lit 192,Ut P)::(nat_lit 193,Us P)::(nat_lit 194,Ur P)::(nat_lit 196,Uq P)::(nat_lit 197,Up P)::(nat_lit 199,Uo P)::(nat_lit 200,Um P)::(nat_lit 201,Ul P)::(nat_lit 202,Uk P)::(nat_lit 203,Uj P)::(nat_lit 206,Ui P)::(nat_lit 213,Uh P)::(nat_lit 215,Ug P)::(nat_lit 216,Uf P)::(nat_lit 218,Ue P)::(nat_lit 219,Ud P)::(nat_lit 220,Uc P)::(nat_lit 222,Ub P)::(nat_lit 223,Ua P)::(nat_lit 225,V9 P)::(nat_lit 226,V8 P)::(nat_lit 227,V7 P)::(nat_lit 229,V6 P)::(nat_lit 230,zaw P)::(nat_lit 232,zav P)::(nat_lit 233,zau P)::(nat_lit 234,zat P)::(nat_lit 236,zas P)::(nat_lit 237,zar P)::(nat_lit 239,zaq P)::(nat_lit 240,zap P)::(nat_lit 241,zao P)::(nat_lit 242,zan P)::(nat_lit 243,zam P)::(nat_lit 246,zal P)::(nat_lit 253,zak P)::(nat_lit 255,zho P)::(nat_lit 256,zhn P)::(nat_lit 258,zhm P)::(nat_lit 259,zhl P)::(nat_lit 260,zhk P)::(nat_lit 262,zhj P)::(nat_lit 263,zhi P)::(nat_lit 265,zhh P)::(nat_lit 266,zhg P)::(nat_lit 267,zhf P)::(nat_lit 269,zhe P)::(nat_lit 270,zhd P)::(nat_lit 272,zhc P)::(nat_lit 273,zhb P)::(nat_lit 274,zha P)::(nat_lit 276,zg9 P)::(nat_lit 277,zg8 P)::(nat_lit 279,zg7 P)::(nat_lit 280,zg6 P)::(nat_lit 281,zg5 P)::(nat_lit 282,zg4 P)::(nat_lit 283,zg3 P)::(nat_lit 286,zg2 P)::(nat_lit 293,zg1 P)::(nat_lit 294,zg0 P)::(nat_lit 295,zgQ P)::(nat_lit 296,zgZ P)::(nat_lit 299,zgY P)::(nat_lit 306,zgX P)::(nat_lit 307,zgW P)::(nat_lit 308,zgV P)::(nat_lit 311,zgU P)::(nat_lit 318,zgT P)::(nat_lit 319,zgS P)::(nat_lit 320,zgR P)::(nat_lit 323,zgP P)::(nat_lit 330,zgO P)::(nat_lit 331,zgN P)::(nat_lit 332,zgM P)::(nat_lit 335,zgL P)::(nat_lit 337,zgK P)::(nat_lit 338,zgJ P)::(nat_lit 340,zgI P)::(nat_lit 341,zgH P)::(nat_lit 342,zgG P)::(nat_lit 343,zgF P)::(nat_lit 344,zgE P)::(nat_lit 345,zgD P)::(nat_lit 346,zgC P)::(nat_lit 348,zgB P)::(nat_lit 349,zgA P)::(nat_lit 351,zgz P)::(nat_lit 352,zgy P)::(nat_lit 353,zgx P)::(nat_lit 355,zgw P)::(nat_lit 356,zgv P)::(nat_lit 358,zli P)::(nat_lit 359,zlh P)::(nat_lit 360,zlg P)::(nat_lit 362,zlf P)::(nat_lit 363,zle P)::(nat_lit 365,zld P)::(nat_lit 366,zlc P)::(nat_lit 367,zlb P)::(nat_lit 369,zla P)::(nat_lit 370,zk9 P)::(nat_lit 372,zk8 P)::(nat_lit 373,zk7 P)::(nat_lit 374,zk6 P)::(nat_lit 376,zk5 P)::(nat_lit 377,zk4 P)::(nat_lit 379,zk3 P)::(nat_lit 380,zk2 P)::(nat_lit 381,zk1 P)::(nat_lit 384,zk0 P)::(nat_lit 385,zkZ P)::(nat_lit 393,zkY P)::(nat_lit 395,zkX P)::(nat_lit 396,zkW P)::(nat_lit 398,zkV P)::(nat_lit 399,zkU P)::(nat_lit 400,zkT P)::(nat_lit 402,zkS P)::(nat_lit 403,zkR P)::(nat_lit 405,zkQ P)::(nat_lit 406,zkP P)::(nat_lit 407,zkO P)::(nat_lit 409,zkN P)::(nat_lit 410,zkM P)::(nat_lit 412,zkL P)::(nat_lit 413,zkK P)::(nat_lit 414,zkJ P)::(nat_lit 416,zkI P)::(nat_lit 417,zkH P)::(nat_lit 419,zkG P)::(nat_lit 420,zkF P)::(nat_lit 421,zkE P)::(nat_lit 422,zkD P)::(nat_lit 423,zkC P)::(nat_lit 424,zkB P)::(nat_lit 425,zkA P)::(nat_lit 428,zkz P)::(nat_lit 430,zky P)::(nat_lit 431,zkx P)::(nat_lit 433,zkw P)::(nat_lit 434,zkv P)::(nat_lit 435,zku P)::(nat_lit 437,zkt P)::(nat_lit 438,zks P)::(nat_lit 440,zkr P)::(nat_lit 441,zkq P)::(nat_lit 442,zkp P)::(nat_lit 444,zko P)::(nat_lit 445,zkn P)::(nat_lit 447,zkm P)::(nat_lit 448,zkl P)::(nat_lit 449,zkk P)::(nat_lit 451,zkj P)::(nat_lit 452,zki P)::(nat_lit 454,zkh P)::(nat_lit 455,zkg P)::(nat_lit 463,zkf P)::(nat_lit 465,zke P)::(nat_lit 466,zkd P)::(nat_lit 468,zkc P)::(nat_lit 469,zkb P)::(nat_lit 470,zka P)::(nat_lit 472,zj9 P)::(nat_lit 473,zj8 P)::(nat_lit 475,zj7 P)::(nat_lit 476,zj6 P)::(nat_lit 477,zj5 P)::(nat_lit 479,zj4 P)::(nat_lit 480,zj3 P)::(nat_lit 482,zj2 P)::(nat_lit 483,zj1 P)::(nat_lit 484,zj0 P)::(nat_lit 486,zjZ P)::(nat_lit 487,zjY P)::(nat_lit 489,zjX P)::(nat_lit 490,zjW P)::(nat_lit 491,zjV P)::(nat_lit 493,zjU P)::(nat_lit 494,zjT P)::(nat_lit 496,zjS P)::(nat_lit 497,zjR P)::(nat_lit 498,zjQ P)::(nat_lit 500,zjP P)::(nat_lit 501,zjO P)::(nat_lit 503,zjN P)::(nat_lit 504,zjM P)::(nat_lit 505,zjL P)::(nat_lit 507,zjK P)::(nat_lit 508,zjJ P)::(nat_lit 510,zjI P)::(nat_lit 511,zjH P)::(nat_lit 512,zjG P)::(nat_lit 514,zjF P)::(nat_lit 515,zjE P)::(nat_lit 517,zjD P)::(nat_lit 518,zjC P)::(nat_lit 519,zjB P)::(nat_lit 520,zjA P)::(nat_lit 521,zjz P)::(nat_lit 522,zjy P)::(nat_lit 523,zjx P)::(nat_lit 526,zjw P)::(nat_lit 528,zjv P)::(nat_lit 529,zju P)::(nat_lit 531,zjt P)::(nat_lit 532,zjs P)::(nat_lit 533,zjr P)::(nat_lit 535,zjq P)::(nat_lit 536,zjp P)::(nat_lit 538,zjo P)::(nat_lit 539,zjn P)::(nat_lit 540,zjm P)::(nat_lit 542,zjl P)::(nat_lit 543,zjk P)::(nat_lit 545,zjj P)::(nat_lit 546,zji P)::(nat_lit 547,zjh P)::(nat_lit 550,zjg P)::(nat_lit 551,zjf P)::(nat_lit 552,zjd P)::(nat_lit 554,zjc P)::(nat_lit 555,zjb P)::(nat_lit 557,zja P)::(nat_lit 558,zi9 P)::(nat_lit 559,zi8 P)::(nat_lit 562,zi7 P)::(nat_lit 563,zi6 P)::(nat_lit 564,zi5 P)::(nat_lit 567,zi4 P)::(nat_lit 568,zi3 P)::(nat_lit 569,zi2 P)::(nat_lit 571,zi1 P)::(nat_lit 572,zi0 P)::(nat_lit 574,ziZ P)::(nat_lit 575,ziY P)::(nat_lit 576,ziX P)::(nat_lit 578,ziW P)::(nat_lit 579,ziV P)::(nat_lit 581,ziU P)::(nat_lit 582,ziT P)::(nat_lit 583,ziS P)::(nat_lit 585,ziR P)::(nat_lit 586,ziQ P)::(nat_lit 588,ziP P)::(nat_lit 589,ziO P)::(nat_lit 590,ziN P)::(nat_lit 592,ziM P)::(nat_lit 593,ziL P)::(nat_lit 595,ziK P)::(nat_lit 596,ziJ P)::(nat_lit 597,ziI P)::(nat_lit 599,ziH P)::(nat_lit 600,ziG P)::(nat_lit 602,ziF P)::(nat_lit 603,ziE P)::(nat_lit 604,ziD P)::(nat_lit 607,ziC P)::(nat_lit 608,ziB P)::(nat_lit 609,ziA P)::(nat_lit 612,ziz P)::(nat_lit 613,ziy P)::[]
noncomputable def as:List Addr:=[2,3,15,17,18,20,21,22,25,26,27,30,31,32,35,36,37,39,40,42,43,44,46,47,49,50,51,53,54,56,57,58,60,61,63,64,65,67,68,70,71,79,80,81,82,83,86,93,95,96,98,99,100,102,103,105,106,107,109,110,112,113,114,116,117,119,120,121,122,123,126,133,135,136,138,139,140,142,143,145,146,147,149,150,152,153,154,156,157,159,160,161,162,163,166,173,175,176,178,179,180,182,183,185,186,187,189,190,192,193,194,196,197,199,200,201,202,203,206,213,215,216,218,219,220,222,223,225,226,227,229,230,232,233,234,236,237,239,240,241,242,243,246,253,255,256,258,259,260,262,263,265,266,267,269,270,272,273,274,276,277,279,280,281,282,283,286,293,294,295,296,299,306,307,308,311,318,319,320,323,330,331,332,335,337,338,340,341,342,343,344,345,346,348,349,351,352,353,355,356,358,359,360,362,363,365,366,367,369,370,372,373,374,376,377,379,380,381,384,385,393,395,396,398,399,400,402,403,405,406,407,409,410,412,413,414,416,417,419,420,421,422,423,424,425,428,430,431,433,434,435,437,438,440,441,442,444,445,447,448,449,451,452,454,455,463,465,466,468,469,470,472,473,475,476,477,479,480,482,483,484,486,487,489,490,491,493,494,496,497,498,500,501,503,504,505,507,508,510,511,512,514,515,517,518,519,520,521,522,523,526,528,529,531,532,533,535,536,538,539,540,542,543,545,546,547,550,551,552,554,555,557,558,559,562,563,564,567,568,569,571,572,574,575,576,578,579,581,582,583,585,586,588,589,590,592,593,595,596,597,599,600,602,603,604,607,608,609,612,613]
noncomputable def y30:List (Option Obj):=some (ziH P)::some (ziG P)::some (ziF P)::some (ziE P)::some (ziD P)::some (ziC P)::some (ziB P)::some (ziA P)::some (ziz P)::some (ziy P)::[]
noncomputable def y29:List (Option Obj):=some (ziT P)::some (ziS P)::some (ziR P)::some (ziQ P)::some (ziP P)::some (ziO P)::some (ziN P)::some (ziM P)::some (ziL P)::some (ziK P)::some (ziJ P)::some (ziI P)::y30 P
noncomputable def y28:List (Option Obj):=some (zi5 P)::some (zi4 P)::some (zi3 P)::some (zi2 P)::some (zi1 P)::some (zi0 P)::some (ziZ P)::some (ziY P)::some (ziX P)::some (ziW P)::some (ziV P)::some (ziU P)::y29 P
noncomputable def y27:List (Option Obj):=some (zji P)::some (zjh P)::some (zjg P)::some (zjf P)::some (zjd P)::some (zjc P)::some (zjb P)::some (zja P)::some (zi9 P)::some (zi8 P)::some (zi7 P)::some (zi6 P)::y28 P
noncomputable def y26:List (Option Obj):=some (zju P)::some (zjt P)::some (zjs P)::some (zjr P)::some (zjq P)::some (zjp P)::some (zjo P)::some (zjn P)::some (zjm P)::some (zjl P)::some (zjk P)::some (zjj P)::y27 P
noncomputable def y25:List (Option Obj):=some (zjG P)::some (zjF P)::some (zjE P)::some (zjD P)::some (zjC P)::some (zjB P)::some (zjA P)::some (zjz P)::some (zjy P)::some (zjx P)::some (zjw P)::some (zjv P)::y26 P
noncomputable def y24:List (Option Obj):=some (zjS P)::some (zjR P)::some (zjQ P)::some (zjP P)::some (zjO P)::some (zjN P)::some (zjM P)::some (zjL P)::some (zjK P)::some (zjJ P)::some (zjI P)::some (zjH P)::y25 P
noncomputable def y23:List (Option Obj):=some (zj4 P)::some (zj3 P)::some (zj2 P)::some (zj1 P)::some (zj0 P)::some (zjZ P)::some (zjY P)::some (zjX P)::some (zjW P)::some (zjV P)::some (zjU P)::some (zjT P)::y24 P
noncomputable def y22:List (Option Obj):=some (zkg P)::some (zkf P)::some (zke P)::some (zkd P)::some (zkc P)::some (zkb P)::some (zka P)::some (zj9 P)::some (zj8 P)::some (zj7 P)::some (zj6 P)::some (zj5 P)::y23 P
noncomputable def y21:List (Option Obj):=some (zks P)::some (zkr P)::some (zkq P)::some (zkp P)::some (zko P)::some (zkn P)::some (zkm P)::some (zkl P)::some (zkk P)::some (zkj P)::some (zki P)::some (zkh P)::y22 P
noncomputable def y20:List (Option Obj):=some (zkE P)::some (zkD P)::some (zkC P)::some (zkB P)::some (zkA P)::some (zkz P)::some (zky P)::some (zkx P)::some (zkw P)::some (zkv P)::some (zku P)::some (zkt P)::y21 P
noncomputable def y19:List (Option Obj):=some (zkQ P)::some (zkP P)::some (zkO P)::some (zkN P)::some (zkM P)::some (zkL P)::some (zkK P)::some (zkJ P)::some (zkI P)::some (zkH P)::some (zkG P)::some (zkF P)::y20 P
noncomputable def y18:List (Option Obj):=some (zk2 P)::some (zk1 P)::some (zk0 P)::some (zkZ P)::some (zkY P)::some (zkX P)::some (zkW P)::some (zkV P)::some (zkU P)::some (zkT P)::some (zkS P)::some (zkR P)::y19 P
noncomputable def y17:List (Option Obj):=some (zle P)::some (zld P)::some (zlc P)::some (zlb P)::some (zla P)::some (zk9 P)::some (zk8 P)::some (zk7 P)::some (zk6 P)::some (zk5 P)::some (zk4 P)::some (zk3 P)::y18 P
noncomputable def y16:List (Option Obj):=some (zgC P)::some (zgB P)::some (zgA P)::some (zgz P)::some (zgy P)::some (zgx P)::some (zgw P)::some (zgv P)::some (zli P)::some (zlh P)::some (zlg P)::some (zlf P)::y17 P
noncomputable def y15:List (Option Obj):=some (zgO P)::some (zgN P)::some (zgM P)::some (zgL P)::some (zgK P)::some (zgJ P)::some (zgI P)::some (zgH P)::some (zgG P)::some (zgF P)::some (zgE P)::some (zgD P)::y16 P
noncomputable def y14:List (Option Obj):=some (zg0 P)::some (zgQ P)::some (zgZ P)::some (zgY P)::some (zgX P)::some (zgW P)::some (zgV P)::some (zgU P)::some (zgT P)::some (zgS P)::some (zgR P)::some (zgP P)::y15 P
noncomputable def y13:List (Option Obj):=some (zhc P)::some (zhb P)::some (zha P)::some (zg9 P)::some (zg8 P)::some (zg7 P)::some (zg6 P)::some (zg5 P)::some (zg4 P)::some (zg3 P)::some (zg2 P)::some (zg1 P)::y14 P
noncomputable def y12:List (Option Obj):=some (zho P)::some (zhn P)::some (zhm P)::some (zhl P)::some (zhk P)::some (zhj P)::some (zhi P)::some (zhh P)::some (zhg P)::some (zhf P)::some (zhe P)::some (zhd P)::y13 P
noncomputable def y11:List (Option Obj):=some (zav P)::some (zau P)::some (zat P)::some (zas P)::some (zar P)::some (zaq P)::some (zap P)::some (zao P)::some (zan P)::some (zam P)::some (zal P)::some (zak P)::y12 P
noncomputable def y10:List (Option Obj):=some (Ug P)::some (Uf P)::some (Ue P)::some (Ud P)::some (Uc P)::some (Ub P)::some (Ua P)::some (V9 P)::some (V8 P)::some (V7 P)::some (V6 P)::some (zaw P)::y11 P
noncomputable def y9:List (Option Obj):=some (Ut P)::some (Us P)::some (Ur P)::some (Uq P)::some (Up P)::some (Uo P)::some (Um P)::some (Ul P)::some (Uk P)::some (Uj P)::some (Ui P)::some (Uh P)::y10 P
noncomputable def y8:List (Option Obj):=some (UF P)::some (UE P)::some (UD P)::some (UC P)::some (UB P)::some (UA P)::some (Uz P)::some (Uy P)::some (Ux P)::some (Uw P)::some (Uv P)::some (Uu P)::y9 P
noncomputable def y7:List (Option Obj):=some (US P)::some (UR P)::some (UQ P)::some (UP P)::some (UO P)::some (UN P)::some (UM P)::some (UL P)::some (UK P)::some (UJ P)::some (UI P)::some (UG P)::y8 P
noncomputable def y6:List (Option Obj):=some (U4 P)::some (U3 P)::some (U2 P)::some (U1 P)::some (U0 P)::some (UZ P)::some (UY P)::some (UX P)::some (UW P)::some (UV P)::some (UU P)::some (UT P)::y7 P
noncomputable def y5:List (Option Obj):=some (Y5 P)::some (Y4 P)::some (Y3 P)::some (Y2 P)::some (Y1 P)::some (Y0 P)::some (YZ P)::some (YY P)::some (YX P)::some (YW P)::some (YV P)::some (U5 P)::y6 P
noncomputable def y4:List (Option Obj):=some (o89 P)::some (o90 P)::some (o92 P)::some (o93 P)::some (o94 P)::some (o96 P)::some (o97 P)::some (o99 P)::some (Y9 P)::some (Y8 P)::some (Y7 P)::some (Y6 P)::y5 P
noncomputable def y3:List (Option Obj):=some (o56 P)::some (o58 P)::some (o59 P)::some (o61 P)::some (o62 P)::some (o70 P)::some (o71 P)::some (Vh P)::some (o73 P)::some (o74 P)::some (o80 P)::some (o87 P)::y4 P
noncomputable def y2:List (Option Obj):=some (o40 P)::some (o41 P)::some (o42 P)::some (o44 P)::some (o45 P)::some (o47 P)::some (o48 P)::some (o49 P)::some (o51 P)::some (o52 P)::some (o54 P)::some (o55 P)::y3 P
noncomputable def y1:List (Option Obj):=some (o22 P)::some (o23 P)::some (o26 P)::some (o27 P)::some (o28 P)::some (o30 P)::some (o31 P)::some (o33 P)::some (o34 P)::some (o35 P)::some (o37 P)::some (o38 P)::y2 P
noncomputable def y0:List (Option Obj):=some (boot_o_2 P)::some (zje P)::some (o6 P)::some (o8 P)::some (o9 P)::some (o11 P)::some (o12 P)::some (o13 P)::some (o16 P)::some (o17 P)::some (o18 P)::some (o21 P)::y1 P
theorem asK (P:Params):as=(K P).map (·.1):=by kernel_rfl
theorem yK (P:Params):(K P).map (fun p=>some p.2)=y0 P:=by kernel_rfl
noncomputable def Ly (w:World) (os:OsState):List (Option Obj):=as.map (sf w os).heap.get?
noncomputable def Ry (w:World) (_:OsState):List (Option Obj):=y0 w.params
theorem qy:tt (Hd.Ly,Hd.Ry)=true:=by k_qdec
theorem ry:∀ w,Fast.tw691215026958702249 w=Hd.Ry w:=fun w=>by kernel_rfl
theorem ey (w:World) (os:OsState):Hd.Ly w os=Hd.Ry w os:=(congrFun (congrFun Fast.te691215026958702249 w) os).trans (congrFun (ry w) os)
abbrev hk:Hook:=kHook K as asK
abbrev zwu:List Str:=importedModules PySem.Challenge.pw_beatless_k25_whole_no_word_goes_faster.main.body
noncomputable def A (w:World) (os:OsState):=openSeen Q [] zwu Xt true (sf w os)
def G (_:World) (_:OsState):=openGood Q []
def A0 (w:World) (os:OsState):=(A w os).1
def G0 (w:World) (os:OsState):=(G w os).1
theorem qA0:tt (Hd.A0,Hd.G0)=true:=by k_qdec
theorem rA0:∀ w,Fast.tw6131166808449026830 w=Hd.G0 w:=fun w=>by kernel_rfl
theorem eA0 (w:World) (os:OsState):Hd.A0 w os=Hd.G0 w os:=(congrFun (congrFun Fast.te6131166808449026830 w) os).trans (congrFun (rA0 w) os)
def A1 (w:World) (os:OsState):=(A w os).2.1
def G1 (w:World) (os:OsState):=(G w os).2.1
theorem qA1:tt (Hd.A1,Hd.G1)=true:=by k_qdec
theorem rA1:∀ w,Fast.tw7581016493306269660 w=Hd.G1 w:=fun w=>by kernel_rfl
theorem eA1 (w:World) (os:OsState):Hd.A1 w os=Hd.G1 w os:=(congrFun (congrFun Fast.te7581016493306269660 w) os).trans (congrFun (rA1 w) os)
def A2 (w:World) (os:OsState):=(A w os).2.2.1
def G2 (w:World) (os:OsState):=(G w os).2.2.1
theorem qA2:tt (Hd.A2,Hd.G2)=true:=by k_qdec
theorem rA2:∀ w,Fast.tw2900191123710467766 w=Hd.G2 w:=fun w=>by kernel_rfl
theorem eA2 (w:World) (os:OsState):Hd.A2 w os=Hd.G2 w os:=(congrFun (congrFun Fast.te2900191123710467766 w) os).trans (congrFun (rA2 w) os)
def A3 (w:World) (os:OsState):=(A w os).2.2.2.1
def G3 (w:World) (os:OsState):=(G w os).2.2.2.1
theorem qA3:tt (Hd.A3,Hd.G3)=true:=by k_qdec
theorem rA3:∀ w,Fast.tw447134267514248570 w=Hd.G3 w:=fun w=>by kernel_rfl
theorem eA3 (w:World) (os:OsState):Hd.A3 w os=Hd.G3 w os:=(congrFun (congrFun Fast.te447134267514248570 w) os).trans (congrFun (rA3 w) os)
def A4 (w:World) (os:OsState):=(A w os).2.2.2.2.1
def G4 (w:World) (os:OsState):=(G w os).2.2.2.2.1
theorem qA4:tt (Hd.A4,Hd.G4)=true:=by k_qdec
theorem rA4:∀ w,Fast.tw14409291123802741499 w=Hd.G4 w:=fun w=>by kernel_rfl
theorem eA4 (w:World) (os:OsState):Hd.A4 w os=Hd.G4 w os:=(congrFun (congrFun Fast.te14409291123802741499 w) os).trans (congrFun (rA4 w) os)
def A5 (w:World) (os:OsState):=(A w os).2.2.2.2.2.1
def G5 (w:World) (os:OsState):=(G w os).2.2.2.2.2.1
theorem qA5:tt (Hd.A5,Hd.G5)=true:=by k_qdec
theorem rA5:∀ w,Fast.tw7163156141784225904 w=Hd.G5 w:=fun w=>by kernel_rfl
theorem eA5 (w:World) (os:OsState):Hd.A5 w os=Hd.G5 w os:=(congrFun (congrFun Fast.te7163156141784225904 w) os).trans (congrFun (rA5 w) os)
def A6 (w:World) (os:OsState):=(A w os).2.2.2.2.2.2.1
def G6 (w:World) (os:OsState):=(G w os).2.2.2.2.2.2.1
theorem qA6:tt (Hd.A6,Hd.G6)=true:=by k_qdec
theorem rA6:∀ w,Fast.tw148487786646926683 w=Hd.G6 w:=fun w=>by kernel_rfl
theorem eA6 (w:World) (os:OsState):Hd.A6 w os=Hd.G6 w os:=(congrFun (congrFun Fast.te148487786646926683 w) os).trans (congrFun (rA6 w) os)
def A7 (w:World) (os:OsState):=(A w os).2.2.2.2.2.2.2.1
def G7 (w:World) (os:OsState):=(G w os).2.2.2.2.2.2.2.1
theorem qA7:tt (Hd.A7,Hd.G7)=true:=by k_qdec
theorem rA7:∀ w,Fast.tw17782257788342479682 w=Hd.G7 w:=fun w=>by kernel_rfl
theorem eA7 (w:World) (os:OsState):Hd.A7 w os=Hd.G7 w os:=(congrFun (congrFun Fast.te17782257788342479682 w) os).trans (congrFun (rA7 w) os)
def A8 (w:World) (os:OsState):=(A w os).2.2.2.2.2.2.2.2
def G8 (w:World) (os:OsState):=(G w os).2.2.2.2.2.2.2.2
theorem qA8:tt (Hd.A8,Hd.G8)=true:=by k_qdec
theorem rA8:∀ w,Fast.tw8885869309975874061 w=Hd.G8 w:=fun w=>by kernel_rfl
theorem eA8 (w:World) (os:OsState):Hd.A8 w os=Hd.G8 w os:=(congrFun (congrFun Fast.te8885869309975874061 w) os).trans (congrFun (rA8 w) os)
noncomputable def Ls (w:World) (os:OsState):Bool:=staticsOk zwu (boot_heap w.params) (H1 w.params)&&namesBound PySem.Challenge.pw_beatless_k25_whole_no_word_goes_faster (H1 w.params)&&gensDone (sf w os)&&laidKept (boot_heap w.params) (H1 w.params)
def Rs (_:World) (_:OsState):Bool:=true
noncomputable def Lz (w:World) (_:OsState):=((boot_heap w.params).isNs mainGlobals&&(⟨[]⟩:Array GenState).size == 0,(boot_heap w.params).objs.size,(boot_heap w.params).nsMap mainGlobals "__annotations__")
noncomputable def Rz (_:World) (_:OsState):Bool×Nat×Option Value:=(true,11,an)
theorem qs:tt Hd.Ls=true:=by k_qdec
theorem rs:∀ w,Fast.tw4959303863618478765 w=Hd.Rs w:=fun w=>by kernel_rfl
theorem es (w:World) (os:OsState):Hd.Ls w os=Hd.Rs w os:=(congrFun (congrFun Fast.te4959303863618478765 w) os).trans (congrFun (rs w) os)
theorem qz:tt Hd.Lz=true:=by k_qdec
theorem rz:∀ w,Fast.tw17831390912981975158 w=Hd.Rz w:=fun w=>by kernel_rfl
theorem ez (w:World) (os:OsState):Hd.Lz w os=Hd.Rz w os:=(congrFun (congrFun Fast.te17831390912981975158 w) os).trans (congrFun (rz w) os)
theorem op:opening PySem.Challenge.pw_beatless_k25_whole_no_word_goes_faster=plainProg PySem.Challenge.pw_beatless_k25_whole_no_word_goes_faster.main.scope.names:=by kernel_rfl
theorem fe (s:Shared):fenceModules? PySem.Challenge.pw_beatless_k25_whole_no_word_goes_faster s=some s:=by kernel_rfl
theorem left:LeftO PySem.Challenge.pw_beatless_k25_whole_no_word_goes_faster Q [] Xt hk.obs hk.val 9476 :=
 LeftO.of_pieces (M:=M) (m₀:=11) (ann:=an) (H₀:=boot_heap) (H₁:=H1) (boot_open op (by kernel_rfl) fe) (fun w=>ez w (start PySem.Challenge.pw_beatless_k25_whole_no_word_goes_faster).1.os) run (by kernel_rfl) (fun w=>funext fun os=>looks_pair (es w os) (looks_pair
  (Prod.ext (eA0 w os) (Prod.ext (eA1 w os) (Prod.ext (eA2 w os) (Prod.ext (eA3 w os) (Prod.ext (eA4 w os) (Prod.ext (eA5 w os) (Prod.ext (eA6 w os) (Prod.ext (eA7 w os) (eA8 w os)))))))))
  ((ey w os).trans (yK w.params).symm)))
theorem both {a b:Bool}(z:(a&&b)=true):a=true∧b=true:=Bool.and_eq_true_iff.mp z
end Hd
end

namespace K04
open PySem L2
abbrev fS (n q:Str) (s:Stmt) (k d p:Value) (a:Option Addr) (c t:Value):FuncData:=PySem.W.fnOf n q (defArgs s) (defBody s) (defScope s) .none k d p a c t
open PySem.W (nsIn findIn isFn codeIn keepIn plainGet hasDictIn plainOver makesIn mroIn specialIn takesIn kitOne mg_of mg_none_of excIn)
theorem txt_mk {w:World}{K:PySem.W.Frag}{h:Heap}{mg:Str→Option Value}(X:K.In h) (G:h.Ns mainGlobals mg)
  {f_qa:Addr}{od0 an0:Option Addr}{sl0:Array (Option Value)}{oc0 kV0 dc0 pm0 cd0 ct0:Value}{f_qb:Addr}{od1 an1:Option Addr}{sl1:Array (Option Value)}{oc1 kV1 dc1 pm1 cd1 ct1:Value}{f_qc:Addr}{od2 an2:Option Addr}{sl2:Array (Option Value)}{oc2 kV2 dc2 pm2 cd2 ct2:Value}{f_qd:Addr}{od3 an3:Option Addr}{sl3:Array (Option Value)}{oc3 kV3 dc3 pm3 cd3 ct3:Value}{f_qe:Addr}{od4 an4:Option Addr}{sl4:Array (Option Value)}{oc4 kV4 dc4 pm4 cd4 ct4:Value}{f_qf:Addr}{od5 an5:Option Addr}{sl5:Array (Option Value)}{oc5 kV5 dc5 pm5 cd5 ct5:Value}{f_qg:Addr}{od6 an6:Option Addr}{sl6:Array (Option Value)}{oc6 kV6 dc6 pm6 cd6 ct6:Value}{f_qh:Addr}{od7 an7:Option Addr}{sl7:Array (Option Value)}{oc7 kV7 dc7 pm7 cd7 ct7:Value}{f_qi:Addr}{od8 an8:Option Addr}{sl8:Array (Option Value)}{oc8 kV8 dc8 pm8 cd8 ct8:Value}{f_qj:Addr}{od9 an9:Option Addr}{sl9:Array (Option Value)}{oc9 kV9 dc9 pm9 cd9 ct9:Value}{f_qk:Addr}{od10 an10:Option Addr}{sl10:Array (Option Value)}{oc10 kV10 dc10 pm10 cd10 ct10:Value}{f_ql:Addr}{od11 an11:Option Addr}{sl11:Array (Option Value)}{oc11 kV11 dc11 pm11 cd11 ct11:Value}{f_qm:Addr}{od12 an12:Option Addr}{sl12:Array (Option Value)}{oc12 kV12 dc12 pm12 cd12 ct12:Value}{f_qn:Addr}{od13 an13:Option Addr}{sl13:Array (Option Value)}{oc13 kV13 dc13 pm13 cd13 ct13:Value}{f_qo:Addr}{od14 an14:Option Addr}{sl14:Array (Option Value)}{oc14 kV14 dc14 pm14 cd14 ct14:Value}{f_qp:Addr}{od15 an15:Option Addr}{sl15:Array (Option Value)}{oc15 kV15 dc15 pm15 cd15 ct15:Value}{f_qq:Addr}{od16 an16:Option Addr}{sl16:Array (Option Value)}{oc16 kV16 dc16 pm16 cd16 ct16:Value}{f_qr:Addr}{od17 an17:Option Addr}{sl17:Array (Option Value)}{oc17 kV17 dc17 pm17 cd17 ct17:Value}{f_qs:Addr}{od18 an18:Option Addr}{sl18:Array (Option Value)}{oc18 kV18 dc18 pm18 cd18 ct18:Value}{f_qt:Addr}{od19 an19:Option Addr}{sl19:Array (Option Value)}{oc19 kV19 dc19 pm19 cd19 ct19:Value}{f_qu:Addr}{od20 an20:Option Addr}{sl20:Array (Option Value)}{oc20 kV20 dc20 pm20 cd20 ct20:Value}{f_qv:Addr}{od21 an21:Option Addr}{sl21:Array (Option Value)}{oc21 kV21 dc21 pm21 cd21 ct21:Value}{f_qw:Addr}{od22 an22:Option Addr}{sl22:Array (Option Value)}{oc22 kV22 dc22 pm22 cd22 ct22:Value}{f_qx:Addr}{od23 an23:Option Addr}{sl23:Array (Option Value)}{oc23 kV23 dc23 pm23 cd23 ct23:Value}{f_qy:Addr}{od24 an24:Option Addr}{sl24:Array (Option Value)}{oc24 kV24 dc24 pm24 cd24 ct24:Value}{f_qz:Addr}{od25 an25:Option Addr}{sl25:Array (Option Value)}{oc25 kV25 dc25 pm25 cd25 ct25:Value}{f_qA:Addr}{od26 an26:Option Addr}{sl26:Array (Option Value)}{oc26 kV26 dc26 pm26 cd26 ct26:Value}{f_qB:Addr}{od27 an27:Option Addr}{sl27:Array (Option Value)}{oc27 kV27 dc27 pm27 cd27 ct27:Value}{f_qC:Addr}{od28 an28:Option Addr}{sl28:Array (Option Value)}{oc28 kV28 dc28 pm28 cd28 ct28:Value}{f_qD:Addr}{od29 an29:Option Addr}{sl29:Array (Option Value)}{oc29 kV29 dc29 pm29 cd29 ct29:Value}{f_qE:Addr}{od30 an30:Option Addr}{sl30:Array (Option Value)}{oc30 kV30 dc30 pm30 cd30 ct30:Value}{f_qF:Addr}{od31 an31:Option Addr}{sl31:Array (Option Value)}{oc31 kV31 dc31 pm31 cd31 ct31:Value}{f_qG:Addr}{od32 an32:Option Addr}{sl32:Array (Option Value)}{oc32 kV32 dc32 pm32 cd32 ct32:Value}{f_qH:Addr}{od33 an33:Option Addr}{sl33:Array (Option Value)}{oc33 kV33 dc33 pm33 cd33 ct33:Value}{f_qI:Addr}{od34 an34:Option Addr}{sl34:Array (Option Value)}{oc34 kV34 dc34 pm34 cd34 ct34:Value}{f_qJ:Addr}{od35 an35:Option Addr}{sl35:Array (Option Value)}{oc35 kV35 dc35 pm35 cd35 ct35:Value}{f_qK:Addr}{od36 an36:Option Addr}{sl36:Array (Option Value)}{oc36 kV36 dc36 pm36 cd36 ct36:Value}{f_qL:Addr}{od37 an37:Option Addr}{sl37:Array (Option Value)}{oc37 kV37 dc37 pm37 cd37 ct37:Value}{f_qM:Addr}{od38 an38:Option Addr}{sl38:Array (Option Value)}{oc38 kV38 dc38 pm38 cd38 ct38:Value}{f_qN:Addr}{od39 an39:Option Addr}{sl39:Array (Option Value)}{oc39 kV39 dc39 pm39 cd39 ct39:Value}{f_qO:Addr}{od40 an40:Option Addr}{sl40:Array (Option Value)}{oc40 kV40 dc40 pm40 cd40 ct40:Value}{f_qP:Addr}{od41 an41:Option Addr}{sl41:Array (Option Value)}{oc41 kV41 dc41 pm41 cd41 ct41:Value}{f_qQ:Addr}{od42 an42:Option Addr}{sl42:Array (Option Value)}{oc42 kV42 dc42 pm42 cd42 ct42:Value}{f_qR:Addr}{od43 an43:Option Addr}{sl43:Array (Option Value)}{oc43 kV43 dc43 pm43 cd43 ct43:Value}{f_qS:Addr}{od44 an44:Option Addr}{sl44:Array (Option Value)}{oc44 kV44 dc44 pm44 cd44 ct44:Value}{f_qT:Addr}{od45 an45:Option Addr}{sl45:Array (Option Value)}{oc45 kV45 dc45 pm45 cd45 ct45:Value}{f_qU:Addr}{od46 an46:Option Addr}{sl46:Array (Option Value)}{oc46 kV46 dc46 pm46 cd46 ct46:Value}{f_qV:Addr}{od47 an47:Option Addr}{sl47:Array (Option Value)}{oc47 kV47 dc47 pm47 cd47 ct47:Value}{f_qW:Addr}{od48 an48:Option Addr}{sl48:Array (Option Value)}{oc48 kV48 dc48 pm48 cd48 ct48:Value}{f_qX:Addr}{od49 an49:Option Addr}{sl49:Array (Option Value)}{oc49 kV49 dc49 pm49 cd49 ct49:Value}{f_qY:Addr}{od50 an50:Option Addr}{sl50:Array (Option Value)}{oc50 kV50 dc50 pm50 cd50 ct50:Value}{f_qZ:Addr}{od51 an51:Option Addr}{sl51:Array (Option Value)}{oc51 kV51 dc51 pm51 cd51 ct51:Value}{f_qa0:Addr}{od52 an52:Option Addr}{sl52:Array (Option Value)}{oc52 kV52 dc52 pm52 cd52 ct52:Value}{f_qa1:Addr}{od53 an53:Option Addr}{sl53:Array (Option Value)}{oc53 kV53 dc53 pm53 cd53 ct53:Value}{f_qa2:Addr}{od54 an54:Option Addr}{sl54:Array (Option Value)}{oc54 kV54 dc54 pm54 cd54 ct54:Value}{f_qa3:Addr}{od55 an55:Option Addr}{sl55:Array (Option Value)}{oc55 kV55 dc55 pm55 cd55 ct55:Value}{f_qa4:Addr}{od56 an56:Option Addr}{sl56:Array (Option Value)}{oc56 kV56 dc56 pm56 cd56 ct56:Value}{c_Num:Addr}{c_Name:Addr}{c_Two:Addr}{c_Mod:Addr}{c_Less:Addr}{c_Program:Addr}{c_Web:Addr}{t_START_NAMES:Addr}{od_START_NAMES:Option Addr}{n_START_NAMES:Nat}{sl_START_NAMES:Array (Option Value)}{u_START_NAMES0 u_START_NAMES1:Tok}{t_SEND_NAMES:Addr}{od_SEND_NAMES:Option Addr}{n_SEND_NAMES:Nat}{sl_SEND_NAMES:Array (Option Value)}{u_SEND_NAMES0 u_SEND_NAMES1 u_SEND_NAMES2 u_SEND_NAMES3 u_SEND_NAMES4:Tok}{t_RENEW_NAMES:Addr}{od_RENEW_NAMES:Option Addr}{n_RENEW_NAMES:Nat}{sl_RENEW_NAMES:Array (Option Value)}{u_RENEW_NAMES0 u_RENEW_NAMES1 u_RENEW_NAMES2 u_RENEW_NAMES3 u_RENEW_NAMES4 u_RENEW_NAMES5 u_RENEW_NAMES6 u_RENEW_NAMES7:Tok}{t_TWO_WORDS:Addr}{od_TWO_WORDS:Option Addr}{n_TWO_WORDS:Nat}{sl_TWO_WORDS:Array (Option Value)}{u_TWO_WORDS0 u_TWO_WORDS1 u_TWO_WORDS2 u_TWO_WORDS3:Tok}{t_MOST_WORDS:Tok}{t_MOST_DEEP:Tok}{t_MOST_HANDS:Tok}{t_LAST_HAND:Tok}
  (z_len:nsIn K mainGlobals "len" = some none)
  (z_int:nsIn K mainGlobals "int" = some none)
  (z_min:nsIn K mainGlobals "min" = some none)
  (z_max:nsIn K mainGlobals "max" = some none)
  (z_range:nsIn K mainGlobals "range" = some none)
  (z_isinstance:nsIn K mainGlobals "isinstance" = some none)
  (z_list:nsIn K mainGlobals "list" = some none)
  (z_dict:nsIn K mainGlobals "dict" = some none)
  (z_abs:nsIn K mainGlobals "abs" = some none)
  (z_sorted:nsIn K mainGlobals "sorted" = some none)
  (z_str:nsIn K mainGlobals "str" = some none)
  (z_sum:nsIn K mainGlobals "sum" = some none)
  (z_bool:nsIn K mainGlobals "bool" = some none)
  (z_tuple:nsIn K mainGlobals "tuple" = some none)
  (z_ValueError:nsIn K mainGlobals "ValueError" = some none)
  (A_Num:nsIn K mainGlobals "Num" = some (some (.ref c_Num)))
  (A_Name:nsIn K mainGlobals "Name" = some (some (.ref c_Name)))
  (A_Two:nsIn K mainGlobals "Two" = some (some (.ref c_Two)))
  (A_Mod:nsIn K mainGlobals "Mod" = some (some (.ref c_Mod)))
  (A_Less:nsIn K mainGlobals "Less" = some (some (.ref c_Less)))
  (A_Program:nsIn K mainGlobals "Program" = some (some (.ref c_Program)))
  (A_Web:nsIn K mainGlobals "Web" = some (some (.ref c_Web)))
  (a_0:nsIn K mainGlobals "first_worths" = some (some (.ref f_qa)))
  (l_0:K.lookup f_qa=some ⟨oc0,od0,.func (fS "first_worths" "first_worths" Z6 kV0 dc0 pm0 an0 cd0 ct0),sl0⟩)
  (cc_0:codeIn K cd0 "first_worths" = true)
  (kk_0:keepIn K (.ref f_qa)=true)
  (a_1:nsIn K mainGlobals "heard_in" = some (some (.ref f_qb)))
  (l_1:K.lookup f_qb=some ⟨oc1,od1,.func (fS "heard_in" "heard_in" Z5 kV1 dc1 pm1 an1 cd1 ct1),sl1⟩)
  (cc_1:codeIn K cd1 "heard_in" = true)
  (kk_1:keepIn K (.ref f_qb)=true)
  (a_2:nsIn K mainGlobals "worths_behind" = some (some (.ref f_qc)))
  (l_2:K.lookup f_qc=some ⟨oc2,od2,.func (fS "worths_behind" "worths_behind" Z4 kV2 dc2 pm2 an2 cd2 ct2),sl2⟩)
  (cc_2:codeIn K cd2 "worths_behind" = true)
  (kk_2:keepIn K (.ref f_qc)=true)
  (a_3:nsIn K mainGlobals "run_pieces" = some (some (.ref f_qd)))
  (l_3:K.lookup f_qd=some ⟨oc3,od3,.func (fS "run_pieces" "run_pieces" Z3 kV3 dc3 pm3 an3 cd3 ct3),sl3⟩)
  (cc_3:codeIn K cd3 "run_pieces" = true)
  (kk_3:keepIn K (.ref f_qd)=true)
  (a_4:nsIn K mainGlobals "worths_by_pieces" = some (some (.ref f_qe)))
  (l_4:K.lookup f_qe=some ⟨oc4,od4,.func (fS "worths_by_pieces" "worths_by_pieces" Z2 kV4 dc4 pm4 an4 cd4 ct4),sl4⟩)
  (cc_4:codeIn K cd4 "worths_by_pieces" = true)
  (kk_4:keepIn K (.ref f_qe)=true)
  (a_5:nsIn K mainGlobals "heard_by_pieces" = some (some (.ref f_qf)))
  (l_5:K.lookup f_qf=some ⟨oc5,od5,.func (fS "heard_by_pieces" "heard_by_pieces" Z1 kV5 dc5 pm5 an5 cd5 ct5),sl5⟩)
  (cc_5:codeIn K cd5 "heard_by_pieces" = true)
  (kk_5:keepIn K (.ref f_qf)=true)
  (a_6:nsIn K mainGlobals "plain_worths" = some (some (.ref f_qg)))
  (l_6:K.lookup f_qg=some ⟨oc6,od6,.func (fS "plain_worths" "plain_worths" Z0 kV6 dc6 pm6 an6 cd6 ct6),sl6⟩)
  (cc_6:codeIn K cd6 "plain_worths" = true)
  (kk_6:keepIn K (.ref f_qg)=true)
  (a_7:nsIn K mainGlobals "plain_heard" = some (some (.ref f_qh)))
  (l_7:K.lookup f_qh=some ⟨oc7,od7,.func (fS "plain_heard" "plain_heard" ZZ kV7 dc7 pm7 an7 cd7 ct7),sl7⟩)
  (cc_7:codeIn K cd7 "plain_heard" = true)
  (kk_7:keepIn K (.ref f_qh)=true)
  (a_8:nsIn K mainGlobals "is_whole" = some (some (.ref f_qi)))
  (l_8:K.lookup f_qi=some ⟨oc8,od8,.func (fS "is_whole" "is_whole" ZY kV8 dc8 pm8 an8 cd8 ct8),sl8⟩)
  (cc_8:codeIn K cd8 "is_whole" = true)
  (kk_8:keepIn K (.ref f_qi)=true)
  (a_9:nsIn K mainGlobals "is_short_number" = some (some (.ref f_qj)))
  (l_9:K.lookup f_qj=some ⟨oc9,od9,.func (fS "is_short_number" "is_short_number" ZX kV9 dc9 pm9 an9 cd9 ct9),sl9⟩)
  (cc_9:codeIn K cd9 "is_short_number" = true)
  (kk_9:keepIn K (.ref f_qj)=true)
  (a_10:nsIn K mainGlobals "is_word_of" = some (some (.ref f_qk)))
  (l_10:K.lookup f_qk=some ⟨oc10,od10,.func (fS "is_word_of" "is_word_of" ZW kV10 dc10 pm10 an10 cd10 ct10),sl10⟩)
  (cc_10:codeIn K cd10 "is_word_of" = true)
  (kk_10:keepIn K (.ref f_qk)=true)
  (a_11:nsIn K mainGlobals "is_divisor" = some (some (.ref f_ql)))
  (l_11:K.lookup f_ql=some ⟨oc11,od11,.func (fS "is_divisor" "is_divisor" ZV kV11 dc11 pm11 an11 cd11 ct11),sl11⟩)
  (cc_11:codeIn K cd11 "is_divisor" = true)
  (kk_11:keepIn K (.ref f_ql)=true)
  (a_12:nsIn K mainGlobals "are_sound" = some (some (.ref f_qm)))
  (l_12:K.lookup f_qm=some ⟨oc12,od12,.func (fS "are_sound" "are_sound" ZU kV12 dc12 pm12 an12 cd12 ct12),sl12⟩)
  (cc_12:codeIn K cd12 "are_sound" = true)
  (kk_12:keepIn K (.ref f_qm)=true)
  (a_13:nsIn K mainGlobals "is_sound" = some (some (.ref f_qn)))
  (l_13:K.lookup f_qn=some ⟨oc13,od13,.func (fS "is_sound" "is_sound" ZT kV13 dc13 pm13 an13 cd13 ct13),sl13⟩)
  (cc_13:codeIn K cd13 "is_sound" = true)
  (kk_13:keepIn K (.ref f_qn)=true)
  (a_14:nsIn K mainGlobals "count_words" = some (some (.ref f_qo)))
  (l_14:K.lookup f_qo=some ⟨oc14,od14,.func (fS "count_words" "count_words" uW kV14 dc14 pm14 an14 cd14 ct14),sl14⟩)
  (cc_14:codeIn K cd14 "count_words" = true)
  (kk_14:keepIn K (.ref f_qo)=true)
  (a_15:nsIn K mainGlobals "are_hands" = some (some (.ref f_qp)))
  (l_15:K.lookup f_qp=some ⟨oc15,od15,.func (fS "are_hands" "are_hands" ZS kV15 dc15 pm15 an15 cd15 ct15),sl15⟩)
  (cc_15:codeIn K cd15 "are_hands" = true)
  (kk_15:keepIn K (.ref f_qp)=true)
  (a_16:nsIn K mainGlobals "is_line" = some (some (.ref f_qq)))
  (l_16:K.lookup f_qq=some ⟨oc16,od16,.func (fS "is_line" "is_line" ZR kV16 dc16 pm16 an16 cd16 ct16),sl16⟩)
  (cc_16:codeIn K cd16 "is_line" = true)
  (kk_16:keepIn K (.ref f_qq)=true)
  (a_17:nsIn K mainGlobals "are_lines" = some (some (.ref f_qr)))
  (l_17:K.lookup f_qr=some ⟨oc17,od17,.func (fS "are_lines" "are_lines" ZQ kV17 dc17 pm17 an17 cd17 ct17),sl17⟩)
  (cc_17:codeIn K cd17 "are_lines" = true)
  (kk_17:keepIn K (.ref f_qr)=true)
  (a_18:nsIn K mainGlobals "near_by_hand" = some (some (.ref f_qs)))
  (l_18:K.lookup f_qs=some ⟨oc18,od18,.func (fS "near_by_hand" "near_by_hand" ZP kV18 dc18 pm18 an18 cd18 ct18),sl18⟩)
  (cc_18:codeIn K cd18 "near_by_hand" = true)
  (kk_18:keepIn K (.ref f_qs)=true)
  (a_19:nsIn K mainGlobals "_law_cell_at" = some (some (.ref f_qt)))
  (l_19:K.lookup f_qt=some ⟨oc19,od19,.func (fS "_law_cell_at" "_law_cell_at" ZO kV19 dc19 pm19 an19 cd19 ct19),sl19⟩)
  (cc_19:codeIn K cd19 "_law_cell_at" = true)
  (kk_19:keepIn K (.ref f_qt)=true)
  (a_20:nsIn K mainGlobals "_law_draws" = some (some (.ref f_qu)))
  (l_20:K.lookup f_qu=some ⟨oc20,od20,.func (fS "_law_draws" "_law_draws" ZN kV20 dc20 pm20 an20 cd20 ct20),sl20⟩)
  (cc_20:codeIn K cd20 "_law_draws" = true)
  (kk_20:keepIn K (.ref f_qu)=true)
  (a_21:nsIn K mainGlobals "_law_take" = some (some (.ref f_qv)))
  (l_21:K.lookup f_qv=some ⟨oc21,od21,.func (fS "_law_take" "_law_take" uV kV21 dc21 pm21 an21 cd21 ct21),sl21⟩)
  (cc_21:codeIn K cd21 "_law_take" = true)
  (kk_21:keepIn K (.ref f_qv)=true)
  (a_22:nsIn K mainGlobals "_law_hands" = some (some (.ref f_qw)))
  (l_22:K.lookup f_qw=some ⟨oc22,od22,.func (fS "_law_hands" "_law_hands" ZM kV22 dc22 pm22 an22 cd22 ct22),sl22⟩)
  (cc_22:codeIn K cd22 "_law_hands" = true)
  (kk_22:keepIn K (.ref f_qw)=true)
  (a_23:nsIn K mainGlobals "_law_lines" = some (some (.ref f_qx)))
  (l_23:K.lookup f_qx=some ⟨oc23,od23,.func (fS "_law_lines" "_law_lines" ZL kV23 dc23 pm23 an23 cd23 ct23),sl23⟩)
  (cc_23:codeIn K cd23 "_law_lines" = true)
  (kk_23:keepIn K (.ref f_qx)=true)
  (a_24:nsIn K mainGlobals "_law_near" = some (some (.ref f_qy)))
  (l_24:K.lookup f_qy=some ⟨oc24,od24,.func (fS "_law_near" "_law_near" ZK kV24 dc24 pm24 an24 cd24 ct24),sl24⟩)
  (cc_24:codeIn K cd24 "_law_near" = true)
  (kk_24:keepIn K (.ref f_qy)=true)
  (a_25:nsIn K mainGlobals "_law_expr" = some (some (.ref f_qz)))
  (l_25:K.lookup f_qz=some ⟨oc25,od25,.func (fS "_law_expr" "_law_expr" ZJ kV25 dc25 pm25 an25 cd25 ct25),sl25⟩)
  (cc_25:codeIn K cd25 "_law_expr" = true)
  (kk_25:keepIn K (.ref f_qz)=true)
  (a_26:nsIn K mainGlobals "_law_program" = some (some (.ref f_qA)))
  (l_26:K.lookup f_qA=some ⟨oc26,od26,.func (fS "_law_program" "_law_program" Yr kV26 dc26 pm26 an26 cd26 ct26),sl26⟩)
  (cc_26:codeIn K cd26 "_law_program" = true)
  (kk_26:keepIn K (.ref f_qA)=true)
  (a_27:nsIn K mainGlobals "_law_heard_names" = some (some (.ref f_qB)))
  (l_27:K.lookup f_qB=some ⟨oc27,od27,.func (fS "_law_heard_names" "_law_heard_names" Yq kV27 dc27 pm27 an27 cd27 ct27),sl27⟩)
  (cc_27:codeIn K cd27 "_law_heard_names" = true)
  (kk_27:keepIn K (.ref f_qB)=true)
  (a_28:nsIn K mainGlobals "_law_made" = some (some (.ref f_qC)))
  (l_28:K.lookup f_qC=some ⟨oc28,od28,.func (fS "_law_made" "_law_made" Yp kV28 dc28 pm28 an28 cd28 ct28),sl28⟩)
  (cc_28:codeIn K cd28 "_law_made" = true)
  (kk_28:keepIn K (.ref f_qC)=true)
  (a_29:nsIn K mainGlobals "_law_program_made" = some (some (.ref f_qD)))
  (l_29:K.lookup f_qD=some ⟨oc29,od29,.func (fS "_law_program_made" "_law_program_made" Yo kV29 dc29 pm29 an29 cd29 ct29),sl29⟩)
  (cc_29:codeIn K cd29 "_law_program_made" = true)
  (kk_29:keepIn K (.ref f_qD)=true)
  (a_30:nsIn K mainGlobals "_law_rounds" = some (some (.ref f_qE)))
  (l_30:K.lookup f_qE=some ⟨oc30,od30,.func (fS "_law_rounds" "_law_rounds" Yn kV30 dc30 pm30 an30 cd30 ct30),sl30⟩)
  (cc_30:codeIn K cd30 "_law_rounds" = true)
  (kk_30:keepIn K (.ref f_qE)=true)
  (a_31:nsIn K mainGlobals "_law_far" = some (some (.ref f_qF)))
  (l_31:K.lookup f_qF=some ⟨oc31,od31,.func (fS "_law_far" "_law_far" u0 kV31 dc31 pm31 an31 cd31 ct31),sl31⟩)
  (cc_31:codeIn K cd31 "_law_far" = true)
  (kk_31:keepIn K (.ref f_qF)=true)
  (a_32:nsIn K mainGlobals "law" = some (some (.ref f_qG)))
  (l_32:K.lookup f_qG=some ⟨oc32,od32,.func (fS "law" "law" uZ kV32 dc32 pm32 an32 cd32 ct32),sl32⟩)
  (cc_32:codeIn K cd32 "law" = true)
  (kk_32:keepIn K (.ref f_qG)=true)
  (a_33:findIn K (.ref c_Num) "__init__" = some (some (.ref f_qH)))
  (i_33:isFn K (.ref f_qH)=true)
  (l_33:K.lookup f_qH=some ⟨oc33,od33,.func (fS "__init__" "Num.__init__" Ym kV33 dc33 pm33 an33 cd33 ct33),sl33⟩)
  (cc_33:codeIn K cd33 "Num.__init__" = true)
  (kk_33:keepIn K (.ref f_qH)=true)
  (a_34:findIn K (.ref c_Num) "reckon" = some (some (.ref f_qI)))
  (i_34:isFn K (.ref f_qI)=true)
  (l_34:K.lookup f_qI=some ⟨oc34,od34,.func (fS "reckon" "Num.reckon" Yl kV34 dc34 pm34 an34 cd34 ct34),sl34⟩)
  (cc_34:codeIn K cd34 "Num.reckon" = true)
  (kk_34:keepIn K (.ref f_qI)=true)
  (a_35:findIn K (.ref c_Num) "words" = some (some (.ref f_qJ)))
  (i_35:isFn K (.ref f_qJ)=true)
  (l_35:K.lookup f_qJ=some ⟨oc35,od35,.func (fS "words" "Num.words" Yk kV35 dc35 pm35 an35 cd35 ct35),sl35⟩)
  (cc_35:codeIn K cd35 "Num.words" = true)
  (kk_35:keepIn K (.ref f_qJ)=true)
  (a_36:findIn K (.ref c_Name) "__init__" = some (some (.ref f_qK)))
  (i_36:isFn K (.ref f_qK)=true)
  (l_36:K.lookup f_qK=some ⟨oc36,od36,.func (fS "__init__" "Name.__init__" Yj kV36 dc36 pm36 an36 cd36 ct36),sl36⟩)
  (cc_36:codeIn K cd36 "Name.__init__" = true)
  (kk_36:keepIn K (.ref f_qK)=true)
  (a_37:findIn K (.ref c_Name) "reckon" = some (some (.ref f_qL)))
  (i_37:isFn K (.ref f_qL)=true)
  (l_37:K.lookup f_qL=some ⟨oc37,od37,.func (fS "reckon" "Name.reckon" Yi kV37 dc37 pm37 an37 cd37 ct37),sl37⟩)
  (cc_37:codeIn K cd37 "Name.reckon" = true)
  (kk_37:keepIn K (.ref f_qL)=true)
  (a_38:findIn K (.ref c_Name) "words" = some (some (.ref f_qM)))
  (i_38:isFn K (.ref f_qM)=true)
  (l_38:K.lookup f_qM=some ⟨oc38,od38,.func (fS "words" "Name.words" Yh kV38 dc38 pm38 an38 cd38 ct38),sl38⟩)
  (cc_38:codeIn K cd38 "Name.words" = true)
  (kk_38:keepIn K (.ref f_qM)=true)
  (a_39:findIn K (.ref c_Two) "__init__" = some (some (.ref f_qN)))
  (i_39:isFn K (.ref f_qN)=true)
  (l_39:K.lookup f_qN=some ⟨oc39,od39,.func (fS "__init__" "Two.__init__" Yg kV39 dc39 pm39 an39 cd39 ct39),sl39⟩)
  (cc_39:codeIn K cd39 "Two.__init__" = true)
  (kk_39:keepIn K (.ref f_qN)=true)
  (a_40:findIn K (.ref c_Two) "reckon" = some (some (.ref f_qO)))
  (i_40:isFn K (.ref f_qO)=true)
  (l_40:K.lookup f_qO=some ⟨oc40,od40,.func (fS "reckon" "Two.reckon" Yf kV40 dc40 pm40 an40 cd40 ct40),sl40⟩)
  (cc_40:codeIn K cd40 "Two.reckon" = true)
  (kk_40:keepIn K (.ref f_qO)=true)
  (a_41:findIn K (.ref c_Two) "words" = some (some (.ref f_qP)))
  (i_41:isFn K (.ref f_qP)=true)
  (l_41:K.lookup f_qP=some ⟨oc41,od41,.func (fS "words" "Two.words" Ye kV41 dc41 pm41 an41 cd41 ct41),sl41⟩)
  (cc_41:codeIn K cd41 "Two.words" = true)
  (kk_41:keepIn K (.ref f_qP)=true)
  (a_42:findIn K (.ref c_Mod) "__init__" = some (some (.ref f_qQ)))
  (i_42:isFn K (.ref f_qQ)=true)
  (l_42:K.lookup f_qQ=some ⟨oc42,od42,.func (fS "__init__" "Mod.__init__" Yd kV42 dc42 pm42 an42 cd42 ct42),sl42⟩)
  (cc_42:codeIn K cd42 "Mod.__init__" = true)
  (kk_42:keepIn K (.ref f_qQ)=true)
  (a_43:findIn K (.ref c_Mod) "reckon" = some (some (.ref f_qR)))
  (i_43:isFn K (.ref f_qR)=true)
  (l_43:K.lookup f_qR=some ⟨oc43,od43,.func (fS "reckon" "Mod.reckon" Yc kV43 dc43 pm43 an43 cd43 ct43),sl43⟩)
  (cc_43:codeIn K cd43 "Mod.reckon" = true)
  (kk_43:keepIn K (.ref f_qR)=true)
  (a_44:findIn K (.ref c_Mod) "words" = some (some (.ref f_qS)))
  (i_44:isFn K (.ref f_qS)=true)
  (l_44:K.lookup f_qS=some ⟨oc44,od44,.func (fS "words" "Mod.words" Yb kV44 dc44 pm44 an44 cd44 ct44),sl44⟩)
  (cc_44:codeIn K cd44 "Mod.words" = true)
  (kk_44:keepIn K (.ref f_qS)=true)
  (a_45:findIn K (.ref c_Less) "__init__" = some (some (.ref f_qT)))
  (i_45:isFn K (.ref f_qT)=true)
  (l_45:K.lookup f_qT=some ⟨oc45,od45,.func (fS "__init__" "Less.__init__" Ya kV45 dc45 pm45 an45 cd45 ct45),sl45⟩)
  (cc_45:codeIn K cd45 "Less.__init__" = true)
  (kk_45:keepIn K (.ref f_qT)=true)
  (a_46:findIn K (.ref c_Less) "reckon" = some (some (.ref f_qU)))
  (i_46:isFn K (.ref f_qU)=true)
  (l_46:K.lookup f_qU=some ⟨oc46,od46,.func (fS "reckon" "Less.reckon" Z9 kV46 dc46 pm46 an46 cd46 ct46),sl46⟩)
  (cc_46:codeIn K cd46 "Less.reckon" = true)
  (kk_46:keepIn K (.ref f_qU)=true)
  (a_47:findIn K (.ref c_Less) "words" = some (some (.ref f_qV)))
  (i_47:isFn K (.ref f_qV)=true)
  (l_47:K.lookup f_qV=some ⟨oc47,od47,.func (fS "words" "Less.words" Z8 kV47 dc47 pm47 an47 cd47 ct47),sl47⟩)
  (cc_47:codeIn K cd47 "Less.words" = true)
  (kk_47:keepIn K (.ref f_qV)=true)
  (a_48:findIn K (.ref c_Program) "__init__" = some (some (.ref f_qW)))
  (i_48:isFn K (.ref f_qW)=true)
  (l_48:K.lookup f_qW=some ⟨oc48,od48,.func (fS "__init__" "Program.__init__" Z7 kV48 dc48 pm48 an48 cd48 ct48),sl48⟩)
  (cc_48:codeIn K cd48 "Program.__init__" = true)
  (kk_48:keepIn K (.ref f_qW)=true)
  (a_49:findIn K (.ref c_Program) "first_worth" = some (some (.ref f_qX)))
  (i_49:isFn K (.ref f_qX)=true)
  (l_49:K.lookup f_qX=some ⟨oc49,od49,.func (fS "first_worth" "Program.first_worth" uY kV49 dc49 pm49 an49 cd49 ct49),sl49⟩)
  (cc_49:codeIn K cd49 "Program.first_worth" = true)
  (kk_49:keepIn K (.ref f_qX)=true)
  (a_50:findIn K (.ref c_Program) "word_to" = some (some (.ref f_qY)))
  (i_50:isFn K (.ref f_qY)=true)
  (l_50:K.lookup f_qY=some ⟨oc50,od50,.func (fS "word_to" "Program.word_to" vS kV50 dc50 pm50 an50 cd50 ct50),sl50⟩)
  (cc_50:codeIn K cd50 "Program.word_to" = true)
  (kk_50:keepIn K (.ref f_qY)=true)
  (a_51:findIn K (.ref c_Program) "next_worth" = some (some (.ref f_qZ)))
  (i_51:isFn K (.ref f_qZ)=true)
  (l_51:K.lookup f_qZ=some ⟨oc51,od51,.func (fS "next_worth" "Program.next_worth" uX kV51 dc51 pm51 an51 cd51 ct51),sl51⟩)
  (cc_51:codeIn K cd51 "Program.next_worth" = true)
  (kk_51:keepIn K (.ref f_qZ)=true)
  (a_52:findIn K (.ref c_Web) "__init__" = some (some (.ref f_qa0)))
  (i_52:isFn K (.ref f_qa0)=true)
  (l_52:K.lookup f_qa0=some ⟨oc52,od52,.func (fS "__init__" "Web.__init__" vf kV52 dc52 pm52 an52 cd52 ct52),sl52⟩)
  (cc_52:codeIn K cd52 "Web.__init__" = true)
  (kk_52:keepIn K (.ref f_qa0)=true)
  (a_53:findIn K (.ref c_Web) "hands" = some (some (.ref f_qa1)))
  (i_53:isFn K (.ref f_qa1)=true)
  (l_53:K.lookup f_qa1=some ⟨oc53,od53,.func (fS "hands" "Web.hands" ve kV53 dc53 pm53 an53 cd53 ct53),sl53⟩)
  (cc_53:codeIn K cd53 "Web.hands" = true)
  (kk_53:keepIn K (.ref f_qa1)=true)
  (a_54:findIn K (.ref c_Web) "lines" = some (some (.ref f_qa2)))
  (i_54:isFn K (.ref f_qa2)=true)
  (l_54:K.lookup f_qa2=some ⟨oc54,od54,.func (fS "lines" "Web.lines" uw kV54 dc54 pm54 an54 cd54 ct54),sl54⟩)
  (cc_54:codeIn K cd54 "Web.lines" = true)
  (kk_54:keepIn K (.ref f_qa2)=true)
  (a_55:findIn K (.ref c_Web) "has_hand" = some (some (.ref f_qa3)))
  (i_55:isFn K (.ref f_qa3)=true)
  (l_55:K.lookup f_qa3=some ⟨oc55,od55,.func (fS "has_hand" "Web.has_hand" vd kV55 dc55 pm55 an55 cd55 ct55),sl55⟩)
  (cc_55:codeIn K cd55 "Web.has_hand" = true)
  (kk_55:keepIn K (.ref f_qa3)=true)
  (a_56:findIn K (.ref c_Web) "neighbours" = some (some (.ref f_qa4)))
  (i_56:isFn K (.ref f_qa4)=true)
  (l_56:K.lookup f_qa4=some ⟨oc56,od56,.func (fS "neighbours" "Web.neighbours" vc kV56 dc56 pm56 an56 cd56 ct56),sl56⟩)
  (cc_56:codeIn K cd56 "Web.neighbours" = true)
  (kk_56:keepIn K (.ref f_qa4)=true)
  (pg_Num:plainGet K c_Num Str.empty=true)
  (hd_Num:hasDictIn K c_Num=true)
  (po_Num:plainOver K c_Num=true)
  (sa_Num:findIn K (.ref c_Num) "__setattr__" = some (some (.builtin "object.__setattr__")))
  (mk_Num:makesIn K c_Num=true)
  (kc_Num:keepIn K (.ref c_Num)=true)
  (ha_Num:findIn K (.ref c_Num) "__class__" = some (some (.builtin "object.__class__")))
  (hm_Num:mroIn K c_Num (.type "object")=some true)
  (na_Num_value:findIn K (.ref c_Num) "value" = some none)
  (pg_Name:plainGet K c_Name Str.empty=true)
  (hd_Name:hasDictIn K c_Name=true)
  (po_Name:plainOver K c_Name=true)
  (sa_Name:findIn K (.ref c_Name) "__setattr__" = some (some (.builtin "object.__setattr__")))
  (mk_Name:makesIn K c_Name=true)
  (kc_Name:keepIn K (.ref c_Name)=true)
  (ha_Name:findIn K (.ref c_Name) "__class__" = some (some (.builtin "object.__class__")))
  (hm_Name:mroIn K c_Name (.type "object")=some true)
  (na_Name_word:findIn K (.ref c_Name) "word" = some none)
  (pg_Two:plainGet K c_Two Str.empty=true)
  (hd_Two:hasDictIn K c_Two=true)
  (po_Two:plainOver K c_Two=true)
  (sa_Two:findIn K (.ref c_Two) "__setattr__" = some (some (.builtin "object.__setattr__")))
  (mk_Two:makesIn K c_Two=true)
  (kc_Two:keepIn K (.ref c_Two)=true)
  (ha_Two:findIn K (.ref c_Two) "__class__" = some (some (.builtin "object.__class__")))
  (hm_Two:mroIn K c_Two (.type "object")=some true)
  (na_Two_word:findIn K (.ref c_Two) "word" = some none)
  (na_Two_one:findIn K (.ref c_Two) "one" = some none)
  (na_Two_other:findIn K (.ref c_Two) "other" = some none)
  (pg_Mod:plainGet K c_Mod Str.empty=true)
  (hd_Mod:hasDictIn K c_Mod=true)
  (po_Mod:plainOver K c_Mod=true)
  (sa_Mod:findIn K (.ref c_Mod) "__setattr__" = some (some (.builtin "object.__setattr__")))
  (mk_Mod:makesIn K c_Mod=true)
  (kc_Mod:keepIn K (.ref c_Mod)=true)
  (ha_Mod:findIn K (.ref c_Mod) "__class__" = some (some (.builtin "object.__class__")))
  (hm_Mod:mroIn K c_Mod (.type "object")=some true)
  (na_Mod_inner:findIn K (.ref c_Mod) "inner" = some none)
  (na_Mod_number:findIn K (.ref c_Mod) "number" = some none)
  (pg_Less:plainGet K c_Less Str.empty=true)
  (hd_Less:hasDictIn K c_Less=true)
  (po_Less:plainOver K c_Less=true)
  (sa_Less:findIn K (.ref c_Less) "__setattr__" = some (some (.builtin "object.__setattr__")))
  (mk_Less:makesIn K c_Less=true)
  (kc_Less:keepIn K (.ref c_Less)=true)
  (ha_Less:findIn K (.ref c_Less) "__class__" = some (some (.builtin "object.__class__")))
  (hm_Less:mroIn K c_Less (.type "object")=some true)
  (na_Less_one:findIn K (.ref c_Less) "one" = some none)
  (na_Less_other:findIn K (.ref c_Less) "other" = some none)
  (na_Less_third:findIn K (.ref c_Less) "third" = some none)
  (na_Less_fourth:findIn K (.ref c_Less) "fourth" = some none)
  (pg_Program:plainGet K c_Program Str.empty=true)
  (hd_Program:hasDictIn K c_Program=true)
  (po_Program:plainOver K c_Program=true)
  (sa_Program:findIn K (.ref c_Program) "__setattr__" = some (some (.builtin "object.__setattr__")))
  (mk_Program:makesIn K c_Program=true)
  (kc_Program:keepIn K (.ref c_Program)=true)
  (ha_Program:findIn K (.ref c_Program) "__class__" = some (some (.builtin "object.__class__")))
  (hm_Program:mroIn K c_Program (.type "object")=some true)
  (na_Program_start:findIn K (.ref c_Program) "start" = some none)
  (na_Program_send:findIn K (.ref c_Program) "send" = some none)
  (na_Program_when:findIn K (.ref c_Program) "when" = some none)
  (na_Program_renew:findIn K (.ref c_Program) "renew" = some none)
  (pg_Web:plainGet K c_Web Str.empty=true)
  (hd_Web:hasDictIn K c_Web=true)
  (po_Web:plainOver K c_Web=true)
  (sa_Web:findIn K (.ref c_Web) "__setattr__" = some (some (.builtin "object.__setattr__")))
  (mk_Web:makesIn K c_Web=true)
  (kc_Web:keepIn K (.ref c_Web)=true)
  (ha_Web:findIn K (.ref c_Web) "__class__" = some (some (.builtin "object.__class__")))
  (hm_Web:mroIn K c_Web (.type "object")=some true)
  (na_Web_own_hands:findIn K (.ref c_Web) "own_hands" = some none)
  (na_Web_own_lines:findIn K (.ref c_Web) "own_lines" = some none)
  (na_Web_near:findIn K (.ref c_Web) "near" = some none)
  (hn:specialIn K (.builtin "object.__class__") "__get__" = some (some (.builtin "getset_descriptor.__get__")))
  (htk:takesIn K (.builtin "object.__class__")=some true)
  (k_Num_Num:kitOne K (.ref c_Num) (.ref c_Num)=some true)
  (k_Name_Num:kitOne K (.ref c_Name) (.ref c_Num)=some false)
  (k_Name_Name:kitOne K (.ref c_Name) (.ref c_Name)=some true)
  (k_Two_Num:kitOne K (.ref c_Two) (.ref c_Num)=some false)
  (k_Two_Name:kitOne K (.ref c_Two) (.ref c_Name)=some false)
  (k_Two_Two:kitOne K (.ref c_Two) (.ref c_Two)=some true)
  (k_Mod_Num:kitOne K (.ref c_Mod) (.ref c_Num)=some false)
  (k_Mod_Name:kitOne K (.ref c_Mod) (.ref c_Name)=some false)
  (k_Mod_Two:kitOne K (.ref c_Mod) (.ref c_Two)=some false)
  (k_Mod_Mod:kitOne K (.ref c_Mod) (.ref c_Mod)=some true)
  (k_Less_Num:kitOne K (.ref c_Less) (.ref c_Num)=some false)
  (k_Less_Name:kitOne K (.ref c_Less) (.ref c_Name)=some false)
  (k_Less_Two:kitOne K (.ref c_Less) (.ref c_Two)=some false)
  (k_Less_Mod:kitOne K (.ref c_Less) (.ref c_Mod)=some false)
  (k_Less_Less:kitOne K (.ref c_Less) (.ref c_Less)=some true)
  (k_tint_tint:kitOne K (.type "int") (.type "int")=some true)
  (k_tint_tbool:kitOne K (.type "int") (.type "bool")=some false)
  (k_tstr_tstr:kitOne K (.type "str") (.type "str")=some true)
  (k_ttuple_ttuple:kitOne K (.type "tuple") (.type "tuple")=some true)
  (k_tint_ttuple:kitOne K (.type "int") (.type "tuple")=some false)
  (k_tstr_ttuple:kitOne K (.type "str") (.type "tuple")=some false)
  (k_tint_tstr:kitOne K (.type "int") (.type "str")=some false)
  (k_tstr_tint:kitOne K (.type "str") (.type "int")=some false)
  (k_tstr_tbool:kitOne K (.type "str") (.type "bool")=some false)
  (k_Program_Program:kitOne K (.ref c_Program) (.ref c_Program)=some true)
  (k_tNoneType_tbool:kitOne K (.type "NoneType") (.type "bool")=some false)
  (k_tlist_tlist:kitOne K (.type "list") (.type "list")=some true)
  (G_START_NAMES:nsIn K mainGlobals "START_NAMES" = some (some (.ref t_START_NAMES)))
  (L_START_NAMES:K.lookup t_START_NAMES=some ⟨.type "tuple",od_START_NAMES,.seq #[.str "me" u_START_NAMES0,.str "lines" u_START_NAMES1] n_START_NAMES,sl_START_NAMES⟩)
  (G_SEND_NAMES:nsIn K mainGlobals "SEND_NAMES" = some (some (.ref t_SEND_NAMES)))
  (L_SEND_NAMES:K.lookup t_SEND_NAMES=some ⟨.type "tuple",od_SEND_NAMES,.seq #[.str "worth" u_SEND_NAMES0,.str "me" u_SEND_NAMES1,.str "round" u_SEND_NAMES2,.str "lines" u_SEND_NAMES3,.str "to" u_SEND_NAMES4] n_SEND_NAMES,sl_SEND_NAMES⟩)
  (G_RENEW_NAMES:nsIn K mainGlobals "RENEW_NAMES" = some (some (.ref t_RENEW_NAMES)))
  (L_RENEW_NAMES:K.lookup t_RENEW_NAMES=some ⟨.type "tuple",od_RENEW_NAMES,.seq #[.str "worth" u_RENEW_NAMES0,.str "me" u_RENEW_NAMES1,.str "round" u_RENEW_NAMES2,.str "lines" u_RENEW_NAMES3,.str "sum" u_RENEW_NAMES4,.str "least" u_RENEW_NAMES5,.str "most" u_RENEW_NAMES6,.str "count" u_RENEW_NAMES7] n_RENEW_NAMES,sl_RENEW_NAMES⟩)
  (G_TWO_WORDS:nsIn K mainGlobals "TWO_WORDS" = some (some (.ref t_TWO_WORDS)))
  (L_TWO_WORDS:K.lookup t_TWO_WORDS=some ⟨.type "tuple",od_TWO_WORDS,.seq #[.str "add" u_TWO_WORDS0,.str "sub" u_TWO_WORDS1,.str "min" u_TWO_WORDS2,.str "max" u_TWO_WORDS3] n_TWO_WORDS,sl_TWO_WORDS⟩)
  (G_MOST_WORDS:nsIn K mainGlobals "MOST_WORDS" = some (some (.int 60 t_MOST_WORDS)))
  (G_MOST_DEEP:nsIn K mainGlobals "MOST_DEEP" = some (some (.int 8 t_MOST_DEEP)))
  (G_MOST_HANDS:nsIn K mainGlobals "MOST_HANDS" = some (some (.int 12 t_MOST_HANDS)))
  (G_LAST_HAND:nsIn K mainGlobals "LAST_HAND" = some (some (.int 99 t_LAST_HAND))) :
  ∃ a:Ad,Txt w K mg a:=by
 have F0:=zq (st:=Z6) l_0 cc_0 kk_0
 have F1:=zq (st:=Z5) l_1 cc_1 kk_1
 have F2:=zq (st:=Z4) l_2 cc_2 kk_2
 have F3:=zq (st:=Z3) l_3 cc_3 kk_3
 have F4:=zq (st:=Z2) l_4 cc_4 kk_4
 have F5:=zq (st:=Z1) l_5 cc_5 kk_5
 have F6:=zq (st:=Z0) l_6 cc_6 kk_6
 have F7:=zq (st:=ZZ) l_7 cc_7 kk_7
 have F8:=zq (st:=ZY) l_8 cc_8 kk_8
 have F9:=zq (st:=ZX) l_9 cc_9 kk_9
 have F10:=zq (st:=ZW) l_10 cc_10 kk_10
 have F11:=zq (st:=ZV) l_11 cc_11 kk_11
 have F12:=zq (st:=ZU) l_12 cc_12 kk_12
 have F13:=zq (st:=ZT) l_13 cc_13 kk_13
 have F14:=zq (st:=uW) l_14 cc_14 kk_14
 have F15:=zq (st:=ZS) l_15 cc_15 kk_15
 have F16:=zq (st:=ZR) l_16 cc_16 kk_16
 have F17:=zq (st:=ZQ) l_17 cc_17 kk_17
 have F18:=zq (st:=ZP) l_18 cc_18 kk_18
 have F19:=zq (st:=ZO) l_19 cc_19 kk_19
 have F20:=zq (st:=ZN) l_20 cc_20 kk_20
 have F21:=zq (st:=uV) l_21 cc_21 kk_21
 have F22:=zq (st:=ZM) l_22 cc_22 kk_22
 have F23:=zq (st:=ZL) l_23 cc_23 kk_23
 have F24:=zq (st:=ZK) l_24 cc_24 kk_24
 have F25:=zq (st:=ZJ) l_25 cc_25 kk_25
 have F26:=zq (st:=Yr) l_26 cc_26 kk_26
 have F27:=zq (st:=Yq) l_27 cc_27 kk_27
 have F28:=zq (st:=Yp) l_28 cc_28 kk_28
 have F29:=zq (st:=Yo) l_29 cc_29 kk_29
 have F30:=zq (st:=Yn) l_30 cc_30 kk_30
 have F31:=zq (st:=u0) l_31 cc_31 kk_31
 have F32:=zq (st:=uZ) l_32 cc_32 kk_32
 have F33:=zq (st:=Ym) l_33 cc_33 kk_33
 have F34:=zq (st:=Yl) l_34 cc_34 kk_34
 have F35:=zq (st:=Yk) l_35 cc_35 kk_35
 have F36:=zq (st:=Yj) l_36 cc_36 kk_36
 have F37:=zq (st:=Yi) l_37 cc_37 kk_37
 have F38:=zq (st:=Yh) l_38 cc_38 kk_38
 have F39:=zq (st:=Yg) l_39 cc_39 kk_39
 have F40:=zq (st:=Yf) l_40 cc_40 kk_40
 have F41:=zq (st:=Ye) l_41 cc_41 kk_41
 have F42:=zq (st:=Yd) l_42 cc_42 kk_42
 have F43:=zq (st:=Yc) l_43 cc_43 kk_43
 have F44:=zq (st:=Yb) l_44 cc_44 kk_44
 have F45:=zq (st:=Ya) l_45 cc_45 kk_45
 have F46:=zq (st:=Z9) l_46 cc_46 kk_46
 have F47:=zq (st:=Z8) l_47 cc_47 kk_47
 have F48:=zq (st:=Z7) l_48 cc_48 kk_48
 have F49:=zq (st:=uY) l_49 cc_49 kk_49
 have F50:=zq (st:=vS) l_50 cc_50 kk_50
 have F51:=zq (st:=uX) l_51 cc_51 kk_51
 have F52:=zq (st:=vf) l_52 cc_52 kk_52
 have F53:=zq (st:=ve) l_53 cc_53 kk_53
 have F54:=zq (st:=uw) l_54 cc_54 kk_54
 have F55:=zq (st:=vd) l_55 cc_55 kk_55
 have F56:=zq (st:=vc) l_56 cc_56 kk_56
 refine⟨⟨f_qa,fS "first_worths" "first_worths" Z6 kV0 dc0 pm0 an0 cd0 ct0,f_qb,fS "heard_in" "heard_in" Z5 kV1 dc1 pm1 an1 cd1 ct1,f_qc,fS "worths_behind" "worths_behind" Z4 kV2 dc2 pm2 an2 cd2 ct2,f_qd,fS "run_pieces" "run_pieces" Z3 kV3 dc3 pm3 an3 cd3 ct3,f_qe,fS "worths_by_pieces" "worths_by_pieces" Z2 kV4 dc4 pm4 an4 cd4 ct4,f_qf,fS "heard_by_pieces" "heard_by_pieces" Z1 kV5 dc5 pm5 an5 cd5 ct5,f_qg,fS "plain_worths" "plain_worths" Z0 kV6 dc6 pm6 an6 cd6 ct6,f_qh,fS "plain_heard" "plain_heard" ZZ kV7 dc7 pm7 an7 cd7 ct7,f_qi,fS "is_whole" "is_whole" ZY kV8 dc8 pm8 an8 cd8 ct8,f_qj,fS "is_short_number" "is_short_number" ZX kV9 dc9 pm9 an9 cd9 ct9,f_qk,fS "is_word_of" "is_word_of" ZW kV10 dc10 pm10 an10 cd10 ct10,f_ql,fS "is_divisor" "is_divisor" ZV kV11 dc11 pm11 an11 cd11 ct11,f_qm,fS "are_sound" "are_sound" ZU kV12 dc12 pm12 an12 cd12 ct12,f_qn,fS "is_sound" "is_sound" ZT kV13 dc13 pm13 an13 cd13 ct13,f_qo,fS "count_words" "count_words" uW kV14 dc14 pm14 an14 cd14 ct14,f_qp,fS "are_hands" "are_hands" ZS kV15 dc15 pm15 an15 cd15 ct15,f_qq,fS "is_line" "is_line" ZR kV16 dc16 pm16 an16 cd16 ct16,f_qr,fS "are_lines" "are_lines" ZQ kV17 dc17 pm17 an17 cd17 ct17,f_qs,fS "near_by_hand" "near_by_hand" ZP kV18 dc18 pm18 an18 cd18 ct18,f_qt,fS "_law_cell_at" "_law_cell_at" ZO kV19 dc19 pm19 an19 cd19 ct19,f_qu,fS "_law_draws" "_law_draws" ZN kV20 dc20 pm20 an20 cd20 ct20,f_qv,fS "_law_take" "_law_take" uV kV21 dc21 pm21 an21 cd21 ct21,f_qw,fS "_law_hands" "_law_hands" ZM kV22 dc22 pm22 an22 cd22 ct22,f_qx,fS "_law_lines" "_law_lines" ZL kV23 dc23 pm23 an23 cd23 ct23,f_qy,fS "_law_near" "_law_near" ZK kV24 dc24 pm24 an24 cd24 ct24,f_qz,fS "_law_expr" "_law_expr" ZJ kV25 dc25 pm25 an25 cd25 ct25,f_qA,fS "_law_program" "_law_program" Yr kV26 dc26 pm26 an26 cd26 ct26,f_qB,fS "_law_heard_names" "_law_heard_names" Yq kV27 dc27 pm27 an27 cd27 ct27,f_qC,fS "_law_made" "_law_made" Yp kV28 dc28 pm28 an28 cd28 ct28,f_qD,fS "_law_program_made" "_law_program_made" Yo kV29 dc29 pm29 an29 cd29 ct29,f_qE,fS "_law_rounds" "_law_rounds" Yn kV30 dc30 pm30 an30 cd30 ct30,f_qF,fS "_law_far" "_law_far" u0 kV31 dc31 pm31 an31 cd31 ct31,f_qG,fS "law" "law" uZ kV32 dc32 pm32 an32 cd32 ct32,f_qH,fS "__init__" "Num.__init__" Ym kV33 dc33 pm33 an33 cd33 ct33,f_qI,fS "reckon" "Num.reckon" Yl kV34 dc34 pm34 an34 cd34 ct34,f_qJ,fS "words" "Num.words" Yk kV35 dc35 pm35 an35 cd35 ct35,f_qK,fS "__init__" "Name.__init__" Yj kV36 dc36 pm36 an36 cd36 ct36,f_qL,fS "reckon" "Name.reckon" Yi kV37 dc37 pm37 an37 cd37 ct37,f_qM,fS "words" "Name.words" Yh kV38 dc38 pm38 an38 cd38 ct38,f_qN,fS "__init__" "Two.__init__" Yg kV39 dc39 pm39 an39 cd39 ct39,f_qO,fS "reckon" "Two.reckon" Yf kV40 dc40 pm40 an40 cd40 ct40,f_qP,fS "words" "Two.words" Ye kV41 dc41 pm41 an41 cd41 ct41,f_qQ,fS "__init__" "Mod.__init__" Yd kV42 dc42 pm42 an42 cd42 ct42,f_qR,fS "reckon" "Mod.reckon" Yc kV43 dc43 pm43 an43 cd43 ct43,f_qS,fS "words" "Mod.words" Yb kV44 dc44 pm44 an44 cd44 ct44,f_qT,fS "__init__" "Less.__init__" Ya kV45 dc45 pm45 an45 cd45 ct45,f_qU,fS "reckon" "Less.reckon" Z9 kV46 dc46 pm46 an46 cd46 ct46,f_qV,fS "words" "Less.words" Z8 kV47 dc47 pm47 an47 cd47 ct47,f_qW,fS "__init__" "Program.__init__" Z7 kV48 dc48 pm48 an48 cd48 ct48,f_qX,fS "first_worth" "Program.first_worth" uY kV49 dc49 pm49 an49 cd49 ct49,f_qY,fS "word_to" "Program.word_to" vS kV50 dc50 pm50 an50 cd50 ct50,f_qZ,fS "next_worth" "Program.next_worth" uX kV51 dc51 pm51 an51 cd51 ct51,f_qa0,fS "__init__" "Web.__init__" vf kV52 dc52 pm52 an52 cd52 ct52,f_qa1,fS "hands" "Web.hands" ve kV53 dc53 pm53 an53 cd53 ct53,f_qa2,fS "lines" "Web.lines" uw kV54 dc54 pm54 an54 cd54 ct54,f_qa3,fS "has_hand" "Web.has_hand" vd kV55 dc55 pm55 an55 cd55 ct55,f_qa4,fS "neighbours" "Web.neighbours" vc kV56 dc56 pm56 an56 cd56 ct56,c_Num,c_Name,c_Two,c_Mod,c_Less,c_Program,c_Web,t_START_NAMES,t_SEND_NAMES,t_RENEW_NAMES,t_TWO_WORDS,t_MOST_WORDS,t_MOST_DEEP,t_MOST_HANDS,t_LAST_HAND⟩,?_⟩
 exact⟨mg_none_of X G z_len,
  mg_none_of X G z_int,
  mg_none_of X G z_min,
  mg_none_of X G z_max,
  mg_none_of X G z_range,
  mg_none_of X G z_isinstance,
  mg_none_of X G z_list,
  mg_none_of X G z_dict,
  mg_none_of X G z_abs,
  mg_none_of X G z_sorted,
  mg_none_of X G z_str,
  mg_none_of X G z_sum,
  mg_none_of X G z_bool,
  mg_none_of X G z_tuple,
  mg_none_of X G z_ValueError,
  F0,
  F0.binds (ps:=["web", "program"]) fun _ _ _ _ _ _ us hl=>match us,hl with | [_,_],_=>rfl,
  mg_of X G a_0,
  F1,
  F1.binds (ps:=["web", "program", "worths", "turn"]) fun _ _ _ _ _ _ us hl=>match us,hl with | [_,_,_,_],_=>rfl,
  mg_of X G a_1,
  F2,
  F2.binds (ps:=["web", "program", "worths", "turn", "heard"]) fun _ _ _ _ _ _ us hl=>match us,hl with | [_,_,_,_,_],_=>rfl,
  mg_of X G a_2,
  F3,
  F3.binds (ps:=["pieces", "program"]) fun _ _ _ _ _ _ us hl=>match us,hl with | [_,_],_=>rfl,
  mg_of X G a_3,
  F4,
  F4.binds (ps:=["pieces", "program"]) fun _ _ _ _ _ _ us hl=>match us,hl with | [_,_],_=>rfl,
  mg_of X G a_4,
  F5,
  F5.binds (ps:=["pieces", "program"]) fun _ _ _ _ _ _ us hl=>match us,hl with | [_,_],_=>rfl,
  mg_of X G a_5,
  F6,
  F6.binds (ps:=["web", "program", "rounds"]) fun _ _ _ _ _ _ us hl=>match us,hl with | [_,_,_],_=>rfl,
  mg_of X G a_6,
  F7,
  F7.binds (ps:=["web", "program", "rounds"]) fun _ _ _ _ _ _ us hl=>match us,hl with | [_,_,_],_=>rfl,
  mg_of X G a_7,
  F8,
  F8.binds (ps:=["value"]) fun _ _ _ _ _ _ us hl=>match us,hl with | [_],_=>rfl,
  mg_of X G a_8,
  F9,
  F9.binds (ps:=["value"]) fun _ _ _ _ _ _ us hl=>match us,hl with | [_],_=>rfl,
  mg_of X G a_9,
  F10,
  F10.binds (ps:=["word", "words"]) fun _ _ _ _ _ _ us hl=>match us,hl with | [_,_],_=>rfl,
  mg_of X G a_10,
  F11,
  F11.binds (ps:=["number"]) fun _ _ _ _ _ _ us hl=>match us,hl with | [_],_=>rfl,
  mg_of X G a_11,
  F12,
  F12.binds (ps:=["parts", "names", "deep"]) fun _ _ _ _ _ _ us hl=>match us,hl with | [_,_,_],_=>rfl,
  mg_of X G a_12,
  F13,
  F13.binds (ps:=["expr", "names", "deep"]) fun _ _ _ _ _ _ us hl=>match us,hl with | [_,_,_],_=>rfl,
  mg_of X G a_13,
  F14,
  F14.binds (ps:=["exprs"]) fun _ _ _ _ _ _ us hl=>match us,hl with | [_],_=>rfl,
  mg_of X G a_14,
  F15,
  F15.binds (ps:=["hands"]) fun _ _ _ _ _ _ us hl=>match us,hl with | [_],_=>rfl,
  mg_of X G a_15,
  F16,
  F16.binds (ps:=["line", "hands"]) fun _ _ _ _ _ _ us hl=>match us,hl with | [_,_],_=>rfl,
  mg_of X G a_16,
  F17,
  F17.binds (ps:=["lines", "hands"]) fun _ _ _ _ _ _ us hl=>match us,hl with | [_,_],_=>rfl,
  mg_of X G a_17,
  F18,
  F18.binds (ps:=["hands", "lines"]) fun _ _ _ _ _ _ us hl=>match us,hl with | [_,_],_=>rfl,
  mg_of X G a_18,
  F19,
  F19.binds (ps:=["_law_script", "_law_k"]) fun _ _ _ _ _ _ us hl=>match us,hl with | [_,_],_=>rfl,
  mg_of X G a_19,
  F20,
  F20.binds (ps:=["_law_cell", "_law_many"]) fun _ _ _ _ _ _ us hl=>match us,hl with | [_,_],_=>rfl,
  mg_of X G a_20,
  F21,
  F21.binds (ps:=["_law_xs", "_law_size"]) fun _ _ _ _ _ _ us hl=>match us,hl with | [_,_],_=>rfl,
  mg_of X G a_21,
  F22,
  F22.binds (ps:=["_law_xs", "_law_most"]) fun _ _ _ _ _ _ us hl=>match us,hl with | [_,_],_=>rfl,
  mg_of X G a_22,
  F23,
  F23.binds (ps:=["_law_xs", "_law_hands_here"]) fun _ _ _ _ _ _ us hl=>match us,hl with | [_,_],_=>rfl,
  mg_of X G a_23,
  F24,
  F24.binds (ps:=["_law_lines_here", "_law_hand"]) fun _ _ _ _ _ _ us hl=>match us,hl with | [_,_],_=>rfl,
  mg_of X G a_24,
  F25,
  F25.binds (ps:=["_law_xs", "_law_names", "_law_deep"]) fun _ _ _ _ _ _ us hl=>match us,hl with | [_,_,_],_=>rfl,
  mg_of X G a_25,
  F26,
  F26.binds (ps:=["_law_cell"]) fun _ _ _ _ _ _ us hl=>match us,hl with | [_],_=>rfl,
  mg_of X G a_26,
  F27,
  F27.binds (ps:=[]) fun _ _ _ _ _ _ us hl=>match us,hl with | [],_=>rfl,
  mg_of X G a_27,
  F28,
  F28.binds (ps:=["_law_told"]) fun _ _ _ _ _ _ us hl=>match us,hl with | [_],_=>rfl,
  mg_of X G a_28,
  F29,
  F29.binds (ps:=["_law_program_here"]) fun _ _ _ _ _ _ us hl=>match us,hl with | [_],_=>rfl,
  mg_of X G a_29,
  F30,
  F30.binds (ps:=["_law_cell", "_law_hands_here"]) fun _ _ _ _ _ _ us hl=>match us,hl with | [_,_],_=>rfl,
  mg_of X G a_30,
  F31,
  F31.binds (ps:=["_law_lines_here", "_law_begins"]) fun _ _ _ _ _ _ us hl=>match us,hl with | [_,_],_=>rfl,
  mg_of X G a_31,
  F32,
  F32.binds (ps:=["_law_script"]) fun _ _ _ _ _ _ us hl=>match us,hl with | [_],_=>rfl,
  fun s v=>.of_eq rfl,
  mg_of X G a_32,
  F33,
  F33.binds (ps:=["self", "value"]) fun _ _ _ _ _ _ us hl=>match us,hl with | [_,_],_=>rfl,
  F34,
  F34.binds (ps:=["self", "worths"]) fun _ _ _ _ _ _ us hl=>match us,hl with | [_,_],_=>rfl,
  ⟨a_34,i_34,kk_34⟩,
  F35,
  F35.binds (ps:=["self"]) fun _ _ _ _ _ _ us hl=>match us,hl with | [_],_=>rfl,
  ⟨a_35,i_35,kk_35⟩,
  F36,
  F36.binds (ps:=["self", "word"]) fun _ _ _ _ _ _ us hl=>match us,hl with | [_,_],_=>rfl,
  F37,
  F37.binds (ps:=["self", "worths"]) fun _ _ _ _ _ _ us hl=>match us,hl with | [_,_],_=>rfl,
  ⟨a_37,i_37,kk_37⟩,
  F38,
  F38.binds (ps:=["self"]) fun _ _ _ _ _ _ us hl=>match us,hl with | [_],_=>rfl,
  ⟨a_38,i_38,kk_38⟩,
  F39,
  F39.binds (ps:=["self", "word", "one", "other"]) fun _ _ _ _ _ _ us hl=>match us,hl with | [_,_,_,_],_=>rfl,
  F40,
  F40.binds (ps:=["self", "worths"]) fun _ _ _ _ _ _ us hl=>match us,hl with | [_,_],_=>rfl,
  ⟨a_40,i_40,kk_40⟩,
  F41,
  F41.binds (ps:=["self"]) fun _ _ _ _ _ _ us hl=>match us,hl with | [_],_=>rfl,
  ⟨a_41,i_41,kk_41⟩,
  F42,
  F42.binds (ps:=["self", "inner", "number"]) fun _ _ _ _ _ _ us hl=>match us,hl with | [_,_,_],_=>rfl,
  F43,
  F43.binds (ps:=["self", "worths"]) fun _ _ _ _ _ _ us hl=>match us,hl with | [_,_],_=>rfl,
  ⟨a_43,i_43,kk_43⟩,
  F44,
  F44.binds (ps:=["self"]) fun _ _ _ _ _ _ us hl=>match us,hl with | [_],_=>rfl,
  ⟨a_44,i_44,kk_44⟩,
  F45,
  F45.binds (ps:=["self", "one", "other", "third", "fourth"]) fun _ _ _ _ _ _ us hl=>match us,hl with | [_,_,_,_,_],_=>rfl,
  F46,
  F46.binds (ps:=["self", "worths"]) fun _ _ _ _ _ _ us hl=>match us,hl with | [_,_],_=>rfl,
  ⟨a_46,i_46,kk_46⟩,
  F47,
  F47.binds (ps:=["self"]) fun _ _ _ _ _ _ us hl=>match us,hl with | [_],_=>rfl,
  ⟨a_47,i_47,kk_47⟩,
  F48,
  F48.binds (ps:=["self", "start", "send", "when", "renew"]) fun _ _ _ _ _ _ us hl=>match us,hl with | [_,_,_,_,_],_=>rfl,
  F49,
  F49.binds (ps:=["self", "hand", "lines"]) fun _ _ _ _ _ _ us hl=>match us,hl with | [_,_,_],_=>rfl,
  ⟨a_49,i_49,kk_49⟩,
  F50,
  F50.binds (ps:=["self", "worth", "hand", "turn", "lines", "other"]) fun _ _ _ _ _ _ us hl=>match us,hl with | [_,_,_,_,_,_],_=>rfl,
  ⟨a_50,i_50,kk_50⟩,
  F51,
  F51.binds (ps:=["self", "worth", "hand", "turn", "lines", "heard"]) fun _ _ _ _ _ _ us hl=>match us,hl with | [_,_,_,_,_,_],_=>rfl,
  ⟨a_51,i_51,kk_51⟩,
  F52,
  F52.binds (ps:=["self", "hands", "lines"]) fun _ _ _ _ _ _ us hl=>match us,hl with | [_,_,_],_=>rfl,
  F53,
  F53.binds (ps:=["self"]) fun _ _ _ _ _ _ us hl=>match us,hl with | [_],_=>rfl,
  ⟨a_53,i_53,kk_53⟩,
  F54,
  F54.binds (ps:=["self"]) fun _ _ _ _ _ _ us hl=>match us,hl with | [_],_=>rfl,
  ⟨a_54,i_54,kk_54⟩,
  F55,
  F55.binds (ps:=["self", "hand"]) fun _ _ _ _ _ _ us hl=>match us,hl with | [_,_],_=>rfl,
  ⟨a_55,i_55,kk_55⟩,
  F56,
  F56.binds (ps:=["self", "hand"]) fun _ _ _ _ _ _ us hl=>match us,hl with | [_,_],_=>rfl,
  ⟨a_56,i_56,kk_56⟩,
  mg_of X G A_Num,
  ⟨pg_Num,hd_Num,po_Num,sa_Num⟩,
  ⟨mk_Num,a_33,i_33,kc_Num⟩,
  fun H p dx fs e=>.ins e ⟨pg_Num,hd_Num,po_Num,sa_Num⟩ ha_Num hn htk hm_Num,
  na_Num_value,
  mg_of X G A_Name,
  ⟨pg_Name,hd_Name,po_Name,sa_Name⟩,
  ⟨mk_Name,a_36,i_36,kc_Name⟩,
  fun H p dx fs e=>.ins e ⟨pg_Name,hd_Name,po_Name,sa_Name⟩ ha_Name hn htk hm_Name,
  na_Name_word,
  mg_of X G A_Two,
  ⟨pg_Two,hd_Two,po_Two,sa_Two⟩,
  ⟨mk_Two,a_39,i_39,kc_Two⟩,
  fun H p dx fs e=>.ins e ⟨pg_Two,hd_Two,po_Two,sa_Two⟩ ha_Two hn htk hm_Two,
  na_Two_word,
  na_Two_one,
  na_Two_other,
  mg_of X G A_Mod,
  ⟨pg_Mod,hd_Mod,po_Mod,sa_Mod⟩,
  ⟨mk_Mod,a_42,i_42,kc_Mod⟩,
  fun H p dx fs e=>.ins e ⟨pg_Mod,hd_Mod,po_Mod,sa_Mod⟩ ha_Mod hn htk hm_Mod,
  na_Mod_inner,
  na_Mod_number,
  mg_of X G A_Less,
  ⟨pg_Less,hd_Less,po_Less,sa_Less⟩,
  ⟨mk_Less,a_45,i_45,kc_Less⟩,
  fun H p dx fs e=>.ins e ⟨pg_Less,hd_Less,po_Less,sa_Less⟩ ha_Less hn htk hm_Less,
  na_Less_one,
  na_Less_other,
  na_Less_third,
  na_Less_fourth,
  mg_of X G A_Program,
  ⟨pg_Program,hd_Program,po_Program,sa_Program⟩,
  ⟨mk_Program,a_48,i_48,kc_Program⟩,
  fun H p dx fs e=>.ins e ⟨pg_Program,hd_Program,po_Program,sa_Program⟩ ha_Program hn htk hm_Program,
  na_Program_start,
  na_Program_send,
  na_Program_when,
  na_Program_renew,
  mg_of X G A_Web,
  ⟨pg_Web,hd_Web,po_Web,sa_Web⟩,
  ⟨mk_Web,a_52,i_52,kc_Web⟩,
  fun H p dx fs e=>.ins e ⟨pg_Web,hd_Web,po_Web,sa_Web⟩ ha_Web hn htk hm_Web,
  na_Web_own_hands,
  na_Web_own_lines,
  na_Web_near,
  k_Num_Num,
  k_Name_Num,
  k_Name_Name,
  k_Two_Num,
  k_Two_Name,
  k_Two_Two,
  k_Mod_Num,
  k_Mod_Name,
  k_Mod_Two,
  k_Mod_Mod,
  k_Less_Num,
  k_Less_Name,
  k_Less_Two,
  k_Less_Mod,
  k_Less_Less,
  k_tint_tint,
  k_tint_tbool,
  k_tstr_tstr,
  k_ttuple_ttuple,
  k_tint_ttuple,
  k_tstr_ttuple,
  k_tint_tstr,
  k_tstr_tint,
  k_tstr_tbool,
  k_Program_Program,
  k_tNoneType_tbool,
  k_tlist_tlist,
  mg_of X G G_START_NAMES,
  fun H=>.inr ⟨_,_,_,L_START_NAMES,rfl,rfl,by show 2≤sizeLine;decide,by exact .cons ⟨_,rfl⟩ (.cons ⟨_,rfl⟩ (.nil))⟩,
  mg_of X G G_SEND_NAMES,
  fun H=>.inr ⟨_,_,_,L_SEND_NAMES,rfl,rfl,by show 5≤sizeLine;decide,by exact .cons ⟨_,rfl⟩ (.cons ⟨_,rfl⟩ (.cons ⟨_,rfl⟩ (.cons ⟨_,rfl⟩ (.cons ⟨_,rfl⟩ (.nil)))))⟩,
  mg_of X G G_RENEW_NAMES,
  fun H=>.inr ⟨_,_,_,L_RENEW_NAMES,rfl,rfl,by show 8≤sizeLine;decide,by exact .cons ⟨_,rfl⟩ (.cons ⟨_,rfl⟩ (.cons ⟨_,rfl⟩ (.cons ⟨_,rfl⟩ (.cons ⟨_,rfl⟩ (.cons ⟨_,rfl⟩ (.cons ⟨_,rfl⟩ (.cons ⟨_,rfl⟩ (.nil))))))))⟩,
  mg_of X G G_TWO_WORDS,
  fun H=>.inr ⟨_,_,_,L_TWO_WORDS,rfl,rfl,by show 4≤sizeLine;decide,by exact .cons ⟨_,rfl⟩ (.cons ⟨_,rfl⟩ (.cons ⟨_,rfl⟩ (.cons ⟨_,rfl⟩ (.nil))))⟩,
  mg_of X G G_MOST_WORDS,
  mg_of X G G_MOST_DEEP,
  mg_of X G G_MOST_HANDS,
  mg_of X G G_LAST_HAND⟩
end K04
open PySem PySem.W PyProof.Rows
set_option maxRecDepth 100000 in
set_option maxHeartbeats 0 in
theorem PySem.Challenge.cw_beatless_k25_whole_no_word_goes_faster_holds : PySem.Challenge.rw_beatless_k25_whole_no_word_goes_faster.Holds := by
 w_on;o_law
 refine holds_open (XP:=XL Hd.Q []) (YP:=(kHook Hd.K Hd.as Hd.asK).says) Hd.left Hd.hk.of Hd.hk.keeps
  (fun s z=>xl_of s (Hd.both z).1) XL.keeps (by rfl) (by rfl) (by rfl)
  (fun s z=>recFacts_of (Hd.both z).2) (by rfl) (by assumption) (by decide +kernel)
  ⟨rfl,rfl,rfl,rfl,rfl,by decide +kernel⟩ ?hw ?hc
 case hw=>w_witness2
 k_fill
 refine L2.walk_ofK (l:=PySem.Challenge.rw_beatless_k25_whole_no_word_goes_faster) (n:=63) (k:=26) (x := "_law_script") (CX:=L2.CX0) (sp:=K04.spLaw) rfl (by decide) rfl ⟨rfl,by decide,by decide⟩ (fun w h Y=>PySem.W.kIn_of Y) ?F ?S ?C
 case F =>
  intro w mg fa h KX G hmg
  have T:∃ a,K04.Txt w (L2.KOf KX) mg a:=by
   dsimp only[L2.KOf]
   refine' K04.txt_mk KX G ?z_len ?z_int ?z_min ?z_max ?z_range ?z_isinstance ?z_list ?z_dict ?z_abs ?z_sorted ?z_str ?z_sum ?z_bool ?z_tuple ?z_ValueError ?A_Num ?A_Name ?A_Two ?A_Mod ?A_Less ?A_Program ?A_Web ?a_0 ?l_0 ?cc_0 ?kk_0 ?a_1 ?l_1 ?cc_1 ?kk_1 ?a_2 ?l_2 ?cc_2 ?kk_2 ?a_3 ?l_3 ?cc_3 ?kk_3 ?a_4 ?l_4 ?cc_4 ?kk_4 ?a_5 ?l_5 ?cc_5 ?kk_5 ?a_6 ?l_6 ?cc_6 ?kk_6 ?a_7 ?l_7 ?cc_7 ?kk_7 ?a_8 ?l_8 ?cc_8 ?kk_8 ?a_9 ?l_9 ?cc_9 ?kk_9 ?a_10 ?l_10 ?cc_10 ?kk_10 ?a_11 ?l_11 ?cc_11 ?kk_11 ?a_12 ?l_12 ?cc_12 ?kk_12 ?a_13 ?l_13 ?cc_13 ?kk_13 ?a_14 ?l_14 ?cc_14 ?kk_14 ?a_15 ?l_15 ?cc_15 ?kk_15 ?a_16 ?l_16 ?cc_16 ?kk_16 ?a_17 ?l_17 ?cc_17 ?kk_17 ?a_18 ?l_18 ?cc_18 ?kk_18 ?a_19 ?l_19 ?cc_19 ?kk_19 ?a_20 ?l_20 ?cc_20 ?kk_20 ?a_21 ?l_21 ?cc_21 ?kk_21 ?a_22 ?l_22 ?cc_22 ?kk_22 ?a_23 ?l_23 ?cc_23 ?kk_23 ?a_24 ?l_24 ?cc_24 ?kk_24 ?a_25 ?l_25 ?cc_25 ?kk_25 ?a_26 ?l_26 ?cc_26 ?kk_26 ?a_27 ?l_27 ?cc_27 ?kk_27 ?a_28 ?l_28 ?cc_28 ?kk_28 ?a_29 ?l_29 ?cc_29 ?kk_29 ?a_30 ?l_30 ?cc_30 ?kk_30 ?a_31 ?l_31 ?cc_31 ?kk_31 ?a_32 ?l_32 ?cc_32 ?kk_32 ?a_33 ?i_33 ?l_33 ?cc_33 ?kk_33 ?a_34 ?i_34 ?l_34 ?cc_34 ?kk_34 ?a_35 ?i_35 ?l_35 ?cc_35 ?kk_35 ?a_36 ?i_36 ?l_36 ?cc_36 ?kk_36 ?a_37 ?i_37 ?l_37 ?cc_37 ?kk_37 ?a_38 ?i_38 ?l_38 ?cc_38 ?kk_38 ?a_39 ?i_39 ?l_39 ?cc_39 ?kk_39 ?a_40 ?i_40 ?l_40 ?cc_40 ?kk_40 ?a_41 ?i_41 ?l_41 ?cc_41 ?kk_41 ?a_42 ?i_42 ?l_42 ?cc_42 ?kk_42 ?a_43 ?i_43 ?l_43 ?cc_43 ?kk_43 ?a_44 ?i_44 ?l_44 ?cc_44 ?kk_44 ?a_45 ?i_45 ?l_45 ?cc_45 ?kk_45 ?a_46 ?i_46 ?l_46 ?cc_46 ?kk_46 ?a_47 ?i_47 ?l_47 ?cc_47 ?kk_47 ?a_48 ?i_48 ?l_48 ?cc_48 ?kk_48 ?a_49 ?i_49 ?l_49 ?cc_49 ?kk_49 ?a_50 ?i_50 ?l_50 ?cc_50 ?kk_50 ?a_51 ?i_51 ?l_51 ?cc_51 ?kk_51 ?a_52 ?i_52 ?l_52 ?cc_52 ?kk_52 ?a_53 ?i_53 ?l_53 ?cc_53 ?kk_53 ?a_54 ?i_54 ?l_54 ?cc_54 ?kk_54 ?a_55 ?i_55 ?l_55 ?cc_55 ?kk_55 ?a_56 ?i_56 ?l_56 ?cc_56 ?kk_56 ?pg_Num ?hd_Num ?po_Num ?sa_Num ?mk_Num ?kc_Num ?ha_Num ?hm_Num ?na_Num_value ?pg_Name ?hd_Name ?po_Name ?sa_Name ?mk_Name ?kc_Name ?ha_Name ?hm_Name ?na_Name_word ?pg_Two ?hd_Two ?po_Two ?sa_Two ?mk_Two ?kc_Two ?ha_Two ?hm_Two ?na_Two_word ?na_Two_one ?na_Two_other ?pg_Mod ?hd_Mod ?po_Mod ?sa_Mod ?mk_Mod ?kc_Mod ?ha_Mod ?hm_Mod ?na_Mod_inner ?na_Mod_number ?pg_Less ?hd_Less ?po_Less ?sa_Less ?mk_Less ?kc_Less ?ha_Less ?hm_Less ?na_Less_one ?na_Less_other ?na_Less_third ?na_Less_fourth ?pg_Program ?hd_Program ?po_Program ?sa_Program ?mk_Program ?kc_Program ?ha_Program ?hm_Program ?na_Program_start ?na_Program_send ?na_Program_when ?na_Program_renew ?pg_Web ?hd_Web ?po_Web ?sa_Web ?mk_Web ?kc_Web ?ha_Web ?hm_Web ?na_Web_own_hands ?na_Web_own_lines ?na_Web_near ?hn ?htk ?k_Num_Num ?k_Name_Num ?k_Name_Name ?k_Two_Num ?k_Two_Name ?k_Two_Two ?k_Mod_Num ?k_Mod_Name ?k_Mod_Two ?k_Mod_Mod ?k_Less_Num ?k_Less_Name ?k_Less_Two ?k_Less_Mod ?k_Less_Less ?k_tint_tint ?k_tint_tbool ?k_tstr_tstr ?k_ttuple_ttuple ?k_tint_ttuple ?k_tstr_ttuple ?k_tint_tstr ?k_tstr_tint ?k_tstr_tbool ?k_Program_Program ?k_tNoneType_tbool ?k_tlist_tlist ?G_START_NAMES ?L_START_NAMES ?G_SEND_NAMES ?L_SEND_NAMES ?G_RENEW_NAMES ?L_RENEW_NAMES ?G_TWO_WORDS ?L_TWO_WORDS ?G_MOST_WORDS ?G_MOST_DEEP ?G_MOST_HANDS ?G_LAST_HAND
   (case z_len=>k_is)
   (case z_int=>k_is)
   (case z_min=>k_is)
   (case z_max=>k_is)
   (case z_range=>k_is)
   (case z_isinstance=>k_is)
   (case z_list=>k_is)
   (case z_dict=>k_is)
   (case z_abs=>k_is)
   (case z_sorted=>k_is)
   (case z_str=>k_is)
   (case z_sum=>k_is)
   (case z_bool=>k_is)
   (case z_tuple=>k_is)
   (case z_ValueError=>k_is)
   (case A_Num=>k_is)
   (case A_Name=>k_is)
   (case A_Two=>k_is)
   (case A_Mod=>k_is)
   (case A_Less=>k_is)
   (case A_Program=>k_is)
   (case A_Web=>k_is)
   (case a_0=>k_is)
   (case l_0=>k_is)
   (case cc_0=>k_is)
   (case kk_0=>k_is)
   (case a_1=>k_is)
   (case l_1=>k_is)
   (case cc_1=>k_is)
   (case kk_1=>k_is)
   (case a_2=>k_is)
   (case l_2=>k_is)
   (case cc_2=>k_is)
   (case kk_2=>k_is)
   (case a_3=>k_is)
   (case l_3=>k_is)
   (case cc_3=>k_is)
   (case kk_3=>k_is)
   (case a_4=>k_is)
   (case l_4=>k_is)
   (case cc_4=>k_is)
   (case kk_4=>k_is)
   (case a_5=>k_is)
   (case l_5=>k_is)
   (case cc_5=>k_is)
   (case kk_5=>k_is)
   (case a_6=>k_is)
   (case l_6=>k_is)
   (case cc_6=>k_is)
   (case kk_6=>k_is)
   (case a_7=>k_is)
   (case l_7=>k_is)
   (case cc_7=>k_is)
   (case kk_7=>k_is)
   (case a_8=>k_is)
   (case l_8=>k_is)
   (case cc_8=>k_is)
   (case kk_8=>k_is)
   (case a_9=>k_is)
   (case l_9=>k_is)
   (case cc_9=>k_is)
   (case kk_9=>k_is)
   (case a_10=>k_is)
   (case l_10=>k_is)
   (case cc_10=>k_is)
   (case kk_10=>k_is)
   (case a_11=>k_is)
   (case l_11=>k_is)
   (case cc_11=>k_is)
   (case kk_11=>k_is)
   (case a_12=>k_is)
   (case l_12=>k_is)
   (case cc_12=>k_is)
   (case kk_12=>k_is)
   (case a_13=>k_is)
   (case l_13=>k_is)
   (case cc_13=>k_is)
   (case kk_13=>k_is)
   (case a_14=>k_is)
   (case l_14=>k_is)
   (case cc_14=>k_is)
   (case kk_14=>k_is)
   (case a_15=>k_is)
   (case l_15=>k_is)
   (case cc_15=>k_is)
   (case kk_15=>k_is)
   (case a_16=>k_is)
   (case l_16=>k_is)
   (case cc_16=>k_is)
   (case kk_16=>k_is)
   (case a_17=>k_is)
   (case l_17=>k_is)
   (case cc_17=>k_is)
   (case kk_17=>k_is)
   (case a_18=>k_is)
   (case l_18=>k_is)
   (case cc_18=>k_is)
   (case kk_18=>k_is)
   (case a_19=>k_is)
   (case l_19=>k_is)
   (case cc_19=>k_is)
   (case kk_19=>k_is)
   (case a_20=>k_is)
   (case l_20=>k_is)
   (case cc_20=>k_is)
   (case kk_20=>k_is)
   (case a_21=>k_is)
   (case l_21=>k_is)
   (case cc_21=>k_is)
   (case kk_21=>k_is)
   (case a_22=>k_is)
   (case l_22=>k_is)
   (case cc_22=>k_is)
   (case kk_22=>k_is)
   (case a_23=>k_is)
   (case l_23=>k_is)
   (case cc_23=>k_is)
   (case kk_23=>k_is)
   (case a_24=>k_is)
   (case l_24=>k_is)
   (case cc_24=>k_is)
   (case kk_24=>k_is)
   (case a_25=>k_is)
   (case l_25=>k_is)
   (case cc_25=>k_is)
   (case kk_25=>k_is)
   (case a_26=>k_is)
   (case l_26=>k_is)
   (case cc_26=>k_is)
   (case kk_26=>k_is)
   (case a_27=>k_is)
   (case l_27=>k_is)
   (case cc_27=>k_is)
   (case kk_27=>k_is)
   (case a_28=>k_is)
   (case l_28=>k_is)
   (case cc_28=>k_is)
   (case kk_28=>k_is)
   (case a_29=>k_is)
   (case l_29=>k_is)
   (case cc_29=>k_is)
   (case kk_29=>k_is)
   (case a_30=>k_is)
   (case l_30=>k_is)
   (case cc_30=>k_is)
   (case kk_30=>k_is)
   (case a_31=>k_is)
   (case l_31=>k_is)
   (case cc_31=>k_is)
   (case kk_31=>k_is)
   (case a_32=>k_is)
   (case l_32=>k_is)
   (case cc_32=>k_is)
   (case kk_32=>k_is)
   (case a_33=>k_is)
   (case i_33=>k_is)
   (case l_33=>k_is)
   (case cc_33=>k_is)
   (case kk_33=>k_is)
   (case a_34=>k_is)
   (case i_34=>k_is)
   (case l_34=>k_is)
   (case cc_34=>k_is)
   (case kk_34=>k_is)
   (case a_35=>k_is)
   (case i_35=>k_is)
   (case l_35=>k_is)
   (case cc_35=>k_is)
   (case kk_35=>k_is)
   (case a_36=>k_is)
   (case i_36=>k_is)
   (case l_36=>k_is)
   (case cc_36=>k_is)
   (case kk_36=>k_is)
   (case a_37=>k_is)
   (case i_37=>k_is)
   (case l_37=>k_is)
   (case cc_37=>k_is)
   (case kk_37=>k_is)
   (case a_38=>k_is)
   (case i_38=>k_is)
   (case l_38=>k_is)
   (case cc_38=>k_is)
   (case kk_38=>k_is)
   (case a_39=>k_is)
   (case i_39=>k_is)
   (case l_39=>k_is)
   (case cc_39=>k_is)
   (case kk_39=>k_is)
   (case a_40=>k_is)
   (case i_40=>k_is)
   (case l_40=>k_is)
   (case cc_40=>k_is)
   (case kk_40=>k_is)
   (case a_41=>k_is)
   (case i_41=>k_is)
   (case l_41=>k_is)
   (case cc_41=>k_is)
   (case kk_41=>k_is)
   (case a_42=>k_is)
   (case i_42=>k_is)
   (case l_42=>k_is)
   (case cc_42=>k_is)
   (case kk_42=>k_is)
   (case a_43=>k_is)
   (case i_43=>k_is)
   (case l_43=>k_is)
   (case cc_43=>k_is)
   (case kk_43=>k_is)
   (case a_44=>k_is)
   (case i_44=>k_is)
   (case l_44=>k_is)
   (case cc_44=>k_is)
   (case kk_44=>k_is)
   (case a_45=>k_is)
   (case i_45=>k_is)
   (case l_45=>k_is)
   (case cc_45=>k_is)
   (case kk_45=>k_is)
   (case a_46=>k_is)
   (case i_46=>k_is)
   (case l_46=>k_is)
   (case cc_46=>k_is)
   (case kk_46=>k_is)
   (case a_47=>k_is)
   (case i_47=>k_is)
   (case l_47=>k_is)
   (case cc_47=>k_is)
   (case kk_47=>k_is)
   (case a_48=>k_is)
   (case i_48=>k_is)
   (case l_48=>k_is)
   (case cc_48=>k_is)
   (case kk_48=>k_is)
   (case a_49=>k_is)
   (case i_49=>k_is)
   (case l_49=>k_is)
   (case cc_49=>k_is)
   (case kk_49=>k_is)
   (case a_50=>k_is)
   (case i_50=>k_is)
   (case l_50=>k_is)
   (case cc_50=>k_is)
   (case kk_50=>k_is)
   (case a_51=>k_is)
   (case i_51=>k_is)
   (case l_51=>k_is)
   (case cc_51=>k_is)
   (case kk_51=>k_is)
   (case a_52=>k_is)
   (case i_52=>k_is)
   (case l_52=>k_is)
   (case cc_52=>k_is)
   (case kk_52=>k_is)
   (case a_53=>k_is)
   (case i_53=>k_is)
   (case l_53=>k_is)
   (case cc_53=>k_is)
   (case kk_53=>k_is)
   (case a_54=>k_is)
   (case i_54=>k_is)
   (case l_54=>k_is)
   (case cc_54=>k_is)
   (case kk_54=>k_is)
   (case a_55=>k_is)
   (case i_55=>k_is)
   (case l_55=>k_is)
   (case cc_55=>k_is)
   (case kk_55=>k_is)
   (case a_56=>k_is)
   (case i_56=>k_is)
   (case l_56=>k_is)
   (case cc_56=>k_is)
   (case kk_56=>k_is)
   (case pg_Num=>k_is)
   (case hd_Num=>k_is)
   (case po_Num=>k_is)
   (case sa_Num=>k_is)
   (case mk_Num=>k_is)
   (case kc_Num=>k_is)
   (case ha_Num=>k_is)
   (case hm_Num=>k_is)
   (case na_Num_value=>k_is)
   (case pg_Name=>k_is)
   (case hd_Name=>k_is)
   (case po_Name=>k_is)
   (case sa_Name=>k_is)
   (case mk_Name=>k_is)
   (case kc_Name=>k_is)
   (case ha_Name=>k_is)
   (case hm_Name=>k_is)
   (case na_Name_word=>k_is)
   (case pg_Two=>k_is)
   (case hd_Two=>k_is)
   (case po_Two=>k_is)
   (case sa_Two=>k_is)
   (case mk_Two=>k_is)
   (case kc_Two=>k_is)
   (case ha_Two=>k_is)
   (case hm_Two=>k_is)
   (case na_Two_word=>k_is)
   (case na_Two_one=>k_is)
   (case na_Two_other=>k_is)
   (case pg_Mod=>k_is)
   (case hd_Mod=>k_is)
   (case po_Mod=>k_is)
   (case sa_Mod=>k_is)
   (case mk_Mod=>k_is)
   (case kc_Mod=>k_is)
   (case ha_Mod=>k_is)
   (case hm_Mod=>k_is)
   (case na_Mod_inner=>k_is)
   (case na_Mod_number=>k_is)
   (case pg_Less=>k_is)
   (case hd_Less=>k_is)
   (case po_Less=>k_is)
   (case sa_Less=>k_is)
   (case mk_Less=>k_is)
   (case kc_Less=>k_is)
   (case ha_Less=>k_is)
   (case hm_Less=>k_is)
   (case na_Less_one=>k_is)
   (case na_Less_other=>k_is)
   (case na_Less_third=>k_is)
   (case na_Less_fourth=>k_is)
   (case pg_Program=>k_is)
   (case hd_Program=>k_is)
   (case po_Program=>k_is)
   (case sa_Program=>k_is)
   (case mk_Program=>k_is)
   (case kc_Program=>k_is)
   (case ha_Program=>k_is)
   (case hm_Program=>k_is)
   (case na_Program_start=>k_is)
   (case na_Program_send=>k_is)
   (case na_Program_when=>k_is)
   (case na_Program_renew=>k_is)
   (case pg_Web=>k_is)
   (case hd_Web=>k_is)
   (case po_Web=>k_is)
   (case sa_Web=>k_is)
   (case mk_Web=>k_is)
   (case kc_Web=>k_is)
   (case ha_Web=>k_is)
   (case hm_Web=>k_is)
   (case na_Web_own_hands=>k_is)
   (case na_Web_own_lines=>k_is)
   (case na_Web_near=>k_is)
   (case hn=>k_is)
   (case htk=>k_is)
   (case k_Num_Num=>kit_is)
   (case k_Name_Num=>kit_is)
   (case k_Name_Name=>kit_is)
   (case k_Two_Num=>kit_is)
   (case k_Two_Name=>kit_is)
   (case k_Two_Two=>kit_is)
   (case k_Mod_Num=>kit_is)
   (case k_Mod_Name=>kit_is)
   (case k_Mod_Two=>kit_is)
   (case k_Mod_Mod=>kit_is)
   (case k_Less_Num=>kit_is)
   (case k_Less_Name=>kit_is)
   (case k_Less_Two=>kit_is)
   (case k_Less_Mod=>kit_is)
   (case k_Less_Less=>kit_is)
   (case k_tint_tint=>kit_is)
   (case k_tint_tbool=>kit_is)
   (case k_tstr_tstr=>kit_is)
   (case k_ttuple_ttuple=>kit_is)
   (case k_tint_ttuple=>kit_is)
   (case k_tstr_ttuple=>kit_is)
   (case k_tint_tstr=>kit_is)
   (case k_tstr_tint=>kit_is)
   (case k_tstr_tbool=>kit_is)
   (case k_Program_Program=>kit_is)
   (case k_tNoneType_tbool=>kit_is)
   (case k_tlist_tlist=>kit_is)
   (case G_START_NAMES=>k_is)
   (case L_START_NAMES=>k_is)
   (case G_SEND_NAMES=>k_is)
   (case L_SEND_NAMES=>k_is)
   (case G_RENEW_NAMES=>k_is)
   (case L_RENEW_NAMES=>k_is)
   (case G_TWO_WORDS=>k_is)
   (case L_TWO_WORDS=>k_is)
   (case G_MOST_WORDS=>k_is)
   (case G_MOST_DEEP=>k_is)
   (case G_MOST_HANDS=>k_is)
   (case G_LAST_HAND=>k_is)
  obtain⟨a,T⟩:=T
  have e0:=hmg.symm.trans T.g_qG
  cases e0
  exact⟨_,T.b0_qG,fun base kb nb=>K04.ok_law T⟩
 case S=>exact fun K H a ns hl hO hS=>K04.sp_law_of hl hO hS
 case C=>exact fun _ _ _ _ z=>z

