import PyProof.Rows.All
import Wide.All
import OpenK.AllK
import Wide.FinOn
import PySem.Challenge.RW_beatless_k24_whole_pieces_joined
import Lean
import PyProof.EqAt
import PyProof.EqKinds
import PyProof.TupleCall
import PyProof.ZipIter
import PyProof.WalksMore
import KE.KRevSl
import KE.KIntText
import KE.KRevIter
import PyProof.Draws
import PyProof.EnumFor
import PyProof.EnumStmt
import PyProof.AttrMissHeap
import PyProof.DictUpdate
set_option Elab.async false
set_option linter.all false
set_option maxRecDepth 100000
noncomputable section
namespace L2
open PySem PySem.Spec PyProof.Rows
abbrev Key:=Sum Int Str
noncomputable def v8:Key→Value→Bool
 |.inl k,v=>Value.isInt k v
 |.inr x,v=>Value.isStrOf x v
noncomputable def zxA (w:World):Key→Int
 |.inl k=>hashInt k
 |.inr x=>hashStr w x
theorem zQ:∀ {k:Key}{v:Value},v8 k v=true→(∃ i t,k=Sum.inl i∧v=Value.int i t)∨(∃ x t,k=Sum.inr x∧v=Value.str x t)
 |.inl i,v,h=>by
  obtain⟨t,e⟩:=Value.isInt_shape (k:=i) (v:=v) h
  exact .inl ⟨i,t,rfl,e⟩
 |.inr x,v,h=>by
  obtain⟨t,e⟩:=Value.isStrOf_shape (x:=x) (v:=v) h
  exact .inr ⟨x,t,rfl,e⟩
theorem Y4 (i:Int) (t:Tok):v8 (.inl i) (.int i t)=true:=by simp[v8,Value.isInt]
theorem Y3 (x:Str) (t:Tok):v8 (.inr x) (.str x t)=true:=by simp[v8,Value.isStrOf]
theorem zij (a b:Int):decide ((Sum.inl a:Key)=Sum.inl b)=(a == b):=by
 by_cases e:a=b
 ·subst e;simp
 ·have h:¬ (Sum.inl a:Key)=Sum.inl b:=fun q=>e (Sum.inl.inj q)
  rw[decide_eq_false h]
  exact(beq_eq_false_iff_ne.mpr e).symm
theorem zig (a b:Str):decide ((Sum.inr a:Key)=Sum.inr b)=decide (a=b):=by
 by_cases e:a=b
 ·subst e;simp
 ·have h:¬ (Sum.inr a:Key)=Sum.inr b:=fun q=>e (Sum.inr.inj q)
  rw[decide_eq_false h,decide_eq_false e]
theorem zii (a:Int) (b:Str):decide ((Sum.inl a:Key)=Sum.inr b)=false:=decide_eq_false (fun q=>nomatch q)
theorem zih (a:Str) (b:Int):decide ((Sum.inr a:Key)=Sum.inl b)=false:=decide_eq_false (fun q=>nomatch q)
noncomputable def zC (prog:Program) (w:World):PySem.KeyKind prog w Key where
 is:=v8
 hash:=zxA w
 inj:=fun v a b ha hb=>by
  rcases zQ ha with⟨i,t,rfl,rfl⟩ | ⟨x,t,rfl,rfl⟩
  ·rcases zQ hb with⟨j,u,rfl,e⟩ | ⟨y,u,rfl,e⟩
   ·injection e with e1 _;rw[e1]
   ·exact nomatch e
  ·rcases zQ hb with⟨j,u,rfl,e⟩ | ⟨y,u,rfl,e⟩
   ·exact nomatch e
   ·injection e with e1 _;rw[e1]
 byValue:=fun k v h=>by
  rcases zQ h with⟨i,t,rfl,rfl⟩ | ⟨x,t,rfl,rfl⟩<;>rfl
 pyHash:=fun hv h=>by
  rcases zQ hv with⟨i,t,rfl,rfl⟩ | ⟨x,t,rfl,rfl⟩
  ·exact wpAny_pyHash_int h
  ·exact wpAny_pyHash_str h
 eqBool:=fun hu hv h=>by
  rcases zQ hu with⟨i,t,rfl,rfl⟩ | ⟨x,t,rfl,rfl⟩
  ·rcases zQ hv with⟨j,u,rfl,rfl⟩ | ⟨y,u,rfl,rfl⟩
   ·rw[zij] at h;exact wpAny_eqBool_int h
   ·rw[zii] at h;exact SeqAt.EqAt.int_str i t y u _ _ _ _ h
  ·rcases zQ hv with⟨j,u,rfl,rfl⟩ | ⟨y,u,rfl,rfl⟩
   ·rw[zih] at h;exact SeqAt.EqAt.str_int x t j u _ _ _ _ h
   ·rw[zig] at h;exact wpAny_eqBool_str h
 «strs»:=fun k x t v h=>by
  rcases zQ h with⟨i,u,rfl,e⟩ | ⟨y,u,rfl,e⟩
  ·exact nomatch e
  ·injection e with e1 _
   subst e1
   cases v<;>rfl
theorem v5 (prog:Program) (w:World) (i:Int) (t:Tok):(zC prog w).is (.inl i) (.int i t)=true:=Y4 i t
theorem v0 (prog:Program) (w:World) (x:Str) (t:Tok):(zC prog w).is (.inr x) (.str x t)=true:=Y3 x t
end L2
namespace L2
open PySem PySem.Spec PyProof.Rows
inductive V where
 |non | bl (b:Bool) | int (i:Int) | str (x:Str) | byt (b:Array UInt8) | flt (b:UInt64) | ref (a:Addr) | ty (n:String)
 deriving DecidableEq
noncomputable def RelV:V→Value→Prop
 |.non,u=>u=Value.none
 |.bl b,u=>u=Value.bool b
 |.int i,u=>∃ t,u=Value.int i t
 |.str x,u=>∃ t,u=Value.str x t
 |.byt b,u=>∃ t,u=Value.bytes b t
 |.flt b,u=>∃ t,u=Value.float b t
 |.ref a,u=>u=Value.ref a
 |.ty n,u=>u=Value.type n
abbrev Vals:List V→List Value→Prop:=Paired RelV
theorem Vals.length {xs:List V}{us:List Value}(r:Vals xs us):xs.length=us.length:=Paired.length r
theorem Vals.get:∀ {xs:List V}{us:List Value}{i:Nat}{x:V},Vals xs us→xs[i]?=some x→∃ u,us[i]?=some u∧RelV x u
 |_,_,_,_,.nil,e=>by simp at e
 |_,_,0,_,.cons r _,e=>by simp at e;subst e;exact⟨_,rfl,r⟩
 |_,_,i+1,x,.cons _ t,e=>by
  obtain⟨u,h1,h2⟩:=Vals.get (i:=i) (x:=x) t (by simpa using e)
  exact⟨u,by simpa using h1,h2⟩
theorem Vals.set {x:V}{u:Value}(r:RelV x u):∀ {xs:List V}{us:List Value}(i:Nat),Vals xs us→Vals (xs.set i x) (us.set i u)
 |_,_,_,.nil=>.nil
 |_,_,0,.cons _ t=>.cons r t
 |_,_,i+1,.cons q t=>.cons q (Vals.set r i t)
theorem Vals.append:∀ {xs ys:List V}{us ws:List Value},Vals xs us→Vals ys ws→Vals (xs++ys) (us++ws)
 |_,_,_,_,.nil,s=>s
 |_,_,_,_,.cons r t,s=>.cons r (Vals.append t s)
theorem Vals.take:∀ {xs:List V}{us:List Value}(n:Nat),Vals xs us→Vals (xs.take n) (us.take n)
 |_,_,0,_=>.nil
 |_,_,_+1,.nil=>.nil
 |_,_,n+1,.cons r t=>.cons r (Vals.take n t)
theorem Vals.drop:∀ {xs:List V}{us:List Value}(n:Nat),Vals xs us→Vals (xs.drop n) (us.drop n)
 |_,_,0,r=>r
 |_,_,_+1,.nil=>.nil
 |_,_,n+1,.cons _ t=>Vals.drop n t
noncomputable def RelO:Option V→Option Value→Prop
 |some v,some u=>RelV v u
 |none,none=>True
 |_,_=>False
def KV {κ:Type}:List (κ×V)→List (κ×Value)→Prop:=Paired fun(p:κ×V) (q:κ×Value)=>p.1=q.1∧RelV p.2 q.2
def kV:Key→V
 |.inl i=>.int i
 |.inr x=>.str x
inductive HO where
 /-- a list -/
 |lst (xs:List V)
 /-- a tuple (never changes) -/
 |tup (xs:List V)
 /-- a dict whose keys are ints and texts;one whose keys are tuples of ints and texts (the empty one is both) -/
 |dK (kvs:List (Key×V)) | dT (kvs:List (List Key×V))
 /-- a set of ints: its members,its size -/
 |set (S:Int→Bool) (n:Nat)
 /-- an instance of the class at C,its dict at dx,its attributes -/
 |ins (C dx:Addr) (fs:List (Str×V))
 /-- the dict of the instance at x -/
 |own (x:Addr)
 /-- the dict of an exception -/
 |xd (fs:List (Str×V))
 /-- a bound method,f of x -/
 |met (f x:Addr)
 /-- a range object lo,lo+1,.. below hi -/
 |rng (lo hi:Int)
 /-- a thing that is known to the object (the script;a dict while a loop walks it): read,never written while it is so -/
 |frz (o:Obj) (u:HO)
 /-- a code object's table -/
 |tbl (ps:Array Value)
 /-- any other thing,by what is true of its one object (a def of one's own: SetO a S n:=HO.ext fun h=>..) -/
 |ext (φ:Heap→Prop)
abbrev Hp:=Addr→Option HO
noncomputable def upd (H:Hp) (a:Addr) (o:HO):Hp:=fun b=>if b=a then some o else H b
theorem zd {H:Hp}{a:Addr}{o:HO}:upd H a o a=some o:=by unfold upd;rw[if_pos rfl]
theorem upd_ne {H:Hp}{a b:Addr}{o:HO}(h:b≠a):upd H a o b=H b:=by unfold upd;rw[if_neg h]
theorem yt {H:Hp}{a:Addr}{o u:HO}:upd (upd H a o) a u=upd H a u:=by
 funext b;unfold upd;split<;>rfl
theorem ne_of {H:Hp}{a b:Addr}{o u:HO}(h:H a=some o) (h':H b=some u) (d:o≠u):a≠b:=by
 intro e;subst e;rw[h] at h';exact d (Option.some.inj h')
theorem ne_of_none {H:Hp}{a b:Addr}{o:HO}(h:H a=some o) (h':H b=none):a≠b:=by
 intro e;subst e;rw[h] at h';cases h'
section
variable (P:Program) (w:World)
noncomputable def ObjOk (H:Hp) (h:Heap) (a:Addr):HO→Prop
 |.lst xs=>xs.length≤sizeLine∧∃ (its:List Value) (n:Nat),Vals xs its∧h.get? a=some { cls:=.type "list",data:=.seq its.toArray n }
 |.tup xs=>xs.length≤sizeLine∧∃ its:List Value,Vals xs its∧IsTup h a its.toArray
 |.dK kvs=>kvs.length≤sizeLine∧(a == sysModules)=false∧∃ vs,KV kvs vs∧h.DictOf (zC P w) a vs
 |.dT kvs=>kvs.length≤sizeLine∧(a == sysModules)=false∧∃ xs:List (List Key×Addr×Value),
   Paired (fun(p:List Key×V) (q:List Key×Addr×Value)=>p.1=q.1∧H q.2.1=some (.tup (p.1.map kV))∧RelV p.2 q.2.2) kvs xs ∧
   ∃ o es ep,h.get? a=some o∧o.ExactDict∧o.data=.dict es ep∧es.toList=xs.map (entryOfKey (tupleKind (zC P w)))∧(xs.map (·.1)).Nodup
 |.set S n=>h.SetOf (intKind P w) a S n
 |.ins C dx fs=>H dx=some (.own a)∧fs.length≤1000∧dx≠a∧h.get? a=some (PySem.W.instObj C dx) ∧
   ∃ mA,h.Ns1 dx mA∧(∀ f,RelO (fs.lookup f) (mA f))∧PySem.Within mA (fs.map (·.1))
 |.own _=>∃ o,h.get? a=some o
 |.xd fs=>∃ mA,h.Ns1 a mA∧∀ f,RelO (fs.lookup f) (mA f)
 |.rng lo hi=>∃ t u v,h.get? a=some { cls:=.type "range",data:=.fields #[.int lo t,.int hi u,.int 1 v] }
 |.frz o u=>h.get? a=some o∧ObjOk H h a u
 |.tbl ps=>h.get? a=some { cls:=.none,data:=.fields ps }
 |.met f x=>h.get? a=some (PySem.W.methodObj (.ref f) (.ref x))
 |.ext φ=>φ h∧(∃ o,h.get? a=some o)∧∀ h1 h2:Heap,φ h1→(∀ o,h1.get? a=some o→h2.get? a=some o)→φ h2
def HOk (H:Hp) (h:Heap):Prop:=∀ a o,H a=some o→ObjOk P w H h a o
end
section
variable {P:Program}{w:World}{H H':Hp}{h h':Heap}{a:Addr}{o:HO}
theorem ObjOk.lt (x:ObjOk P w H h a o):a<h.objs.size:=by
 cases o with
 |lst xs=>obtain⟨_,_,_,_,e⟩:=x;exact Heap.lt_size e
 |tup xs=>obtain⟨_,_,_,p⟩:=x;exact p.lt
 |dK kvs=>obtain⟨_,_,_,_,o,_,_,e,_⟩:=x;exact Heap.lt_size e
 |dT kvs=>obtain⟨_,_,_,_,o,_,_,e,_⟩:=x;exact Heap.lt_size e
 |set S n=>obtain⟨o,_,_,_,e,_⟩:=x;exact Heap.lt_size e
 |ins C dx fs=>obtain⟨_,_,_,e,_⟩:=x;exact Heap.lt_size e
 |own y=>obtain⟨_,e⟩:=x;exact Heap.lt_size e
 |xd fs=>obtain⟨_,⟨_,_,_,e,_⟩,_⟩:=x;exact Heap.lt_size e
 |rng lo hi=>obtain⟨_,_,_,e⟩:=x;exact Heap.lt_size e
 |frz ob u=>obtain⟨e,_⟩:=x;exact Heap.lt_size e
 |tbl ps=>exact Heap.lt_size (show h.get? a=some _ from x)
 |met f y=>exact Heap.lt_size (show h.get? a=some _ from x)
 |ext φ=>obtain⟨_,⟨_,e⟩,_⟩:=x;exact Heap.lt_size e
theorem Paired.mapP {α β:Type}{F G:α→β→Prop}:∀ {l₁:List α}{l₂:List β},Paired F l₁ l₂→(∀ a b,F a b→G a b)→Paired G l₁ l₂
 |_,_,.nil,_=>.nil
 |_,_,.cons r t,f=>.cons (f _ _ r) (Paired.mapP t f)
theorem ObjOk.stay (x:ObjOk P w H h a o) (k:∀ b u,(b=a∨H b=some (.own a))→h.get? b=some u→h'.get? b=some u)
  (ho:∀ b,H b=some (.own a)→H' b=some (.own a)) (ht:∀ b xs,H b=some (.tup xs)→H' b=some (.tup xs)):ObjOk P w H' h' a o:=by
 induction o with
 |lst xs=>obtain⟨z,its,n,r,e⟩:=x;exact⟨z,its,n,r,k _ _ (.inl rfl) e⟩
 |tup xs=>obtain⟨z,its,r,ob,e,c⟩:=x;exact⟨z,its,r,ob,k _ _ (.inl rfl) e,c⟩
 |dK kvs=>obtain⟨z,y,vs,r,ob,es,ep,e,c⟩:=x;exact⟨z,y,vs,r,ob,es,ep,k _ _ (.inl rfl) e,c⟩
 |dT kvs =>
  obtain⟨z,y,xs,r,ob,es,ep,e,c⟩:=x
  exact⟨z,y,xs,Paired.mapP r fun p q z=>⟨z.1,ht _ _ z.2.1,z.2.2⟩,ob,es,ep,k _ _ (.inl rfl) e,c⟩
 |set S n=>obtain⟨ob,es,ep,t,e,c⟩:=x;exact⟨ob,es,ep,t,k _ _ (.inl rfl) e,c⟩
 |ins C dx fs =>
  obtain⟨d,z,ne,e,mA,⟨od,es,ep,e2,c⟩,r⟩:=x
  exact⟨ho _ d,z,ne,k _ _ (.inl rfl) e,mA,⟨od,es,ep,k _ _ (.inr d) e2,c⟩,r⟩
 |own y=>obtain⟨ob,e⟩:=x;exact⟨ob,k _ _ (.inl rfl) e⟩
 |xd fs=>obtain⟨mA,⟨od,es,ep,e,c⟩,r⟩:=x;exact⟨mA,⟨od,es,ep,k _ _ (.inl rfl) e,c⟩,r⟩
 |rng lo hi=>obtain⟨t,u,v,e⟩:=x;exact⟨t,u,v,k _ _ (.inl rfl) e⟩
 |frz ob u ih=>obtain⟨e,q⟩:=x;exact⟨k _ _ (.inl rfl) e,ih q⟩
 |tbl ps =>
  have e:h.get? a=some { cls:=.none,data:=.fields ps }:=x
  show h'.get? a=some { cls:=.none,data:=.fields ps }
  exact k a _ (.inl rfl) e
 |met f y =>
  have e:h.get? a=some (PySem.W.methodObj (.ref f) (.ref y)):=x
  show h'.get? a=some (PySem.W.methodObj (.ref f) (.ref y))
  exact k a _ (.inl rfl) e
 |ext φ=>obtain⟨p,⟨o,e⟩,st⟩:=x;exact⟨st _ _ p fun o q=>k _ _ (.inl rfl) q,⟨o,k _ _ (.inl rfl) e⟩,st⟩
theorem HOk.lt (x:HOk P w H h) (e:H a=some o):a<h.objs.size:=(x a o e).lt
theorem HOk.fresh (x:HOk P w H h) (e:h.objs.size≤a):H a=none:=by
 cases q:H a with
 |none=>rfl
 |some u=>exact absurd (Nat.lt_of_lt_of_le (x.lt q) e) (Nat.lt_irrefl _)
theorem HOk.kept (x:HOk P w H h) (k:∀ b u,h.get? b=some u→h'.get? b=some u):HOk P w H h':=fun a o e =>
 (x a o e).stay (fun b u _ q=>k b u q) (fun _ q=>q) fun _ _ q=>q
theorem HOk.laid (x:HOk P w H h) (k:∀ b u,h.get? b=some u→h'.get? b=some u) (hp:h.objs.size≤a) (new:ObjOk P w (upd H a o) h' a o):HOk P w (upd H a o) h':=fun b u e=>by
 have hn:=x.fresh hp
 by_cases hb:b=a
 ·subst hb;rw[zd] at e;cases e;exact new
 ·rw[upd_ne hb] at e
  exact(x b u e).stay (fun c v _ q=>k c v q) (fun c q=>by rw[upd_ne (ne_of_none q hn)];exact q) fun c xs q=>by rw[upd_ne (ne_of_none q hn)];exact q
end
def Rd (H:Hp) (a:Addr) (u:HO):Prop:=H a=some u∨∃ o,H a=some (.frz o u)
theorem Rd.ok {P:Program}{w:World}{H:Hp}{h:Heap}{a:Addr}{u:HO}(r:Rd H a u) (x:HOk P w H h):ObjOk P w H h a u:=by
 rcases r with r | ⟨o,r⟩
 ·exact x a u r
 ·obtain⟨_,q⟩:=x a _ r
  exact q
noncomputable def Mut:Option HO→Prop
 |some (.lst _)=>True
 |some (.dK _)=>True
 |some (.dT _)=>True
 |some (.set _ _)=>True
 |some (.ins _ _ _)=>True
 |some (.ext _)=>True
 |_=>False
section
variable {P:Program}{w:World}{H:Hp}{h h':Heap}{x e:Addr}{o':HO}
theorem HOk.write (ok:HOk P w H h) (mu:Mut (H x)) (he:e=x∨H e=some (.own x)) (k:∀ b u,b≠e→h.get? b=some u→h'.get? b=some u) (heo:∃ u,h'.get? e=some u)
  (new:ObjOk P w (upd H x o') h' x o'):HOk P w (upd H x o') h':=fun b u q=>by
 have nown:∀ c y,H c=some (.own y)→c≠x:=fun c y r z=>by subst z;rw[r] at mu;exact mu
 have ntup:∀ c xs,H c=some (.tup xs)→c≠x:=fun c xs r z=>by subst z;rw[r] at mu;exact mu
 by_cases hb:b=x
 ·subst hb;rw[zd] at q;cases q;exact new
 ·rw[upd_ne hb] at q
  by_cases hbe:b=e
  ·have q':H b=some (.own x):=by
    rcases he with z | z
    ·exact absurd (hbe.trans z) hb
    ·rw[hbe];exact z
   rw[q] at q';cases q'
   obtain⟨v,hv⟩:=heo
   exact⟨v,by rw[hbe];exact hv⟩
  ·refine(ok b u q).stay (fun c v hc r=>k c v ?_ r) (fun c r=>by rw[upd_ne (nown c b r)];exact r) fun c xs r=>by rw[upd_ne (ntup c xs r)];exact r
   rcases hc with rfl | hc
   ·exact hbe
   ·rintro rfl
    rcases he with z | z
    ·exact nown c b hc z
    ·rw[hc] at z;cases z;exact hb rfl
end
structure Un (fs ex:List Addr) (H H':Hp) (h h':Heap):Prop where
 keep:∀ b o,h.get? b=some o→H b=none→b∉fs→b∉ex→h'.get? b=some o
 slot:∀ b o,h.get? b=some o→H b=none→b∈fs→b∉ex→∃ sl,h'.get? b=some { o with slots:=sl }
 free:∀ b o,h.get? b=some o→H b=none→b∉ex→H' b=none
 there:∀ b o,h.get? b=some o→b∉ex→∃ o',h'.get? b=some o'
 tups:∀ b xs,H b=some (.tup xs)→H' b=some (.tup xs)
 frzs:∀ b o u,H b=some (.frz o u)→H' b=some (.frz o u)
 tbls:∀ b ps,H b=some (.tbl ps)→∃ more,H' b=some (.tbl (ps++more))
section
variable {fs fs' ex ex':List Addr}{H H1 H2:Hp}{h h1 h2 h':Heap}{a x e:Addr}{o:HO}
theorem Un.any (u:Un fs ex H H1 h h1){b:Addr}{ob:Obj}(q:h.get? b=some ob) (n:H b=none) (hx:b∉ex):∃ sl,h1.get? b=some { ob with slots:=sl }:=by
 by_cases hb:b∈fs
 ·exact u.slot b ob q n hb hx
 ·exact⟨ob.slots,u.keep b ob q n hb hx⟩
theorem Un.kept (k:∀ b u,h.get? b=some u→h'.get? b=some u):Un fs ex H H h h' :=
 ⟨fun b ob q _ _ _=>k b ob q,fun b ob q _ _ _=>⟨ob.slots,k b ob q⟩,fun _ _ _ n _=>n,fun b ob q _=>⟨ob,k b ob q⟩,fun _ _ q=>q,fun _ _ _ q=>q,fun _ ps q=>⟨#[],by rw[q];simp⟩⟩
theorem Un.refl:Un fs ex H H h h:=Un.kept fun _ _ q=>q
theorem Un.laid (k:∀ b u,h.get? b=some u→h'.get? b=some u) (hp:h.objs.size≤a) (hn:H a=none):Un fs ex H (upd H a o) h h' where
 keep:=fun b u q _ _ _=>k b u q
 slot:=fun b u q _ _ _=>⟨u.slots,k b u q⟩
 free:=fun b u q n _=>by rw[upd_ne (Nat.ne_of_lt (Nat.lt_of_lt_of_le (Heap.lt_size q) hp))];exact n
 there:=fun b u q _=>⟨u,k b u q⟩
 tups:=fun b xs q=>by rw[upd_ne (ne_of_none q hn)];exact q
 frzs:=fun b u xs q=>by rw[upd_ne (ne_of_none q hn)];exact q
 tbls:=fun b ps q=>⟨#[],by rw[upd_ne (ne_of_none q hn),q];simp⟩
theorem Un.write (mu:Mut (H x)) (he:e=x∨H e=some (.own x)) (k:∀ b u,b≠e→h.get? b=some u→h'.get? b=some u) (heo:∃ u,h'.get? e=some u):Un fs ex H (upd H x o) h h':=by
 have hx:∀ b,H b=none→b≠x:=fun b n z=>by subst z;rw[n] at mu;exact mu
 have hb:∀ b,H b=none→b≠e:=fun b n z=>by
  subst z
  rcases he with r | r
  ·exact hx b n r
  ·rw[n] at r;cases r
 have hm:∀ b u,H b=some u→¬ Mut (some u)→b≠x:=fun b u q nm z=>by subst z;rw[q] at mu;exact nm mu
 refine⟨fun b u q n _ _=>k b u (hb b n) q,fun b u q n _ _=>⟨u.slots,k b u (hb b n) q⟩,fun b u q n _=>by rw[upd_ne (hx b n)];exact n,fun b u q _=>?_,
  fun b xs q=>by rw[upd_ne (hm b _ q fun z=>z)];exact q,fun b u xs q=>by rw[upd_ne (hm b _ q fun z=>z)];exact q,fun b ps q=>⟨#[],by rw[upd_ne (hm b _ q fun z=>z),q];simp⟩⟩
 by_cases hbe:b=e
 ·subst hbe;exact heo
 ·exact⟨u,k b u hbe q⟩
end
noncomputable def trk (h:Heap) (H:Hp):List Addr:=(List.range h.objs.size).filter fun a=>(H a).isSome
def Wx (h:Heap) (H:Hp):Heap:=PySem.W.hideAll h (trk h H)
theorem Xa (h:Heap) (H:Hp):(Wx h H).objs.size=h.objs.size:=PySem.W.hideAll_size _ _
theorem Ww {h:Heap}{H:Hp}{b:Addr}{o:Obj}(e:h.get? b=some o) (n:H b=none):(Wx h H).get? b=some o :=
 PySem.W.hideAll_get _ e fun hm=>by
  have q:(H b).isSome=true:=(List.mem_filter.mp hm).2
  rw[n] at q;simp at q
theorem VY {h:Heap}{H:Hp}{b:Addr}{o:Obj}(e:(Wx h H).get? b=some o):h.get? b=some o∧H b=none:=by
 have e':h.get? b=some o:=PySem.W.of_hideAll (trk h H) e
 refine⟨e',?_⟩
 cases q:H b with
 |none=>rfl
 |some x =>
  have hm:b∈trk h H:=List.mem_filter.mpr ⟨List.mem_range.mpr (Heap.lt_size e'),by simp[q]⟩
  have z:(Wx h H).get? b=none:=PySem.W.hideAll_none (trk h H) hm
  rw[z] at e;cases e
end L2
namespace L2
open PySem PySem.Spec PyProof.Rows
structure Mod (K:PySem.W.Frag) (mg:Str→Option Value) (base:Heap):Prop where
 kin:K.In base
 glob:base.Ns mainGlobals mg
 blt:∃ mb,base.Ns builtinsNs mb∧∀ x:Str,x ≠ "__name__" → mb x=bootBuiltins x
 nolimit:base.NoLimit
structure Cx where
 prog:Program
 w:World
 K:PySem.W.Frag
 mg:Str→Option Value
 base:Heap
 A:Around
 N:List Str
 s₀:Shared
 H₀:Hp
 env:Env
 outer:List Env
 stack:List Env
 ex:List Addr
 fn:Str→Bool
 calm:Bool
 pn:List (Addr×Obj)
 xe:Value→Shared→Prop
def frs (l:List Env):List Addr:=l.filterMap (·.frame)
abbrev Cx.fs (X:Cx):List Addr:=frs X.outer
def Vis (sc:Scope) (x:Str):Prop:=sc.names.lookup x=some .local∨sc.names.lookup x=some .cell∨sc.names.lookup x=some .free
def Loc (sc:Scope) (x:Str):Prop:=sc.names.lookup x=some .local∨sc.names.lookup x=some .cell
noncomputable def zxG (env:Env) (h:Heap) (m:Str→Option Value) (x:Str) (u:Value):Prop :=
 (env.kindOf x=some .local∧m x=some u)∨((env.kindOf x=some .cell∨env.kindOf x=some .free)∧∃ c,env.cells.lookup x=some c∧h.IsCell c (some u))
structure Cx.Ok (X:Cx):Prop where
 mod:Mod X.K X.mg X.base
 kind:X.env.scope.kind=.function
 glob:X.env.globals=mainGlobals
 blt:X.env.builtins=builtinsNs
 above:X.s₀.heap.objs.size≤X.env.locals
 inj:∀ x y c,X.env.cells.lookup x=some c→X.env.cells.lookup y=some c→x=y
 has:∀ x,(X.env.kindOf x=some .cell∨X.env.kindOf x=some .free)→∃ c,X.env.cells.lookup x=some c
 cab:∀ x c,X.fn x=true→X.env.cells.lookup x=some c→X.s₀.heap.objs.size≤c
 hd:X.calm=true→X.A.handled=none
 frames:X.A.frames=some X.stack
 stk:X.stack=X.outer∨(X.stack=X.env::X.outer∧X.env.frame=some X.env.locals)
 exf:∀ b∈X.ex,b≠X.env.locals∧∀ x c,X.env.cells.lookup x=some c→c≠b
 bs:∀ b o,X.base.get? b=some o→X.s₀.heap.get? b=some o∧X.H₀ b=none
 bsz:X.base.objs.size≤X.s₀.heap.objs.size
 noex:∀ b o,X.base.get? b=some o→b∉X.ex
 exfs:∀ b∈X.ex,b∉X.fs
 funs:X.s₀.heap.FunFrames X.base X.outer
 frf:∀ b∈X.fs,X.H₀ b=none
structure Inv (X:Cx) (pins:List (Addr×Obj)) (σ:List (Option V)) (H:Hp) (s:Shared):Prop where
 ok:X.Ok
 os:s.os=X.s₀.os
 bare:AllBare s.gens
 base:Un X.fs X.ex X.H₀ H X.s₀.heap s.heap
 loc:∃ m,s.heap.Ns X.env.locals m∧∀ (i:Nat) (x:Str) (v:V),X.N[i]?=some x→σ[i]?=some (some v)→Vis X.env.scope x→∃ u,RelV v u∧zxG X.env s.heap m x u
 cell:∀ x c,X.env.cells.lookup x=some c→∃ v,s.heap.IsCell c v
 free:H X.env.locals=none
 freeC:∀ x c,X.env.cells.lookup x=some c→H c=none
 pin:∀ p∈X.pn++pins,s.heap.get? p.1=some p.2∧H p.1=none∧p.1≠X.env.locals∧p.1∉X.fs∧∀ v,p.2.data≠.cell v
 hok:HOk X.prog X.w H s.heap
 len:σ.length=X.N.length
section
variable {X:Cx}{pins:List (Addr×Obj)}{σ:List (Option V)}{H H':Hp}{s:Shared}{h':Heap}
theorem Cx.Ok.nofr (ok:X.Ok){b:Addr}{o:Obj}(e:X.base.get? b=some o):b∉X.fs:=fun hb=>by
 have:=(ok.funs.mem hb).1
 rw[e] at this;cases this
theorem Inv.bs (I:Inv X pins σ H s):∀ b o,X.base.get? b=some o→s.heap.get? b=some o∧H b=none:=fun b o e =>
 ⟨I.base.keep b o (I.ok.bs b o e).1 (I.ok.bs b o e).2 (I.ok.nofr e) (I.ok.noex b o e),I.base.free b o (I.ok.bs b o e).1 (I.ok.bs b o e).2 (I.ok.noex b o e)⟩
theorem Inv.bk (I:Inv X pins σ H s):∀ b o,X.base.get? b=some o→s.heap.get? b=some o:=fun b o e=>(I.bs b o e).1
theorem Inv.mod (I:Inv X pins σ H s):Mod X.K X.mg X.base:=I.ok.mod
theorem Inv.kIn (I:Inv X pins σ H s):X.K.In s.heap:=I.ok.mod.kin.keeps I.bk
theorem Inv.lt (I:Inv X pins σ H s):X.env.locals<s.heap.objs.size:=let ⟨_,hn,_⟩:=I.loc;hn.lt
theorem Inv.sz (I:Inv X pins σ H s):X.s₀.heap.objs.size≤s.heap.objs.size:=Nat.le_trans I.ok.above (Nat.le_of_lt I.lt)
theorem Inv.nofs (I:Inv X pins σ H s){a:Addr}(h:s.heap.objs.size≤a):a∉X.fs:=fun hb=>by
 obtain⟨_,o,ho,_⟩:=I.ok.funs.mem hb
 exact absurd (Nat.lt_of_lt_of_le (Heap.lt_size ho) (Nat.le_trans I.sz h)) (Nat.lt_irrefl _)
theorem Inv.cne (I:Inv X pins σ H s):∀ x c,X.env.cells.lookup x=some c→c≠X.env.locals:=fun x c e z=>by
 obtain⟨v,o,ho,hd⟩:=I.cell x c e
 obtain⟨m,⟨o',es,ep,ho',hd',_⟩,_⟩:=I.loc
 rw[z,ho'] at ho;cases ho;rw[hd'] at hd;cases hd
theorem Inv.funs (I:Inv X pins σ H s):s.heap.FunFrames X.base X.outer:=by
 have all:∀ (l:List Env),(∀ b∈frs l,b∈X.fs)→X.s₀.heap.FunFrames X.base l→s.heap.FunFrames X.base l:=by
  intro l
  induction l with
  |nil=>intro _ _;trivial
  |cons env r ih =>
   intro hs hl
   obtain⟨hk,⟨L,o,hf,hn,ho,hd⟩,hr⟩:=hl
   have hL:L∈X.fs:=hs L (by unfold frs;rw[List.filterMap_cons,hf];exact List.mem_cons_self)
   obtain⟨sl,e⟩:=I.base.slot L o ho (I.ok.frf L hL) hL fun z=>I.ok.exfs L z hL
   exact⟨hk,⟨L,_,hf,hn,e,hd⟩,ih (fun b hb=>hs b (by unfold frs;rw[List.filterMap_cons,hf];exact List.mem_cons_of_mem _ hb)) hr⟩
 exact all X.outer (fun _ hb=>hb) I.ok.funs
theorem Inv.stack (I:Inv X pins σ H s):s.heap.FunFrames X.base X.stack:=by
 rcases I.ok.stk with e | ⟨e,hf⟩
 ·rw[e];exact I.funs
 ·rw[e]
  obtain⟨m,hn,_⟩:=I.loc
  refine .cons (by rw[I.ok.kind];decide) hf hn ?_ I.funs
  exact Heap.get?_none_of_le (Nat.le_trans I.ok.bsz I.ok.above)
theorem Inv.stkSub (I:Inv X pins σ H s):∀ b∈frs X.stack,b∈X.env.locals::X.fs:=fun b hb=>by
 rcases I.ok.stk with e | ⟨e,hf⟩
 ·rw[e] at hb;exact List.mem_cons_of_mem _ hb
 ·rw[e] at hb
  unfold frs at hb
  rw[List.filterMap_cons,hf] at hb
  exact hb
theorem Inv.stkFree (I:Inv X pins σ H s):∀ b∈frs X.stack,H b=none:=fun b hb=>by
 rcases List.mem_cons.mp (I.stkSub b hb) with e | hb
 ·rw[e];exact I.free
 ·obtain⟨_,o,ho,_⟩:=I.ok.funs.mem hb
  exact I.base.free b o ho (I.ok.frf b hb) fun z=>I.ok.exfs b z hb
theorem Inv.step {g':Array GenState}{t':Nat}{d':Drawn}{ch:List Addr}(I:Inv X pins σ H s)
  (hch:∀ b∈ch,(b∈X.ex∨X.s₀.heap.objs.size≤b)∧b≠X.env.locals∧(∀ x c,X.env.cells.lookup x=some c→c≠b)∧∀ p∈X.pn++pins,p.1≠b)
  (keep:∀ b o,b≠X.env.locals→b∉X.fs→b∉ch→s.heap.get? b=some o→H b=none→h'.get? b=some o)
  (slot:∀ b o,b≠X.env.locals→b∈X.fs→b∉ch→s.heap.get? b=some o→H b=none→∃ sl,h'.get? b=some { o with slots:=sl }) (free:∀ b o,b∉ch→s.heap.get? b=some o→H b=none→H' b=none)
  (there:∀ b o,b∉ch→s.heap.get? b=some o→∃ o',h'.get? b=some o')
  (tups:∀ b xs,H b=some (.tup xs)→H' b=some (.tup xs)) (frzs:∀ b o u,H b=some (.frz o u)→H' b=some (.frz o u)) (tbls:∀ b ps,H b=some (.tbl ps)→∃ more,H' b=some (.tbl (ps++more)))
  (ns:∀ m,s.heap.Ns X.env.locals m→h'.Ns X.env.locals m) (hok:HOk X.prog X.w H' h') (hg:AllBare g') :
  Inv X pins σ H' { s with heap:=h',gens:=g',drawn:=d',toks:=t' }:=by
 have neL:∀ b o,X.s₀.heap.get? b=some o→b≠X.env.locals:=fun b o e=>Nat.ne_of_lt (Nat.lt_of_lt_of_le (Heap.lt_size e) I.ok.above)
 have neC:∀ b o,X.s₀.heap.get? b=some o→b∉X.ex→b∉ch:=fun b o e hx hb=>by
  rcases(hch b hb).1 with z | z
  ·exact hx z
  ·exact absurd (Nat.lt_of_lt_of_le (Heap.lt_size e) z) (Nat.lt_irrefl _)
 have cellK:∀ x c,X.env.cells.lookup x=some c→∀ v,s.heap.IsCell c v→h'.IsCell c v:=fun x c e v ⟨o,ho,hd⟩=>by
  have nch:c∉ch:=fun z=>(hch c z).2.2.1 x c e rfl
  by_cases hc:c∈X.fs
  ·obtain⟨sl,q⟩:=slot c o (I.cne x c e) hc nch ho (I.freeC x c e)
   exact⟨_,q,hd⟩
  ·exact⟨o,keep c o (I.cne x c e) hc nch ho (I.freeC x c e),hd⟩
 refine⟨I.ok,I.os,hg,⟨fun b o e n hb hx=>?_,fun b o e n hb hx=>?_,fun b o e n hx=>?_,fun b o e hx=>?_,fun b xs e=>tups b xs (I.base.tups b xs e),fun b o xs e=>frzs b o xs (I.base.frzs b o xs e),fun b ps e=>?_⟩,?_,fun x c e=>?_,?_,fun x c e=>?_,fun p hp=>?_,hok,I.len⟩
 ·exact keep b o (neL b o e) hb (neC b o e hx) (I.base.keep b o e n hb hx) (I.base.free b o e n hx)
 ·obtain⟨sl,e1⟩:=I.base.slot b o e n hb hx
  obtain⟨sl',e2⟩:=slot b _ (neL b o e) hb (neC b o e hx) e1 (I.base.free b o e n hx)
  exact⟨sl',e2⟩
 ·obtain⟨o',e1⟩:=I.base.there b o e hx
  exact free b o' (neC b o e hx) e1 (I.base.free b o e n hx)
 ·obtain⟨o',e1⟩:=I.base.there b o e hx
  exact there b o' (neC b o e hx) e1
 ·obtain⟨m1,e1⟩:=I.base.tbls b ps e
  obtain⟨m2,e2⟩:=tbls b _ e1
  exact⟨m1++m2,by rw[e2,Array.append_assoc]⟩
 ·obtain⟨m,hn,hl⟩:=I.loc
  refine⟨m,ns m hn,fun i x v e1 e2 e3=>?_⟩
  obtain⟨u,r,l⟩:=hl i x v e1 e2 e3
  refine⟨u,r,?_⟩
  rcases l with l | ⟨k,c,e,z⟩
  ·exact .inl l
  ·exact .inr ⟨k,c,e,cellK x c e _ z⟩
 ·obtain⟨v,z⟩:=I.cell x c e
  exact⟨v,cellK x c e v z⟩
 ·obtain⟨m,⟨o,_,_,ho,_⟩,_⟩:=I.loc
  exact free _ o (fun z=>(hch _ z).2.1 rfl) ho I.free
 ·obtain⟨v,o,ho,hd⟩:=I.cell x c e
  exact free c o (fun z=>(hch c z).2.2.1 x c e rfl) ho (I.freeC x c e)
 ·obtain⟨e,n,ne,nf,d⟩:=I.pin p hp
  have nch:p.1∉ch:=fun z=>(hch p.1 z).2.2.2 p hp rfl
  exact⟨keep p.1 p.2 ne nf nch e n,free p.1 p.2 nch e n,ne,nf,d⟩
theorem Inv.un {t':Nat}(I:Inv X pins σ H s) (u:Un X.fs [] H H' s.heap h') (hok:HOk X.prog X.w H' h'):Inv X pins σ H' { s with heap:=h',toks:=t' }:=by
 obtain⟨m,⟨o,es,ep,ho,r⟩,_⟩:=id I.loc
 obtain⟨sl,hL⟩:=u.any ho I.free (by simp)
 exact I.step (g':=s.gens) (d':=s.drawn) (ch:=[]) (fun _ z=>nomatch z) (fun b o _ hb _ e n=>u.keep b o e n hb (by simp)) (fun b o _ hb _ e n=>u.slot b o e n hb (by simp)) (fun b o _ e n=>u.free b o e n (by simp)) (fun b o _ e=>u.there b o e (by simp)) u.tups u.frzs u.tbls (fun m' hm=>by
  obtain⟨o',es',ep',ho',r'⟩:=hm
  rw[ho] at ho';cases ho'
  exact⟨_,es',ep',hL,r'⟩) hok I.bare
theorem Inv.call {g':Array GenState}{t':Nat}{d':Drawn}{ch:List Addr}(I:Inv X pins σ H s) (u:Un (frs X.stack) ch H H' s.heap h') (hok:HOk X.prog X.w H' h') (hg:AllBare g')
  (hch:∀ b∈ch,(b∈X.ex∨X.s₀.heap.objs.size≤b)∧b≠X.env.locals∧(∀ x c,X.env.cells.lookup x=some c→c≠b)∧∀ p∈X.pn++pins,p.1≠b) :
  Inv X pins σ H' { s with heap:=h',gens:=g',drawn:=d',toks:=t' }:=by
 obtain⟨m,⟨o,es,ep,ho,r⟩,_⟩:=id I.loc
 obtain⟨sl,hL⟩:=u.any ho I.free fun z=>(hch _ z).2.1 rfl
 exact I.step (ch:=ch) hch (fun b o hL hb hc e n=>u.keep b o e n (fun z=>(List.mem_cons.mp (I.stkSub b z)).elim hL hb) hc) (fun b o _ _ hc e n=>u.any e n hc) (fun b o hc e n=>u.free b o e n hc) (fun b o hc e=>u.there b o e hc) u.tups u.frzs u.tbls (fun m' hm=>by
  obtain⟨o',es',ep',ho',r'⟩:=hm
  rw[ho] at ho';cases ho'
  exact⟨_,es',ep',hL,r'⟩) hok hg
theorem Inv.turned {t':Nat}{it:Addr}(I:Inv X pins σ H s) (k:∀ b o,b≠it→s.heap.get? b=some o→h'.get? b=some o) (hn:H it=none) (hL:it≠X.env.locals)
  (h1:it∈X.ex∨X.s₀.heap.objs.size≤it) (h2:∀ x c,X.env.cells.lookup x=some c→c≠it) (h3:∀ p∈X.pn++pins,p.1≠it):Inv X pins σ H { s with heap:=h',toks:=t' }:=by
 have nit:∀ b u,H b=some u→b≠it:=fun b u e z=>by rw[z,hn] at e;cases e
 refine I.step (g':=s.gens) (d':=s.drawn) (ch:=[it]) (fun b hb=>?_) (fun b o _ _ hc e _=>k b o (fun z=>hc (by simp[z])) e) (fun b o _ _ hc e _=>⟨o.slots,k b o (fun z=>hc (by simp[z])) e⟩) (fun _ _ _ _ n=>n)
  (fun b o hc e=>⟨o,k b o (fun z=>hc (by simp[z])) e⟩) (fun _ _ e=>e) (fun _ _ _ e=>e) (fun b ps e=>⟨#[],by rw[e];simp⟩) (fun m hm=>?_) (fun b u e=>?_) I.bare
 ·have e:b=it:=by simpa using hb
  subst e
  exact⟨h1,hL,h2,h3⟩
 ·obtain⟨o,es,ep,ho,r⟩:=hm
  exact⟨o,es,ep,k _ o (Ne.symm hL) ho,r⟩
 ·refine(I.hok b u e).stay (fun c v hc q=>k c v ?_ q) (fun _ q=>q) fun _ _ q=>q
  rcases hc with z | z
  ·rw[z];exact nit b u e
  ·exact nit c _ z
theorem Inv.tok (I:Inv X pins σ H s) (t:Nat):Inv X pins σ H { s with toks:=t }:=I.un (h':=s.heap) (t':=t) Un.refl I.hok
theorem Inv.kept {t':Nat}(I:Inv X pins σ H s) (k:∀ b u,s.heap.get? b=some u→h'.get? b=some u):Inv X pins σ H { s with heap:=h',toks:=t' }:=I.un (Un.kept k) (I.hok.kept k)
theorem Inv.laid {a:Addr}{o:HO}{t':Nat}(I:Inv X pins σ H s) (k:∀ b u,s.heap.get? b=some u→h'.get? b=some u) (hp:s.heap.objs.size≤a) (new:ObjOk X.prog X.w (upd H a o) h' a o) :
  Inv X pins σ (upd H a o) { s with heap:=h',toks:=t' }:=I.un (Un.laid k hp (I.hok.fresh hp)) (I.hok.laid k hp new)
theorem Inv.write {x e:Addr}{o:HO}{t':Nat}(I:Inv X pins σ H s) (mu:Mut (H x)) (he:e=x∨H e=some (.own x)) (k:∀ b u,b≠e→s.heap.get? b=some u→h'.get? b=some u) (heo:∃ u,h'.get? e=some u)
  (new:ObjOk X.prog X.w (upd H x o) h' x o):Inv X pins σ (upd H x o) { s with heap:=h',toks:=t' }:=I.un (Un.write mu he k heo) (I.hok.write mu he k heo new)
theorem Inv.pins_of {pins':List (Addr×Obj)}(I:Inv X pins σ H s) (h:∀ p∈pins',s.heap.get? p.1=some p.2∧H p.1=none∧p.1≠X.env.locals∧p.1∉X.fs∧∀ v,p.2.data≠.cell v):Inv X pins' σ H s :=
 ⟨I.ok,I.os,I.bare,I.base,I.loc,I.cell,I.free,I.freeC,fun p hp=>(List.mem_append.mp hp).elim (fun z=>I.pin p (List.mem_append_left _ z)) (h p),I.hok,I.len⟩
theorem nodup_ix {N:List Str}(hN:N.Nodup){i j:Nat}{x:Str}(a:N[i]?=some x) (b:N[j]?=some x):i=j:=by
 obtain⟨h1,e1⟩:=List.getElem?_eq_some_iff.mp a
 obtain⟨h2,e2⟩:=List.getElem?_eq_some_iff.mp b
 exact(List.getElem_inj hN).mp (e1.trans e2.symm)
theorem va {M:Model}{A:Around}{E:Value→Shared→Prop}{i:Nat}{x:Str}{v:V}{u:Value}{Q:Unit→Shared→Prop}(I:Inv X pins σ H s) (hN:X.N.Nodup) (hi:X.N[i]?=some x) (hx:Loc X.env.scope x) (r:RelV v u)
  (h:∀ s',Inv X pins (σ.set i (some v)) H s'→(∃ a,Heap.SameBut a s.heap s'.heap∧(a=X.env.locals∨X.env.cells.lookup x=some a))→Q () s') (hf:X.fn x=true∨X.env.scope.names.lookup x=some .local:=by first | exact .inl rfl | exact .inr rfl | assumption):wpAny M A (storeName X.env x u) Q E s:=by
 obtain⟨m,hn,hl⟩:=id I.loc
 have hcls:(X.env.scope.kind == .class||(X.env.scope.kind == .module&&X.env.locals != X.env.globals))=false:=by rw[I.ok.kind];rfl
 have hiσ:i<σ.length:=by rw[I.len];exact(List.getElem?_eq_some_iff.mp hi).1
 have cne:=I.cne
 have tracked:∀ {a:Addr}{h':Heap},(∃ o,s.heap.get? a=some o∧H a=none)→Heap.SameBut a s.heap h'→HOk X.prog X.w H h':=fun {a h'} ha hs b ob e=>by
  obtain⟨_,_,hfree⟩:=ha
  refine(I.hok b ob e).stay (fun c w' hc q=>(hs.2 c ?_).trans q) (fun _ q=>q) fun _ _ q=>q
  rintro rfl
  rcases hc with rfl | hc
  ·rw[hfree] at e;cases e
  ·rw[hfree] at hc;cases hc
 rcases hx with hk | hk
 ·refine wpAny_storeName_local hk hn (fun h' hn' hs=>?_) hcls
  obtain⟨oL,_,_,hoL,_⟩:=id hn
  refine h _ ⟨I.ok,I.os,I.bare,⟨fun b o e n hb hx=>?_,fun b o e n hb hx=>?_,I.base.free,fun b o e hx=>?_,I.base.tups,I.base.frzs,I.base.tbls⟩,⟨_,hn',fun j y v' e1 e2 e3=>?_⟩,fun y c e=>?_,I.free,I.freeC,fun p hp=>?_,tracked ⟨oL,hoL,I.free⟩ hs,by simpa using I.len⟩ ⟨_,hs,.inl rfl⟩
  ·exact(hs.2 b (Nat.ne_of_lt (Nat.lt_of_lt_of_le (Heap.lt_size e) I.ok.above))).trans (I.base.keep b o e n hb hx)
  ·obtain⟨sl,e1⟩:=I.base.slot b o e n hb hx
   exact⟨sl,(hs.2 b (Nat.ne_of_lt (Nat.lt_of_lt_of_le (Heap.lt_size e) I.ok.above))).trans e1⟩
  ·obtain⟨o',e1⟩:=I.base.there b o e hx
   exact⟨o',(hs.2 b (Nat.ne_of_lt (Nat.lt_of_lt_of_le (Heap.lt_size e) I.ok.above))).trans e1⟩
  ·by_cases hj:j=i
   ·subst hj
    rw[hi] at e1;cases e1
    rw[List.getElem?_set_self hiσ] at e2
    cases e2
    exact⟨u,r,.inl ⟨hk,by simp⟩⟩
   ·rw[List.getElem?_set_ne (Ne.symm hj)] at e2
    obtain⟨u',r',q⟩:=hl j y v' e1 e2 e3
    refine⟨u',r',?_⟩
    rcases q with⟨k,e⟩ | ⟨k,c,e,z⟩
    ·refine .inl ⟨k,?_⟩
     have:y≠x:=fun e=>hj (nodup_ix hN e1 (e ▸ hi))
     simp[this,e]
    ·exact .inr ⟨k,c,e,z.sameBut hs (cne y c e)⟩
  ·obtain⟨w',z⟩:=I.cell y c e
   exact⟨w',z.sameBut hs (cne y c e)⟩
  ·obtain⟨e,n,ne,nf,d⟩:=I.pin p hp
   exact⟨(hs.2 p.1 ne).trans e,n,ne,nf,d⟩
 ·have hfn:X.fn x=true:=by
   rcases hf with z | z
   ·exact z
   ·rw[z] at hk;cases hk
  obtain⟨c,hc⟩:=I.ok.has x (.inl hk)
  obtain⟨w',z⟩:=I.cell x c hc
  refine wpAny_storeName_cell I.ok.kind hk hc z (fun h' hc' hs=>?_)
  obtain⟨oc,hoc,hocd⟩:=id z
  refine h { s with heap:=h' } ⟨I.ok,I.os,I.bare,⟨fun b o e n hb hx=>?_,fun b o e n hb hx=>?_,I.base.free,fun b o e hx=>?_,I.base.tups,I.base.frzs,I.base.tbls⟩,⟨m,hn.sameBut hs (Ne.symm (cne x c hc)),fun j y v' e1 e2 e3=>?_⟩,fun y c' e=>?_,I.free,I.freeC,fun p hp=>?_,tracked ⟨oc,hoc,I.freeC x c hc⟩ hs,by simpa using I.len⟩ ⟨c,hs,.inr hc⟩
  ·exact(hs.2 b (Nat.ne_of_lt (Nat.lt_of_lt_of_le (Heap.lt_size e) (I.ok.cab x c hfn hc)))).trans (I.base.keep b o e n hb hx)
  ·obtain⟨sl,e1⟩:=I.base.slot b o e n hb hx
   exact⟨sl,(hs.2 b (Nat.ne_of_lt (Nat.lt_of_lt_of_le (Heap.lt_size e) (I.ok.cab x c hfn hc)))).trans e1⟩
  ·obtain⟨o',e1⟩:=I.base.there b o e hx
   exact⟨o',(hs.2 b (Nat.ne_of_lt (Nat.lt_of_lt_of_le (Heap.lt_size e) (I.ok.cab x c hfn hc)))).trans e1⟩
  ·by_cases hj:j=i
   ·subst hj
    rw[hi] at e1;cases e1
    rw[List.getElem?_set_self hiσ] at e2
    cases e2
    exact⟨u,r,.inr ⟨.inl hk,c,hc,hc'⟩⟩
   ·rw[List.getElem?_set_ne (Ne.symm hj)] at e2
    obtain⟨u',r',q⟩:=hl j y v' e1 e2 e3
    refine⟨u',r',?_⟩
    rcases q with q | ⟨k,c',e,z'⟩
    ·exact .inl q
    ·refine .inr ⟨k,c',e,z'.sameBut hs ?_⟩
     rintro rfl
     exact hj (nodup_ix hN e1 (I.ok.inj _ _ _ e hc ▸ hi))
  ·by_cases hcc:c'=c
   ·subst hcc;exact⟨_,hc'⟩
   ·obtain⟨w2,z2⟩:=I.cell y c' e
    exact⟨w2,z2.sameBut hs hcc⟩
  ·obtain⟨e,n,ne,nf,d⟩:=I.pin p hp
   refine⟨(hs.2 p.1 ?_).trans e,n,ne,nf,d⟩
   intro q
   rw[q,hoc] at e
   have q':oc=p.2:=Option.some.inj e
   exact d w' (by rw[← q'];exact hocd)
theorem store_ok {M:Model}{A:Around}{E:Value→Shared→Prop}{i:Nat}{x:Str}{v:V}{u:Value}{Q:Unit→Shared→Prop}(I:Inv X pins σ H s) (hN:X.N.Nodup) (hi:X.N[i]?=some x) (hx:Loc X.env.scope x) (r:RelV v u)
  (h:∀ s',Inv X pins (σ.set i (some v)) H s'→Q () s') (hf:X.fn x=true∨X.env.scope.names.lookup x=some .local:=by first | exact .inl rfl | exact .inr rfl | assumption):wpAny M A (storeName X.env x u) Q E s :=
 va I hN hi hx r (fun s' I' _=>h s' I') hf
theorem Inv.call' {s':Shared}{ch:List Addr}(I:Inv X pins σ H s) (ho:s'.os=s.os) (u:Un (frs X.stack) ch H H' s.heap s'.heap) (hok:HOk X.prog X.w H' s'.heap) (hg:AllBare s'.gens)
  (hch:∀ b∈ch,(b∈X.ex∨X.s₀.heap.objs.size≤b)∧b≠X.env.locals∧(∀ x c,X.env.cells.lookup x=some c→c≠b)∧∀ p∈X.pn++pins,p.1≠b):Inv X pins σ H' s':=by
 obtain⟨h',g',d',t',o'⟩:=s'
 have e:o'=s.os:=ho
 subst e
 exact I.call (g':=g') (t':=t') (d':=d') u hok hg hch
end
abbrev XK:=Value→Option Addr→Hp→Prop
abbrev St:=List (Option V)
abbrev VK:=V→Hp→Prop
abbrev TE:=St→Hp→VK→Prop
abbrev TT:=St→Hp→(Bool→Hp→Prop)→Prop
abbrev TA:=St→Hp→(List V→Hp→Prop)→Prop
structure Ends where
 nx:St→Hp→Prop
 rt:VK
 bk:St→Hp→Prop:=fun _ _=>False
 ct:St→Hp→Prop:=fun _ _=>False
abbrev TS:=Ends→St→Hp→Prop
def EP (X:Cx) (pins:List (Addr×Obj)) (σ:St) (Q:VK) (u:Value) (s':Shared):Prop:=∃ v H',Inv X pins σ H' s'∧RelV v u∧Q v H'
def TP (X:Cx) (pins:List (Addr×Obj)) (σ:St) (Q:Bool→Hp→Prop) (b:Bool) (s':Shared):Prop:=∃ H',Inv X pins σ H' s'∧Q b H'
def AP (X:Cx) (pins:List (Addr×Obj)) (σ:St) (Q:List V→Hp→Prop) (us:List Value) (s':Shared):Prop:=∃ vs H',Inv X pins σ H' s'∧Vals vs us∧Q vs H'
noncomputable def SP (X:Cx) (pins:List (Addr×Obj)) (D:Ends) (f:Flow) (s':Shared):Prop :=
 match f with
 |.next=>∃ σ' H',Inv X pins σ' H' s'∧D.nx σ' H'
 |.brk=>∃ σ' H',Inv X pins σ' H' s'∧D.bk σ' H'
 |.cont=>∃ σ' H',Inv X pins σ' H' s'∧D.ct σ' H'
 |.ret u=>∃ v σ' H',Inv X pins σ' H' s'∧RelV v u∧D.rt v H'
def PE (X:Cx) (e:Expr) (t:TE):Prop :=
 ∀ (pins:List (Addr×Obj)) (s:Shared) (σ:St) (H:Hp) (Q:VK),Inv X pins σ H s→t σ H Q→wpAny (model X.prog X.w) X.A (eval e X.env) (EP X pins σ Q) X.xe s
def PT (X:Cx) (e:Expr) (t:TT):Prop :=
 ∀ (pins:List (Addr×Obj)) (s:Shared) (σ:St) (H:Hp) (Q:Bool→Hp→Prop),Inv X pins σ H s→t σ H Q→wpAny (model X.prog X.w) X.A (isTrue e X.env (eval e X.env)) (TP X pins σ Q) X.xe s
def PW (X:Cx) (e:Expr) (t:TT):Prop :=
 ∀ (whole:Sem Value) (pins:List (Addr×Obj)) (s:Shared) (σ:St) (H:Hp) (Q:Bool→Hp→Prop),Inv X pins σ H s→t σ H Q→wpAny (model X.prog X.w) X.A (isTrue e X.env whole) (TP X pins σ Q) X.xe s
theorem PW.pt {X:Cx}{e:Expr}{t:TT}(h:PW X e t):PT X e t:=h _
def PA (X:Cx) (es:List Expr) (t:TA):Prop :=
 ∀ (pos:Pos) (pins:List (Addr×Obj)) (s:Shared) (σ:St) (H:Hp) (Q:List V→Hp→Prop),Inv X pins σ H s→t σ H Q→wpAny (model X.prog X.w) X.A (spliced (backTo pos (starEach es X.env))) (AP X pins σ Q) X.xe s
def PS (X:Cx) (st:Stmt) (t:TS):Prop :=
 ∀ (pins:List (Addr×Obj)) (s:Shared) (σ:St) (H:Hp) (D:Ends),Inv X pins σ H s→t D σ H→wpAny (model X.prog X.w) X.A (exec st X.env) (SP X pins D) X.xe s
def PSs (X:Cx) (st:List Stmt) (t:TS):Prop :=
 ∀ (pins:List (Addr×Obj)) (s:Shared) (σ:St) (H:Hp) (D:Ends),Inv X pins σ H s→t D σ H→wpAny (model X.prog X.w) X.A (execs st X.env) (SP X pins D) X.xe s
theorem thn {α:Type}{t:Sem α}{Q Q':α→Shared→Prop}{M:Model}{A:Around}{E:Value→Shared→Prop}{s:Shared}(h:wpAny M A t Q E s) (hQ:∀ a s,Q a s→Q' a s):wpAny M A t Q' E s:=wpAny_mono h hQ fun _ _ x=>x
end L2
namespace L2
open PySem PySem.Spec PyProof.Rows
section
variable {X:Cx}
theorem bin {a b:Expr}{ta tb:TE}(ha:PE X a ta) (hb:PE X b tb){pins:List (Addr×Obj)}{s:Shared}{σ:St}{H:Hp}{R:V→V→Hp→Prop}(I:Inv X pins σ H s) (h:ta σ H fun x H1=>tb σ H1 fun y H2=>R x y H2)
  {α:Type}{Q:α→Shared→Prop}{f:Value→Value→Sem α}
  (hf:∀ v u s2 x y H2,Inv X pins σ H2 s2→RelV x v→RelV y u→R x y H2→wpAny (model X.prog X.w) X.A (f v u) Q X.xe s2) :
  wpAny (model X.prog X.w) X.A (eval a X.env) (fun v s₁=>wpAny (model X.prog X.w) X.A (eval b X.env) (fun u s₂=>wpAny (model X.prog X.w) X.A (f v u) Q X.xe s₂) X.xe s₁) X.xe s:=by
 refine thn (ha pins s σ H _ I h) fun v s1 hq0=>?_
 obtain⟨x,H1,I1,r1,q1⟩:=hq0
 refine thn (hb pins s1 σ H1 _ I1 q1) fun u s2 hq0=>?_
 obtain⟨y,H2,I2,r2,q2⟩:=hq0
 exact hf v u s2 x y H2 I2 r1 r2 q2
def zlx (i:Nat):TE:=fun σ H Q=>∃ v,σ[i]?=some (some v)∧Q v H
def tC (v:V):TE:=fun _ H Q=>Q v H
theorem zgb {i:Nat}{x:Str}{pos:Pos}(hN:X.N[i]?=some x) (hv:Vis X.env.scope x) (hd:(x == ("__debug__" : Str))=false:=by decide) (hcd:(x == ("__classdict__" : Str))=false:=by decide):PE X (.Name x pos) (zlx i):=by
 intro pins s σ H Q I h
 obtain⟨v,e,h⟩:=h
 obtain⟨m,hn,hl⟩:=I.loc
 obtain⟨u,r,l⟩:=hl i x v hN e hv
 have fin:EP X pins σ Q u s:=⟨v,H,I,r,h⟩
 rcases l with⟨hk,hm⟩ | ⟨hk,c,hc,hcell⟩
 ·exact wpAny_Name (wpAny_loadName_local I.ok.kind hk hn hm fin) hd
 ·rcases hk with hk | hk
  ·exact wpAny_Name (wpAny_loadName_cell I.ok.kind hk hc hcell fin) hd
  ·exact wpAny_Name (wpAny_loadName_free I.ok.kind hk hc hcell fin hcd) hd
theorem yU {i j pos}:PE X (.Constant (.int i) j pos) (tC (.int i)):=fun _ _ _ H _ I h=>wpAny_Constant_int ⟨.int i,H,I.tok _,⟨_,rfl⟩,h⟩
theorem wc {b j pos}:PE X (.Constant (.bool b) j pos) (tC (.bl b)):=fun _ _ _ H _ I h=>Constant_bool ⟨.bl b,H,I,rfl,h⟩
theorem zgf {j pos}:PE X (.Constant .none j pos) (tC .non):=fun _ _ _ H _ I h=>Constant_none ⟨.non,H,I,rfl,h⟩
theorem zge {x j pos}:PE X (.Constant (.str x) j pos) (tC (.str x)):=fun _ _ _ H _ I h=>Calls.Constant_str ⟨.str x,H,I.tok _,⟨_,rfl⟩,h⟩
def Gl (X:Cx) (x:Str):Prop:=X.env.kindOf x=some .globalImplicit
theorem ld_glob {E:Value→Shared→Prop}{pins:List (Addr×Obj)}{s:Shared}{σ:St}{H:Hp}{x:Str}{u:Value}{pos:Pos}{Q:Value→Shared→Prop}(I:Inv X pins σ H s) (hg:Gl X x) (hm:X.mg x=some u) (h:Q u s)
  (hd:(x == ("__debug__" : Str))=false:=by decide):wpAny (model X.prog X.w) X.A (eval (.Name x pos) X.env) Q E s :=
 Calls.Name_function_global I.ok.kind hg (Calls.loadGlobal_global (by rw[I.ok.glob];exact I.mod.glob.keeps I.bk) hm h) hd
theorem ld_blt {E:Value→Shared→Prop}{pins:List (Addr×Obj)}{s:Shared}{σ:St}{H:Hp}{x:Str}{u:Value}{pos:Pos}{Q:Value→Shared→Prop}(I:Inv X pins σ H s) (hg:Gl X x) (hm:X.mg x=none) (hv:bootBuiltins x=some u) (h:Q u s)
  (hn:x ≠ "__name__" := by decide) (hd:(x == ("__debug__" : Str))=false:=by decide):wpAny (model X.prog X.w) X.A (eval (.Name x pos) X.env) Q E s:=by
 obtain⟨mb,h1,h2⟩:=I.mod.blt
 exact Calls.Name_function_global I.ok.kind hg (Calls.loadGlobal_builtin (by rw[I.ok.glob];exact I.mod.glob.keeps I.bk) hm (by rw[I.ok.blt];exact h1.keeps I.bk) ((h2 x hn).trans hv) h) hd
theorem wF {x:Str}{v:V}{u:Value}{pos:Pos}(hg:Gl X x) (hm:X.mg x=some u) (r:RelV v u) (hd:(x == ("__debug__" : Str))=false:=by decide):PE X (.Name x pos) (tC v) :=
 fun _ _ _ H _ I h=>ld_glob I hg hm ⟨v,H,I,r,h⟩ hd
theorem VN {x:Str}{v:V}{u:Value}{pos:Pos}(hg:Gl X x) (hm:X.mg x=none) (hv:bootBuiltins x=some u) (r:RelV v u) (hn:x ≠ "__name__" := by decide) (hd:(x == ("__debug__" : Str))=false:=by decide):PE X (.Name x pos) (tC v) :=
 fun _ _ _ H _ I h=>ld_blt I hg hm hv ⟨v,H,I,r,h⟩ hn hd
variable {a b:Expr}{ta tb:TE}{pos:Pos}
def PC (X:Cx) (op:CmpOp) (a b:Expr) (t:TE):Prop :=
 ∀ (pins:List (Addr×Obj)) (s:Shared) (σ:St) (H:Hp) (Q:VK),Inv X pins σ H s→t σ H Q →
  wpAny (model X.prog X.w) X.A (eval a X.env) (fun v s₁=>wpAny (model X.prog X.w) X.A (eval b X.env) (fun u s₂=>wpAny (model X.prog X.w) X.A (compareOp op v u) (EP X pins σ Q) X.xe s₂) X.xe s₁) X.xe s
def tB (t:TE):TT:=fun σ H Q=>t σ H fun x H1=>∃ c,x=.bl c∧Q c H1
theorem zgh {op:CmpOp}{t:TE}(h:PC X op a b t) (h1:behindInMarks op b=false:=by first | exact nobehind _ (by decide) (by decide) | rfl):PE X (.Compare a [op] [b] pos) t:=fun pins s σ H Q I hw=>wpAny_Compare1 (h pins s σ H Q I hw) h1
theorem zf7 {op:CmpOp}{t:TE}(h:PC X op a b t) (h1:behindInMarks op b=false:=by first | exact nobehind _ (by decide) (by decide) | rfl):PT X (.Compare a [op] [b] pos) (tB t):=by
 intro pins s σ H Q I hw
 refine wpAny_isTrue_Compare1 (thn (h pins s σ H _ I hw) fun v s1 h1=>thn h1 fun u s2 h2=>thn h2 fun c s3 hq0=>?_) h1
 obtain⟨x,H1,I1,r1,q1⟩:=hq0
 obtain⟨d,rfl,q⟩:=q1
 cases r1
 exact wpAny_truthy_bool ⟨H1,I1,q⟩
theorem yS {e:Expr}{t:TE}(h:PE X e t) (he:∀ whole,isTrue e X.env whole=(do let v ← whole;standAt e.pos;holding [v] (truthy v)):=by intro _;rfl):PT X e (tB t):=by
 intro pins s σ H Q I hw
 refine isTrue_plain (thn (h pins s σ H _ I hw) fun v s1 hq0=>?_) (he _)
 obtain⟨x,H1,I1,r1,q1⟩:=hq0
 obtain⟨d,rfl,q⟩:=q1
 cases r1
 exact wpAny_truthy_bool ⟨H1,I1,q⟩
variable {tA tB':TT}{rest:List Expr}
def zol (t u:TT):TT:=fun σ H Q=>t σ H fun c H1=>if c=true then u σ H1 Q else Q false H1
def tOr (t u:TT):TT:=fun σ H Q=>t σ H fun c H1=>if c=true then Q true H1 else u σ H1 Q
def zof (t:TT):TT:=fun σ H Q=>t σ H fun c H1=>Q (!c) H1
theorem Vv (ha:PT X a tA):PW X (.BoolOp .And [a] pos) tA:=by
 intro wh pins s σ H Q I h
 refine isTrue_and (thn (ha pins s σ H Q I h) fun c s1 e=>?_)
 cases c with
 |true=>exact isTrue_and_nil e
 |false=>exact e
theorem wm (ha:PT X a tA):PW X (.BoolOp .Or [a] pos) tA:=by
 intro wh pins s σ H Q I h
 refine isTrue_or (thn (ha pins s σ H Q I h) fun c s1 e=>?_)
 cases c with
 |false=>exact isTrue_or_nil e
 |true=>exact e
theorem zf5 (ha:PT X a tA) (hb:PW X (.BoolOp .And (b::rest) pos) tB'):PW X (.BoolOp .And (a::b::rest) pos) (zol tA tB'):=by
 intro wh pins s σ H Q I h
 refine isTrue_and (thn (ha pins s σ H _ I h) fun c s1 hq0=>?_)
 obtain⟨H1,I1,q1⟩:=hq0
 cases c with
 |true=>exact hb wh pins s1 σ H1 Q I1 q1
 |false=>exact⟨H1,I1,q1⟩
theorem vj (ha:PT X a tA) (hb:PW X (.BoolOp .Or (b::rest) pos) tB'):PW X (.BoolOp .Or (a::b::rest) pos) (tOr tA tB'):=by
 intro wh pins s σ H Q I h
 refine isTrue_or (thn (ha pins s σ H _ I h) fun c s1 hq0=>?_)
 obtain⟨H1,I1,q1⟩:=hq0
 cases c with
 |true=>exact⟨H1,I1,q1⟩
 |false=>exact hb wh pins s1 σ H1 Q I1 q1
theorem yT (ha:PT X a tA):PT X (.UnaryOp .Not a pos) (zof tA):=by
 intro pins s σ H Q I h
 exact isTrue_not (ha pins s σ H (fun c H1=>Q (!c) H1) I h)
def tAndV (ta tb:TE):TE:=fun σ H Q=>ta σ H fun x H1=>∃ c,x=.bl c∧if c=true then tb σ H1 Q else Q (.bl false) H1
def zoe (ta tb:TE):TE:=fun σ H Q=>ta σ H fun x H1=>∃ c,x=.bl c∧if c=true then Q (.bl true) H1 else tb σ H1 Q
def zaH (ta:TE):TE:=fun σ H Q=>ta σ H fun x H1=>∃ c,x=.bl c∧Q (.bl (!c)) H1
theorem Yw {op}{t:TE}(h:PE X a t):PE X (.BoolOp op [a] pos) t:=fun pins s σ H Q I hw=>BoolOp_one (h pins s σ H Q I hw)
theorem uv (ha:PE X a ta) (hb:PE X (.BoolOp .And (b::rest) pos) tb):PE X (.BoolOp .And (a::b::rest) pos) (tAndV ta tb):=by
 intro pins s σ H Q I h
 refine BoolOp_and (thn (ha pins s σ H _ I h) fun v s1 hq0=>?_)
 obtain⟨x,H1,I1,r1,q1⟩:=hq0
 obtain⟨c,rfl,q1⟩:=q1
 cases r1
 refine wpAny_truthy_bool ?_
 cases c with
 |true=>exact hb pins s1 σ H1 Q I1 q1
 |false=>exact⟨.bl false,H1,I1,rfl,q1⟩
theorem zmV (ha:PE X a ta) (hb:PE X (.BoolOp .Or (b::rest) pos) tb):PE X (.BoolOp .Or (a::b::rest) pos) (zoe ta tb):=by
 intro pins s σ H Q I h
 refine BoolOp_or (thn (ha pins s σ H _ I h) fun v s1 hq0=>?_)
 obtain⟨x,H1,I1,r1,q1⟩:=hq0
 obtain⟨c,rfl,q1⟩:=q1
 cases r1
 refine wpAny_truthy_bool ?_
 cases c with
 |false=>exact hb pins s1 σ H1 Q I1 q1
 |true=>exact⟨.bl true,H1,I1,rfl,q1⟩
theorem WV (ha:PE X a ta):PE X (.UnaryOp .Not a pos) (zaH ta):=by
 intro pins s σ H Q I h
 refine UnaryOp_ (thn (ha pins s σ H _ I h) fun v s1 hq0=>?_)
 obtain⟨x,H1,I1,r1,q1⟩:=hq0
 obtain⟨c,rfl,q1⟩:=q1
 cases r1
 exact not_of (wpAny_truthy_bool ⟨.bl (!c),H1,I1,rfl,q1⟩)
end
end L2
namespace L2
open PySem PySem.Spec PyProof.Rows
noncomputable def SqL (K:PySem.W.Frag) (H:Hp) (a:Addr) (xs:List V):Prop :=
 Rd H a (.lst xs) ∨
  ∃ (o:Obj) (its:Array Value) (n:Nat),K.lookup a=some o∧o.cls=.type "list" ∧ o.dict=none∧o.data=.seq its n∧its.size≤sizeLine∧Vals xs its.toList
noncomputable def SqT (K:PySem.W.Frag) (H:Hp) (a:Addr) (xs:List V):Prop :=
 Rd H a (.tup xs) ∨
  ∃ (o:Obj) (its:Array Value) (n:Nat),K.lookup a=some o∧o.cls=.type "tuple" ∧ o.data=.seq its n∧its.size≤sizeLine∧Vals xs its.toList
noncomputable def zxF:Value→Option V
 |.none=>some .non
 |.bool b=>some (.bl b)
 |.int i _=>some (.int i)
 |.str x _=>some (.str x)
 |.bytes b _=>some (.byt b)
 |.float b _=>some (.flt b)
 |.ref a=>some (.ref a)
 |.type n=>some (.ty n)
 |_=>none
theorem RelV.abs {x:V}{u:Value}(r:RelV x u):zxF u=some x:=by
 cases x with
 |non=>cases r;rfl
 |bl _=>cases r;rfl
 |int _=>obtain⟨t,rfl⟩:=r;rfl
 |str _=>obtain⟨t,rfl⟩:=r;rfl
 |byt _=>obtain⟨t,rfl⟩:=r;rfl
 |flt _=>obtain⟨t,rfl⟩:=r;rfl
 |ref _=>cases r;rfl
 |ty _=>cases r;rfl
theorem RelV.inj {x y:V}{u:Value}(r:RelV x u) (q:RelV y u):x=y:=Option.some.inj (r.abs.symm.trans q.abs)
theorem Vals.inj:∀ {xs ys:List V}{us:List Value},Vals xs us→Vals ys us→xs=ys
 |_,_,_,.nil,.nil=>rfl
 |_,_,_,.cons r t,.cons r' t'=>by rw[r.inj r',Vals.inj t t']
section
variable {X:Cx}{pins:List (Addr×Obj)}{σ:St}{H:Hp}{s:Shared}{a:Addr}{xs ys:List V}
theorem SqL.of {K:PySem.W.Frag}(h:H a=some (.lst xs)):SqL K H a xs:=.inl (.inl h)
theorem SqT.of {K:PySem.W.Frag}(h:H a=some (.tup xs)):SqT K H a xs:=.inl (.inl h)
theorem Inv.list (I:Inv X pins σ H s) (h:SqL X.K H a xs):∃ its:List Value,Vals xs its∧PlainL s.heap a its.toArray∧xs.length≤sizeLine:=by
 rcases h with h | ⟨o,its,n,hk,hc,hd,hs,hz,r⟩
 ·obtain⟨z,its,n,r,e⟩:=h.ok I.hok
  exact⟨its,r,⟨_,n,e,rfl,rfl,rfl⟩,z⟩
 ·refine⟨its.toList,r,⟨o,n,I.kIn a o hk,hc,hd,by simpa using hs⟩,?_⟩
  have e:=r.length
  simp only[Array.length_toList] at e
  omega
theorem Inv.tuple (I:Inv X pins σ H s) (h:SqT X.K H a xs):∃ its:List Value,Vals xs its∧IsTup s.heap a its.toArray∧xs.length≤sizeLine:=by
 rcases h with h | ⟨o,its,n,hk,hc,hs,hz,r⟩
 ·obtain⟨z,its,r,p⟩:=h.ok I.hok
  exact⟨its,r,p,z⟩
 ·refine⟨its.toList,r,⟨o,I.kIn a o hk,hc,n,by simpa using hs⟩,?_⟩
  have e:=r.length
  simp only[Array.length_toList] at e
  omega
theorem Inv.list_inj (I:Inv X pins σ H s) (h:SqL X.K H a xs) (h':SqL X.K H a ys):xs=ys:=by
 obtain⟨its,r,⟨o,n,e,_,_,d⟩,_⟩:=I.list h
 obtain⟨its',r',⟨o',n',e',_,_,d'⟩,_⟩:=I.list h'
 rw[e] at e';cases e'
 rw[d] at d'
 injection d' with d1 _
 have:its=its':=by simpa using congrArg Array.toList d1
 subst this
 exact r.inj r'
end
abbrev Cx.wish (X:Cx) (E:Value→Shared→Prop):Cx:={ X with xe:=E }
abbrev Cx.nox (X:Cx):Cx:=X.wish fun _ _=>False
theorem Cx.Ok.wish {X:Cx}(ok:X.Ok) (E:Value→Shared→Prop):(X.wish E).Ok :=
 ⟨ok.mod,ok.kind,ok.glob,ok.blt,ok.above,ok.inj,ok.has,ok.cab,ok.hd,ok.frames,ok.stk,ok.exf,ok.bs,ok.bsz,ok.noex,ok.exfs,ok.funs,ok.frf⟩
theorem Cx.Ok.unwish {X:Cx}{E:Value→Shared→Prop}(ok:(X.wish E).Ok):X.Ok :=
 ⟨ok.mod,ok.kind,ok.glob,ok.blt,ok.above,ok.inj,ok.has,ok.cab,ok.hd,ok.frames,ok.stk,ok.exf,ok.bs,ok.bsz,ok.noex,ok.exfs,ok.funs,ok.frf⟩
section
variable {X:Cx}{pins:List (Addr×Obj)}{σ:St}{H:Hp}{s:Shared}{E:Value→Shared→Prop}
theorem Inv.wish (I:Inv X pins σ H s) (E:Value→Shared→Prop):Inv (X.wish E) pins σ H s:=⟨I.ok.wish E,I.os,I.bare,I.base,I.loc,I.cell,I.free,I.freeC,I.pin,I.hok,I.len⟩
theorem Inv.unwish (I:Inv (X.wish E) pins σ H s):Inv X pins σ H s:=⟨I.ok.unwish,I.os,I.bare,I.base,I.loc,I.cell,I.free,I.freeC,I.pin,I.hok,I.len⟩
theorem SP.unwish {D:Ends}{f:Flow}{s':Shared}(h:SP (X.wish E) pins D f s'):SP X pins D f s':=by
 cases f with
 |next=>obtain⟨σ',H',I,q⟩:=h;exact⟨σ',H',I.unwish,q⟩
 |brk=>obtain⟨σ',H',I,q⟩:=h;exact⟨σ',H',I.unwish,q⟩
 |cont=>obtain⟨σ',H',I,q⟩:=h;exact⟨σ',H',I.unwish,q⟩
 |ret u=>obtain⟨v,σ',H',I,r,q⟩:=h;exact⟨v,σ',H',I.unwish,r,q⟩
theorem PSs.nox {st:List Stmt}{t:TS}(h:PSs X.nox st t):PSs X st t:=fun pins s σ H D I hw =>
 wpAny_mono (h pins s σ H D (I.wish _) hw) (fun _ _ q=>q.unwish) fun _ _ z=>False.elim z
end
section
variable {X:Cx}{st:Stmt}{rest:List Stmt}{t u:TS}{e:Expr}{te:TE}{pos:Pos}
def zaI:TS:=fun D σ H=>D.nx σ H
def zoc (t u:TS):TS:=fun D σ H=>t { D with nx:=u D } σ H
theorem yz:PSs X [] zaI:=fun _ _ σ H _ I h=>wpAny_execs_nil ⟨σ,H,I,h⟩
theorem zG (h1:PS X st t) (h2:PSs X rest u):PSs X (st::rest) (zoc t u):=by
 intro pins s σ H D I h
 refine wpAny_execs_cons (thn (h1 pins s σ H { D with nx:=u D } I h) fun f s1 q=>?_)
 cases f with
 |next =>
  obtain⟨σ',H',I',q⟩:=q
  exact h2 pins s1 σ' H' D I' q
 |ret v=>exact q
 |brk=>exact q
 |cont=>exact q
theorem zP (h1:PS X st t):PSs X [st] t:=by
 intro pins s σ H D I h
 refine wpAny_execs_cons (thn (h1 pins s σ H D I h) fun f s1 q=>?_)
 cases f with
 |next=>exact wpAny_execs_nil q
 |ret v=>exact q
 |brk=>exact q
 |cont=>exact q
theorem Inv.quiet {pins:List (Addr×Obj)}{σ:St}{H:Hp}{s:Shared}(I:Inv X pins σ H s):interactive X.env=false:=by simp[interactive,I.ok.kind]
def zaM (te:TE):TS:=fun D σ H=>te σ H fun _ H1=>D.nx σ H1
theorem vR (he:PE X e te) (hs:swapsWith e none pos.line X.env=pure false:=by rfl):PS X (.Expr e pos) (zaM te):=by
 intro pins s σ H D I h
 exact wpAny_Expr_any (thn (he pins s σ H _ I h) fun v s1 ⟨x,H1,I1,r1,q1⟩=>⟨σ,H1,I1,q1⟩) I.quiet hs
def zod (te:TE):TS:=fun D σ H=>te σ H D.rt
theorem yA (he:PE X e te):PS X (.Return (some e) pos) (zod te):=by
 intro pins s σ H D I h
 exact wpAny_Return_some (thn (he pins s σ H _ I h) fun v s1 ⟨x,H1,I1,r1,q1⟩=>⟨x,σ,H1,I1,r1,q1⟩)
def zoh (c:TT) (t u:TS):TS:=fun D σ H=>c σ H fun b H1=>if b=true then t D σ H1 else u D σ H1
theorem wD {c:Expr}{a b:List Stmt}{tc:TT}(hc:PT X c tc) (ha:PSs X a t) (hb:PSs X b u):PS X (.If c a b pos) (zoh tc t u):=by
 intro pins s σ H D I h
 refine wpAny_If (thn (hc pins s σ H _ I h) fun d s1 hq0=>?_)
 obtain⟨H1,I1,q1⟩:=hq0
 cases d with
 |true=>exact ha pins s1 σ H1 D I1 q1
 |false=>exact hb pins s1 σ H1 D I1 q1
def WM:TS:=fun _ _ _=>False
theorem wC:PS X st WM:=fun _ _ _ _ _ _ h=>h.elim
end
abbrev TG:=V→St→Hp→(St→Hp→Prop)→Prop
abbrev TGs:=List V→St→Hp→(St→Hp→Prop)→Prop
def PG (X:Cx) (target:Expr) (t:TG):Prop :=
 ∀ (pins:List (Addr×Obj)) (s:Shared) (σ:St) (H:Hp) (v:V) (u:Value) (Q:St→Hp→Prop),Inv X pins σ H s→RelV v u→t v σ H Q →
  wpAny (model X.prog X.w) X.A (assign target X.env u) (fun _ s'=>∃ σ' H',Inv X pins σ' H' s'∧Q σ' H') X.xe s
noncomputable def PGs (X:Cx) (ts:List Expr) (t:TGs):Prop :=
 ∀ (pins:List (Addr×Obj)) (s:Shared) (σ:St) (H:Hp) (vs:List V) (us:List Value) (Q:St→Hp→Prop),Inv X pins σ H s→Vals vs us→t vs σ H Q →
  wpAny (model X.prog X.w) X.A (assignInOrder ((assignEach ts X.env).map (·.2)) us) (fun _ s'=>∃ σ' H',Inv X pins σ' H' s'∧Q σ' H') X.xe s
section
variable {X:Cx}{pos:Pos}
def ua (i:Nat):TG:=fun v σ H Q=>Q (σ.set i (some v)) H
theorem xu {i:Nat}{x:Str}(hN:X.N.Nodup) (hi:X.N[i]?=some x) (hx:Loc X.env.scope x) (hf:X.fn x=true∨X.env.scope.names.lookup x=some .local:=by first | exact .inl rfl | exact .inr rfl | assumption):PG X (.Name x pos) (ua i):=by
 intro pins s σ H v u Q I r h
 exact wpAny_assign_Name (store_ok I hN hi hx r (fun s' I'=>⟨_,H,I',h⟩) hf)
def gNil:TGs:=fun vs σ H Q=>vs=[]∧Q σ H
def zis (t:TG) (u:TGs):TGs:=fun vs σ H Q=>∃ v r,vs=v::r∧t v σ H fun σ' H'=>u r σ' H' Q
theorem Yv:PGs X [] gNil:=by
 intro pins s σ H vs us Q I r h
 obtain⟨e,h⟩:=h
 subst e
 cases r
 exact assignInOrder_nil ⟨σ,H,I,h⟩
theorem wE {e:Expr}{es:List Expr}{t:TG}{u:TGs}(h1:PG X e t) (h2:PGs X es u)
  (hs:(assignEach (e::es) X.env).map (·.2)=assign e X.env::(assignEach es X.env).map (·.2):=by rfl):PGs X (e::es) (zis t u):=by
 intro pins s σ H vs us Q I r h
 obtain⟨v,vr,e1,h⟩:=h
 subst e1
 cases r with
 |cons r rr =>
  rw[hs]
  refine assignInOrder_cons (thn (h1 pins s σ H _ _ _ I r h) fun _ s1 hq0=>?_)
  obtain⟨σ1,H1,I1,q1⟩:=hq0
  exact h2 pins s1 σ1 H1 _ _ Q I1 rr q1
def zwA (K:PySem.W.Frag) (n:Nat) (t:TGs):TG:=fun v σ H Q=>∃ a xs,v=.ref a∧SqT K H a xs∧xs.length=n∧t xs σ H Q
theorem WU {es:List Expr}{k:Nat}{t:TGs}{n:Nat}(hc:X.calm=true) (h:PGs X es t)
  (hn:(assignEach es X.env).length=n:=by rfl) (hst:(assignEach es X.env).findIdx? (·.1)=none:=by rfl):PG X (.Tuple es k pos) (zwA X.K n t):=by
 intro pins s σ H v u Q I r hw
 obtain⟨a,xs,e1,hq,hl,hw⟩:=hw
 subst e1
 cases r
 obtain⟨its,rv,ht,hz⟩:=I.tuple hq
 refine assign_Tuple_tuple (I.ok.hd hc) ht (by simp[hn,← hl,rv.length]) hst fun h' hx=>?_
 have I1:Inv X pins σ H { s with heap:=h' }:=I.kept (t':=s.toks) fun b o e=>hx b o (Nat.ne_of_lt (Heap.lt_size e)) e
 exact h pins _ σ H xs _ Q I1 (by simpa using rv) hw
def zaq (te:TE) (g:TG):TS:=fun D σ H=>te σ H fun x H1=>g x σ H1 D.nx
theorem zf8 {tg e:Expr}{te:TE}{g:TG}(he:PE X e te) (hg:PG X tg g) (hs:swapsWithSole [tg] e pos.line X.env=pure false:=by rfl) (hw:swappedStores [tg] e X.env=pure none:=by rfl)
  (h1:(assignEach [tg] X.env).map (·.2)=[assign tg X.env]:=by rfl):PS X (.Assign [tg] e pos) (zaq te g):=by
 intro pins s σ H D I h
 refine wpAny_Assign_stores (thn (he pins s σ H _ I h) fun v s1 hq0=>?_) hs hw
 obtain⟨x,H1,I1,r1,q1⟩:=hq0
 rw[h1]
 exact thn (hg pins s1 σ H1 x v _ I1 r1 q1) fun _ s2 q=>q
theorem vk {i:Nat}{x:Str}{e:Expr}{te:TE}{pos':Pos}(hN:X.N.Nodup) (hi:X.N[i]?=some x) (hx:Loc X.env.scope x) (he:PE X e te) (hs:swapsWith e (some (.Name x pos')) pos.line X.env=pure false:=by rfl) (hf:X.fn x=true∨X.env.scope.names.lookup x=some .local:=by first | exact .inl rfl | exact .inr rfl | assumption) :
  PS X (.Assign [.Name x pos'] e pos) (zaq te (ua i)):=by
 intro pins s σ H D I h
 refine wpAny_Assign_Name (thn (he pins s σ H _ I h) fun v s1 hq0=>?_) hs
 obtain⟨y,H1,I1,r1,q1⟩:=hq0
 exact store_ok I1 hN hi hx r1 (fun s2 I2=>⟨_,H1,I2,q1⟩) hf
end
section
variable {X:Cx}{pos:Pos}
def WL (c:TT) (tb:TS):TS:=fun D σ H=>∃ W:Nat→St→Hp→Prop,(∃ m,W m σ H)∧∀ m σ H,W m σ H →
 c σ H fun b H1=>if b=true then ∃ N:St→Hp→Prop,(∀ σ' H',N σ' H'→∃ m',m'<m∧W m' σ' H')∧tb { D with nx:=N,ct:=N,bk:=D.nx } σ H1 else D.nx σ H1
theorem XT {c:Expr}{body:List Stmt}{tc:TT}{tb:TS}(hp:PassesOwn (model X.prog X.w) X.A X.env X.xe) (hc:PT X c tc) (hb:PSs X body tb):PS X (.While c body [] pos) (WL tc tb):=by
 intro pins s σ H D I h
 obtain⟨W,⟨m0,w0⟩,turn⟩:=h
 refine wpAny_While (codeAny_whileLoop (fun n s'=>∃ σ' H',Inv X pins σ' H' s'∧W n σ' H') ?_ m0 ⟨σ,H,I,w0⟩)
 rintro n s1 ⟨σ1,H1,I1,w1⟩
 refine wpAny_passesOwn hp (thn (hc pins s1 σ1 H1 _ I1 (turn n σ1 H1 w1)) fun b s2 hq0=>?_)
 obtain⟨H2,I2,q2⟩:=hq0
 cases b with
 |true =>
  obtain⟨N,hN,q2⟩:=q2
  rw[if_pos rfl]
  refine wpAny_passesOwn hp (thn (hb pins s2 σ1 H2 _ I2 q2) fun f s3 q3=>?_)
  cases f with
  |next =>
   obtain⟨σ3,H3,I3,n3⟩:=q3
   obtain⟨m',hm,w3⟩:=hN σ3 H3 n3
   exact⟨m',hm,σ3,H3,I3,w3⟩
  |cont =>
   obtain⟨σ3,H3,I3,n3⟩:=q3
   obtain⟨m',hm,w3⟩:=hN σ3 H3 n3
   exact⟨m',hm,σ3,H3,I3,w3⟩
  |brk=>exact q3
  |ret v=>exact q3
 |false =>
  rw[if_neg Bool.false_ne_true]
  exact wpAny_execs_nil ⟨σ1,H2,I2,q2⟩
end
structure It where
 go:Nat→Hp→Prop
 yld:Nat→Hp→V→Hp→Prop
 stop:Nat→Hp→Prop
noncomputable def FpOk (X:Cx) (pins:List (Addr×Obj)) (H:Hp) (b:Addr):Prop :=
 H b=none∧b≠X.env.locals∧b∉X.fs∧(b∈X.ex∨X.s₀.heap.objs.size≤b)∧(∀ x c,X.env.cells.lookup x=some c→c≠b)∧∀ p∈X.pn++pins,p.1≠b
theorem Inv.fpOk {X:Cx}{pins:List (Addr×Obj)}{σ:St}{H H':Hp}{s:Shared}{b:Addr}(I:Inv X pins σ H s) (hb:s.heap.objs.size≤b) (hn:H' b=none):FpOk X pins H' b:=by
 refine⟨hn,Nat.ne_of_gt (Nat.lt_of_lt_of_le I.lt hb),I.nofs hb,.inr (Nat.le_trans I.sz hb),fun x c e z=>?_,fun p hp z=>?_⟩
 ·obtain⟨v,q⟩:=I.cell x c e
  exact absurd (Nat.lt_of_lt_of_le q.lt (by rw[z];exact hb)) (Nat.lt_irrefl _)
 ·exact absurd (Nat.lt_of_lt_of_le (Heap.lt_size (I.pin p hp).1) (by rw[z];exact hb)) (Nat.lt_irrefl _)
structure Turn (P:Program) (w:World) (K:PySem.W.Frag) (tg:Expr) (J:It) (fp:List Addr) (it:Addr) (tn:Nat→Heap→Prop):Prop where
 mem:it∈fp
 obj:∀ i h,tn i h→∀ b∈fp,∃ o,h.get? b=some o∧∀ v,o.data≠.cell v
 keep:∀ i h h',tn i h→(∀ b∈fp,∀ o,h.get? b=some o→h'.get? b=some o)→tn i h'
 item:∀ (X:Cx),X.prog=P→X.w=w→X.K=K→X.calm=true→∀ (i:Nat) (pins:List (Addr×Obj)) (s:Shared) (σ:St) (H:Hp) (E:Value→Shared→Prop),Inv X pins σ H s→(∀ b∈fp,FpOk X pins H b)→tn i s.heap→J.go i H →
  wpAny (model P w) X.A (pyNext (.ref it)) (fun r s1=>∃ u,r=some u ∧
   wpAny (model P w) X.A (letOwnedTupleGo tg (.ref it) u) (fun _ s2=>∃ x H',Inv X pins σ H' s2∧RelV x u∧J.yld i H x H'∧tn (i+1) s2.heap∧∀ b∈fp,H' b=none) E s1) E s
 done:∀ (X:Cx),X.prog=P→X.w=w→X.K=K→X.calm=true→∀ (i:Nat) (pins:List (Addr×Obj)) (s:Shared) (σ:St) (H:Hp) (E:Value→Shared→Prop),Inv X pins σ H s→(∀ b∈fp,FpOk X pins H b)→tn i s.heap→J.stop i H →
  wpAny (model P w) X.A (pyNext (.ref it)) (fun r s1=>r=none∧Inv X pins σ H s1) E s
 self:∀ (A:Around) (i:Nat) (s:Shared) (Q:Value→Shared→Prop) (E:Value→Shared→Prop),tn i s.heap→Q (.ref it) s→wpAny (model P w) A (pyIter (.ref it)) Q E s
abbrev TI:=St→Hp→(It→Hp→Prop)→Prop
noncomputable def PIE (X:Cx) (pins:List (Addr×Obj)) (σ:St) (tg:Expr) (R:It→Hp→Prop) (itv:Value) (s2:Shared):Prop :=
 ∃ (it:Addr) (fp:List Addr) (tn:Nat→Heap→Prop) (J:It) (H':Hp),itv=.ref it∧Inv X pins σ H' s2∧Turn X.prog X.w X.K tg J fp it tn∧tn 0 s2.heap∧(∀ b∈fp,FpOk X pins H' b)∧R J H'
def PI (X:Cx) (tg iter:Expr) (wi:TI):Prop :=
 ∀ (pins:List (Addr×Obj)) (s:Shared) (σ:St) (H:Hp) (R:It→Hp→Prop),Inv X pins σ H s→wi σ H R →
  wpAny (model X.prog X.w) X.A (eval iter X.env) (fun v s1=>wpAny (model X.prog X.w) X.A (pyIter v) (PIE X pins σ tg R) X.xe s1) X.xe s
theorem zir {M:Model}{A:Around}{E:Value→Shared→Prop}{s:Shared}{tg:Expr}{it:Addr}{u:Value}{o:Obj}{n:String}{vs:Array Value}{Q:Unit→Shared→Prop}(ho:s.heap.get? it=some o) (hc:o.cls=.type n) (hd:o.data=.fields vs)
  (hn:["enumerate", "zip", "dict_itemiterator", "dict_reverseitemiterator", "odict_iterator", "itertools.zip_longest", "itertools.pairwise"].contains n=false) (hQ:Q () s):wpAny M A (letOwnedTupleGo tg (.ref it) u) Q E s:=by
 unfold letOwnedTupleGo
 cases tg<;>first
  |exact wpAny_pure hQ
  |(cases u<;>first
    |exact wpAny_pure hQ
    |(refine wpAny_bind (wpAny_load ho ?_)
      rw[hc,hd]
      show wpAny M A (if (["enumerate", "zip", "dict_itemiterator", "dict_reverseitemiterator", "odict_iterator", "itertools.zip_longest", "itertools.pairwise"].contains n&&vs[0]? == some (rawInt _))=true then _ else _) Q E s
      rw[if_neg (by intro h;rw[hn,Bool.false_and] at h;cases h)]
      exact wpAny_pure hQ))
noncomputable def Itl (K:PySem.W.Frag) (a:Addr):It :=
 ⟨fun i H=>∃ xs x,SqL K H a xs∧xs[i]?=some x,fun i H x H'=>H'=H∧∀ xs,SqL K H a xs→xs[i]?=some x,fun i H=>∃ xs,SqL K H a xs∧xs.length≤i⟩
noncomputable def Itr (lo:Int) (n:Nat):It:=⟨fun i _=>i<n,fun i H x H'=>H'=H∧x=.int (lo+i),fun i _=>n≤i⟩
theorem Zm {P:Program}{w:World}{K:PySem.W.Frag}{tg:Expr} (a it:Addr):Turn P w K tg (Itl K a) [it] it (fun i h=>h.IsListIter it a i) where
 mem:=by simp
 obj:=fun i h st b hb=>by
  have e:b=it:=by simpa using hb
  subst e
  obtain⟨o,e,c,d⟩:=st
  exact⟨o,e,fun v z=>by rw[d] at z;cases z⟩
 keep:=fun i h h' st k=>st.at fun o e=>k it (by simp) o e
 item:=by
  intro X hP hw hK hc i pins s σ H E I hf st hg
  subst hP hw hK
  obtain⟨xs,x,hq,hx⟩:=hg
  obtain⟨its,rv,p,hz⟩:=I.list hq
  obtain⟨u,hu,ru⟩:=rv.get hx
  obtain⟨f0,f1,f2,f3,f4,f5⟩:=hf it (by simp)
  refine wpAny_pyNext_list_item st p.isList (x:=u) (by simpa using hu) fun h' st' sb=>?_
  have I1:Inv X pins σ H { s with heap:=h' }:=I.turned (t':=s.toks) (fun b o hb e=>(sb.2 b hb).trans e) f0 f1 f3 f4 f5
  obtain⟨o,e,c,d⟩:=id st'
  exact⟨u,rfl,zir (s:={ s with heap:=h' }) e c d (by decide) ⟨x,H,I1,ru,⟨rfl,fun ys hy=>by rw[I.list_inj hy hq];exact hx⟩,st',fun b hb=>(hf b hb).1⟩⟩
 done:=by
  intro X hP hw hK hc i pins s σ H E I hf st hg
  subst hP hw hK
  obtain⟨xs,hq,hx⟩:=hg
  obtain⟨its,rv,p,hz⟩:=I.list hq
  obtain⟨f0,f1,f2,f3,f4,f5⟩:=hf it (by simp)
  have hl:=rv.length
  exact wpAny_pyNext_list_end (I.ok.hd hc) st p.isList (by simp;omega) fun h' eb=>⟨rfl,I.turned (t':=s.toks) (fun b o hb e=>eb b o hb e) f0 f1 f3 f4 f5⟩
 self:=fun _ _ _ _ _ st h=>wpAny_pyIter_listiter st h
theorem uK {P:Program}{w:World}{K:PySem.W.Frag}{tg:Expr}(it:Addr) (lo:Int) (n:Nat):Turn P w K tg (Itr lo n) [it] it (fun i h=>IsRangeIter h it (lo+(i:Nat)*1) ((n:Int)-(i:Nat)) 1) where
 mem:=by simp
 obj:=fun i h st b hb=>by
  have e:b=it:=by simpa using hb
  subst e
  exact⟨_,st,fun v z=>by
   have z':Data.fields _=Data.cell v:=z
   cases z'⟩
 keep:=fun i h h' st k=>k it (by simp) _ st
 item:=by
  intro X hP hw hK hc i pins s σ H E I hf st hg
  subst hP hw hK
  obtain⟨f0,f1,f2,f3,f4,f5⟩:=hf it (by simp)
  have W:=Walks.range (prog:=X.prog) (w:=X.w) (I.ok.hd hc) it lo 1 n
  refine W.item i s _ _ hg st fun v h' tk hv st' kk=>?_
  obtain⟨t,rfl⟩:=hv
  have I1:Inv X pins σ H { s with heap:=h',toks:=tk }:=I.turned (fun b o hb e=>kk b o (by simpa using hb) e) f0 f1 f3 f4 f5
  refine⟨_,rfl,zir (s:={ s with heap:=h',toks:=tk }) (n := "range_iterator") st' rfl rfl (by decide) ⟨.int (lo+i),H,I1,⟨t,?_⟩,⟨rfl,rfl⟩,st',fun b hb=>(hf b hb).1⟩⟩
  rw[Int.mul_one]
 done:=by
  intro X hP hw hK hc i pins s σ H E I hf st hg
  subst hP hw hK
  obtain⟨f0,f1,f2,f3,f4,f5⟩:=hf it (by simp)
  exact wpAny_pyNext_range_end (I.ok.hd hc) st (by have:n≤i:=hg;omega) fun h' eb=>⟨rfl,I.turned (t':=s.toks) (fun b o hb e=>eb b o hb e) f0 f1 f3 f4 f5⟩
 self:=fun _ _ _ _ _ st h=>wpAny_pyIter_rangeiter st h
end L2
namespace L2
open PySem PySem.Spec PyProof.Rows
section
variable {X:Cx}{tg:Expr}
def zio (K:PySem.W.Frag) (tl:TE):TI:=fun σ H R=>tl σ H fun x H1=>∃ a,x=.ref a∧(∃ xs,SqL K H1 a xs)∧R (Itl K a) H1
theorem xN {l:Expr}{tl:TE}(hl:PE X l tl):PI X tg l (zio X.K tl):=by
 intro pins s σ H R I h
 refine thn (hl pins s σ H _ I h) fun v s1 hq0=>?_
 obtain⟨x,H1,I1,r1,q1⟩:=hq0
 obtain⟨a,e,⟨xs,hq⟩,q⟩:=q1
 subst e
 cases r1
 obtain⟨its,rv,p,hz⟩:=I1.list hq
 refine wpAny_pyIter_list p.isList ?_
 refine⟨s1.heap.objs.size,[s1.heap.objs.size],_,_,H1,rfl,I1.kept (t':=s1.toks) fun b o e=>Heap.get?_push_of_some _ e,Zm a _,⟨_,Heap.get?_push_size _ rfl,rfl,rfl⟩,fun b hb=>?_,q⟩
 have e:b=s1.heap.objs.size:=by simpa using hb
 subst e
 exact I1.fpOk (Nat.le_refl _) (I1.hok.fresh (Nat.le_refl _))
theorem uq {pins:List (Addr×Obj)}{σ:St}{H:Hp}{s:Shared}{R:It→Hp→Prop}{E:Value→Shared→Prop}{lo hi:Int}{t u v:Tok}{tk:Nat}(I:Inv X pins σ H s) (h1 : -(2 ^ 62)≤lo) (h2:lo<2 ^ 62) (h3 : -(2 ^ 62)≤hi) (h4:hi<2 ^ 62)
  (q:R (Itr lo (hi-lo).toNat) H):wpAny (model X.prog X.w) X.A (pyIter (.ref s.heap.objs.size)) (PIE X pins σ tg R) E { s with heap:=s.heap.push { cls:=.type "range",data:=.fields #[.int lo t,.int hi u,.int 1 v] },toks:=tk }:=by
 refine wpAny_pyIter_range (IsRange.new ..) (small_one h1 h2 h3 h4) ?_
 have I1:Inv X pins σ H { s with heap:=s.heap.push { cls:=.type "range",data:=.fields #[.int lo t,.int hi u,.int 1 v] },toks:=tk }:=I.kept fun b o e=>Heap.get?_push_of_some _ e
 refine⟨(s.heap.push { cls:=.type "range",data:=.fields #[.int lo t,.int hi u,.int 1 v] }).objs.size,[(s.heap.push { cls:=.type "range",data:=.fields #[.int lo t,.int hi u,.int 1 v] }).objs.size],_,_,H,rfl,
  I1.kept (t':=tk) fun b o e=>Heap.get?_push_of_some _ e,uK _ lo (hi-lo).toNat,?_,fun b hb=>?_,q⟩
 ·have e1:lo+((0:Nat):Int)*1=lo:=by simp
  have e2:(((hi-lo).toNat:Nat):Int)-((0:Nat):Int)=Builtin.Range.rangeSize lo hi 1:=by rw[rangeSize_one];split<;>omega
  show IsRangeIter _ _ (lo+((0:Nat):Int)*1) ((((hi-lo).toNat:Nat):Int)-((0:Nat):Int)) 1
  rw[e1,e2]
  exact Heap.get?_push_size _ rfl
 ·have e:b=(s.heap.push { cls:=.type "range",data:=.fields #[.int lo t,.int hi u,.int 1 v] }).objs.size:=by simpa using hb
  subst e
  exact I1.fpOk (Nat.le_refl _) (I1.hok.fresh (Nat.le_refl _))
def zin (ta:TA):TI:=fun σ H R=>ta σ H fun vs H1=>∃ j:Int,vs=[.int j]∧-(2 ^ 62)≤j∧j<2 ^ 62∧R (Itr 0 j.toNat) H1
def zim (ta:TA):TI:=fun σ H R=>ta σ H fun vs H1=>∃ i j:Int,vs=[.int i,.int j]∧(-(2 ^ 62)≤i∧i<2 ^ 62∧-(2 ^ 62)≤j∧j<2 ^ 62)∧R (Itr i (j-i).toNat) H1
theorem Yu {a:Expr}{ta:TA}{p pos:Pos}(hg:Gl X "range") (hm:X.mg "range" = none) (ha:PA X [a] ta) (hs:starEach [a] X.env=[(false,eval a X.env)]:=by rfl):PI X tg (.Call (.Name "range" p) [a] [] pos) (zin ta):=by
 intro pins s σ H R I h
 refine Call_ (ld_blt I hg hm boot_range (PyProof.Rows.callWith_type1 (thn (ha pos pins s σ H _ I h) fun us s1 hq0=>?_) hs rfl))
 obtain⟨vs,H1,I1,r1,q1⟩:=hq0
 obtain⟨j,e,q1,q2,q⟩:=q1
 subst e
 cases r1 with
 |cons r rr =>
  cases rr
  obtain⟨t,rfl⟩:=r
  exact call_range_1 (uq I1 (by omega) (by omega) q1 q2 (by simpa using q))
theorem Yt {a b:Expr}{ta:TA}{p pos:Pos}(hg:Gl X "range") (hm:X.mg "range" = none) (ha:PA X [a,b] ta) (hs:starEach [a,b] X.env=[(false,eval a X.env),(false,eval b X.env)]:=by rfl) (hs2:starEach [b] X.env=[(false,eval b X.env)]:=by rfl) :
  PI X tg (.Call (.Name "range" p) [a,b] [] pos) (zim ta):=by
 intro pins s σ H R I h
 refine Call_ (ld_blt I hg hm boot_range (PyProof.Rows.callWith_type1 (thn (ha pos pins s σ H _ I h) fun us s1 hq0=>?_) (by rw[hs,hs2]) (by rw[hs2];rfl)))
 obtain⟨vs,H1,I1,r1,q1⟩:=hq0
 obtain⟨i,j,e,⟨q1,q2,q3,q4⟩,q⟩:=q1
 subst e
 cases r1 with
 |cons r rr =>
  cases rr with
  |cons r' rr =>
   cases rr
   obtain⟨t,rfl⟩:=r
   obtain⟨t',rfl⟩:=r'
   exact call_range_2 (uq I1 q1 q2 q3 q4 q)
def zoi (wi:TI) (g:TG) (tb:TS):TS:=fun D σ H=>wi σ H fun J H1=>∃ W:Nat→Nat→St→Hp→Prop,(∃ m,W 0 m σ H1)∧∀ i m σ H,W i m σ H →
 (J.stop i H∧D.nx σ H)∨(J.go i H∧∃ N:St→Hp→Prop,(∀ σ' H',N σ' H'→∃ m',m'<m∧W (i+1) m' σ' H')∧∀ x H',J.yld i H x H'→g x σ H' fun σ2 H2=>tb { D with nx:=N,ct:=N,bk:=D.nx } σ2 H2)
noncomputable def vn (fp:List Addr) (h:Heap):List (Addr×Obj):=fp.filterMap fun b=>(h.get? b).map fun o=>(b,o)
theorem yO {fp:List Addr}{h:Heap}{b:Addr}{o:Obj}(hb:b∈fp) (e:h.get? b=some o):(b,o)∈vn fp h:=List.mem_filterMap.mpr ⟨b,hb,by rw[e];rfl⟩
theorem YE {fp:List Addr}{h:Heap}{p:Addr×Obj}(hp:p∈vn fp h):p.1∈fp∧h.get? p.1=some p.2:=by
 obtain⟨b,hb,e⟩:=List.mem_filterMap.mp hp
 cases q:h.get? b with
 |none=>rw[q] at e;cases e
 |some o =>
  rw[q] at e
  have e':(b,o)=p:=Option.some.inj e
  subst e'
  exact⟨hb,q⟩
theorem Inv.pinned {pins:List (Addr×Obj)}{σ:St}{H:Hp}{s:Shared}{fp:List Addr}(I:Inv X pins σ H s) (hf:∀ b∈fp,FpOk X pins H b) (ho:∀ b∈fp,∃ o,s.heap.get? b=some o∧∀ v,o.data≠.cell v):Inv X (pins++vn fp s.heap) σ H s :=
 I.pins_of fun p hp=>(List.mem_append.mp hp).elim (fun z=>I.pin p (List.mem_append_right _ z)) fun z=>by
  obtain⟨hb,e⟩:=YE z
  obtain⟨f0,f1,f2,_⟩:=hf p.1 hb
  obtain⟨o,e',d⟩:=ho p.1 hb
  rw[e] at e';cases e'
  exact⟨e,f0,f1,f2,d⟩
theorem Inv.unpinned {pins pl:List (Addr×Obj)}{σ:St}{H:Hp}{s:Shared}(I:Inv X (pins++pl) σ H s):Inv X pins σ H s:=I.pins_of fun p hp=>I.pin p (List.mem_append_right _ (List.mem_append_left _ hp))
theorem vm {iter:Expr}{body:List Stmt}{wi:TI}{g:TG}{tb:TS}{pos:Pos}(hp:PassesOwn (model X.prog X.w) X.A X.env X.xe) (hc:X.calm=true) (hi:PI X tg iter wi) (hg:PG X tg g) (hb:PSs X body tb)
  (hs:∀ x,foldedSetIterable iter X.env x=pure x:=by intro _;rfl):PS X (.For tg iter body [] pos) (zoi wi g tb):=by
 intro pins s σ H D I h
 refine wpAny_For (thn (hi pins s σ H _ I h) fun v s1 h1=>thn h1 fun itv s2 h2=>?_) hs
 obtain⟨it,fp,tn,J,H2,e,I2,T,st2,f2,W,⟨m0,w0⟩,turn⟩:=h2
 subst e
 -- what stays true of the iterator's objects through the loop
 have stat:∀ {H':Hp},(∀ b∈fp,H' b=none)→∀ b∈fp,FpOk X pins H' b:=fun hn b hb=>⟨hn b hb,(f2 b hb).2⟩
 refine codeAny_forLoop_any (fun n s'=>∃ i σ' H',Inv X pins σ' H' s'∧tn i s'.heap∧(∀ b∈fp,H' b=none)∧W i n σ' H') ?_ m0 ⟨0,σ,H2,I2,st2,fun b hb=>(f2 b hb).1,w0⟩
 rintro n s3 ⟨i,σ3,H3,I3,st3,fr3,w3⟩
 rcases turn i n σ3 H3 w3 with⟨stop,qn⟩ | ⟨go,N,hN,step⟩
 ·refine wpAny_passesOwn hp (thn (T.done X rfl rfl rfl hc i pins s3 σ3 H3 X.xe I3 (stat fr3) st3 stop) fun r s4 ⟨hr,I4⟩=>?_)
  subst hr
  exact wpAny_execs_nil ⟨σ3,H3,I4,qn⟩
 ·refine wpAny_passesOwn hp (thn (T.item X rfl rfl rfl hc i pins s3 σ3 H3 X.xe I3 (stat fr3) st3 go) fun r s4 ⟨u,hr,h4⟩=>?_)
  subst hr
  refine wpAny_passesOwn hp (thn h4 fun _ s5 hq0=>?_)
  obtain⟨x,H5,I5,r5,y5,st5,fr5⟩:=hq0
  have I5':=I5.pinned (stat fr5) (T.obj _ _ st5)
  refine wpAny_passesOwn hp (thn (hg _ s5 σ3 H5 x u _ I5' r5 (step x H5 y5)) fun _ s6 hq0=>?_)
  obtain⟨σ6,H6,I6,q6⟩:=hq0
  refine wpAny_passesOwn hp (thn (hb _ s6 σ6 H6 _ I6 q6) fun f s7 q7=>?_)
  have again:∀ {σ7:St}{H7:Hp},Inv X (pins++vn fp s5.heap) σ7 H7 s7→N σ7 H7→∃ m,m<n∧∃ i σ' H',Inv X pins σ' H' s7∧tn i s7.heap∧(∀ b∈fp,H' b=none)∧W i m σ' H':=fun {σ7 H7} I7 n7=>by
   obtain⟨m',hm,w7⟩:=hN σ7 H7 n7
   refine⟨m',hm,i+1,σ7,H7,I7.unpinned,T.keep _ _ _ st5 fun b hb o e=>(I7.pin (b,o) (List.mem_append_right _ (List.mem_append_right _ (yO hb e)))).1,fun b hb=>?_,w7⟩
   obtain⟨o,e,d⟩:=T.obj _ _ st5 b hb
   exact(I7.pin (b,o) (List.mem_append_right _ (List.mem_append_right _ (yO hb e)))).2.1
  cases f with
  |next=>obtain⟨σ7,H7,I7,n7⟩:=q7;exact again I7 n7
  |cont=>obtain⟨σ7,H7,I7,n7⟩:=q7;exact again I7 n7
  |brk=>obtain⟨σ7,H7,I7,q7⟩:=q7;exact⟨σ7,H7,I7.unpinned,q7⟩
  |ret v=>obtain⟨x7,σ7,H7,I7,r7,q7⟩:=q7;exact⟨x7,σ7,H7,I7.unpinned,r7,q7⟩
end
theorem yg {K:PySem.W.Frag}{a:Addr}{xs:List V}{g:TG}{tb:TS}{D:Ends}{σ:St}{H:Hp}(Pv:Nat→St→Hp→Prop) (h0:Pv 0 σ H) (hl:∀ i σ H,i≤xs.length→Pv i σ H→SqL K H a xs)
  (hs:∀ i x σ H,xs[i]?=some x→Pv i σ H→g x σ H fun σ2 H2=>tb { D with nx:=Pv (i+1),ct:=Pv (i+1),bk:=D.nx } σ2 H2) (hd:∀ σ H,Pv xs.length σ H→D.nx σ H) :
  ∃ W:Nat→Nat→St→Hp→Prop,(∃ m,W 0 m σ H)∧∀ i m σ H,W i m σ H →
   ((Itl K a).stop i H∧D.nx σ H)∨((Itl K a).go i H∧∃ N:St→Hp→Prop,(∀ σ' H',N σ' H'→∃ m',m'<m∧W (i+1) m' σ' H')∧∀ x H',(Itl K a).yld i H x H'→g x σ H' fun σ2 H2=>tb { D with nx:=N,ct:=N,bk:=D.nx } σ2 H2):=by
 refine⟨fun i m σ H=>m=xs.length-i∧i≤xs.length∧Pv i σ H,⟨xs.length,by simp,Nat.zero_le _,h0⟩,?_⟩
 rintro i m σ H ⟨rfl,hi,p⟩
 have q:=hl i σ H hi p
 by_cases hlt:i<xs.length
 ·refine .inr ⟨⟨xs,xs[i],q,by simp[hlt]⟩,Pv (i+1),fun σ' H' p'=>⟨xs.length-(i+1),by omega,rfl,hlt,p'⟩,fun x H' y=>?_⟩
  obtain⟨e,y⟩:=y
  subst e
  exact hs i x σ _ (y xs q) p
 ·have e:i=xs.length:=by omega
  subst e
  exact .inl ⟨⟨xs,q,Nat.le_refl _⟩,hd σ H p⟩
theorem for_range {lo:Int}{n:Nat}{g:TG}{tb:TS}{D:Ends}{σ:St}{H:Hp}(Pv:Nat→St→Hp→Prop) (h0:Pv 0 σ H)
  (hs:∀ i σ H,i<n→Pv i σ H→g (.int (lo+i)) σ H fun σ2 H2=>tb { D with nx:=Pv (i+1),ct:=Pv (i+1),bk:=D.nx } σ2 H2) (hd:∀ σ H,Pv n σ H→D.nx σ H) :
  ∃ W:Nat→Nat→St→Hp→Prop,(∃ m,W 0 m σ H)∧∀ i m σ H,W i m σ H →
   ((Itr lo n).stop i H∧D.nx σ H)∨((Itr lo n).go i H∧∃ N:St→Hp→Prop,(∀ σ' H',N σ' H'→∃ m',m'<m∧W (i+1) m' σ' H')∧∀ x H',(Itr lo n).yld i H x H'→g x σ H' fun σ2 H2=>tb { D with nx:=N,ct:=N,bk:=D.nx } σ2 H2):=by
 refine⟨fun i m σ H=>m=n-i∧i≤n∧Pv i σ H,⟨n,by simp,Nat.zero_le _,h0⟩,?_⟩
 rintro i m σ H ⟨rfl,hi,p⟩
 by_cases hlt:i<n
 ·refine .inr ⟨hlt,Pv (i+1),fun σ' H' p'=>⟨n-(i+1),by omega,rfl,hlt,p'⟩,fun x H' y=>?_⟩
  obtain⟨e,y⟩:=y
  subst e y
  exact hs i σ _ hlt p
 ·have e:i=n:=by omega
  subst e
  exact .inl ⟨Nat.le_refl _,hd σ H p⟩
end L2
namespace L2
open PySem PySem.Spec PyProof.Rows
abbrev R2:=V→V→Hp→VK→Prop
def OpR (X:Cx) (f:Value→Value→Sem Value) (r:R2):Prop :=
 ∀ (pins:List (Addr×Obj)) (s:Shared) (σ:St) (H:Hp) (x y:V) (v u:Value) (Q:VK),Inv X pins σ H s→RelV x v→RelV y u→r x y H Q →
  wpAny (model X.prog X.w) X.A (f v u) (EP X pins σ Q) X.xe s
noncomputable def UnR (X:Cx) (f:Value→Sem Value) (r:V→Hp→VK→Prop):Prop :=
 ∀ (pins:List (Addr×Obj)) (s:Shared) (σ:St) (H:Hp) (x:V) (v:Value) (Q:VK),Inv X pins σ H s→RelV x v→r x H Q →
  wpAny (model X.prog X.w) X.A (f v) (EP X pins σ Q) X.xe s
noncomputable def yJ (X:Cx) (f:Value) (r:List V→Hp→VK→Prop):Prop :=
 ∀ (pins:List (Addr×Obj)) (s:Shared) (σ:St) (H:Hp) (xs:List V) (us:List Value) (Q:VK),Inv X pins σ H s→Vals xs us→r xs H Q →
  wpAny (model X.prog X.w) X.A (call f us) (EP X pins σ Q) X.xe s
def tOp (r:R2) (ta tb:TE):TE:=fun σ H Q=>ta σ H fun x H1=>tb σ H1 fun y H2=>r x y H2 Q
def tUn (r:V→Hp→VK→Prop) (ta:TE):TE:=fun σ H Q=>ta σ H fun x H1=>r x H1 Q
def rI (C:Int→Int→Prop) (g:Int→Int→V):R2:=fun x y H Q=>∃ i j,x=.int i∧y=.int j∧C i j∧Q (g i j) H
def rI0 (g:Int→Int→V):R2:=fun x y H Q=>∃ i j,x=.int i∧y=.int j∧Q (g i j) H
def rU (g:Int→V):V→Hp→VK→Prop:=fun x H Q=>∃ i,x=.int i∧Q (g i) H
section
variable {X:Cx}{a b c:Expr}{ta tb tc:TE}{pos:Pos}
theorem binT (ha:PE X a ta) (hb:PE X b tb){pins:List (Addr×Obj)}{s:Shared}{σ:St}{H:Hp}{R:V→V→Hp→Prop}(I:Inv X pins σ H s)
  (h:ta σ H fun x H1=>tb σ H1 fun y H2=>R x y H2){Q:Value→Shared→Prop}{f:Value→Value→Sem Value}
  (hf:∀ v u s2 x y H2,Inv X pins σ H2 s2→RelV x v→RelV y u→R x y H2→wpAny (model X.prog X.w) X.A (f v u) Q X.xe s2) :
  wpAny (model X.prog X.w) X.A (eval a X.env) (fun v s₁=>wpAny (model X.prog X.w) X.A (eval b X.env) (fun u s₂=>wpAny (model X.prog X.w) X.A (f v u) Q X.xe s₂) X.xe s₁) X.xe s:=by
 refine thn (ha pins s σ H _ I h) fun v s1 hq0=>?_
 obtain⟨x,H1,I1,r1,q1⟩:=hq0
 refine thn (hb pins s1 σ H1 _ I1 q1) fun u s2 hq0=>?_
 obtain⟨y,H2,I2,r2,q2⟩:=hq0
 exact hf v u s2 x y H2 I2 r1 r2 q2
theorem zmW {op:Operator}{r:R2}(ho:OpR X (binaryOp op) r) (ha:PE X a ta) (hb:PE X b tb):PE X (.BinOp a op b pos) (tOp r ta tb):=by
 intro pins s σ H Q I h
 exact wpAny_BinOp (binT ha hb I h fun v u s2 x y H2 I2 rx ry q=>ho pins s2 σ H2 x y v u Q I2 rx ry q)
theorem zgc {op:UnaryOp}{r:V→Hp→VK→Prop}(ho:UnR X (unaryOp op) r) (ha:PE X a ta):PE X (.UnaryOp op a pos) (tUn r ta):=by
 intro pins s σ H Q I h
 exact UnaryOp_ (thn (ha pins s σ H _ I h) fun v s1 ⟨x,H1,I1,r1,q1⟩=>ho pins s1 σ H1 x v Q I1 r1 q1)
theorem opI {f:Value→Value→Sem Value}{C:Int→Int→Prop}{g:Int→Int→Int}
  (rule:∀ (i j:Int) (t u:Tok) (s:Shared) (Q:Value→Shared→Prop) (E:Value→Shared→Prop),C i j→Q (.int (g i j) s.toks) { s with toks:=s.toks+1 }→wpAny (model X.prog X.w) X.A (f (.int i t) (.int j u)) Q E s) :
  OpR X f (rI C fun i j=>.int (g i j)):=by
 intro pins s σ H x y v u Q I rx ry h
 obtain⟨i,j,rfl,rfl,hc,q⟩:=h
 obtain⟨t,rfl⟩:=rx
 obtain⟨t',rfl⟩:=ry
 exact rule i j t t' s _ _ hc ⟨.int (g i j),H,I.tok _,⟨_,rfl⟩,q⟩
theorem zu3 {f:Value→Value→Sem Value}{g:Int→Int→Int}
  (rule:∀ (i j:Int) (t u:Tok) (s:Shared) (Q:Value→Shared→Prop) (E:Value→Shared→Prop),Q (.int (g i j) s.toks) { s with toks:=s.toks+1 }→wpAny (model X.prog X.w) X.A (f (.int i t) (.int j u)) Q E s) :
  OpR X f (rI0 fun i j=>.int (g i j)):=by
 intro pins s σ H x y v u Q I rx ry h
 obtain⟨i,j,rfl,rfl,q⟩:=h
 obtain⟨t,rfl⟩:=rx
 obtain⟨t',rfl⟩:=ry
 exact rule i j t t' s _ _ ⟨.int (g i j),H,I.tok _,⟨_,rfl⟩,q⟩
theorem ziD {f:Value→Value→Sem Value}{g:Int→Int→Bool}
  (rule:∀ (i j:Int) (t u:Tok) (s:Shared) (Q:Value→Shared→Prop) (E:Value→Shared→Prop),Q (.bool (g i j)) s→wpAny (model X.prog X.w) X.A (f (.int i t) (.int j u)) Q E s) :
  OpR X f (rI0 fun i j=>.bl (g i j)):=by
 intro pins s σ H x y v u Q I rx ry h
 obtain⟨i,j,rfl,rfl,q⟩:=h
 obtain⟨t,rfl⟩:=rx
 obtain⟨t',rfl⟩:=ry
 exact rule i j t t' s _ _ ⟨.bl (g i j),H,I,rfl,q⟩
def zxH (i j:Int):Prop:=0≤j∧j≤1000000∧i.natAbs<2 ^ 64
def CMul (i j:Int):Prop:=(-(2 ^ 64)<i∧i<2 ^ 64)∨(-(2 ^ 64)<j∧j<2 ^ 64)
theorem CMul.ok {i j:Int}(h:CMul i j):IntMulOk i j:=by
 rcases h with⟨h1,h2⟩ | ⟨h1,h2⟩
 ·exact .of_left (intBits_le_64 h1 h2)
 ·exact .of_right (intBits_le_64 h1 h2)
theorem zV:OpR X (binaryOp .Add) (rI0 fun i j=>.int (i+j)):=zu3 fun _ _ _ _ _ _ _ q=>add_int q
theorem ye:OpR X (binaryOp .Sub) (rI0 fun i j=>.int (i-j)):=zu3 fun _ _ _ _ _ _ _ q=>sub_int q
theorem wp:OpR X (binaryOp .Mult) (rI CMul fun i j=>.int (i*j)):=opI fun _ _ _ _ _ _ _ hc q=>mul_int q hc.ok
theorem yV:OpR X (binaryOp .Mod) (rI (fun _ j=>0<j) fun i j=>.int (i%j)):=opI fun i j _ _ _ _ _ hc q=>by
 have h1:(0:Int)<j:=hc
 exact mod_int' (by omega) (by rw[Int.fmod_eq_emod_of_nonneg i (by omega)];exact q)
theorem xh:OpR X (binaryOp .Pow) (rI zxH fun i j=>.int (i ^ j.toNat)):=opI fun _ _ _ _ _ _ _ hc q=>pow_int_small hc.1 hc.2.1 hc.2.2 q
theorem unI {f:Value→Sem Value}{g:Int→Int}
  (rule:∀ (i:Int) (t:Tok) (s:Shared) (Q:Value→Shared→Prop) (E:Value→Shared→Prop),Q (.int (g i) s.toks) { s with toks:=s.toks+1 }→wpAny (model X.prog X.w) X.A (f (.int i t)) Q E s) :
  UnR X f (rU fun i=>.int (g i)):=by
 intro pins s σ H x v Q I rx h
 obtain⟨i,rfl,q⟩:=h
 obtain⟨t,rfl⟩:=rx
 exact rule i t s _ _ ⟨.int (g i),H,I.tok _,⟨_,rfl⟩,q⟩
theorem wj:UnR X (unaryOp .USub) (rU fun i=>.int (-i)):=unI fun _ _ _ _ _ q=>neg_int q
end
noncomputable def zuY:V→V→Bool
 |.non,.non=>true | .non,.int _=>true | .int _,.non=>true | .non,.bl _=>true | .bl _,.non=>true | .non,.str _=>true | .str _,.non=>true
 |.int _,.int _=>true | .bl _,.bl _=>true | .str _,.str _=>true | .byt _,.byt _=>true
 |.int _,.str _=>true | .str _,.int _=>true | .bl _,.str _=>true | .str _,.bl _=>true
 |_,_=>false
def rEq:R2:=fun x y H Q=>zuY x y=true∧Q (.bl (decide (x=y))) H
def rNe:R2:=fun x y H Q=>zuY x y=true∧Q (.bl (!decide (x=y))) H
theorem Xg {i j:Int}:decide (V.int i=V.int j)=(i == j):=by
 rw[Bool.eq_iff_iff]
 simp
theorem Vd {i j:Bool}:decide (V.bl i=V.bl j)=(i == j):=by
 rw[Bool.eq_iff_iff]
 simp
theorem Xf {i j:Str}:decide (V.str i=V.str j)=(i == j):=by
 rw[Bool.eq_iff_iff]
 simp
theorem Xh {i j:Array UInt8}:decide (V.byt i=V.byt j)=(i.toList == j.toList):=by
 rw[Bool.eq_iff_iff]
 cases i
 cases j
 simp
section
variable {X:Cx}{a b c:Expr}{ta tb tc:TE}{pos:Pos}
theorem zI {pins:List (Addr×Obj)}{σ:St}{H:Hp}{s:Shared}{Q:VK}{k k':Bool}(I:Inv X pins σ H s) (q:Q (.bl k) H) (e:k=k'):EP X pins σ Q (.bool k') s:=by
 subst e
 exact⟨.bl k,H,I,rfl,q⟩
theorem yG:OpR X (compareOp .Eq) rEq:=by
 intro pins s σ H x y v u Q I rx ry h
 obtain⟨hs,q⟩:=h
 cases x with
 |non =>
  cases rx
  cases y with
  |non=>cases ry;exact PySem.EqNone.eq_none_none (zI I q (by simp))
  |bl j=>cases ry;exact PySem.EqNone.eq_none_bool (zI I q (by simp))
  |int j=>obtain⟨t',rfl⟩:=ry;exact PySem.EqNone.eq_none_int (zI I q (by simp))
  |str j=>obtain⟨t',rfl⟩:=ry;exact PySem.EqNone.eq_none_str (zI I q (by simp))
  |_=>exact absurd (show false=true from hs) Bool.false_ne_true
 |bl i =>
  cases rx
  cases y with
  |non=>cases ry;exact PySem.EqNone.eq_bool_none (zI I q (by simp))
  |bl j=>cases ry;exact eq_bool (zI I q Vd)
  |str j=>obtain⟨t',rfl⟩:=ry;exact PySem.EqMixed.eq_bool_str (zI I q (by simp))
  |_=>exact absurd (show false=true from hs) Bool.false_ne_true
 |int i =>
  obtain⟨t,rfl⟩:=rx
  cases y with
  |non=>cases ry;exact PySem.EqNone.eq_int_none (zI I q (by simp))
  |int j=>obtain⟨t',rfl⟩:=ry;exact eq_int (zI I q Xg)
  |str j=>obtain⟨t',rfl⟩:=ry;exact PySem.EqMixed.eq_int_str (zI I q (by simp))
  |_=>exact absurd (show false=true from hs) Bool.false_ne_true
 |str i =>
  obtain⟨t,rfl⟩:=rx
  cases y with
  |non=>cases ry;exact PySem.EqNone.eq_str_none (zI I q (by simp))
  |bl j=>cases ry;exact PySem.EqMixed.eq_str_bool (zI I q (by simp))
  |int j=>obtain⟨t',rfl⟩:=ry;exact PySem.EqMixed.eq_str_int (zI I q (by simp))
  |str j=>obtain⟨t',rfl⟩:=ry;exact eq_str (zI I q Xf)
  |_=>exact absurd (show false=true from hs) Bool.false_ne_true
 |byt i =>
  obtain⟨t,rfl⟩:=rx
  cases y with
  |byt j=>obtain⟨t',rfl⟩:=ry;exact PySem.W.eq_bytes (zI I q Xh)
  |_=>exact absurd (show false=true from hs) Bool.false_ne_true
 |_=>cases y<;>exact absurd (show false=true from hs) Bool.false_ne_true
theorem zmX:OpR X (compareOp .NotEq) rNe:=by
 intro pins s σ H x y v u Q I rx ry h
 obtain⟨hs,q⟩:=h
 cases x with
 |non =>
  cases rx
  cases y with
  |non=>cases ry;exact PySem.EqNone.ne_none_none (zI I q (by simp))
  |bl j=>cases ry;exact PySem.EqNone.ne_none_bool (zI I q (by simp))
  |int j=>obtain⟨t',rfl⟩:=ry;exact PySem.EqNone.ne_none_int (zI I q (by simp))
  |str j=>obtain⟨t',rfl⟩:=ry;exact PySem.EqNone.ne_none_str (zI I q (by simp))
  |_=>exact absurd (show false=true from hs) Bool.false_ne_true
 |bl i =>
  cases rx
  cases y with
  |non=>cases ry;exact PySem.EqNone.ne_bool_none (zI I q (by simp))
  |bl j=>cases ry;exact ne_bool (zI I q (congrArg not Vd))
  |str j=>obtain⟨t',rfl⟩:=ry;exact PySem.EqMixed.ne_bool_str (zI I q (by simp))
  |_=>exact absurd (show false=true from hs) Bool.false_ne_true
 |int i =>
  obtain⟨t,rfl⟩:=rx
  cases y with
  |non=>cases ry;exact PySem.EqNone.ne_int_none (zI I q (by simp))
  |int j=>obtain⟨t',rfl⟩:=ry;exact ne_int (zI I q (congrArg not Xg))
  |str j=>obtain⟨t',rfl⟩:=ry;exact PySem.EqMixed.ne_int_str (zI I q (by simp))
  |_=>exact absurd (show false=true from hs) Bool.false_ne_true
 |str i =>
  obtain⟨t,rfl⟩:=rx
  cases y with
  |non=>cases ry;exact PySem.EqNone.ne_str_none (zI I q (by simp))
  |bl j=>cases ry;exact PySem.EqMixed.ne_str_bool (zI I q (by simp))
  |int j=>obtain⟨t',rfl⟩:=ry;exact PySem.EqMixed.ne_str_int (zI I q (by simp))
  |str j=>obtain⟨t',rfl⟩:=ry;exact ne_str (zI I q (congrArg not Xf))
  |_=>exact absurd (show false=true from hs) Bool.false_ne_true
 |byt i =>
  obtain⟨t,rfl⟩:=rx
  cases y with
  |byt j=>obtain⟨t',rfl⟩:=ry;exact PySem.W.ne_bytes (zI I q (congrArg not Xh))
  |_=>exact absurd (show false=true from hs) Bool.false_ne_true
 |_=>cases y<;>exact absurd (show false=true from hs) Bool.false_ne_true
theorem xO:OpR X (compareOp .Lt) (rI0 fun i j=>.bl (decide (i<j))):=ziD fun _ _ _ _ _ _ _ q=>lt_int q
theorem zgj:OpR X (compareOp .LtE) (rI0 fun i j=>.bl (decide (i≤j))):=ziD fun _ _ _ _ _ _ _ q=>le_int q
theorem op_gt:OpR X (compareOp .Gt) (rI0 fun i j=>.bl (decide (j<i))):=ziD fun _ _ _ _ _ _ _ q=>gt_int q
theorem zgk:OpR X (compareOp .GtE) (rI0 fun i j=>.bl (decide (j≤i))):=ziD fun _ _ _ _ _ _ _ q=>ge_int q
theorem VO:OpR X (compareOp .IsNot) (fun x y H Q=>y=.non∧Q (.bl (!decide (x=.non))) H):=by
 intro pins s σ H x y v u Q I rx ry h
 obtain⟨rfl,q⟩:=h
 cases ry
 refine isnot_none_gen (zI I q ?_)
 cases x<;>first
  |(cases rx;rfl)
  |(obtain⟨t,rfl⟩:=rx;rfl)
theorem zx (b:Expr){op:CmpOp}(h:op≠.In:=by decide) (h2:op≠.NotIn:=by decide):behindInMarks op b=false:=by
 have e1:(op == CmpOp.In)=false:=by cases op<;>first | rfl | exact absurd rfl h
 have e2:(op == CmpOp.NotIn)=false:=by cases op<;>first | rfl | exact absurd rfl h2
 cases b<;>simp[behindInMarks,e1,e2]
theorem wG {op:CmpOp}{r:R2}(ho:OpR X (compareOp op) r) (ha:PE X a ta) (hb:PE X b tb) (hm:behindInMarks op b=false):PE X (.Compare a [op] [b] pos) (tOp r ta tb):=by
 intro pins s σ H Q I h
 exact wpAny_Compare1 (binT ha hb I h fun v u s2 x y H2 I2 rx ry q=>ho pins s2 σ H2 x y v u Q I2 rx ry q) hm
def zaE (t:TE):TT:=fun σ H Q=>t σ H fun x H'=>∃ k,x=.bl k∧Q k H'
theorem xt {op:CmpOp}{r:R2}(ho:OpR X (compareOp op) r) (ha:PE X a ta) (hb:PE X b tb) (hm:behindInMarks op b=false):PT X (.Compare a [op] [b] pos) (zaE (tOp r ta tb)):=by
 intro pins s σ H Q I h
 refine wpAny_isTrue_Compare1 (thn (ha pins s σ H _ I h) fun v s1 ⟨x,H1,I1,r1,q1⟩=>thn (hb pins s1 σ H1 _ I1 q1) fun u s2 ⟨y,H2,I2,r2,q2⟩ =>
  thn (ho pins s2 σ H2 x y v u _ I2 r1 r2 q2) fun c s3 ⟨z,H3,I3,r3,k,e,q3⟩=>?_) hm
 subst e
 cases r3
 exact wpAny_truthy_bool ⟨H3,I3,q3⟩
theorem Y1:(sizeLine:Nat)<2 ^ 63:=by rw[sizeLine_eq];decide
theorem Zl {x:V}{us:List Value}(r:Vals [x] us):∃ u,us=[u]∧RelV x u:=by
 cases r with
 |cons r1 r2=>cases r2;exact⟨_,rfl,r1⟩
theorem zay {x y:V}{us:List Value}(r:Vals [x,y] us):∃ u w',us=[u,w']∧RelV x u∧RelV y w':=by
 cases r with
 |cons r1 r2 =>
  cases r2 with
  |cons r3 r4=>cases r4;exact⟨_,_,rfl,r1,r3⟩
theorem WH:yJ X (.builtin "abs") (fun xs H Q=>∃ i,xs=[.int i]∧Q (.int (if i<0 then -i else i)) H):=by
 intro pins s σ H xs us Q I r h
 obtain⟨i,rfl,q⟩:=h
 obtain⟨u,rfl,t,rfl⟩:=Zl r
 exact call_abs_int fun u tk=>⟨.int (if i<0 then -i else i),H,I.tok _,⟨_,rfl⟩,q⟩
theorem Xn (hc:X.calm=true):yJ X (.builtin "max") (fun xs H Q=>∃ i j,xs=[.int i,.int j]∧Q (.int (if j>i then j else i)) H):=by
 intro pins s σ H xs us Q I r h
 obtain⟨i,j,rfl,q⟩:=h
 obtain⟨u,w',rfl,⟨t,rfl⟩,⟨t',rfl⟩⟩:=zay r
 refine max_two_ints (I.ok.hd hc) fun h' tk k=>⟨_,H,I.kept k,?_,q⟩
 by_cases hj:j>i
 ·rw[if_pos hj,if_pos hj];exact⟨_,rfl⟩
 ·rw[if_neg hj,if_neg hj];exact⟨_,rfl⟩
theorem wa (hc:X.calm=true):yJ X (.builtin "min") (fun xs H Q=>∃ i j,xs=[.int i,.int j]∧Q (.int (if j<i then j else i)) H):=by
 intro pins s σ H xs us Q I r h
 obtain⟨i,j,rfl,q⟩:=h
 obtain⟨u,w',rfl,⟨t,rfl⟩,⟨t',rfl⟩⟩:=zay r
 refine min_two_ints (I.ok.hd hc) fun h' tk k=>⟨_,H,I.kept k,?_,q⟩
 by_cases hj:j<i
 ·rw[if_pos hj,if_pos hj];exact⟨_,rfl⟩
 ·rw[if_neg hj,if_neg hj];exact⟨_,rfl⟩
theorem xx:yJ X (.type "str") (fun xs H Q=>∃ i,xs=[.int i]∧i.natAbs.log2<1920∧Q (.str (toString i)) H):=by
 intro pins s σ H xs us Q I r h
 obtain⟨i,rfl,hz,q⟩:=h
 obtain⟨u,rfl,t,rfl⟩:=Zl r
 exact PySem.P.str_of_int hz ⟨.str _,H,I.tok _,⟨_,rfl⟩,q⟩
end
end L2
namespace L2
open PySem PySem.Spec PyProof.Rows
structure ObjM (h:Heap) (x dx C:Addr) (mA:Str→Option Value):Prop where
 obj:h.get? x=some (PySem.W.instObj C dx)
 ns:h.Ns1 dx mA
 ne:dx≠x
theorem YZ {h:Heap}{dx:Addr}{mA:Str→Option Value}(n:h.Ns1 dx mA):∃ od,h.get? dx=some od∧∀ name,PySem.W.lookIn name od=some (mA name):=by
 obtain⟨o,es,ep,ho,hd,hk,_,hm⟩:=n
 refine⟨o,ho,fun name=>?_⟩
 have e:=hm name
 unfold nsFind findBy at e
 rw[← Array.find?_toList] at e
 unfold PySem.W.lookIn
 rw[hd]
 dsimp only
 split
 ·rename_i y q
  rw[q] at e
  exact congrArg some e
 ·rename_i q
  rw[q] at e
  have a:es.toList.any (·.refKey)=false:=by
   rw[List.any_eq_false]
   intro y hy
   obtain⟨z,t,hkey⟩:=hk y (Array.mem_toList_iff.mp hy)
   simp[DictEntry.refKey,hkey]
  have a':¬ es.toList.any (·.refKey)=true:=by rw[a];exact Bool.false_ne_true
  rw[if_neg a']
  exact congrArg some e
theorem ObjM.look {h:Heap}{x dx C:Addr}{mA:Str→Option Value}(I:ObjM h x dx C mA):∃ od,PySem.W.InstAt h x (PySem.W.instObj C dx) C (some od)∧∀ name,PySem.W.lookIn name od=some (mA name) :=
 let ⟨od,ho,hl⟩:=YZ I.ns
 ⟨od,⟨I.obj,rfl,rfl,ho⟩,hl⟩
section
variable {prog:Program}{w:World}{A:Around}{E:Value→Shared→Prop}{s:Shared}{K:PySem.W.Frag}{x dx C f:Addr}{mA:Str→Option Value}{name:Str}{v:Value}
theorem zaj {expr:Bool}{Q:Value→Shared→Prop}(X:K.In s.heap) (I:ObjM s.heap x dx C mA) (hg:PySem.W.plainGet K C name=true) (hh:PySem.W.hasDictIn K C=true)
  (ha:PySem.W.findIn K (.ref C) name=some none) (hv:mA name=some v) (hv':PySem.W.handedIn v=true) (h:Q v { s with toks:=s.toks+1 }) :
  wpAny (model prog w) A (getAttr (.ref x) name expr) Q E s:=by
 obtain⟨od,J,hl⟩:=I.look
 exact PySem.W.get_value X J (PySem.W.plainGet_of hg).1 (PySem.W.findObj_own hh ha rfl (by rw[hl,hv])) hv' h
theorem Wz {pl:Sem Bool}{Q:Value×List Value→Shared→Prop}(X:K.In s.heap) (I:ObjM s.heap x dx C mA) (hg:PySem.W.plainGet K C name=true)
  (hf:PySem.W.findIn K (.ref C) name=some (some (.ref f))) (ht:PySem.W.isFn K (.ref f)=true) (hv:mA name=none) (h:Q (.ref f,[.ref x]) s) :
  wpAny (model prog w) A (getMethod (.ref x) name pl) Q E s:=by
 obtain⟨od,J,hl⟩:=I.look
 exact PySem.W.method_fn X J (PySem.W.plainGet_of hg).1 (PySem.W.plainGet_of hg).2 hf (beq_iff_eq.mp ht) (by show(PySem.W.lookIn name od).map (·.isSome)=some false;rw[hl,hv];rfl) h
theorem Vp {ns:List Str}{Q:Unit→Shared→Prop}(X:K.In s.heap) (I:ObjM s.heap x dx C mA)
  (hs:PySem.W.findIn K (.ref C) "__setattr__" = some (some (.builtin "object.__setattr__"))) (hp:PySem.W.plainOver K C=true) (ht:PySem.W.takerIn K C name=some none) (hh:PySem.W.hasDictIn K C=true)
  (hw:PySem.Within mA ns) (hsz:ns.length≤sizeLine)
  (h:∀ h',ObjM h' x dx C (fun y=>if y=name then some v else mA y)→Heap.SameBut dx s.heap h'→Q () { s with heap:=h',toks:=s.toks+2 }) :
  wpAny (model prog w) A (setAttr (.ref x) name v) Q E s:=by
 obtain⟨od,J,hl⟩:=I.look
 refine PySem.W.set_plain X J hs (PySem.W.osa_open (s:={ s with toks:=s.toks+1 }) (r:=none) X J hp ht fun b=>?_)
 obtain⟨cd,hc,hd'⟩:=PySem.W.any_some hh
 have hx:s.heap.get? x=some ⟨.ref C,some dx,.plain,#[]⟩:=I.obj
 refine wpAny_bind (wpAny_pure (wpAny_bind (wpAny_bind (wpAny_loadPart hx (wpAny_bind (PySem.W.Looks.here (s:={ s with toks:=s.toks+1 }) (PySem.W.looks_clsIn X hc) ?_))))))
 rw[hd']
 refine wpAny_pure (a:=some dx) (wpAny_bind (wpAny_pure (wpAny_bind ?_)))
 refine wpAny_nsSet1 (s:={ s with toks:=s.toks+1 }) I.ns fun h' hn2 hs2=>?_
 obtain⟨oD,esD,epD,hoD,hdD,hcD⟩:=hn2.count (PySem.Within.cons name v hw)
 refine wpAny_bind (wpAny_lookBehind hoD (by rw[hdD];exact pastItsLine_dict (Nat.le_trans hcD (by rw[List.length_cons];omega))) ?_)
 exact wpAny_pure (h _ ⟨(hs2.2 _ (Ne.symm I.ne)).trans I.obj,hn2,I.ne⟩ hs2)
theorem Wo {R:Result→Shared→Prop}{vs:List Value}{kw:List (Str×Value)}(X:K.In s.heap) (hm:PySem.W.makesIn K C=true)
  (hi:PySem.W.findIn K (.ref C) "__init__" = some (some (.ref f))) (hf:PySem.W.typeIn K (.ref f)=some (.type "function"))
  (h:codeAny (model prog w) (A.under (.builtin "type.__call__" ⟨.ref C::vs,kw⟩)) (.call (.ref f) ⟨.ref (s.heap.objs.size+1)::vs,kw⟩) (PySem.W.InitBack (s.heap.objs.size+1) R)
   { s with heap:=(s.heap.push PySem.W.emptyDict).push (PySem.W.instObj C s.heap.objs.size) }) :
  codeAny (model prog w) A (.call (.ref C) ⟨vs,kw⟩) R s:=by
 obtain⟨hh,g,d,t,os⟩:=s
 exact PySem.W.make_core (PySem.W.makes_of X hm) (PySem.W.looks_findIn X hi) (fun self=>PySem.W.bind_fn X self hf) (.inl rfl) h
end
noncomputable def vK (f:Str) (v:V):List (Str×V)→List (Str×V)
 |[]=>[(f,v)]
 |(g,x)::r=>if g=f then(g,v)::r else(g,x)::vK f v r
theorem xT (f g:Str) (v:V):∀ fs:List (Str×V),(vK f v fs).lookup g=if g=f then some v else fs.lookup g
 |[]=>by
  show List.lookup g [(f,v)]=_
  by_cases h:g=f
  ·have hb:(g == f)=true:=beq_iff_eq.mpr h
   simp only[List.lookup,hb,if_pos h]
  ·have hb:(g == f)=false:=beq_eq_false_iff_ne.mpr h
   simp only[List.lookup,hb,if_neg h]
 |(k,x)::r=>by
  have ih:=xT f g v r
  rw[show vK f v ((k,x)::r)=(if k=f then(k,v)::r else(k,x)::vK f v r) from rfl]
  by_cases hk:k=f
  ·rw[if_pos hk]
   by_cases h:g=k
   ·have hb:(g == k)=true:=beq_iff_eq.mpr h
    simp only[List.lookup,hb,if_pos (h.trans hk)]
   ·have hb:(g == k)=false:=beq_eq_false_iff_ne.mpr h
    simp only[List.lookup,hb,if_neg (fun e:g=f=>h (e.trans hk.symm))]
  ·rw[if_neg hk]
   by_cases h:g=k
   ·have hb:(g == k)=true:=beq_iff_eq.mpr h
    simp only[List.lookup,hb,if_neg (fun e:g=f=>hk (h.symm.trans e))]
   ·have hb:(g == k)=false:=beq_eq_false_iff_ne.mpr h
    simp only[List.lookup,hb]
    exact ih
theorem xV (f:Str) (v:V):∀ fs:List (Str×V),f∈(vK f v fs).map (·.1)∧∀ g,g∈fs.map (·.1)→g∈(vK f v fs).map (·.1)
 |[]=>⟨by simp[vK],fun g h=>by simp at h⟩
 |(k,x)::r=>by
  obtain⟨i1,i2⟩:=xV f v r
  rw[show vK f v ((k,x)::r)=(if k=f then(k,v)::r else(k,x)::vK f v r) from rfl]
  by_cases hk:k=f
  ·rw[if_pos hk]
   subst hk
   exact⟨by simp,fun g h=>by simpa using h⟩
  ·rw[if_neg hk]
   refine⟨?_,fun g h=>?_⟩
   ·rw[List.map_cons]
    exact List.mem_cons_of_mem _ i1
   ·rw[List.map_cons] at h ⊢
    rcases List.mem_cons.mp h with e | e
    ·exact List.mem_cons.mpr (.inl e)
    ·exact List.mem_cons_of_mem _ (i2 g e)
theorem xU (f:Str) (v:V):∀ fs:List (Str×V),(vK f v fs).length≤fs.length+1
 |[]=>by simp[vK]
 |(k,x)::r=>by
  have ih:=xU f v r
  rw[show vK f v ((k,x)::r)=(if k=f then(k,v)::r else(k,x)::vK f v r) from rfl]
  by_cases hk:k=f
  ·rw[if_pos hk,List.length_cons,List.length_cons];omega
  ·rw[if_neg hk,List.length_cons,List.length_cons];omega
theorem RelO.some_of {v:V}{o:Option Value}(r:RelO (some v) o):∃ u,o=some u∧RelV v u:=by
 cases o with
 |none=>exact(show False from r).elim
 |some u=>exact⟨u,rfl,r⟩
theorem RelO.none_of {o:Option Value}(r:RelO none o):o=none:=by
 cases o with
 |none=>rfl
 |some u=>exact(show False from r).elim
theorem Xc {v:V}{u:Value}(r:RelV v u):PySem.W.handedIn u=true:=by
 cases v with
 |non=>cases (show u=Value.none from r);rfl
 |bl b=>cases (show u=Value.bool b from r);rfl
 |int i=>obtain⟨t,e⟩:=(show ∃ t,u=Value.int i t from r);cases e;rfl
 |str x=>obtain⟨t,e⟩:=(show ∃ t,u=Value.str x t from r);cases e;rfl
 |byt b=>obtain⟨t,e⟩:=(show ∃ t,u=Value.bytes b t from r);cases e;rfl
 |flt b=>obtain⟨t,e⟩:=(show ∃ t,u=Value.float b t from r);cases e;rfl
 |ref a=>cases (show u=Value.ref a from r);rfl
 |ty n=>cases (show u=Value.type n from r);rfl
section
variable {P:Program}{w:World}{H H':Hp}{h h':Heap}{a C dx:Addr}{fs fs':List (Str×V)}
theorem wQ (hok:HOk P w H h) (e:H a=some (.ins C dx fs)):∃ mA,ObjM h a dx C mA∧(∀ f,RelO (fs.lookup f) (mA f))∧PySem.Within mA (fs.map (·.1))∧fs.length≤1000∧H dx=some (.own a):=by
 obtain⟨d,z,ne,ob,mA,n,r,q⟩:=(show ObjOk P w H h a (.ins C dx fs) from hok a _ e)
 exact⟨mA,⟨ob,n,ne⟩,r,q,z,d⟩
end
structure Cls (K:PySem.W.Frag) (C:Addr):Prop where
 pg:PySem.W.plainGet K C Str.empty=true
 hd:PySem.W.hasDictIn K C=true
 po:PySem.W.plainOver K C=true
 sa:PySem.W.findIn K (.ref C) "__setattr__" = some (some (.builtin "object.__setattr__"))
theorem Cls.get {K:PySem.W.Frag}{C:Addr}(c:Cls K C) (f:Str):PySem.W.plainGet K C f=true:=c.pg
def NoAttr (K:PySem.W.Frag) (C:Addr) (f:Str):Prop:=PySem.W.findIn K (.ref C) f=some none
theorem NoAttr.taker {K:PySem.W.Frag}{C:Addr}{f:Str}(n:NoAttr K C f):PySem.W.takerIn K C f=some none:=by
 unfold PySem.W.takerIn
 rw[show PySem.W.findIn K (.ref C) f=some none from n]
 rfl
structure Meth (K:PySem.W.Frag) (C:Addr) (m:Str) (f:Addr):Prop where
 at_:PySem.W.findIn K (.ref C) m=some (some (.ref f))
 fn:PySem.W.isFn K (.ref f)=true
 kp:PySem.W.keepIn K (.ref f)=true
section
variable {X:Cx}{pins:List (Addr×Obj)}{σ:St}{H:Hp}{s:Shared}{a C dx:Addr}{fs:List (Str×V)}{f:Str}{v:V}{A:Around}{E:Value→Shared→Prop}
theorem u9 {b:Bool}{Q:Value→Shared→Prop}(I:Inv X pins σ H s) (e:H a=some (.ins C dx fs)) (c:Cls X.K C) (n:NoAttr X.K C f) (l:fs.lookup f=some v)
  (h:∀ u s',Inv X pins σ H s'→RelV v u→Q u s'):wpAny (model X.prog X.w) A (getAttr (.ref a) f b) Q E s:=by
 obtain⟨mA,O,r,_,_,_⟩:=wQ I.hok e
 obtain⟨u,hu,ru⟩:=RelO.some_of (v:=v) (o:=mA f) (by rw[← l];exact r f)
 exact zaj I.kIn O (c.get f) c.hd n hu (Xc ru) (h u _ (I.tok _) ru)
theorem yP {m:Str}{g:Addr}{pl:Sem Bool}{Q:Value×List Value→Shared→Prop}(I:Inv X pins σ H s) (e:H a=some (.ins C dx fs)) (c:Cls X.K C) (k:Meth X.K C m g) (l:fs.lookup m=none)
  (h:Q (.ref g,[.ref a]) s):wpAny (model X.prog X.w) A (getMethod (.ref a) m pl) Q E s:=by
 obtain⟨mA,O,r,_,_,_⟩:=wQ I.hok e
 have hn:mA m=none:=RelO.none_of (by rw[← l];exact r m)
 exact Wz I.kIn O (c.get m) k.at_ k.fn hn h
theorem uT {y:V}{u:Value}{Q:Unit→Shared→Prop}(I:Inv X pins σ H s) (e:H a=some (.ins C dx fs)) (c:Cls X.K C) (n:NoAttr X.K C f) (hl:fs.length<1000) (ry:RelV y u)
  (h:∀ s',Inv X pins σ (upd H a (.ins C dx (vK f y fs))) s'→Q () s'):wpAny (model X.prog X.w) A (setAttr (.ref a) f u) Q E s:=by
 obtain⟨mA,O,r,wi,_,ho⟩:=wQ I.hok e
 have hz:(fs.map (·.1)).length≤sizeLine:=by rw[List.length_map,sizeLine_eq];omega
 refine Vp I.kIn O c.sa c.po n.taker c.hd wi hz fun h' O' sb=>h _ ?_
 have hd:∃ o,h'.get? dx=some o:=let ⟨o,_,_,e',_⟩:=O'.ns;⟨o,e'⟩
 refine I.write (x:=a) (e:=dx) (by rw[e];exact True.intro) (.inr ho) (fun b q hb z=>(sb.2 b hb).trans z) hd ?_
 refine⟨by rw[upd_ne O.ne];exact ho,?_,O.ne,O'.obj,_,O'.ns,fun g=>?_,fun g hg=>?_⟩
 ·have:=xU f y fs;omega
 ·show RelO ((vK f y fs).lookup g) (if g=f then some u else mA g)
  rw[xT]
  by_cases q:g=f
  ·rw[if_pos q,if_pos q];exact ry
  ·rw[if_neg q,if_neg q];exact r g
 ·by_cases q:g=f
  ·rw[q];exact(xV f y fs).1
  ·refine(xV f y fs).2 g (wi g fun z=>hg ?_)
   show(if g=f then some u else mA g)=none
   rw[if_neg q];exact z
theorem Inv.made (I:Inv X pins σ H s):Inv X pins σ (upd (upd H s.heap.objs.size (.own (s.heap.objs.size+1))) (s.heap.objs.size+1) (.ins C s.heap.objs.size []))
  { s with heap:=(s.heap.push PySem.W.emptyDict).push (PySem.W.instObj C s.heap.objs.size) }:=by
 have e1:(s.heap.push PySem.W.emptyDict).get? s.heap.objs.size=some PySem.W.emptyDict:=Heap.get?_push_size s.heap rfl
 have e2:((s.heap.push PySem.W.emptyDict).push (PySem.W.instObj C s.heap.objs.size)).get? (s.heap.objs.size+1)=some (PySem.W.instObj C s.heap.objs.size):=by
  have:=Heap.get?_push_size (s.heap.push PySem.W.emptyDict) (o:=PySem.W.instObj C s.heap.objs.size) rfl
  rwa [Heap.size_push] at this
 have e3:(s.heap.push PySem.W.emptyDict).Ns s.heap.objs.size (fun _=>none):=⟨PySem.W.emptyDict,#[],_,e1,rfl,(fun e he=>absurd he (by simp)),fun _=>rfl⟩
 have I1:=I.laid (a:=s.heap.objs.size) (o:=.own (s.heap.objs.size+1)) (h':=s.heap.push PySem.W.emptyDict) (t':=s.toks) (fun b u q=>Heap.get?_push_of_some _ q) (Nat.le_refl _) ⟨_,e1⟩
 refine I1.laid (a:=s.heap.objs.size+1) (o:=.ins C s.heap.objs.size []) (t':=s.toks) (fun b u q=>Heap.get?_push_of_some _ q) (Nat.le_of_eq (Heap.size_push _ _)) ?_
 have ne:s.heap.objs.size≠s.heap.objs.size+1:=Nat.ne_of_lt (Nat.lt_succ_self _)
 refine⟨by rw[upd_ne ne,zd],Nat.zero_le _,ne,e2,fun _=>none,(Heap.Ns1.of_empty e3).at fun o q=>Heap.get?_push_of_some _ q,fun _=>True.intro,fun y hy=>absurd rfl hy⟩
theorem attr_of {prog:Program}{w:World}{env:Env}{e:Expr}{f:Str}{pos:Pos}{s:Shared}{Q:Value→Shared→Prop}(hb:attributeBase e f env (eval e env)=eval e env)
  (h:wpAny (model prog w) A (eval e env) (fun o s₁=>wpAny (model prog w) A (getAttr o f true) Q E s₁) E s):wpAny (model prog w) A (eval (.Attribute e f pos) env) Q E s :=
 Attribute_any_ h (by rw[arm_eval_Attribute,hb])
end
def zoj (K:PySem.W.Frag) (ta:TE) (f:Str):TE:=fun σ H Q=>ta σ H fun x H1=>∃ a C dx fs v,x=.ref a∧H1 a=some (.ins C dx fs)∧Cls K C∧NoAttr K C f∧fs.lookup f=some v∧Q v H1
def zu1 (K:PySem.W.Frag) (ta tv:TE) (f:Str):TS:=fun D σ H=>tv σ H fun y H1=>ta σ H1 fun x H2=>∃ a C dx fs,x=.ref a∧H2 a=some (.ins C dx fs)∧Cls K C∧NoAttr K C f∧fs.length<1000 ∧
 D.nx σ (upd H2 a (.ins C dx (vK f y fs)))
section
variable {X:Cx}{o e value:Expr}{f:Str}{pos pos' tpos:Pos}{ta tv:TE}
theorem zgg (he:PE X e ta) (hb:attributeBase e f X.env (eval e X.env)=eval e X.env):PE X (.Attribute e f pos) (zoj X.K ta f):=by
 intro pins s σ H Q I h
 refine attr_of hb (thn (he pins s σ H _ I h) fun u s1 hq0=>?_)
 obtain⟨x,H1,I1,rx,a,C,dx,fs,v,ex,ea,c,n,l,q⟩:=hq0
 subst ex
 obtain rfl:u=Value.ref a:=rx
 exact u9 I1 ea c n l fun u' s2 I2 ru=>⟨v,H1,I2,ru,q⟩
theorem ur (ha:PE X o ta) (hv:PE X value tv) (hs:swapsWith value (some (.Attribute o f pos')) pos.line X.env=pure false):PS X (.Assign [.Attribute o f pos'] value pos) (zu1 X.K ta tv f):=by
 intro pins s σ H D I h
 refine plainObj_wpAny_Assign_Attribute (thn (hv pins s σ H _ I h) fun u s1 ⟨y,H1,I1,ry,q⟩=>thn (ha pins s1 σ H1 _ I1 q) fun ov s2 hq0=>?_) hs
 obtain⟨x,H2,I2,rx,a,C,dx,fs,ex,ea,c,n,l,q2⟩:=hq0
 subst ex
 obtain rfl:ov=Value.ref a:=rx
 exact uT I2 ea c n l ry fun s3 I3=>⟨σ,_,I3,q2⟩
theorem zae {pl:Sem Bool}{m:Str}{apos:Pos}{args:List Expr}{pins:List (Addr×Obj)}{s:Shared}{σ:St}{H:Hp}{Q:Value→Shared→Prop}{te:TE}(he:PE X e te) (I:Inv X pins σ H s)
  (h:te σ H fun x H1=>∃ a C dx fs g,x=.ref a∧H1 a=some (.ins C dx fs)∧Cls X.K C∧Meth X.K C m g∧fs.lookup m=none ∧
   ∀ s1,Inv X pins σ H1 s1→wpAny (model X.prog X.w) X.A (callWith pos (.ref g) [.ref a] (backTo pos (starEach args X.env)) (backToKw pos (keywordEach [] X.env))) Q X.xe s1)
  (ht:eval (.Call (.Attribute e m apos) args [] pos) X.env=(do
   let ov ← eval e X.env
   standAt apos.atName
   let (f,first) ← holding [ov] (getMethod ov m pl)
   callWith pos f first (backTo pos (starEach args X.env)) (backToKw pos (keywordEach [] X.env)))) :
  wpAny (model X.prog X.w) X.A (eval (.Call (.Attribute e m apos) args [] pos) X.env) Q X.xe s:=by
 refine PySem.W.methodCall_KW (pl:=pl) (thn (he pins s σ H _ I h) fun u s1 hq0=>?_) ht
 obtain⟨x,H1,I1,rx,a,C,dx,fs,g,ex,ea,c,k,l,q⟩:=hq0
 subst ex
 obtain rfl:u=Value.ref a:=rx
 exact yP I1 ea c k l (q s1 I1)
end
section
variable {X:Cx}{pins:List (Addr×Obj)}{σ:St}{H:Hp}{s:Shared}{A:Around}{E:Value→Shared→Prop}{Q:Value→Shared→Prop}{c:Value}{b:Bool}
inductive TyOf (K:PySem.W.Frag) (H:Hp):V→Value→Prop where
 |non:TyOf K H .non (.type "NoneType")
 |bl (x:Bool):TyOf K H (.bl x) (.type "bool")
 |int (i:Int):TyOf K H (.int i) (.type "int")
 |str (x:Str):TyOf K H (.str x) (.type "str")
 |flt (x:UInt64):TyOf K H (.flt x) (.type "float")
 |lst {a:Addr}{xs:List V}(e:H a=some (.lst xs)):TyOf K H (.ref a) (.type "list")
 |frz {a:Addr}{o:Obj}{xs:List V}(e:H a=some (.frz o (.lst xs))):TyOf K H (.ref a) (.type "list")
 |tup {a:Addr}{xs:List V}(e:H a=some (.tup xs)):TyOf K H (.ref a) (.type "tuple")
 |dK {a:Addr}{kvs:List (Key×V)}(e:H a=some (.dK kvs)):TyOf K H (.ref a) (.type "dict")
 |dT {a:Addr}{kvs:List (List Key×V)}(e:H a=some (.dT kvs)):TyOf K H (.ref a) (.type "dict")
 |ins {a C dx:Addr}{fs:List (Str×V)}(e:H a=some (.ins C dx fs)) (cl:Cls K C) (ha:PySem.W.findIn K (.ref C) "__class__" = some (some (.builtin "object.__class__")))
   (hn:PySem.W.specialIn K (.builtin "object.__class__") "__get__" = some (some (.builtin "getset_descriptor.__get__"))) (htk:PySem.W.takesIn K (.builtin "object.__class__")=some true)
   (hm:PySem.W.mroIn K C (.type "object")=some true):TyOf K H (.ref a) (.ref C)
theorem Y5 {x:V}{u t:Value}(I:Inv X pins σ H s) (rx:RelV x u) (ty:TyOf X.K H x t) (e:PySem.W.kitOne X.K t c=some b) (h:∀ tk,Q (.bool b) { s with toks:=tk }) :
  wpAny (model X.prog X.w) A (call (.builtin "isinstance") [u,c]) Q E s:=by
 cases ty with
 |non=>cases (show u=Value.none from rx);exact PySem.W.kia_one PySem.W.kitx_none I.kIn True.intro e (fun z=>nomatch z) h
 |bl y=>cases (show u=Value.bool y from rx);exact PySem.W.kia_one PySem.W.kitx_bool I.kIn True.intro e (fun z=>nomatch z) h
 |int i=>obtain⟨t,q⟩:=(show ∃ t,u=Value.int i t from rx);cases q;exact PySem.W.kia_one PySem.W.kitx_int I.kIn True.intro e (fun z=>nomatch z) h
 |str y=>obtain⟨t,q⟩:=(show ∃ t,u=Value.str y t from rx);cases q;exact PySem.W.kia_one PySem.W.kitx_str I.kIn True.intro e (fun z=>nomatch z) h
 |flt y=>obtain⟨t,q⟩:=(show ∃ t,u=Value.float y t from rx);cases q;exact PySem.W.kia_one PySem.W.kitx_float I.kIn True.intro e (fun z=>nomatch z) h
 | @lst a xs ea =>
  cases (show u=Value.ref a from rx)
  obtain⟨_,_,n,_,h1⟩:=(show ObjOk X.prog X.w H s.heap a (.lst xs) from I.hok a _ ea)
  exact PySem.W.kia_one PySem.W.kitx_list I.kIn ⟨_,h1,rfl⟩ e (fun z=>nomatch z) h
 | @frz a ob xs ea =>
  cases (show u=Value.ref a from rx)
  obtain⟨_,_,_,n,_,h1⟩:=(show ObjOk X.prog X.w H s.heap a (.frz ob (.lst xs)) from I.hok a _ ea)
  exact PySem.W.kia_one PySem.W.kitx_list I.kIn ⟨_,h1,rfl⟩ e (fun z=>nomatch z) h
 | @tup a xs ea =>
  cases (show u=Value.ref a from rx)
  obtain⟨_,_,_,p⟩:=(show ObjOk X.prog X.w H s.heap a (.tup xs) from I.hok a _ ea)
  obtain⟨o,h1,h2,_⟩:=p
  exact PySem.W.kia_one PySem.W.kitx_tuple I.kIn ⟨o,h1,h2⟩ e (fun z=>nomatch z) h
 | @dK a kvs ea =>
  cases (show u=Value.ref a from rx)
  obtain⟨_,_,vs,_,p⟩:=(show ObjOk X.prog X.w H s.heap a (.dK kvs) from I.hok a _ ea)
  obtain⟨o,es,ep,h1,h2,_⟩:=p
  exact PySem.W.kia_one PySem.W.kitx_dict I.kIn ⟨o,h1,h2.1⟩ e (fun z=>nomatch z) h
 | @dT a kvs ea =>
  cases (show u=Value.ref a from rx)
  obtain⟨_,_,xs,_,o,es,ep,h1,h2,_⟩:=(show ObjOk X.prog X.w H s.heap a (.dT kvs) from I.hok a _ ea)
  exact PySem.W.kia_one PySem.W.kitx_dict I.kIn ⟨o,h1,h2.1⟩ e (fun z=>nomatch z) h
 | @ins a C dx fs ea cl ha hn htk hm =>
  cases (show u=Value.ref a from rx)
  obtain⟨mA,O,_⟩:=wQ I.hok ea
  obtain⟨od,J,_⟩:=O.look
  exact PySem.W.kia_one (PySem.W.kitx_own (cl.get _) cl.hd ha hn htk hm) I.kIn J e (fun z=>nomatch z) h
end
end L2
namespace L2
open PySem PySem.Spec PyProof.Rows
structure Room (k:Nat) (A:Around):Prop where
 hd:A.handled=none
 dp:A.depth+3*k+5<recursionLimit
 un:A.units+16*k+200<cLine
theorem Room.mono {j k:Nat}{A:Around}(r:Room k A) (h:j≤k):Room j A:=⟨r.hd,by have:=r.dp;omega,by have:=r.un;omega⟩
theorem Room.deeper {k:Nat}{A:Around}(r:Room (k+1) A) (env:Env):Room k (A.deeper env) :=
 ⟨r.hd,by have:=r.dp;show A.depth+1+3*k+5<_;omega,by have:=r.un;show A.units+3+16*k+200<_;omega⟩
theorem uY {A:Around}{C:Addr}{us:List Value}{kw:List (Str×Value)}:(A.under (.builtin "type.__call__" ⟨.ref C::us,kw⟩)).depth=A.depth+1:=by
 first | rfl | simp[Around.under,Code.weight,Code.isCreation,Code.isGuard,Code.isCaller,Code.frames,Code.isFrame,guardIds]
theorem uX {A:Around}{C:Addr}{us:List Value}{kw:List (Str×Value)}:(A.under (.builtin "type.__call__" ⟨.ref C::us,kw⟩)).units=A.units+1:=by
 first | rfl | simp[Around.under,Code.cUnits,Code.frames,Code.isFrame]
theorem Room.make {k:Nat}{A:Around}(r:Room (k+1) A) (C:Addr) (us:List Value) (kw:List (Str×Value)):Room k (A.under (.builtin "type.__call__" ⟨.ref C::us,kw⟩)) :=
 ⟨r.hd,by have:=r.dp;rw[uY];omega,by have:=r.un;rw[uX];omega⟩
theorem Room.depth {k:Nat}{A:Around}(r:Room k A):A.depth<recursionLimit:=by have:=r.dp;omega
theorem Room.units {k:Nat}{A:Around}(r:Room k A):A.units+64<cLine:=by have:=r.un;omega
def zap:TA:=fun _ H Q=>Q [] H
def xz (ta:TE) (tr:TA):TA:=fun σ H Q=>ta σ H fun x H1=>tr σ H1 fun xs H2=>Q (x::xs) H2
section
variable {X:Cx}{e:Expr}{es:List Expr}{te:TE}{t:TA}{pos:Pos}
theorem zU:PA X [] zap:=fun _ _ _ _ H Q I h=>Calls.spliced_nil ⟨[],H,I,.nil,h⟩
theorem yF (ha:PE X e te) (hr:PA X es t) (hs:starEach (e::es) X.env=(false,eval e X.env)::starEach es X.env:=by rfl):PA X (e::es) (xz te t):=by
 intro pos pins s σ H Q I h
 rw[hs]
 show wpAny _ _ (spliced ((false,eval e X.env)::backTo pos (starEach es X.env))) _ _ s
 refine Calls.spliced_cons (thn (ha pins s σ H _ I h) fun u s1 hq0=>?_)
 obtain⟨x,H1,I1,r1,q1⟩:=hq0
 exact thn (hr pos pins s1 σ H1 _ I1 q1) fun us s2 ⟨xs,H2,I2,r2,q2⟩=>⟨x::xs,H2,I2,.cons r1 r2,q2⟩
def zob (t:TA):TE:=fun σ H Q=>t σ H fun xs H1=>xs.length≤sizeLine∧∀ p,H1 p=none→Q (.ref p) (upd H1 p (.tup xs))
def zog (t:TA):TE:=fun σ H Q=>t σ H fun xs H1=>xs.length≤sizeLine∧∀ p,H1 p=none→Q (.ref p) (upd H1 p (.lst xs))
theorem zgd {x1}(h:PA X es t):PE X (.Tuple es x1 pos) (zob t):=by
 intro pins s σ H Q I hq
 refine wpAny_Tuple_spliced (thn (h pos pins s σ H _ I hq) fun us s1 ⟨xs,H1,I1,r,z,q⟩=>⟨by rw[← r.length];exact z,?_⟩)
 have hf:H1 s1.heap.objs.size=none:=I1.hok.fresh (Nat.le_refl _)
 refine⟨.ref s1.heap.objs.size,upd H1 s1.heap.objs.size (.tup xs),I1.laid (t':=s1.toks) (fun b u e=>Heap.get?_push_of_some _ e) (Nat.le_refl _) ?_,rfl,q _ hf⟩
 exact⟨z,us,r,⟨_,Heap.get?_push_size _ rfl,rfl,_,rfl⟩⟩
theorem WX (h:PA X es t):PE X (.List es pos) (zog t):=by
 intro pins s σ H Q I hq
 refine wpAny_List_spliced (thn (h pos pins s σ H _ I hq) fun us s1 ⟨xs,H1,I1,r,z,q⟩=>⟨by rw[← r.length];exact z,?_⟩)
 have hf:H1 s1.heap.objs.size=none:=I1.hok.fresh (Nat.le_refl _)
 refine⟨.ref s1.heap.objs.size,upd H1 s1.heap.objs.size (.lst xs),I1.laid (t':=s1.toks) (fun b u e=>Heap.get?_push_of_some _ e) (Nat.le_refl _) ?_,rfl,q _ hf⟩
 exact⟨z,us,0,r,Heap.get?_push_size _ rfl⟩
end
abbrev Sp:=List V→Hp→VK→XK→Prop
abbrev CXT:=List Env→Hp→Shared→XK→Value→Shared→Prop
structure Env0 (P:Program) (w:World) (K:PySem.W.Frag) (mg:Str→Option Value) (base:Heap) (A:Around) (outer:List Env) (s:Shared) (H:Hp):Prop where
 frames:A.frames=some outer
 mod:Mod K mg base
 bs:∀ b o,base.get? b=some o→s.heap.get? b=some o∧H b=none
 bsz:base.objs.size≤s.heap.objs.size
 funs:s.heap.FunFrames base outer
 frf:∀ b∈frs outer,H b=none
 hok:HOk P w H s.heap
 bare:AllBare s.gens
def CE (outer:List Env) (P:Program) (w:World) (H:Hp) (s:Shared) (Q:VK) (u:Value) (s':Shared):Prop :=
 ∃ v H',s'.os=s.os∧AllBare s'.gens∧Un (frs outer) [] H H' s.heap s'.heap∧HOk P w H' s'.heap∧RelV v u∧Q v H'
def CR (CX:CXT) (outer:List Env) (P:Program) (w:World) (H:Hp) (s:Shared) (Q:VK) (E:XK) (r:Result) (s':Shared):Prop :=
 match r with
 |.ok (.ret u)=>CE outer P w H s Q u s'
 |.ok _=>False
 |.error e=>CX outer H s E e s'
structure FnOk (P:Program) (w:World) (K:PySem.W.Frag) (mg:Str→Option Value) (base:Heap) (CX:CXT) (k:Nat) (f:Addr) (fd:FuncData) (ps:List Str) (sp:Sp):Prop where
 len:∀ vs H Q E,sp vs H Q E→vs.length=ps.length
 run:∀ (A:Around) (outer:List Env) (s:Shared) (H:Hp) (args:Args) (us:List Value) (vs:List V) (Q:VK) (E:XK),Room k A→Env0 P w K mg base A outer s H→BindsTo s fd args (ps.zip us)→Vals vs us→sp vs H Q E →
  codeAny (model P w) A (.call (.ref f) args) (CR CX outer P w H s Q E) s
theorem Env0.make {P:Program}{w:World}{K:PySem.W.Frag}{mg:Str→Option Value}{base:Heap}{A:Around}{outer:List Env}{s:Shared}{H:Hp}(e:Env0 P w K mg base A outer s H) (C:Addr) (us:List Value) (kw:List (Str×Value)) :
  Env0 P w K mg base (A.under (.builtin "type.__call__" ⟨.ref C::us,kw⟩)) outer s H:=⟨by first | exact e.frames | (simpa[Around.under,Code.envs,Code.isFrame,pushEnvs] using e.frames),e.mod,e.bs,e.bsz,e.funs,e.frf,e.hok,e.bare⟩
section
variable {X:Cx}{pins:List (Addr×Obj)}{σ:St}{H:Hp}{s s':Shared}
theorem Inv.env0 (I:Inv X pins σ H s):Env0 X.prog X.w X.K X.mg X.base X.A X.stack s H :=
 ⟨I.ok.frames,I.ok.mod,I.bs,Nat.le_trans I.ok.bsz I.sz,I.stack,I.stkFree,I.hok,I.bare⟩
theorem Inv.after {Q:VK}{u:Value}(I:Inv X pins σ H s) (h:CE X.stack X.prog X.w H s Q u s'):EP X pins σ Q u s':=by
 obtain⟨v,H',os,bare,un,hok,r,q⟩:=h
 obtain⟨hh,g,d,t,os'⟩:=s'
 obtain rfl:os'=s.os:=os
 exact⟨v,H',I.call (h':=hh) (g':=g) (d':=d) (t':=t) (ch:=[]) un hok bare (fun b z=>absurd z (by simp)),r,q⟩
end
def Zw (sp:Sp) (dvs:List V) (E:XK) (t:TA):TE:=fun σ H Q=>t σ H fun vs H1=>sp (vs++dvs) H1 Q E
def zaK (C:Addr) (m:Str) (sp:Sp) (dvs:List V) (E:XK) (ta:TE) (t:TA):TE:=fun σ H Q=>ta σ H fun x H1=>∃ a dx fs,x=.ref a∧H1 a=some (.ins C dx fs)∧fs.lookup m=none ∧
 t σ H1 fun vs H2=>sp (x::(vs++dvs)) H2 Q E
def Vj (C:Addr) (sp:Sp) (dvs:List V) (E:XK) (t:TA):TE:=fun σ H Q=>t σ H fun vs H1=>∀ x dx,H1 x=none→H1 dx=none→dx≠x →
 sp (.ref x::(vs++dvs)) (upd (upd H1 dx (.own x)) x (.ins C dx [])) (fun v H2=>v=.non∧Q (.ref x) H2) E
noncomputable def Binds (K:PySem.W.Frag) (fd:FuncData) (ps:List Str) (ds:List Value):Prop :=
 ∀ (s:Shared) (us:List Value),K.In s.heap→(us++ds).length=ps.length→BindsTo s fd ⟨us,[]⟩ (ps.zip (us++ds))
theorem Binds.all {K:PySem.W.Frag}{fd:FuncData}{ps:List Str}(h:∀ us:List Value,us.length=ps.length→bindArgs fd ⟨us,[]⟩=pure (ps.zip us)):Binds K fd ps []:=fun s us _ hl=>by
 rw[List.append_nil] at hl ⊢
 exact .of_eq (h us hl)
def xl (CX:CXT) (X:Cx) (E:XK):Prop:=∀ (pins:List (Addr×Obj)) (σ:St) (H:Hp) (s:Shared) (e:Value) (s':Shared),Inv X pins σ H s→CX X.stack H s E e s'→X.xe e s'
section
variable {X:Cx}{CX:CXT}{k:Nat}{f C:Addr}{fd:FuncData}{ps:List Str}{sp:Sp}{dvs:List V}{ds:List Value}{E:XK}{x m:Str}{p pos apos:Pos}{e o:Expr}{es:List Expr}{ta:TE}{t:TA}
theorem run_fn {pins:List (Addr×Obj)}{σ:St}{H:Hp}{s:Shared}{Q:VK}{us:List Value}{vs:List V}(F:FnOk X.prog X.w X.K X.mg X.base CX k f fd ps sp) (hr:Room k X.A) (hb:Binds X.K fd ps ds) (hd:Vals dvs ds) (hx:xl CX X E)
  (I:Inv X pins σ H s) (r:Vals vs us) (h:sp (vs++dvs) H Q E):wpAny (model X.prog X.w) X.A (call (.ref f) us) (EP X pins σ Q) X.xe s:=by
 have r2:Vals (vs++dvs) (us++ds):=r.append hd
 have hl:(us++ds).length=ps.length:=by rw[← r2.length];exact F.len _ _ _ _ h
 refine wpAny_call (codeAny_mono (F.run X.A X.stack s H ⟨us,[]⟩ (us++ds) (vs++dvs) Q E hr I.env0 (hb s us I.kIn hl) r2 h) fun r s' hq=>?_)
 cases r with
 |error e=>exact hx pins σ H s e s' I hq
 |ok fl =>
  cases fl with
  |ret u=>exact I.after hq
  |next=>exact False.elim hq
  |brk=>exact False.elim hq
  |cont=>exact False.elim hq
theorem VL (F:FnOk X.prog X.w X.K X.mg X.base CX k f fd ps sp) (hr:Room k X.A) (hg:Gl X x) (hm:X.mg x=some (.ref f)) (hk:PySem.W.keepIn X.K (.ref f)=true) (hb:Binds X.K fd ps ds) (hd:Vals dvs ds) (hx:xl CX X E)
  (ha:PA X (e::es) t) (hdb:(x == ("__debug__" : Str))=false:=by decide) (he:starEach (e::es) X.env=(false,eval e X.env)::starEach es X.env:=by rfl) (hpl:(backTo pos (starEach es X.env)).any (·.1)=false:=by rfl) :
  PE X (.Call (.Name x p) (e::es) [] pos) (Zw sp dvs E t):=by
 intro pins s σ H Q I h
 refine wpAny_Call_Name_kw (ld_glob I hg hm ?_ hdb)
 refine PySem.W.callWith_K (h₀:=X.base) I.ok.mod.kin hk (thn (ha pos pins s σ H _ I h) fun us s1 ⟨vs,H1,I1,r,q⟩=>⟨I1.kIn,?_⟩) he hpl
 exact run_fn F hr hb hd hx I1 r q
theorem XY (F:FnOk X.prog X.w X.K X.mg X.base CX k f fd ps sp) (hr:Room k X.A) (hg:Gl X x) (hm:X.mg x=some (.ref f)) (hk:PySem.W.keepIn X.K (.ref f)=true) (hb:Binds X.K fd ps ds) (hd:Vals dvs ds) (hx:xl CX X E)
  (hdb:(x == ("__debug__" : Str))=false:=by decide):PE X (.Call (.Name x p) [] [] pos) (Zw sp dvs E zap):=by
 intro pins s σ H Q I h
 refine wpAny_Call_Name_kw (ld_glob I hg hm ?_ hdb)
 exact PySem.W.callWith_K0 I.kIn hk (run_fn (us:=[]) F hr hb hd hx I .nil h)
theorem VE {pl:Sem Bool}(he:PE X o ta) (c:Cls X.K C) (hm:Meth X.K C m f) (F:FnOk X.prog X.w X.K X.mg X.base CX k f fd ps sp) (hr:Room k X.A) (hb:Binds X.K fd ps ds) (hd:Vals dvs ds) (hx:xl CX X E) (ha:PA X (e::es) t)
  (hst:starEach (e::es) X.env=(false,eval e X.env)::starEach es X.env:=by rfl) (hpl:(backTo pos (starEach es X.env)).any (·.1)=false:=by rfl)
  (ht:eval (.Call (.Attribute o m apos) (e::es) [] pos) X.env=(do
   let ov ← eval o X.env
   standAt apos.atName
   let (f,first) ← holding [ov] (getMethod ov m pl)
   callWith pos f first (backTo pos (starEach (e::es) X.env)) (backToKw pos (keywordEach [] X.env))):=by rfl) :
  PE X (.Call (.Attribute o m apos) (e::es) [] pos) (zaK C m sp dvs E ta t):=by
 intro pins s σ H Q I h
 refine PySem.W.methodCall_KW (pl:=pl) (thn (he pins s σ H _ I h) fun u s1 hq0=>?_) ht
 obtain⟨x,H1,I1,rx,a,dx,fs,ex,ea,l,q⟩:=hq0
 subst ex
 obtain rfl:u=Value.ref a:=rx
 refine yP I1 ea c hm l ?_
 refine PySem.W.callWith_K (first:=[.ref a]) (h₀:=X.base) I.ok.mod.kin hm.kp (thn (ha pos pins s1 σ H1 _ I1 q) fun us s2 ⟨vs,H2,I2,r,q2⟩=>⟨I2.kIn,?_⟩) hst hpl
 exact run_fn (us:=.ref a::us) (vs:=.ref a::vs) F hr hb hd hx I2 (.cons rfl r) q2
structure Mk (K:PySem.W.Frag) (C f:Addr):Prop where
 makes:PySem.W.makesIn K C=true
 init:PySem.W.findIn K (.ref C) "__init__" = some (some (.ref f))
 fn:PySem.W.isFn K (.ref f)=true
 kp:PySem.W.keepIn K (.ref C)=true
theorem XO {pins:List (Addr×Obj)}{σ:St}{H:Hp}{s:Shared}{Q:VK}{us:List Value}{vs:List V}(M:Mk X.K C f) (F:FnOk X.prog X.w X.K X.mg X.base CX k f fd ps sp) (hr:Room (k+1) X.A) (hb:Binds X.K fd ps ds) (hd:Vals dvs ds)
  (hx:xl CX X E) (I:Inv X pins σ H s) (r:Vals vs us)
  (h:∀ x dx,H x=none→H dx=none→dx≠x→sp (.ref x::(vs++dvs)) (upd (upd H dx (.own x)) x (.ins C dx [])) (fun v H2=>v=.non∧Q (.ref x) H2) E) :
  wpAny (model X.prog X.w) X.A (call (.ref C) us) (EP X pins σ Q) X.xe s:=by
 have hq:=h (s.heap.objs.size+1) s.heap.objs.size (I.hok.fresh (Nat.le_succ _)) (I.hok.fresh (Nat.le_refl _)) (Nat.ne_of_lt (Nat.lt_succ_self _))
 have I2:=Inv.made (C:=C) I
 have r2:Vals (V.ref (s.heap.objs.size+1)::(vs++dvs)) (Value.ref (s.heap.objs.size+1)::(us++ds)):=.cons rfl (r.append hd)
 have hl:(Value.ref (s.heap.objs.size+1)::us++ds).length=ps.length:=by
  have e:=r2.length
  rw[F.len _ _ _ _ hq] at e
  exact e.symm
 refine wpAny_call (Wo (f:=f) I.kIn M.makes M.init (beq_iff_eq.mp M.fn) (codeAny_mono (F.run _ X.stack _ _ ⟨Value.ref (s.heap.objs.size+1)::us,[]⟩ (Value.ref (s.heap.objs.size+1)::(us++ds)) _ _ E (hr.make C us [])
  (I2.env0.make C us []) (hb _ (Value.ref (s.heap.objs.size+1)::us) I2.kIn hl) r2 hq) fun r s' hq'=>?_))
 cases r with
 |error e=>exact hx pins σ _ _ e s' I2 hq'
 |ok fl =>
  cases fl with
  |ret u =>
   obtain⟨v,H',I3,rv,ev,q3⟩:=I2.after hq'
   subst ev
   exact⟨rv,⟨V.ref (s.heap.objs.size+1),H',I3,rfl,q3⟩⟩
  |next=>exact False.elim hq'
  |brk=>exact False.elim hq'
  |cont=>exact False.elim hq'
theorem VG (M:Mk X.K C f) (F:FnOk X.prog X.w X.K X.mg X.base CX k f fd ps sp) (hr:Room (k+1) X.A) (hg:Gl X x) (hm:X.mg x=some (.ref C)) (hb:Binds X.K fd ps ds) (hd:Vals dvs ds) (hx:xl CX X E)
  (ha:PA X (e::es) t) (hdb:(x == ("__debug__" : Str))=false:=by decide) (he:starEach (e::es) X.env=(false,eval e X.env)::starEach es X.env:=by rfl) (hpl:(backTo pos (starEach es X.env)).any (·.1)=false:=by rfl) :
  PE X (.Call (.Name x p) (e::es) [] pos) (Vj C sp dvs E t):=by
 intro pins s σ H Q I h
 refine wpAny_Call_Name_kw (ld_glob I hg hm ?_ hdb)
 refine PySem.W.callWith_K (h₀:=X.base) I.ok.mod.kin M.kp (thn (ha pos pins s σ H _ I h) fun us s1 ⟨vs,H1,I1,r,q⟩=>⟨I1.kIn,?_⟩) he hpl
 exact XO M F hr hb hd hx I1 r q
end
structure FnScope (N P:List Str) (sc:Scope):Prop where
 kind:sc.kind=.function
 co:sc.isCoroutine=false
 gen:sc.isGenerator=false
 nd:N.Nodup
 pre:N.take P.length=P
 par:∀ x∈P,sc.names.lookup x=some .local∨sc.names.lookup x=some .cell
 nofree:∀ y∈sc.names,y.2≠.free
theorem vH {kindOf:Str→Option NameKind}{x:Str}:∀ {binds:List (Str×Value)}{m:Str→Option Value},(∀ v,(x,v)∉binds)→bindL kindOf binds m x=m x
 |[],_,_=>rfl
 |(n,v)::r,m,h=>by
  unfold bindL
  rw[vH fun w hw=>h w (List.mem_cons_of_mem _ hw)]
  split
  ·have:x≠n:=by rintro rfl;exact h v List.mem_cons_self
   simp[this]
  ·rfl
theorem bindC_out {kindOf:Str→Option NameKind}{x:Str}:∀ {binds:List (Str×Value)}{m:Str→Option Value},(∀ v,(x,v)∉binds)→bindC kindOf binds m x=m x
 |[],_,_=>rfl
 |(n,v)::r,m,h=>by
  unfold bindC
  rw[bindC_out fun w hw=>h w (List.mem_cons_of_mem _ hw)]
  split
  ·rfl
  ·have:x≠n:=by rintro rfl;exact h v List.mem_cons_self
   simp[this]
theorem bindL_get {kindOf:Str→Option NameKind}{x:Str}{v:Value}:∀ {P:List Str}{vs:List Value}{i:Nat}{m:Str→Option Value},P.Nodup→P[i]?=some x→vs[i]?=some v→kindOf x=some .local →
  bindL kindOf (P.zip vs) m x=some v
 |[],_,_,_,_,h,_,_=>by simp at h
 |_::_,[],_,_,_,_,h,_=>by simp at h
 |p::P,w::vs,0,m,nd,h1,h2,hk=>by
  simp at h1 h2;subst h1;subst h2
  show bindL kindOf ((p,w)::P.zip vs) m p=_
  unfold bindL
  rw[vH fun v hv=>(List.nodup_cons.mp nd).1 (List.of_mem_zip hv).1,if_pos hk]
  simp
 |p::P,w::vs,i+1,m,nd,h1,h2,hk=>by
  show bindL kindOf ((p,w)::P.zip vs) m x=_
  unfold bindL
  exact bindL_get (i:=i) (List.nodup_cons.mp nd).2 (by simpa using h1) (by simpa using h2) hk
theorem vI {kindOf:Str→Option NameKind}{x:Str}{v:Value}:∀ {P:List Str}{vs:List Value}{i:Nat}{m:Str→Option Value},P.Nodup→P[i]?=some x→vs[i]?=some v→kindOf x≠some .local →
  bindC kindOf (P.zip vs) m x=some v
 |[],_,_,_,_,h,_,_=>by simp at h
 |_::_,[],_,_,_,_,h,_=>by simp at h
 |p::P,w::vs,0,m,nd,h1,h2,hk=>by
  simp at h1 h2;subst h1;subst h2
  show bindC kindOf ((p,w)::P.zip vs) m p=_
  unfold bindC
  rw[bindC_out fun v hv=>(List.nodup_cons.mp nd).1 (List.of_mem_zip hv).1,if_neg hk]
  simp
 |p::P,w::vs,i+1,m,nd,h1,h2,hk=>by
  show bindC kindOf ((p,w)::P.zip vs) m x=_
  unfold bindC
  exact vI (i:=i) (List.nodup_cons.mp nd).2 (by simpa using h1) (by simpa using h2) hk
noncomputable def start (N:List Str) (vs:List V):St:=vs.map some++List.replicate (N.length-vs.length) none
def zau (CX:CXT) (P:Program) (w:World) (K:PySem.W.Frag) (mg:Str→Option Value) (base:Heap) (N:List Str) (qual:Str) (scope:Scope) (f:Addr) (cd:Value) (A:Around) (outer:List Env) (s:Shared) (H:Hp) (E:XK):Cx where
 prog:=P
 w:=w
 K:=K
 mg:=mg
 base:=base
 A:=A.deeper (envOfC qual scope s.heap.objs.size f cd)
 N:=N
 s₀:=s
 H₀:=H
 env:=envOfC qual scope s.heap.objs.size f cd
 outer:=outer
 stack:=envOfC qual scope s.heap.objs.size f cd::outer
 ex:=[]
 calm:=true
 fn:=fun _=>true
 pn:=[]
 xe:=fun e s'=>wpAny (model P w) (A.deeper (envOfC qual scope s.heap.objs.size f cd)) (leaving (envOfC qual scope s.heap.objs.size f cd) e) (fun _ s''=>CX outer H s E e s'') (fun e' s''=>CX outer H s E e' s'') s'
theorem uE {sc:Scope}{n:Nat}{x:Str}(h:sc.names.lookup x=some .cell):∃ c,(cellsFrom n sc.names []).lookup x=some c:=by
 have q:=PySem.W.cellsFrom_some sc.names n [] (.inl h)
 exact Option.isSome_iff_exists.mp q
theorem Y7 {CX:CXT}{P:Program}{w:World}{K:PySem.W.Frag}{mg:Str→Option Value}{base:Heap}{N ps:List Str}{qual:Str}{scope:Scope}{f:Addr}{cd:Value}{A:Around}{outer:List Env}{s s1:Shared}{H:Hp}{E:XK}{us:List Value}{vs:List V}
  (S:FnScope N ps scope) (hd:A.handled=none) (e0:Env0 P w K mg base A outer s H) (hl:vs.length=ps.length) (r:Vals vs us)
  (x:InCallC s s.heap.objs.size (bindL (envOfC qual scope s.heap.objs.size f cd).kindOf (ps.zip us) fun _=>none) (cellsFrom (s.heap.objs.size+1) scope.names []) (bindC (envOfC qual scope s.heap.objs.size f cd).kindOf (ps.zip us) fun _=>none) s1) :
  Inv (zau CX P w K mg base N qual scope f cd A outer s H E) [] (start N vs) H s1:=by
 have hpl:ps.length≤N.length:=by have:=congrArg List.length S.pre;rw[List.length_take] at this;omega
 obtain⟨h1,tk,rfl,hk⟩:=x.done
 have noA:∀ b:Addr,b∉(zau CX P w K mg base N qual scope f cd A outer s H E).ex:=fun b z=>absurd (show b∈([]:List Addr) from z) (by simp)
 refine⟨⟨e0.mod,S.kind,rfl,rfl,Nat.le_refl _,fun y z c h1 h2=>?_,fun y hy=>?_,fun y c _ h=>?_,fun _=>hd,Around.frames_deeper e0.frames,.inr ⟨rfl,rfl⟩,fun b z=>absurd z (noA b),e0.bs,e0.bsz,fun b _ _=>noA b,fun b z=>absurd z (noA b),e0.funs,e0.frf⟩,
  rfl,e0.bare,Un.kept hk,⟨_,x.toInCall.ns,fun i y v h1 h2 h3=>?_⟩,fun y c h=>⟨_,x.cell y c h⟩,e0.hok.fresh (Nat.le_refl _),fun y c h=>?_,fun p hp=>absurd (show p∈([]:List (Addr×Obj)) from hp) (by simp),e0.hok.kept hk,?_⟩
 ·exact name_of_addr x.apart (PySem.mem_of_lookup h1) (PySem.mem_of_lookup h2)
 ·have hy:scope.names.lookup y=some .cell∨scope.names.lookup y=some .free:=hy
  rcases hy with hy | hy
  ·exact uE hy
  ·exact absurd rfl (S.nofree _ (PySem.mem_of_lookup hy))
 ·exact Nat.le_of_lt (x.above y c (PySem.mem_of_lookup h))
 ·have hi:i<vs.length:=by
   unfold start at h2
   by_cases hi:i<vs.length
   ·exact hi
   ·rw[List.getElem?_append_right (by simpa using hi)] at h2
    rw[List.getElem?_replicate] at h2
    split at h2<;>cases h2
  have ha:vs[i]?=some v:=by
   unfold start at h2
   rw[List.getElem?_append_left (by simpa using hi),List.getElem?_map] at h2
   cases e:vs[i]? with
   |none=>rw[e] at h2;cases h2
   |some a=>rw[e] at h2;cases h2;rfl
  obtain⟨u,hu,rv⟩:=r.get ha
  have hp:ps[i]?=some y:=by
   rw[← S.pre,List.getElem?_take_of_lt (by omega)];exact h1
  have ndP:ps.Nodup:=by rw[← S.pre];exact S.nd.sublist (List.take_sublist _ _)
  refine⟨u,rv,?_⟩
  rcases S.par y (List.mem_of_getElem? hp) with k | k
  ·exact .inl ⟨k,bindL_get ndP hp hu k⟩
  ·obtain⟨c,e⟩:=uE (n:=s.heap.objs.size+1) k
   refine .inr ⟨.inl k,c,e,?_⟩
   have q:=x.cell y c e
   rw[vI ndP hp hu (by show scope.names.lookup y≠_;rw[k];decide)] at q
   exact q
 ·exact e0.hok.fresh (Nat.le_of_lt (x.above y c (PySem.mem_of_lookup h)))
 ·unfold start
  show _=N.length
  rw[List.length_append,List.length_map,List.length_replicate]
  omega
theorem zn3 {CX:CXT}{P:Program}{w:World}{K:PySem.W.Frag}{mg:Str→Option Value}{base:Heap}{k:Nat}{f:Addr}{name qual:Str}{params:Arguments}{body:List Stmt}{scope:Scope}{dV kV doc pm cdv ct oc:Value}{an od:Option Addr}
  {osl:Array (Option Value)}{N ps:List Str}{sp:Sp}(lk:K.lookup f=some ⟨oc,od,.func (PySem.W.fnOf name qual params body scope dV kV doc pm an cdv ct),osl⟩) (hcd:PySem.W.codeIn K cdv qual=true) (S:FnScope N ps scope)
  (len:∀ vs H Q E,sp vs H Q E→vs.length=ps.length)
  (hbody:∀ (A:Around) (outer:List Env) (s:Shared) (H:Hp) (vs:List V) (Q:VK) (E:XK),Room k (A.deeper (envOfC qual scope s.heap.objs.size f cdv))→sp vs H Q E →
   ∃ t,PSs (zau CX P w K mg base N qual scope f cdv A outer s H E) body t∧t { nx:=fun _ H'=>Q .non H',rt:=Q } (start N vs) H) :
  FnOk P w K mg base CX (k+1) f (PySem.W.fnOf name qual params body scope dV kV doc pm an cdv ct) ps sp:=by
 refine⟨len,fun A outer s H args us vs Q E hr e0 hb r hsp=>?_⟩
 have hl:=len _ _ _ _ hsp
 have KX:K.In s.heap:=e0.mod.kin.keeps fun b o e=>(e0.bs b o e).1
 have lim:s.heap.NoLimit:=e0.mod.nolimit.keeps fun b o e=>(e0.bs b o e).1
 have hkind:∀ y∈ps.zip us,scope.names.lookup y.1=some .local∨(scope.names.lookup y.1=some .cell∧((cellsFrom (s.heap.objs.size+1) scope.names []).lookup y.1).isSome=true):=fun⟨n,v⟩ hy=>by
  rcases S.par n (List.of_mem_zip hy).1 with q | q
  ·exact .inl q
  ·exact .inr ⟨q,PySem.W.cellsFrom_some _ _ _ (.inl q)⟩
 refine codeAny_call_function hr.depth (KX _ _ lk) rfl S.co S.gen rfl (PySem.W.codeRec_of KX hcd) (hb _ _ _ _ ?_)
 refine wpAny_newFunctionEnv_cells S.kind hkind fun env he s1 x=>?_
 subst he
 refine⟨lim.keeps x.toInCall.keep,codeAny_func ?_⟩
 obtain⟨t,ht,hq⟩:=hbody A outer s H vs Q E (hr.deeper _) hsp
 have I:Inv (zau CX P w K mg base N qual scope f cdv A outer s H E) [] (start N vs) H s1:=Y7 S hr.hd e0 hl r x
 refine wpAny_mono (ht [] s1 (start N vs) H _ I hq) (fun fl s' hs=>?_) fun e s' hs=>hs
 have fin:∀ {σ':St}{H':Hp}{v:V}{u:Value},Inv (zau CX P w K mg base N qual scope f cdv A outer s H E) [] σ' H' s'→RelV v u→Q v H'→CE outer P w H s Q u s' :=
  fun {σ' H' v u} J rv q=>⟨v,H',J.os,J.bare,J.base,J.hok,rv,q⟩
 cases fl with
 |ret u =>
  obtain⟨v,σ',H',J,rv,q⟩:=hs
  exact fin J rv q
 |next =>
  obtain⟨σ',H',J,q⟩:=hs
  exact fin (v:=V.non) (u:=Value.none) J rfl q
 |brk =>
  obtain⟨_,_,_,q⟩:=hs
  exact False.elim q
 |cont =>
  obtain⟨_,_,_,q⟩:=hs
  exact False.elim q
end L2
namespace L2
open PySem PySem.Spec PyProof.Rows
section
variable {X:Cx}{x:Str}{p pos:Pos}{e:Expr}{es:List Expr}{t:TA}{id T:String}{r:List V→Hp→VK→Prop}
def tCB (r:List V→Hp→VK→Prop) (t:TA):TE:=fun σ H Q=>t σ H fun vs H1=>r vs H1 Q
theorem yf (hc:yJ X (.builtin id) r) (hg:Gl X x) (hm:X.mg x=none) (hv:bootBuiltins x=some (.builtin id)) (ha:PA X (e::es) t) (hn:x ≠ "__name__" := by decide) (hdb:(x == ("__debug__" : Str))=false:=by decide)
  (he:starEach (e::es) X.env=(false,eval e X.env)::starEach es X.env:=by rfl) (hpl:(backTo pos (starEach es X.env)).any (·.1)=false:=by rfl):PE X (.Call (.Name x p) (e::es) [] pos) (tCB r t):=by
 intro pins s σ H Q I h
 refine wpAny_Call_Name_kw (ld_blt I hg hm hv ?_ hn hdb)
 exact PyProof.Rows.callWith_builtin1 (thn (ha pos pins s σ H _ I h) fun us s1 ⟨vs,H1,I1,r1,q1⟩=>hc pins s1 σ H1 vs us Q I1 r1 q1) he hpl
theorem vo (hc:yJ X (.type T) r) (hg:Gl X x) (hm:X.mg x=none) (hv:bootBuiltins x=some (.type T)) (ha:PA X (e::es) t) (hn:x ≠ "__name__" := by decide) (hdb:(x == ("__debug__" : Str))=false:=by decide)
  (he:starEach (e::es) X.env=(false,eval e X.env)::starEach es X.env:=by rfl) (hpl:(backTo pos (starEach es X.env)).any (·.1)=false:=by rfl):PE X (.Call (.Name x p) (e::es) [] pos) (tCB r t):=by
 intro pins s σ H Q I h
 refine wpAny_Call_Name_kw (ld_blt I hg hm hv ?_ hn hdb)
 exact PyProof.Rows.callWith_type1 (thn (ha pos pins s σ H _ I h) fun us s1 ⟨vs,H1,I1,r1,q1⟩=>hc pins s1 σ H1 vs us Q I1 r1 q1) he hpl
end
end L2
namespace HT
open PySem PyProof.Rows
section
variable {prog:Program}{w:World}{A:Around}{E:Value→Shared→Prop}{s:Shared}
theorem cat_tup {t b:Addr}{vs ws:List Value}{Q:Value→Shared→Prop}(ht:IsTup s.heap t vs.toArray) (hb:IsTup s.heap b ws.toArray) (hv:vs≠[])
  (h1:ws=[]→Q (.ref t) s) (h2:ws≠[]→Q (.ref s.heap.objs.size) { s with heap:=s.heap.push { cls:=.type "tuple",data:=.seq (vs++ws).toArray } })
  (hsz:vs.length+ws.length≤sizeLine):wpAny (model prog w) A (binaryOp .Add (.ref t) (.ref b)) Q E s:=by
 obtain⟨⟨cls,dd,data,sl⟩,ho,hc,n,hd⟩:=id ht
 obtain⟨⟨cls2,dd2,data2,sl2⟩,ho2,hc2,n2,hd2⟩:=id hb
 simp only at hc hd hc2 hd2
 subst hc hd hc2 hd2
 have e:vs.toArray++ws.toArray=(vs++ws).toArray:=by simp
 by_cases hw:ws=[]
 ·exact concat_meets ⟨_,ho,rfl⟩ ⟨_,ho2,rfl⟩ noFill_tuple_add seq_tuple_add PySem.F.slot_tuple_add PySem.F.entry_tuple_add (PySem.F.args_tuple_add_2 _ _)
   (tuple_addW1 t b vs.toArray ws.toArray n n2 dd dd2 sl sl2 (by simpa using hv) (by simp[hw])) ⟨ho,ho2,h1 hw⟩
 ·refine concat_meets ⟨_,ho,rfl⟩ ⟨_,ho2,rfl⟩ noFill_tuple_add seq_tuple_add PySem.F.slot_tuple_add PySem.F.entry_tuple_add (PySem.F.args_tuple_add_2 _ _)
   (tuple_addW2 t b vs.toArray ws.toArray n n2 dd dd2 sl sl2 (by simpa using hv) (by simpa using hw) (by rw[List.size_toArray,List.size_toArray];exact hsz)) ⟨ho,ho2,?_⟩
  rw[e]
  exact h2 hw
noncomputable def sIx (n d:Nat):Option Int→Nat
 |none=>d
 |some v=>if v<0 then(v+(n:Int)).toNat else min v.toNat n
theorem sIx_nat (n d k:Nat):sIx n d (some (k:Int))=min k n:=by
 show(if (k:Int)<0 then((k:Int)+(n:Int)).toNat else min (k:Int).toNat n)=min k n
 rw[if_neg (by omega),Int.toNat_natCast]
end
end HT
namespace L2
open PySem PySem.Spec PyProof.Rows
abbrev TO:=St→Hp→(Option Int→Hp→Prop)→Prop
noncomputable def PO (X:Cx) (e:Option Expr) (t:TO):Prop :=
 ∀ (pins:List (Addr×Obj)) (s:Shared) (σ:St) (H:Hp) (Q:Option Int→Hp→Prop),Inv X pins σ H s→t σ H Q →
  wpAny (model X.prog X.w) X.A (evalPart e X.env) (fun u s'=>∃ o H',Inv X pins σ H' s'∧IsPart u o∧Q o H') X.xe s
def Zv:TO:=fun _ H Q=>Q none H
def zaG (t:TE):TO:=fun σ H Q=>t σ H fun x H1=>∃ i,x=.int i∧Q (some i) H1
section
variable {X:Cx}{e:Expr}{te:TE}{lo hi:Option Expr}{tl th:TO}{pos p2:Pos}
theorem VC:PO X none Zv:=by
 intro pins s σ H Q I h
 rw[evalPart_none]
 exact wpAny_pure ⟨none,H,I,.none,h⟩
theorem po_some (h:PE X e te):PO X (some e) (zaG te):=by
 intro pins s σ H Q I hw
 rw[evalPart_some]
 refine thn (h pins s σ H _ I hw) fun u s1 hq0=>?_
 obtain⟨x,H1,I1,r1,q1⟩:=hq0
 obtain⟨i,rfl,q⟩:=q1
 obtain⟨t,rfl⟩:=r1
 exact⟨some i,H1,I1,.int i t,q⟩
noncomputable def SlR (X:Cx) (r:V→Option Int→Option Int→Hp→VK→Prop):Prop :=
 ∀ (pins:List (Addr×Obj)) (s:Shared) (σ:St) (H:Hp) (x:V) (v vl vu:Value) (lo hi:Option Int) (sl:Addr) (Q:VK),Inv X pins σ H s→RelV x v→s.heap.IsSliceOf sl vl vu .none→IsPart vl lo→IsPart vu hi→r x lo hi H Q →
  ∃ T id,typeLookup (.type T) "__getitem__" = pure (some (.builtin id))∧s.TypeIs v T∧wpAny (model X.prog X.w) X.A (getItem v (.ref sl)) (EP X pins σ Q) X.xe s
def tSl (r:V→Option Int→Option Int→Hp→VK→Prop) (te:TE) (tl th:TO):TE:=fun σ H Q=>te σ H fun x H1=>tl σ H1 fun l H2=>th σ H2 fun u H3=>r x l u H3 Q
theorem XV {r:V→Option Int→Option Int→Hp→VK→Prop}(hr:SlR X r) (he:PE X e te) (hl:PO X lo tl) (hu:PO X hi th):PE X (.Subscript e (.Slice lo hi none p2) pos) (tSl r te tl th):=by
 intro pins s σ H Q I h
 refine Subscript_ (thn (he pins s σ H _ I h) fun v s1 hq0=>?_)
 obtain⟨x,H1,I1,r1,q1⟩:=hq0
 refine wpAny_Slice (thn (hl pins s1 σ H1 _ I1 q1) fun vl s2 ⟨l,H2,I2,pl,q2⟩=>thn (hu pins s2 σ H2 _ I2 q2) fun vu s3 hq0=>?_)
 obtain⟨u,H3,I3,pu,q3⟩:=hq0
 rw[evalPart_none]
 refine wpAny_pure ?_
 have I4:Inv X pins σ H3 { s3 with heap:=s3.heap.push { cls:=.type "slice",data:=.fields #[vl,vu,.none] } }:=I3.kept (t':=s3.toks) fun b ob q=>Heap.get?_push_of_some _ q
 obtain⟨T,id,hT,ht,hg⟩:=hr pins { s3 with heap:=s3.heap.push { cls:=.type "slice",data:=.fields #[vl,vu,.none] } } σ H3 x v vl vu l u s3.heap.objs.size Q I4 r1 (Heap.IsSliceOf.new ..) pl pu q3
 show wpAny (model X.prog X.w) X.A (subscriptTail e (.Slice lo hi none p2) v (.ref s3.heap.objs.size)) (EP X pins σ Q) X.xe { s3 with heap:=s3.heap.push { cls:=.type "slice",data:=.fields #[vl,vu,.none] } }
 exact tail_any (ops:=[.ref s3.heap.objs.size,v]) ht hT hg (by with_unfolding_all rfl)
noncomputable def cutV (xs:List V) (lo hi:Option Int):List V:=(xs.drop (HT.sIx xs.length 0 lo)).take (HT.sIx xs.length xs.length hi-HT.sIx xs.length 0 lo)
theorem xa (xs:List V) (lo hi:Option Int):(cutV xs lo hi).length≤xs.length:=by
 unfold cutV
 rw[List.length_take,List.length_drop]
 omega
def zmQ (K:PySem.W.Frag):R2:=fun x y H Q=>∃ a b xs ys,x=.ref a∧y=.ref b∧SqT K H a xs∧SqT K H b ys∧xs≠[]∧xs.length+ys.length≤sizeLine ∧
 (ys=[]→Q (.ref a) H)∧(ys≠[]→∀ p,H p=none→Q (.ref p) (upd H p (.tup (xs++ys))))
theorem Vals.nil_iff {xs:List V}{us:List Value}(r:Vals xs us):us=[]↔xs=[]:=by
 cases r with
 |nil=>simp
 |cons _ _=>simp
theorem VP:OpR X (binaryOp .Add) (zmQ X.K):=by
 intro pins s σ H x y v u Q I rx ry h
 obtain⟨a,b,xs,ys,rfl,rfl,ha,hb,hx,hz,q1,q2⟩:=h
 cases rx
 cases ry
 obtain⟨its,r1,p1,_⟩:=I.tuple ha
 obtain⟨its2,r2,p2,_⟩:=I.tuple hb
 refine HT.cat_tup p1 p2 (fun z=>hx (r1.nil_iff.mp z)) (fun z=>⟨.ref a,H,I,rfl,q1 (r2.nil_iff.mp z)⟩) (fun z=>?_) (by rw[← r1.length,← r2.length];exact hz)
 refine⟨.ref s.heap.objs.size,_,I.laid (t':=s.toks) (o:=.tup (xs++ys)) (fun b ob q=>Heap.get?_push_of_some _ q) (Nat.le_refl _) ?_,rfl,q2 (fun w=>z (r2.nil_iff.mpr w)) _ (I.hok.fresh (Nat.le_refl _))⟩
 exact⟨by rw[List.length_append];exact hz,_,r1.append r2,IsTup.new _ _⟩
end
end L2
namespace L2
open PySem PySem.Spec PyProof.Rows
noncomputable def ixN (n:Nat) (i:Int):Option Nat:=if 0≤i then(if i<n then some i.toNat else none) else if -(n:Int)≤i then some (i+n).toNat else none
noncomputable def atI {α:Type}(xs:List α) (i:Int):Option α:=(ixN xs.length i).bind fun j=>xs[j]?
theorem zai {n:Nat}{i:Int}{j:Nat}(h:ixN n i=some j):seqIndex? i n=some j∧j<n∧-(n:Int)≤i∧i<n:=by
 unfold ixN at h
 by_cases h0:0≤i
 ·rw[if_pos h0] at h
  by_cases h1:i<n
  ·rw[if_pos h1] at h
   have e:i.toNat=j:=Option.some.inj h
   exact⟨by rw[seqIndex_of h0 h1,e],by omega,by omega,h1⟩
  ·rw[if_neg h1] at h;cases h
 ·rw[if_neg h0] at h
  by_cases h1 : -(n:Int)≤i
  ·rw[if_pos h1] at h
   have e:(i+n).toNat=j:=Option.some.inj h
   exact⟨by rw[seqIndex_neg (by omega) h1,e],by omega,h1,by omega⟩
  ·rw[if_neg h1] at h;cases h
theorem Xu {α:Type}{xs:List α}{i:Int}{v:α}(h:atI xs i=some v):∃ j,seqIndex? i xs.length=some j∧xs[j]?=some v∧j<xs.length∧-(xs.length:Int)≤i∧i<xs.length:=by
 unfold atI at h
 cases e:ixN xs.length i with
 |none=>rw[e] at h;cases h
 |some j =>
  rw[e] at h
  obtain⟨h1,h2,h3,h4⟩:=zai e
  exact⟨j,h1,h,h2,h3,h4⟩
theorem xb {α:Type}{xs:List α}{j:Nat}{v:α}(h:xs[j]?=some v):atI xs (j:Int)=some v:=by
 have hj:j<xs.length:=(List.getElem?_eq_some_iff.mp h).1
 have e:ixN xs.length (j:Int)=some j:=by
  unfold ixN
  rw[if_pos (by omega),if_pos (by omega)];simp
 unfold atI;rw[e];exact h
def Xy (b:Expr):Prop:=∀ o i,subscripted b false o i=operate [o,i] (getItem o i)
def IxR (X:Cx) (r:R2):Prop :=
 ∀ (value slice:Expr) (pins:List (Addr×Obj)) (s:Shared) (σ:St) (H:Hp) (x y:V) (v u:Value) (Q:VK),Inv X pins σ H s→RelV x v→RelV y u→r x y H Q →
  subscripted slice false v u=operate [v,u] (getItem v u)→wpAny (model X.prog X.w) X.A (subscriptTail value slice v u) (EP X pins σ Q) X.xe s
noncomputable def MtR (X:Cx) (id:String) (r:V→List V→Hp→VK→Prop):Prop :=
 ∀ (pins:List (Addr×Obj)) (s:Shared) (σ:St) (H:Hp) (x:V) (xs:List V) (v:Value) (us:List Value) (Q:VK),Inv X pins σ H s→RelV x v→Vals xs us→r x xs H Q →
  wpAny (model X.prog X.w) X.A (call (.builtin id) (v::us)) (EP X pins σ Q) X.xe s
section
variable {X:Cx}{a b:Expr}{ta tb:TE}{pos:Pos}
theorem vT {r:R2}(hr:IxR X r) (ha:PE X a ta) (hb:PE X b tb) (hs:Xy b):PE X (.Subscript a b pos) (tOp r ta tb):=by
 intro pins s σ H Q I h
 exact Subscript_ (binT ha hb I h fun v u s2 x y H2 I2 rx ry q=>hr a b pins s2 σ H2 x y v u Q I2 rx ry q (hs _ _))
def zw4 (K:PySem.W.Frag):R2:=fun x y H Q=>∃ p xs i v,x=.ref p∧y=.int i∧SqL K H p xs∧atI xs i=some v∧Q v H
def zw3 (K:PySem.W.Frag):R2:=fun x y H Q=>∃ p xs i v,x=.ref p∧y=.int i∧SqT K H p xs∧atI xs i=some v∧Q v H
theorem zM:IxR X (zw4 X.K):=by
 intro value slice pins s σ H x y v u Q I rx ry h hs
 obtain⟨p,xs,i,z,rfl,rfl,hq,he,q⟩:=h
 cases rx
 obtain⟨t,rfl⟩:=ry
 obtain⟨its,r,pl,hz⟩:=I.list hq
 obtain⟨j,h1,h2,h3,h4,h5⟩:=Xu he
 obtain⟨w,ew,rw'⟩:=r.get h2
 have hl:=r.length
 have hn:=Y1
 have fin:EP X pins σ Q w s:=⟨z,H,I,rw',q⟩
 by_cases h0:0≤i
 ·have hj:i.toNat=j:=by
   rw[seqIndex_of h0 h5] at h1
   exact Option.some.inj h1
  exact item_listR pl.isList h0 (by omega) (by rw[hj];simpa using ew) fin hs
 ·have hj:(i+(its.toArray.size:Int)).toNat=j:=by
   rw[seqIndex_neg (by omega) h4] at h1
   rw[List.size_toArray,← hl]
   exact Option.some.inj h1
  exact subscriptTail_builtinR (x:=w) pl.isList.typeIs slot_list_getitem.lookup
   (wpAny_getItem_list_neg (Q:=fun r s'=>r=w∧EP X pins σ Q r s') pl.isList (by omega) (by rw[List.size_toArray]<;>omega) (by omega) (by rw[hj];simpa using ew) ⟨rfl,fin⟩) hs
theorem zN:IxR X (zw3 X.K):=by
 intro value slice pins s σ H x y v u Q I rx ry h hs
 obtain⟨p,xs,i,z,rfl,rfl,hq,he,q⟩:=h
 cases rx
 obtain⟨t,rfl⟩:=ry
 obtain⟨its,r,pl,hz⟩:=I.tuple hq
 obtain⟨j,h1,h2,h3,h4,h5⟩:=Xu he
 obtain⟨w,ew,rw'⟩:=r.get h2
 have hl:=r.length
 have hn:=Y1
 have fin:EP X pins σ Q w s:=⟨z,H,I,rw',q⟩
 exact subscriptTail_builtinR (x:=w) pl.typeIs slot_tuple_getitem.lookup
  (getItem_tuple (j:=j) (Q:=fun r s'=>r=w∧EP X pins σ Q r s') pl (by omega) (by omega) (by rw[List.size_toArray,← hl];exact h1) (by simpa using ew) ⟨rfl,fin⟩) hs
theorem vg (lo hi:Option Int) (n:Nat):(sliceBounds lo hi none n).1=((HT.sIx n 0 lo:Nat):Int)∧(sliceBounds lo hi none n).2.1=((HT.sIx n n hi:Nat):Int)∧(sliceBounds lo hi none n).2.2=1:=by
 refine⟨?_,?_,rfl⟩
 ·cases lo with
  |none=>simp[sliceBounds,HT.sIx]
  |some i =>
   simp only[sliceBounds,HT.sIx,Option.getD_none,show(1:Int)>0 by decide,if_true]
   by_cases h:i<0
   ·simp only[h,if_true]<;>omega
   ·simp only[h,if_false]<;>omega
 ·cases hi with
  |none=>simp[sliceBounds,HT.sIx]
  |some i =>
   simp only[sliceBounds,HT.sIx,Option.getD_none,show(1:Int)>0 by decide,if_true]
   by_cases h:i<0
   ·simp only[h,if_true]<;>omega
   ·simp only[h,if_false]<;>omega
theorem wB (its:List Value) (lo hi:Option Int):slicePick its.toArray lo hi none=((its.drop (HT.sIx its.length 0 lo)).take (HT.sIx its.length its.length hi-HT.sIx its.length 0 lo)).toArray:=by
 obtain⟨h1,h2,h3⟩:=vg lo hi its.toArray.size
 unfold slicePick
 rw[h1,h2,h3]
 simp only[sliceRange_one,pick_run,List.size_toArray]<;>rfl
def zw2 (K:PySem.W.Frag):V→Option Int→Option Int→Hp→VK→Prop:=fun x lo hi H Q=>∃ a xs,x=.ref a∧SqL K H a xs∧∀ p,H p=none→Q (.ref p) (upd H p (.lst (cutV xs lo hi)))
theorem zX:SlR X (zw2 X.K):=by
 intro pins s σ H x v vl vu lo hi sl Q I rx hs pl pu h
 obtain⟨a,xs,rfl,hx,q⟩:=h
 cases rx
 obtain⟨its,r,ht,hz⟩:=I.list hx
 have hlen:=r.length
 refine⟨"list",_,slot_list_getitem.lookup,ht.isList.typeIs,?_⟩
 refine wpAny_getItem_list_slice ht.isList hs pl pu .none (by simp) ?_ (by rw[List.size_toArray]<;>omega)
 rw[wB,← hlen]
 refine⟨.ref s.heap.objs.size,_,I.laid (t':=s.toks) (o:=.lst (cutV xs lo hi)) (fun b ob q=>Heap.get?_push_of_some _ q) (Nat.le_refl _) ?_,rfl,q _ (I.hok.fresh (Nat.le_refl _))⟩
 exact⟨Nat.le_trans (xa xs lo hi) hz,_,0,(r.drop (HT.sIx xs.length 0 lo)).take (HT.sIx xs.length xs.length hi-HT.sIx xs.length 0 lo),Heap.get?_push_size _ rfl⟩
noncomputable def yZ:V→Bool
 |.non=>true
 |.bl _=>true
 |.int _=>true
 |.str _=>true
 |_=>false
noncomputable def eqV:V→V→Bool
 |.non,.non=>true
 |.bl a,.bl b=>a == b
 |.bl a,.int b=>(if a then 1 else 0) == b
 |.int a,.bl b=>a == (if b then 1 else 0)
 |.int a,.int b=>a == b
 |.str a,.str b=>a == b
 |_,_=>false
theorem eqAt_V {A:Around}{s:Shared}{y x:V}{u v:Value}(ry:RelV y u) (rx:RelV x v) (fy:yZ y=true) (fx:yZ x=true):SeqAt.EqAt A s u v (eqV y x):=by
 cases y with
 |non =>
  cases ry
  cases x with
  |non=>cases rx;exact SeqAt.EqAt.same _
  |bl b=>cases rx;exact SeqAt.EqAt.none_bool b
  |int b=>obtain⟨t,rfl⟩:=rx;exact SeqAt.EqAt.none_int b t
  |str b=>obtain⟨t,rfl⟩:=rx;exact SeqAt.EqAt.none_str b t
  |_=>exact absurd (show false=true from fx) Bool.false_ne_true
 |bl a =>
  cases ry
  cases x with
  |non=>cases rx;exact SeqAt.EqAt.bool_none a
  |bl b=>cases rx;exact SeqAt.EqAt.bool_bool a b
  |int b=>obtain⟨t,rfl⟩:=rx;exact SeqAt.EqAt.bool_int a b t
  |str b=>obtain⟨t,rfl⟩:=rx;exact SeqAt.EqAt.bool_str a b t
  |_=>exact absurd (show false=true from fx) Bool.false_ne_true
 |int a =>
  obtain⟨t',rfl⟩:=ry
  cases x with
  |non=>cases rx;exact SeqAt.EqAt.int_none a t'
  |bl b=>cases rx;exact SeqAt.EqAt.int_bool a t' b
  |int b=>obtain⟨t,rfl⟩:=rx;exact SeqAt.EqAt.int_int a t' b t
  |str b=>obtain⟨t,rfl⟩:=rx;exact SeqAt.EqAt.int_str a t' b t
  |_=>exact absurd (show false=true from fx) Bool.false_ne_true
 |str a =>
  obtain⟨t',rfl⟩:=ry
  cases x with
  |non=>cases rx;exact SeqAt.EqAt.str_none a t'
  |bl b=>cases rx;exact SeqAt.EqAt.str_bool a t' b
  |int b=>obtain⟨t,rfl⟩:=rx;exact SeqAt.EqAt.str_int a t' b t
  |str b=>obtain⟨t,rfl⟩:=rx;exact SeqAt.EqAt.str_str a t' b t
  |_=>exact absurd (show false=true from fx) Bool.false_ne_true
 |_=>exact absurd (show false=true from fy) Bool.false_ne_true
noncomputable def eqU (x:V) (u:Value):Bool:=match u with
 |.none=>eqV .non x
 |.bool b=>eqV (.bl b) x
 |.int i _=>eqV (.int i) x
 |.str z _=>eqV (.str z) x
 |_=>false
theorem Vc {x y:V}{u:Value}(r:RelV y u) (f:yZ y=true):eqU x u=eqV y x:=by
 cases y with
 |non=>cases r;rfl
 |bl b=>cases r;rfl
 |int i=>obtain⟨t,rfl⟩:=r;rfl
 |str z=>obtain⟨t,rfl⟩:=r;rfl
 |_=>exact absurd (show false=true from f) Bool.false_ne_true
theorem ue {x:V}:∀ {xs:List V}{us:List Value},Vals xs us→xs.all yZ=true→us.any (eqU x)=xs.any fun y=>eqV y x
 |_,_,.nil,_=>rfl
 |y::xs,u::us,.cons r t,f=>by
  rw[List.all_cons,Bool.and_eq_true] at f
  rw[List.any_cons,List.any_cons,Vc r f.1,ue t f.2]
theorem wP {A:Around}{s:Shared}{x:V}{v:Value}(rx:RelV x v) (fx:yZ x=true):∀ {xs:List V}{us:List Value},Vals xs us→xs.all yZ=true→∀ u∈us,SeqAt.EqAt A s u v (eqU x u)
 |_,_,.nil,_=>fun u hu=>by cases hu
 |y::xs,u::us,.cons r t,f=>fun u' hu=>by
  rw[List.all_cons,Bool.and_eq_true] at f
  rcases List.mem_cons.mp hu with rfl | hu
  ·rw[Vc r f.1];exact eqAt_V r rx f.1 fx
  ·exact wP rx fx t f.2 u' hu
def inV (x:V) (xs:List V):Bool:=xs.any fun y=>eqV y x
def rIn (K:PySem.W.Frag) (neg:Bool):R2:=fun x y H Q=>∃ p xs,y=.ref p∧(SqL K H p xs∨SqT K H p xs)∧yZ x=true∧xs.all yZ=true∧Q (.bl (if neg then !inV x xs else inV x xs)) H
theorem xP:OpR X (compareOp .In) (rIn X.K false):=by
 intro pins s σ H x y v u Q I rx ry h
 obtain⟨p,xs,rfl,hq,fx,fs,q⟩:=h
 cases ry
 rcases hq with hq | hq
 ·obtain⟨its,r,pl,hz⟩:=I.list hq
  refine SeqAt.in_listAt (eqU x) pl.isList (fun w hw=>wP rx fx r fs w (by simpa using hw)) ⟨.bl _,H,I,rfl,?_⟩
  rw[show its.toArray.any (eqU x)=its.any (eqU x) by simp,ue r fs]
  exact q
 ·obtain⟨its,r,pl,hz⟩:=I.tuple hq
  refine SeqAt.in_tupleAt (eqU x) pl (fun w hw=>wP rx fx r fs w (by simpa using hw)) ⟨.bl _,H,I,rfl,?_⟩
  rw[show its.toArray.any (eqU x)=its.any (eqU x) by simp,ue r fs]
  exact q
theorem zo:yJ X (.builtin "len") (fun xs H Q=>∃ p ys,xs=[.ref p]∧(SqL X.K H p ys∨SqT X.K H p ys)∧Q (.int ys.length) H):=by
 intro pins s σ H xs us Q I r h
 obtain⟨p,ys,rfl,hq,q⟩:=h
 obtain⟨u,rfl,rx⟩:=Zl r
 cases rx
 have hn:=Y1
 rcases hq with hq | hq
 ·obtain⟨its,r',pl,hz⟩:=I.list hq
  have hlen:=r'.length
  exact Calls.call_len_list pl.isList (by simp only[List.size_toArray]<;>omega) ⟨.int ys.length,H,I.tok _,⟨s.toks+1,by rw[List.size_toArray,hlen]⟩,q⟩
 ·obtain⟨its,r',pl,hz⟩:=I.tuple hq
  have hlen:=r'.length
  exact len_tuple pl (by simp only[List.size_toArray]<;>omega) ⟨.int ys.length,H,I.tok _,⟨s.toks+1,by rw[List.size_toArray,hlen]⟩,q⟩
theorem xy:yJ X (.type "list") (fun xs H Q=>∃ p ys,xs=[.ref p]∧(SqL X.K H p ys∨SqT X.K H p ys)∧∀ l,H l=none→Q (.ref l) (upd H l (.lst ys))):=by
 intro pins s σ H xs us Q I r h
 obtain⟨p,ys,rfl,hq,q⟩:=h
 obtain⟨u,rfl,rx⟩:=Zl r
 cases rx
 have fin:∀ (its:List Value),Vals ys its→ys.length≤sizeLine→∀ (h':Heap) (c':Nat),(∀ b o',s.heap.get? b=some o'→h'.get? b=some o') →
   h'.get? s.heap.objs.size=some { cls:=.type "list",dict:=none,data:=.seq its.toArray c',slots:=#[] }→EP X pins σ Q (.ref s.heap.objs.size) { s with heap:=h' }:=fun its r' hz h' c' kp e =>
  ⟨.ref s.heap.objs.size,_,I.laid (t':=s.toks) kp (Nat.le_refl _) (show ObjOk X.prog X.w _ h' _ (.lst ys) from⟨hz,its,c',r',e⟩),rfl,q _ (I.hok.fresh (Nat.le_refl _))⟩
 rcases hq with hq | hq
 ·obtain⟨its,r',pl,hz⟩:=I.list hq
  have hlen:=r'.length
  obtain⟨o,ho,hc,n,hd⟩:=pl.isList
  exact call_list_seq p (.inl rfl) ho hc hd (fun h' c' kp e=>fin its r' hz h' c' kp e) (by simp only[List.size_toArray]<;>omega)
 ·obtain⟨its,r',pl,hz⟩:=I.tuple hq
  have hlen:=r'.length
  obtain⟨o,ho,hc,n,hd⟩:=pl
  exact call_list_seq p (.inr rfl) ho hc hd (fun h' c' kp e=>fin its r' hz h' c' kp e) (by simp only[List.size_toArray]<;>omega)
theorem wU:yJ X (.type "tuple") (fun xs H Q=>∃ p ys,xs=[.ref p]∧((SqL X.K H p ys∧∀ l,H l=none→Q (.ref l) (upd H l (.tup ys)))∨(SqT X.K H p ys∧Q (.ref p) H))):=by
 intro pins s σ H xs us Q I r h
 obtain⟨p,ys,rfl,h⟩:=h
 obtain⟨u,rfl,rx⟩:=Zl r
 cases rx
 rcases h with⟨hq,q⟩ | ⟨hq,q⟩
 ·obtain⟨its,r',pl,hz⟩:=I.list hq
  have hlen:=r'.length
  refine call_tuple_list pl.isList (fun h' kp=>?_) (by simp only[List.size_toArray]<;>omega)
  have I1:Inv X pins σ H { s with heap:=h' }:=I.kept (t':=s.toks) kp
  have I2:Inv X pins σ (upd H h'.objs.size (.tup ys)) { s with heap:=h'.push { cls:=.type "tuple",data:=.seq its.toArray } } :=
   I1.laid (t':=s.toks) (fun b o e=>Heap.get?_push_of_some _ e) (Nat.le_refl _) (show ObjOk X.prog X.w _ _ _ (.tup ys) from⟨hz,its,r',IsTup.new _ _⟩)
  exact⟨.ref h'.objs.size,_,I2,rfl,q _ (I1.hok.fresh (Nat.le_refl _))⟩
 ·obtain⟨its,r',pl,hz⟩:=I.tuple hq
  exact call_tuple_same pl ⟨.ref p,H,I,rfl,q⟩
def tyV (K:PySem.W.Frag) (T:String) (x:V) (H:Hp):Prop:=match x with
 |.str _=>T = "str"
 |.int _=>T = "int"
 |.ref p=>(T = "list" ∧ ∃ xs,SqL K H p xs)∨(T = "tuple" ∧ ∃ o,K.lookup p=some o∧o.cls=.type "tuple" ∧ o.dict=none) ∨
   (T = "dict" ∧ ((∃ kvs,H p=some (.dK kvs))∨∃ kvs,H p=some (.dT kvs)))∨(T = "set" ∧ ∃ S n,H p=some (.set S n))
 |_=>False
theorem zaz {pins:List (Addr×Obj)}{σ:St}{H:Hp}{s:Shared}{T:String}{x:V}{v:Value}(I:Inv X pins σ H s) (r:RelV x v) (ty:tyV X.K T x H) :
  s.TypeIs v T∧∀ a,v=.ref a→∃ ob,s.heap.get? a=some ob∧ob.dict=none:=by
 cases x with
 |str z =>
  obtain⟨t,rfl⟩:=r
  cases (show T = "str" from ty)
  exact⟨typeIs_str s z t,fun _ e=>nomatch e⟩
 |int i =>
  obtain⟨t,rfl⟩:=r
  cases (show T = "int" from ty)
  exact⟨typeIs_int s i t,fun _ e=>nomatch e⟩
 |ref p =>
  cases r
  rcases ty with⟨rfl,xs,hq⟩ | ⟨rfl,o,hk,hc,hd⟩ | ⟨rfl,hk⟩ | ⟨rfl,S,n,hk⟩
  ·obtain⟨its,_,pl,_⟩:=I.list hq
   refine⟨pl.isList.typeIs,fun a e=>?_⟩
   cases e
   obtain⟨o,n,e,c,hd,_⟩:=pl
   exact⟨o,e,hd⟩
  ·refine⟨⟨o,I.kIn p o hk,hc⟩,fun a e=>?_⟩
   cases e
   exact⟨o,I.kIn _ o hk,hd⟩
  ·have z:∃ o,s.heap.get? p=some o∧o.ExactDict:=by
    rcases hk with⟨kvs,hk⟩ | ⟨kvs,hk⟩
    ·obtain⟨_,_,_,_,o,_,_,e,ex,_⟩:=I.hok p _ hk
     exact⟨o,e,ex⟩
    ·obtain⟨_,_,_,_,o,_,_,e,ex,_⟩:=I.hok p _ hk
     exact⟨o,e,ex⟩
   obtain⟨o,e,ex⟩:=z
   refine⟨⟨o,e,ex.1⟩,fun a e2=>?_⟩
   cases e2
   exact⟨o,e,ex.2.1⟩
  ·obtain⟨o,_,_,_,e,ex,_⟩:=I.hok p _ hk
   refine⟨⟨o,e,ex.1⟩,fun a e2=>?_⟩
   cases e2
   exact⟨o,e,ex.2.1⟩
 |_=>exact False.elim ty
def tBM (K:PySem.W.Frag) (T:String) (r:V→List V→Hp→VK→Prop) (to:TE) (t:TA):TE:=fun σ H Q=>to σ H fun x H1=>tyV K T x H1∧t σ H1 fun xs H2=>r x xs H2 Q
variable {o e:Expr}{es:List Expr}{to:TE}{t:TA}{name:Str}{apos cpos:Pos}{T id:String}{r:V→List V→Hp→VK→Prop}
theorem VM (pa:PlainAttrs T) (slot:Slot T name id) (hty:typeOf (.builtin id)=pure (.type "method_descriptor")) (hm:MtR X id r) (ho:PE X o to) (ha:PA X (e::es) t)
  (hbase:attributeBase o name X.env (eval o X.env)=eval o X.env:=by rfl)
  (hfew:((backTo cpos (starEach (e::es) X.env)).all (fun x=>!x.1)&&(backToKw cpos (keywordEach [] X.env)).all (fun x=>x.1.isSome)
   && decide ((e::es).length+([]:List Keyword).length+(if ([]:List Keyword).isEmpty then 0 else 1)<30))=true:=by rfl)
  (hline:(apos.endLine == cpos.line)=true:=by rfl) (hs:starEach (e::es) X.env=(false,eval e X.env)::starEach es X.env:=by rfl) (hplain:(backTo cpos (starEach es X.env)).any (·.1)=false:=by rfl) :
  PE X (.Call (.Attribute o name apos) (e::es) [] cpos) (tBM X.K T r to t):=by
 intro pins s σ H Q I h
 refine wpAny_Call_method_late hbase hfew hline rfl (thn (ho pins s σ H _ I h) fun v s1 hq0=>?_)
 obtain⟨x,H1,I1,r1,ty,q1⟩:=hq0
 obtain⟨h1,h2⟩:=zaz I1 r1 ty
 refine⟨T,id,pa,slot,hty,h1,h2,?_⟩
 have hA:=ha cpos pins s1 σ H1 _ I1 q1
 rw[hs] at hA ⊢
 refine Calls.callWith_builtin (by show(false||(backTo cpos (starEach es X.env)).any (·.1))=false;rw[hplain]<;>rfl) (Calls.evalArgs_plain ?_)
 exact thn hA fun us s2 ⟨vs,H2,I2,r2,q2⟩=>hm pins s2 σ H2 x vs v us Q I2 r1 r2 q2
end
end L2
namespace L2
open PySem PySem.Spec PyProof.Rows
noncomputable def MtM (X:Cx) (id:String) (r:V→List V→Hp→VK→Prop):Prop :=
 ∀ (pins:List (Addr×Obj)) (s:Shared) (σ:St) (H:Hp) (x:V) (xs:List V) (v:Value) (us:List Value) (Q:VK),Inv X pins σ H s→RelV x v→Vals xs us→r x xs H Q →
  wpAny (model X.prog X.w) X.A (call (.builtin id) (v::us)) (EP X pins σ Q) X.xe s
theorem Vals.one:∀ {x:V}{us:List Value},Vals [x] us→∃ u,us=[u]∧RelV x u
 |_,_,.cons r .nil=>⟨_,rfl,r⟩
theorem Vals.two:∀ {x y:V}{us:List Value},Vals [x,y] us→∃ u v,us=[u,v]∧RelV x u∧RelV y v
 |_,_,_,.cons r (.cons q .nil)=>⟨_,_,rfl,r,q⟩
theorem Vals.eraseIdx:∀ {xs:List V}{us:List Value}(i:Nat),Vals xs us→Vals (xs.eraseIdx i) (us.eraseIdx i)
 |_,_,_,.nil=>.nil
 |_,_,0,.cons _ t=>t
 |_,_,i+1,.cons r t=>.cons r (Vals.eraseIdx i t)
theorem vz {α:Type}:∀ (l:List α) (i:Nat),(l.eraseIdx i).length≤l.length
 |[],_=>Nat.le_refl _
 |_::_,0=>Nat.le_succ _
 |_::r,i+1=>Nat.succ_le_succ (vz r i)
section
variable {X:Cx}{pins:List (Addr×Obj)}{σ:St}{H:Hp}{s:Shared}{l b:Addr}{xs ys zs:List V}
theorem Inv.lset {its its':List Value}{n:Nat}{f:Array Value→Array Value}{t':Nat}(I:Inv X pins σ H s) (hH:H l=some (.lst xs))
  (e:s.heap.get? l=some { cls:=.type "list",data:=.seq its.toArray n }) (hf:f its.toArray=its'.toArray) (hv:Vals ys its') (hz:ys.length≤sizeLine) :
  Inv X pins σ (upd H l (.lst ys)) { s with heap:=s.heap.update l (Obj.mapSeq f),toks:=t' }:=by
 have q:=PySem.IsL.update e f
 rw[hf] at q
 refine I.write (x:=l) (e:=l) (by rw[hH];exact trivial) (.inl rfl) (fun b' u hb hu=>(Heap.get?_update_other s.heap (Obj.mapSeq f) (Ne.symm hb)).trans hu) ⟨_,q⟩ ?_
 exact⟨hz,its',_,hv,q⟩
theorem Inv.lnew {its:List Value}{t':Nat}(I:Inv X pins σ H s) (hv:Vals ys its) (hz:ys.length≤sizeLine) :
  Inv X pins σ (upd H s.heap.objs.size (.lst ys)) { s with heap:=s.heap.push { cls:=.type "list",data:=.seq its.toArray },toks:=t' } :=
 I.laid (fun _ _ q=>Heap.get?_push_of_some _ q) (Nat.le_refl _) ⟨hz,its,0,hv,Heap.get?_push_size _ rfl⟩
theorem Inv.fresh (I:Inv X pins σ H s):H s.heap.objs.size=none:=I.hok.fresh (Nat.le_refl _)
theorem Inv.lstM (I:Inv X pins σ H s) (hH:H l=some (.lst xs)):xs.length≤sizeLine∧∃ (its:List Value) (n:Nat),Vals xs its∧xs.length=its.length∧s.heap.get? l=some { cls:=.type "list",data:=.seq its.toArray n }:=by
 obtain⟨z,its,n,r,e⟩:=I.hok l _ hH
 exact⟨z,its,n,r,r.length,e⟩
theorem We {n:Nat}(h:n≤sizeLine):Builtin.List.listTooLong n=false:=by
 unfold Builtin.List.listTooLong
 exact decide_eq_false (by omega)
end
section
variable {X:Cx}
def Vu:V→List V→Hp→VK→Prop:=fun x vs H Q=>∃ l xs y,x=.ref l∧vs=[y]∧H l=some (.lst xs)∧xs.length<sizeLine∧Q .non (upd H l (.lst (xs++[y])))
theorem zS:MtM X "list.append" Vu:=by
 intro pins s σ H x vs v us Q I rx rv h
 obtain⟨l,xs,y,rfl,rfl,hH,hz,q⟩:=h
 cases rx
 obtain⟨u,rfl,ru⟩:=rv.one
 obtain⟨z,its,n,r,hl,e⟩:=I.lstM hH
 refine call_meets F.slot_list_append ⟨_,e,rfl⟩ F.entry_list_append (F.args_list_append_2 _ _) (PySem.list_append l its.toArray n u (by rw[List.size_toArray];omega)) ⟨e,?_⟩
 refine⟨.non,_,I.lset (its':=its++[u]) hH e (by simp) (r.append (.cons ru .nil)) ?_,rfl,q⟩
 rw[List.length_append,List.length_singleton]
 omega
def Vt:V→List V→Hp→VK→Prop:=fun x vs H Q=>∃ l b xs zs,x=.ref l∧vs=[.ref b]∧H l=some (.lst xs)∧H b=some (.lst zs)∧xs.length+zs.length≤sizeLine∧Q .non (upd H l (.lst (xs++zs)))
theorem zif:MtM X "list.extend" Vt:=by
 intro pins s σ H x vs v us Q I rx rv h
 obtain⟨l,b,xs,zs,rfl,rfl,hH,hB,hz,q⟩:=h
 cases rx
 obtain⟨u,rfl,ru⟩:=rv.one
 cases ru
 obtain⟨z,its,n,r,hl,e⟩:=I.lstM hH
 obtain⟨z2,its2,n2,r2,hl2,e2⟩:=I.lstM hB
 have hsz:its.toArray.size+its2.toArray.size≤sizeLine:=by rw[List.size_toArray,List.size_toArray];omega
 have hlong:¬ (!its.toArray.isEmpty&&Builtin.List.listTooLong (its.toArray.size+its2.toArray.size))=true:=by
  rw[We hsz,Bool.and_false]
  exact Bool.false_ne_true
 refine call_meets F.slot_list_extend ⟨_,e,rfl⟩ F.entry_list_extend (F.args_list_extend_2 _ _)
  (AutoSeq1.list_extend_list_list_0 l its.toArray n b its2.toArray n2 hlong (by rw[List.size_toArray];omega) (by omega)) ⟨e,e2,?_⟩
 refine⟨.non,_,I.lset (its':=its++its2) hH e (by simp) (r.append r2) ?_,rfl,q⟩
 rw[List.length_append]
 omega
def zf3:V→List V→Hp→VK→Prop:=fun x vs H Q=>∃ l xs i k y,x=.ref l∧vs=[.int i]∧H l=some (.lst xs)∧-(2 ^ 63)≤i∧i<2 ^ 63∧seqIndex? i xs.length=some k∧xs[k]?=some y∧Q y (upd H l (.lst (xs.eraseIdx k)))
theorem Wi:MtM X "list.pop" zf3:=by
 intro pins s σ H x vs v us Q I rx rv h
 obtain⟨l,xs,i,k,y,rfl,rfl,hH,h1,h2,hk,hy,q⟩:=h
 cases rx
 obtain⟨u,rfl,ru⟩:=rv.one
 obtain⟨t,rfl⟩:=ru
 obtain⟨z,its,n,r,hl,e⟩:=I.lstM hH
 obtain⟨w,hw,rw'⟩:=r.get hy
 refine call_meets F.slot_list_pop ⟨_,e,rfl⟩ F.entry_list_pop (F.args_list_pop_2 _ _)
  (MeetsSeq.list_pop_at l its.toArray n i t k w (fitsIndex_both h1 h2) (by rw[List.size_toArray,← hl];exact hk) (by rw[← Array.getElem?_toList];exact hw) (by rw[List.size_toArray];omega)) ⟨e,?_⟩
 refine⟨y,_,I.lset (its':=its.eraseIdx k) hH e ?_ (r.eraseIdx k) ?_,rw',q⟩
 ·show its.toArray.eraseIdxIfInBounds k=(its.eraseIdx k).toArray
  rw[List.eraseIdxIfInBounds_toArray]
 ·have:=vz xs k
  omega
def zw8:R2:=fun x y H Q=>∃ l b xs zs,x=.ref l∧y=.ref b∧H l=some (.lst xs)∧H b=some (.lst zs)∧xs.length+zs.length≤sizeLine∧∀ p,H p=none→Q (.ref p) (upd H p (.lst (xs++zs)))
theorem yr:OpR X (binaryOp .Add) zw8:=by
 intro pins s σ H x y v u Q I rx ry h
 obtain⟨l,b,xs,zs,rfl,rfl,hH,hB,hz,q⟩:=h
 cases rx
 cases ry
 obtain⟨z,its,n,r,hl,e⟩:=I.lstM hH
 obtain⟨z2,its2,n2,r2,hl2,e2⟩:=I.lstM hB
 refine PySem.P.add_list e e2 ?_ (by rw[List.size_toArray,List.size_toArray];omega)
 have ea:its.toArray++its2.toArray=(its++its2).toArray:=by simp
 rw[ea]
 exact⟨.ref _,_,I.lnew (t':=s.toks) (r.append r2) (by rw[List.length_append];omega),rfl,q _ I.fresh⟩
end
end L2
namespace L2
open PySem PySem.Spec PyProof.Rows
section
variable {κ:Type} [DecidableEq κ]
noncomputable def xE (kvs:List (κ×V)) (k:κ):Option V:=(kvs.find? fun kv=>decide (kv.1=k)).map (·.2)
noncomputable def putK (kvs:List (κ×V)) (k:κ) (v:V):List (κ×V) :=
 if (kvs.any fun kv=>decide (kv.1=k))=true then kvs.map (fun kv=>if kv.1=k then(kv.1,v) else kv) else kvs++[(k,v)]
theorem xB {p:κ×V}{r:List (κ×V)}{k:κ}(e:p.1=k):xE (p::r) k=some p.2:=by simp[xE,List.find?_cons,e]
theorem xC {p:κ×V}{r:List (κ×V)}{k:κ}(e:¬ p.1=k):xE (p::r) k=xE r k:=by simp[xE,List.find?_cons,e]
theorem xD (k:κ):∀ kvs:List (κ×V),(kvs.any fun kv=>decide (kv.1=k))=(xE kvs k).isSome
 |[]=>rfl
 |p::r=>by
  rw[List.any_cons]
  by_cases e:p.1=k
  ·simp only[xB e,decide_eq_true e,Bool.true_or,Option.isSome_some]
  ·rw[xC e,decide_eq_false e,Bool.false_or];exact xD k r
theorem yY (kvs:List (κ×V)) (k:κ) (v:V):(putK kvs k v).length≤kvs.length+1:=by
 unfold putK
 split
 ·rw[List.length_map];omega
 ·rw[List.length_append,List.length_cons,List.length_nil];omega
theorem RelO.isSome_eq {o:Option V}{u:Option Value}(r:RelO o u):o.isSome=u.isSome:=by
 cases o with
 |none=>cases u with
  |none=>rfl
  |some _=>exact(show False from r).elim
 |some _=>cases u with
  |none=>exact(show False from r).elim
  |some _=>rfl
theorem KV.val {kvs:List (κ×V)}{vs:List (κ×Value)}(r:KV kvs vs) (k:κ):RelO (xE kvs k) (valueAt vs k):=by
 unfold KV at r
 induction r with
 |nil=>exact True.intro
 | @cons p q ps qs h t ih =>
  obtain⟨h1,h2⟩:=h
  by_cases e:p.1=k
  ·have e':q.1=k:=h1.symm.trans e
   have b:valueAt (q::qs) k=some q.2:=by simp[valueAt,List.find?_cons,e']
   rw[xB e,b];exact h2
  ·have e':¬ q.1=k:=fun z=>e (h1.trans z)
   have b:valueAt (q::qs) k=valueAt qs k:=by simp[valueAt,List.find?_cons,e']
   rw[xC e,b];exact ih
theorem KV.any {kvs:List (κ×V)}{vs:List (κ×Value)}(r:KV kvs vs) (k:κ):(kvs.any fun kv=>decide (kv.1=k))=vs.any fun kv=>decide (kv.1=k):=by
 unfold KV at r
 induction r with
 |nil=>rfl
 |cons h t ih=>rw[List.any_cons,List.any_cons,ih,h.1]
theorem KV.repl {kvs:List (κ×V)}{vs:List (κ×Value)}(r:KV kvs vs) (k:κ){y:V}{u:Value}(ry:RelV y u) :
  KV (kvs.map fun kv=>if kv.1=k then(kv.1,y) else kv) (vs.map fun kv=>if kv.1=k then(kv.1,u) else kv):=by
 unfold KV at r ⊢
 induction r with
 |nil=>exact .nil
 | @cons p q ps qs h t ih =>
  rw[List.map_cons,List.map_cons]
  refine .cons ?_ ih
  obtain⟨h1,h2⟩:=h
  by_cases e:p.1=k
  ·rw[if_pos e,if_pos (h1.symm.trans e)];exact⟨h1,ry⟩
  ·rw[if_neg e,if_neg (fun z=>e (h1.trans z))];exact⟨h1,h2⟩
theorem KV.put {kvs:List (κ×V)}{vs:List (κ×Value)}(r:KV kvs vs) (k:κ){y:V}{u:Value}(ry:RelV y u):KV (putK kvs k y) (stored vs k u):=by
 unfold putK stored
 rw[r.any k]
 by_cases e:(vs.any fun kv=>decide (kv.1=k))=true
 ·rw[if_pos e,if_pos e];exact r.repl k ry
 ·rw[if_neg e,if_neg e];exact Paired.snoc r ⟨rfl,ry⟩
theorem KV.length {kvs:List (κ×V)}{vs:List (κ×Value)}(r:KV kvs vs):kvs.length=vs.length:=Paired.length r
end
theorem uZ {P:Program}{w:World}{k:Key}{u:Value}(r:RelV (kV k) u):(zC P w).is k u=true:=by
 cases k with
 |inl i=>obtain⟨t,e⟩:=(show ∃ t,u=Value.int i t from r);subst e;exact v5 P w i t
 |inr x=>obtain⟨t,e⟩:=(show ∃ t,u=Value.str x t from r);subst e;exact v0 P w x t
theorem vA {P:Program}{w:World}:∀ {ks:List Key}{us:List Value},Vals (ks.map kV) us→ItemsAre (zC P w) ks us
 |[],_,r=>by rw[List.map_nil] at r;cases r;exact .nil
 |k::ks,_,r=>by
  rw[List.map_cons] at r
  cases r with
  |cons h t=>exact .cons (uZ h) (vA t)
abbrev KT (H:Hp):List (List Key×V)→List (List Key×Addr×Value)→Prop:=Paired fun p q=>p.1=q.1∧H q.2.1=some (.tup (p.1.map kV))∧RelV p.2 q.2.2
theorem KT.val {H:Hp}{kvs:List (List Key×V)}{xs:List (List Key×Addr×Value)}(r:KT H kvs xs) (k:List Key):RelO (xE kvs k) ((atKey xs k).map (·.2)):=by
 induction r with
 |nil=>exact True.intro
 | @cons p q ps qs h t ih =>
  obtain⟨h1,_,h2⟩:=h
  by_cases e:p.1=k
  ·have e':q.1=k:=h1.symm.trans e
   have b:atKey (q::qs) k=some q.2:=by simp[atKey,List.find?_cons,e']
   rw[xB e,b];exact h2
  ·have e':¬ q.1=k:=fun z=>e (h1.trans z)
   have b:atKey (q::qs) k=atKey qs k:=by simp[atKey,List.find?_cons,e']
   rw[xC e,b];exact ih
theorem KT.repl {H:Hp}{kvs:List (List Key×V)}{xs:List (List Key×Addr×Value)}(r:KT H kvs xs) (k:List Key){y:V}{u:Value}(ry:RelV y u) :
  KT H (kvs.map fun kv=>if kv.1=k then(kv.1,y) else kv) (xs.map (putAt k u)):=by
 induction r with
 |nil=>exact .nil
 | @cons p q ps qs h t ih =>
  rw[List.map_cons,List.map_cons]
  refine .cons ?_ ih
  obtain⟨h1,h2,h3⟩:=h
  unfold putAt
  by_cases e:p.1=k
  ·rw[if_pos e,if_pos (h1.symm.trans e)];exact⟨h1,h2,ry⟩
  ·rw[if_neg e,if_neg (fun z=>e (h1.trans z))];exact⟨h1,h2,h3⟩
theorem KT.put {H:Hp}{kvs:List (List Key×V)}{xs:List (List Key×Addr×Value)}(r:KT H kvs xs) (k:List Key){b:Addr}{y:V}{u:Value}(hb:H b=some (.tup (k.map kV))) (ry:RelV y u) :
  KT H (putK kvs k y) (storedH xs k b u):=by
 have e:(kvs.any fun kv=>decide (kv.1=k))=(atKey xs k).isSome:=by
  rw[xD,(r.val k).isSome_eq,Option.isSome_map]
 unfold putK storedH
 rw[e]
 by_cases q:(atKey xs k).isSome=true
 ·rw[if_pos q,if_pos q];exact r.repl k ry
 ·rw[if_neg q,if_neg q];exact Paired.snoc r ⟨rfl,hb,ry⟩
theorem KT.keeps {H H':Hp}{kvs:List (List Key×V)}{xs:List (List Key×Addr×Value)}(r:KT H kvs xs) (ht:∀ b ys,H b=some (.tup ys)→H' b=some (.tup ys)):KT H' kvs xs :=
 Paired.mapP r fun _ _ z=>⟨z.1,ht _ _ z.2.1,z.2.2⟩
section
variable {P:Program}{w:World}{H:Hp}{h:Heap}{a:Addr}
theorem zf0 {u:HO}(ok:HOk P w H h) (e:Rd H a u):ObjOk P w H h a u:=e.ok ok
theorem Za {kvs:List (Key×V)}(ok:HOk P w H h) (e:Rd H a (.dK kvs)):kvs.length≤sizeLine∧(a == sysModules)=false∧∃ vs,KV kvs vs∧h.DictOf (zC P w) a vs :=
 show ObjOk P w H h a (.dK kvs) from zf0 ok e
theorem WB {kvs:List (Key×V)}(ok:HOk P w H h) (e:H a=some (.dK kvs)):kvs.length≤sizeLine∧(a == sysModules)=false∧∃ vs,KV kvs vs∧h.DictOf (zC P w) a vs:=Za ok (.inl e)
theorem uz {ks:List Key}(ok:HOk P w H h) (e:H a=some (.tup (ks.map kV))):(tupleKind (zC P w)).is h ks a:=by
 obtain⟨_,its,r,o,h1,h2,n,h3⟩:=(show ObjOk P w H h a (.tup (ks.map kV)) from ok a _ e)
 exact⟨o,its.toArray,n,h1,h2,h3,by simpa using vA r⟩
theorem Xe {kvs:List (List Key×V)}(ok:HOk P w H h) (e:Rd H a (.dT kvs)):kvs.length≤sizeLine∧(a == sysModules)=false ∧
  ∃ xs,KT H kvs xs∧h.DictOfH (tupleKind (zC P w)) a xs:=by
 obtain⟨z,y,xs,r,o,es,ep,h1,h2,h3,h4,h5⟩:=(show ObjOk P w H h a (.dT kvs) from zf0 ok e)
 refine⟨z,y,xs,r,o,es,ep,h1,h2,h3,h4,fun x hx=>?_,h5⟩
 have all:∀ {l:List (List Key×V)}{m:List (List Key×Addr×Value)},KT H l m→∀ x∈m,(tupleKind (zC P w)).is h x.1 x.2.1:=by
  intro l m q
  induction q with
  |nil=>intro x hx;exact nomatch hx
  | @cons p q ps qs hq t ih =>
   intro x hx
   rcases List.mem_cons.mp hx with e | hx
   ·subst e
    exact uz ok (by rw[← hq.1];exact hq.2.1)
   ·exact ih x hx
 exact all r x hx
theorem zn5 {kvs:List (List Key×V)}(ok:HOk P w H h) (e:H a=some (.dT kvs)):kvs.length≤sizeLine∧(a == sysModules)=false ∧
  ∃ xs,KT H kvs xs∧h.DictOfH (tupleKind (zC P w)) a xs:=Xe ok (.inl e)
end
noncomputable def DGet (H:Hp) (a:Addr) (y:V) (r:Option V):Prop :=
 (∃ kvs k,Rd H a (.dK kvs)∧y=kV k∧r=xE kvs k)∨∃ kvs k b,Rd H a (.dT kvs)∧y=.ref b∧H b=some (.tup (k.map kV))∧r=xE kvs k
noncomputable def DPut (H:Hp) (a:Addr) (y v:V) (H':Hp):Prop :=
 (∃ kvs k,H a=some (.dK kvs)∧y=kV k∧kvs.length<sizeLine∧H'=upd H a (.dK (putK kvs k v))) ∨
 ∃ kvs k b,H a=some (.dT kvs)∧y=.ref b∧H b=some (.tup (k.map kV))∧kvs.length<sizeLine∧H'=upd H a (.dT (putK kvs k v))
theorem DGet.k {H:Hp}{a:Addr}{kvs:List (Key×V)}{k:Key}(e:H a=some (.dK kvs)):DGet H a (kV k) (xE kvs k):=.inl ⟨kvs,k,.inl e,rfl,rfl⟩
theorem DGet.t {H:Hp}{a b:Addr}{kvs:List (List Key×V)}{k:List Key}(e:H a=some (.dT kvs)) (eb:H b=some (.tup (k.map kV))):DGet H a (.ref b) (xE kvs k):=.inr ⟨kvs,k,b,.inl e,rfl,eb,rfl⟩
theorem DPut.k {H:Hp}{a:Addr}{kvs:List (Key×V)}{k:Key}{v:V}(e:H a=some (.dK kvs)) (hl:kvs.length<sizeLine):DPut H a (kV k) v (upd H a (.dK (putK kvs k v))):=.inl ⟨kvs,k,e,rfl,hl,rfl⟩
theorem DPut.t {H:Hp}{a b:Addr}{kvs:List (List Key×V)}{k:List Key}{v:V}(e:H a=some (.dT kvs)) (eb:H b=some (.tup (k.map kV))) (hl:kvs.length<sizeLine) :
  DPut H a (.ref b) v (upd H a (.dT (putK kvs k v))):=.inr ⟨kvs,k,b,e,rfl,eb,hl,rfl⟩
section
variable {X:Cx}{pins:List (Addr×Obj)}{σ:St}{H:Hp}{s:Shared}{a:Addr}{y v:V}{u r:Value}{o:Option V}{A:Around}{E:Value→Shared→Prop}
theorem Inv.big (I:Inv X pins σ H s):sysModules<s.heap.objs.size:=by
 have h:mainGlobals<s.heap.objs.size:=(I.mod.glob.keeps I.bk).lt
 exact Nat.lt_trans (by decide) h
theorem Xj {Q:Value→Shared→Prop}(hu:A.units+1<cLine) (I:Inv X pins σ H s) (g:DGet H a y (some v)) (ry:RelV y u) (h:∀ w' s',Inv X pins σ H s'→RelV v w'→Q w' s') :
  wpAny (model X.prog X.w) A (getItem (.ref a) u) Q E s:=by
 rcases g with⟨kvs,k,e,ey,l⟩ | ⟨kvs,k,b,e,ey,eb,l⟩
 ·subst ey
  obtain⟨z,hd,vs,rel,dd⟩:=Za I.hok e
  obtain⟨w',hw,rw'⟩:=RelO.some_of (v:=v) (o:=valueAt vs k) (by rw[l];exact rel.val k)
  exact wpAny_getItem_of (uZ ry) dd.mapOf hw (h w' _ (I.tok _) rw')
 ·subst ey
  cases (show u=Value.ref b from ry)
  obtain⟨z,hd,xs,rel,dd⟩:=Xe I.hok e
  obtain⟨w',hw,rw'⟩:=RelO.some_of (v:=v) (o:=(atKey xs k).map (·.2)) (by rw[l];exact rel.val k)
  obtain⟨p,hp,hp2⟩:=Option.map_eq_some_iff.mp hw
  refine wpAny_getItem_heap (tupleKind_room_in1 hu) (uz I.hok eb) dd hp ?_
  rw[hp2]
  exact h w' _ (I.tok _) rw'
theorem zxE {Q:Value→Shared→Prop}(hu:A.units+1<cLine) (I:Inv X pins σ H s) (g:DGet H a y o) (ry:RelV y u) (h:∀ s',Inv X pins σ H s'→Q (.bool o.isSome) s') :
  wpAny (model X.prog X.w) A (compareOp .In u (.ref a)) Q E s:=by
 rcases g with⟨kvs,k,e,ey,l⟩ | ⟨kvs,k,b,e,ey,eb,l⟩
 ·subst ey
  obtain⟨z,hd,vs,rel,dd⟩:=Za I.hok e
  refine wpAny_in_of (uZ ry) hd dd.mapOf ?_
  rw[← (rel.val k).isSome_eq,← l]
  exact h _ (I.tok _)
 ·subst ey
  cases (show u=Value.ref b from ry)
  obtain⟨z,hd,xs,rel,dd⟩:=Xe I.hok e
  refine wpAny_in_heap (tupleKind_room_in1 hu) (uz I.hok eb) hd dd ?_
  have q:=(rel.val k).isSome_eq
  rw[Option.isSome_map] at q
  rw[← q,← l]
  exact h _ (I.tok _)
theorem wS {h':Heap}{t':Nat}{ob:HO}(I:Inv X pins σ H s) (mu:Mut (H a)) (hs:Heap.SameBut a s.heap h') (he:∃ q,h'.get? a=some q) (new:ObjOk X.prog X.w (upd H a ob) h' a ob) :
  Inv X pins σ (upd H a ob) { s with heap:=h',toks:=t' } :=
 I.write (x:=a) (e:=a) mu (.inl rfl) (fun b q hb z=>(hs.2 b hb).trans z) he new
theorem vD {P:Program}{w:World}{H':Hp}{h':Heap}{kvs:List (Key×V)}{vs:List (Key×Value)}(z:kvs.length≤sizeLine) (hd:(a == sysModules)=false) (rel:KV kvs vs) (dd:h'.DictOf (zC P w) a vs) :
  ObjOk P w H' h' a (.dK kvs):=⟨z,hd,vs,rel,dd⟩
theorem Xi {H':Hp}{Q:Unit→Shared→Prop}(hu:A.units+1<cLine) (I:Inv X pins σ H s) (g:DPut H a y v H') (ry:RelV y u) (rv:RelV v r) (h:∀ s',Inv X pins σ H' s'→Q () s') :
  wpAny (model X.prog X.w) A (setItem (.ref a) u r) Q E s:=by
 rcases g with⟨kvs,k,e,ey,l,eH⟩ | ⟨kvs,k,b,e,ey,eb,l,eH⟩
 ·subst ey eH
  obtain⟨z,hd,vs,rel,dd⟩:=WB I.hok e
  have hz:vs.length≤sizeLine:=by rw[← rel.length];exact z
  have hl:(putK kvs k v).length≤sizeLine:=by have:=yY kvs k v;omega
  refine wpAny_setItem_pairs (hsz:=hz) (uZ ry) dd fun h' dd' hs=>h _ ?_
  have he:∃ q,h'.get? a=some q:=let ⟨q,_,_,hq,_⟩:=dd';⟨q,hq⟩
  exact wS I (by rw[e];exact True.intro) hs he (vD hl hd (rel.put k rv) dd')
 ·subst ey eH
  cases (show u=Value.ref b from ry)
  obtain⟨z,hd,xs,rel,dd⟩:=zn5 I.hok e
  have hz:xs.length≤sizeLine:=by rw[← Paired.length rel];exact z
  have hl:(putK kvs k v).length≤sizeLine:=by have:=yY kvs k v;omega
  refine wpAny_setItem_heap (hsz:=hz) (tupleKind_room_in1 hu) (uz I.hok eb) dd fun h' dd' hs=>h _ ?_
  obtain⟨q,es,ep,hq,h2,h3,h4,_,h5⟩:=dd'
  refine wS I (by rw[e];exact True.intro) hs ⟨q,hq⟩ ⟨hl,hd,_,(rel.put k eb rv).keeps fun c ys ec=>?_,q,es,ep,hq,h2,h3,h4,h5⟩
  rw[upd_ne (ne_of ec e (fun z=>nomatch z))]
  exact ec
end
def zn8 (i:Expr):Prop:=∀ ov iv,subscripted i false ov iv=operate [ov,iv] (getItem ov iv)
theorem subD_of {prog:Program}{w:World}{A:Around}{E:Value→Shared→Prop}{s:Shared}{env:Env}{value slice:Expr}{pos:Pos}{T id:String}{Q:Value→Shared→Prop}
  (hl:typeLookup (.type T) "__getitem__" = pure (some (.builtin id))) (hs:zn8 slice)
  (h:wpAny (model prog w) A (eval value env) (fun o s₁=>wpAny (model prog w) A (eval slice env) (fun i s₂=>s₂.TypeIs o T∧wpAny (model prog w) A (getItem o i) Q E s₂) E s₁) E s) :
  wpAny (model prog w) A (eval (.Subscript value slice pos) env) Q E s:=by
 refine Subscript_ (wpAny_mono h (fun o s₁ h₁=>wpAny_mono h₁ (fun i s₂ h₂=>?_) fun _ _ x=>x) fun _ _ x=>x)
 obtain⟨hT,h₂⟩:=h₂
 unfold subscriptTail
 refine wpAny_bind ?_
 rw[getitemInPython_of_ne hT.not_modules]
 refine wpAny_bind (wpAny_specialOf hT hl ?_)
 have fin:wpAny (model prog w) A (subscripted slice false o i) (fun r s₃=>wpAny (model prog w) A (letTemporaryGo value o r >>= fun _=>pure r) Q E s₃) E s₂:=by
  rw[hs o i]
  exact wpAny_operating (wpAny_mono h₂ (fun r s₃ h₃=>wpAny_bind (wpAny_letTemporaryGo (wpAny_pure h₃))) fun _ _ x=>x)
 first
  |exact wpAny_pure (wpAny_bind fin)
  |exact wpAny_bind (wpAny_pure (wpAny_bind fin))
  |exact wpAny_bind fin
theorem ub {X:Cx}{pins:List (Addr×Obj)}{σ:St}{H:Hp}{s:Shared}{a:Addr}{y:V}{o:Option V}(I:Inv X pins σ H s) (g:DGet H a y o):s.TypeIs (.ref a) "dict" := by
 rcases g with⟨kvs,k,e,_,_⟩ | ⟨kvs,k,b,e,_,_,_⟩
 ·obtain⟨_,_,vs,_,dd⟩:=Za I.hok e
  exact dd.typeIs
 ·obtain⟨_,_,xs,_,dd⟩:=Xe I.hok e
  exact dd.typeIs
def zaQ (td ty:TE):TE:=fun σ H Q=>td σ H fun x H1=>ty σ H1 fun y H2=>∃ a v,x=.ref a∧DGet H2 a y (some v)∧Q v H2
def zok (ty td:TE):TE:=fun σ H Q=>ty σ H fun y H1=>td σ H1 fun x H2=>∃ a o,x=.ref a∧DGet H2 a y o∧Q (.bl o.isSome) H2
def zfY (td ty tv:TE):TS:=fun D σ H=>tv σ H fun v H1=>td σ H1 fun x H2=>ty σ H2 fun y H3=>∃ a H4,x=.ref a∧DPut H3 a y v H4∧D.nx σ H4
section
variable {X:Cx}{o i e value:Expr}{pos pos' tpos:Pos}{td ty tv:TE}
theorem vU (hu:X.A.units+1<cLine) (ho:PE X o td) (hi:PE X i ty) (hs:zn8 i):PE X (.Subscript o i pos) (zaQ td ty):=by
 intro pins s σ H Q I h
 refine subD_of PySem.F.slot_dict_getitem.lookup hs (thn (ho pins s σ H _ I h) fun u s1 ⟨x,H1,I1,rx,q1⟩=>thn (hi pins s1 σ H1 _ I1 q1) fun iv s2 hq0=>?_)
 obtain⟨y,H2,I2,ry,a,v,ex,g,q2⟩:=hq0
 subst ex
 obtain rfl:u=Value.ref a:=rx
 exact⟨ub I2 g,Xj hu I2 g ry fun w' s3 I3 rw'=>⟨v,H2,I3,rw',q2⟩⟩
theorem WZ (hu:X.A.units+1<cLine) (hi:PE X i ty) (ho:PE X o td):PC X .In i o (zok ty td):=by
 intro pins s σ H Q I h
 refine thn (hi pins s σ H _ I h) fun iv s1 ⟨y,H1,I1,ry,q1⟩=>thn (ho pins s1 σ H1 _ I1 q1) fun u s2 hq0=>?_
 obtain⟨x,H2,I2,rx,a,ov,ex,g,q2⟩:=hq0
 subst ex
 obtain rfl:u=Value.ref a:=rx
 exact zxE hu I2 g ry fun s3 I3=>⟨.bl ov.isSome,H2,I3,rfl,q2⟩
theorem vS (hu:X.A.units+1<cLine) (ho:PE X o td) (hi:PE X i ty) (hv:PE X value tv) (hs:swapsWith value (some (.Subscript o i pos')) pos.line X.env=pure false) :
  PS X (.Assign [.Subscript o i pos'] value pos) (zfY td ty tv):=by
 intro pins s σ H D I h
 refine wpAny_Assign_Subscript (thn (hv pins s σ H _ I h) fun r s1 ⟨v,H1,I1,rv,q1⟩=>thn (ho pins s1 σ H1 _ I1 q1) fun u s2 ⟨x,H2,I2,rx,q2⟩=>thn (hi pins s2 σ H2 _ I2 q2) fun iv s3 hq0=>?_) hs
 obtain⟨y,H3,I3,ry,a,H4,ex,g,q3⟩:=hq0
 subst ex
 obtain rfl:u=Value.ref a:=rx
 exact Xi hu I3 g ry rv fun s4 I4=>⟨σ,H4,I4,q3⟩
end
theorem uD {P:Program}{w:World}{H:Hp}(h:Heap) (hb:sysModules<h.objs.size):ObjOk P w H (h.push { cls:=.type "dict",data:=.dict #[] }) h.objs.size (.dK []) :=
 ⟨Nat.zero_le _,beq_eq_false_iff_ne.mpr (Ne.symm (Nat.ne_of_lt hb)),[],.nil,Heap.DictOf.new h⟩
theorem WA {P:Program}{w:World}{H:Hp}(h:Heap) (hb:sysModules<h.objs.size):ObjOk P w H (h.push { cls:=.type "dict",data:=.dict #[] }) h.objs.size (.dT []) :=
 ⟨Nat.zero_le _,beq_eq_false_iff_ne.mpr (Ne.symm (Nat.ne_of_lt hb)),[],.nil,_,#[],0,Heap.get?_push_size _ rfl,⟨rfl,rfl,rfl⟩,rfl,rfl,List.nodup_nil⟩
def WN:TE:=fun _ H Q=>∀ p,H p=none→Q (.ref p) (upd H p (.dK []))
def zaP:TE:=fun _ H Q=>∀ p,H p=none→Q (.ref p) (upd H p (.dT []))
section
variable {X:Cx}{pos:Pos}
theorem uu:PE X (.Dict [] [] pos) WN:=fun pins s σ H Q I h =>
 wpAny_Dict_empty ⟨.ref s.heap.objs.size,_,I.laid (a:=s.heap.objs.size) (o:=.dK []) (t':=s.toks) (fun _ _ q=>Heap.get?_push_of_some _ q) (Nat.le_refl _) (uD s.heap I.big),rfl,h _ (I.hok.fresh (Nat.le_refl _))⟩
theorem XX:PE X (.Dict [] [] pos) zaP:=fun pins s σ H Q I h =>
 wpAny_Dict_empty ⟨.ref s.heap.objs.size,_,I.laid (a:=s.heap.objs.size) (o:=.dT []) (t':=s.toks) (fun _ _ q=>Heap.get?_push_of_some _ q) (Nat.le_refl _) (WA s.heap I.big),rfl,h _ (I.hok.fresh (Nat.le_refl _))⟩
end
noncomputable def Zu:List (TE×TE)→St→Hp→(List (V×V)→Hp→Prop)→Prop
 |[],_,H,Q=>Q [] H
 |(tk,tv)::r,σ,H,Q=>tk σ H fun x H1=>tv σ H1 fun y H2=>Zu r σ H2 fun ps H3=>Q ((x,y)::ps) H3
abbrev VV:List (V×V)→List (Value×Value)→Prop:=Paired fun p q=>RelV p.1 q.1∧RelV p.2 q.2
noncomputable def PPs (X:Cx) (pos:Pos) (keys:List (Option Expr)) (values:List Expr) (trs:List (TE×TE)):Prop :=
 ∀ (pins:List (Addr×Obj)) (s:Shared) (σ:St) (H:Hp) (Q:List (V×V)→Hp→Prop),Inv X pins σ H s→Zu trs σ H Q →
  wpAny (model X.prog X.w) X.A (evalPairs (pairTrees keys values X.env pos)) (fun vs s'=>∃ ps H',Inv X pins σ H' s'∧VV ps vs∧Q ps H') X.xe s
theorem VB {X:Cx}{pos:Pos}:PPs X pos [] [] []:=fun pins s σ H Q I h=>pairTrees_nil_walk ⟨[],H,I,.nil,h⟩
theorem XU {X:Cx}{pos:Pos}{k v:Expr}{ks:List (Option Expr)}{vs:List Expr}{tk tv:TE}{trs:List (TE×TE)}(hk:PE X k tk) (hv:PE X v tv) (hr:PPs X pos ks vs trs) :
  PPs X pos (some k::ks) (v::vs) ((tk,tv)::trs):=fun pins s σ H Q I h =>
 pairTrees_cons_walk (thn (hk pins s σ H _ I h) fun u s1 ⟨x,H1,I1,rx,q1⟩=>thn (hv pins s1 σ H1 _ I1 q1) fun w2 s2 ⟨y,H2,I2,ry,q2⟩ =>
  thn (hr pins s2 σ H2 _ I2 q2) fun ws s3 ⟨ps,H3,I3,rel,q3⟩=>⟨(x,y)::ps,H3,I3,.cons ⟨rx,ry⟩ rel,q3⟩)
noncomputable def mergeK (kvs more:List (Key×V)):List (Key×V):=more.foldl (fun acc kv=>putK acc kv.1 kv.2) kvs
theorem KV.merge:∀ {more:List (Key×V)}{rs:List (Key×Value)}{kvs:List (Key×V)}{vs:List (Key×Value)},KV more rs→KV kvs vs→KV (mergeK kvs more) (merged vs rs):=by
 intro more rs kvs vs r
 unfold KV at r
 induction r generalizing kvs vs with
 |nil=>intro q;exact q
 | @cons p q ps qs h t ih =>
  intro r0
  have e:KV (putK kvs p.1 p.2) (stored vs q.1 q.2):=by
   have:=r0.put p.1 h.2
   rw[← h.1];exact this
  exact ih e
theorem xj:∀ (more kvs:List (Key×V)),(mergeK kvs more).length≤kvs.length+more.length
 |[],kvs=>by show kvs.length≤kvs.length+0;omega
 |p::r,kvs=>by
  have h1:=xj r (putK kvs p.1 p.2)
  have h2:=yY kvs p.1 p.2
  show(mergeK (putK kvs p.1 p.2) r).length≤_
  rw[List.length_cons];omega
theorem wt {P:Program}{w:World}:∀ {kvs:List (Key×V)}{ws:List (Value×Value)},VV (kvs.map fun kv=>(kV kv.1,kv.2)) ws→∃ rs,Carries (zC P w) ws rs∧KV kvs rs
 |[],_,r=>by rw[List.map_nil] at r;cases r;exact⟨[],True.intro,.nil⟩
 |p::kvs,_,r=>by
  rw[List.map_cons] at r
  cases r with
  | @cons a b as bs h t =>
   obtain⟨rs,c,q⟩:=wt (P:=P) (w:=w) t
   obtain⟨b1,b2⟩:=b
   exact⟨(p.1,b2)::rs,⟨uZ h.1,rfl,c⟩,.cons ⟨rfl,h.2⟩ q⟩
def zaN (trs:List (TE×TE)):TE:=fun σ H Q=>∀ p,H p=none→Zu trs σ (upd H p (.dK [])) fun ps H2=>H2 p=some (.dK [])∧∃ kvs:List (Key×V),ps=kvs.map (fun kv=>(kV kv.1,kv.2))∧kvs.length≤15∧Q (.ref p) (upd H2 p (.dK (mergeK [] kvs)))
theorem VI {X:Cx}{pos:Pos}{keys:List (Option Expr)}{values:List Expr}{trs:List (TE×TE)}(h:PPs X pos keys values trs) (hall:keys.all (·.isSome)=true) (hl:keys.length=values.length) (h0:keys≠[])
  (h15:keys.length≤15):PE X (.Dict keys values pos) (zaN trs):=by
 intro pins s σ H Q I q
 have hn:=I.hok.fresh (Nat.le_refl s.heap.objs.size)
 have I1:=I.laid (a:=s.heap.objs.size) (o:=.dK []) (h':=s.heap.push { cls:=.type "dict",data:=.dict #[] }) (t':=s.toks) (fun _ _ q=>Heap.get?_push_of_some _ q) (Nat.le_refl _) (uD s.heap I.big)
 refine wpAny_Dict_walk (knd:=zC X.prog X.w) hall hl h0 h15 (thn (h pins _ σ _ _ I1 (q _ hn)) fun ws s2 hq0=>?_)
 obtain⟨ps,H2,I2,rel,e,kvs,ep,lk,q2⟩:=hq0
 subst ep
 obtain⟨rs,c,rk⟩:=wt (P:=X.prog) (w:=X.w) rel
 obtain⟨z,hd,vs0,r0,dd⟩:=WB I2.hok e
 cases r0
 refine⟨rs,c,dd,fun h' dd' hs=>⟨.ref s.heap.objs.size,_,?_,rfl,q2⟩⟩
 have hz:(mergeK [] kvs).length≤sizeLine:=by
  have h1:=xj kvs []
  rw[List.length_nil] at h1
  rw[sizeLine_eq];omega
 have he:∃ q,h'.get? s.heap.objs.size=some q:=let ⟨q,_,_,hq,_⟩:=dd';⟨q,hq⟩
 exact wS I2 (by rw[e];exact True.intro) hs he (vD hz hd (rk.merge .nil) dd')
structure M1 (X:Cx) (o:Expr) (m:Str) (apos:Pos) (e:Expr) (cpos:Pos):Prop where
 base:attributeBase o m X.env (eval o X.env)=eval o X.env
 few:((backTo cpos (starEach [e] X.env)).all (fun x=>!x.1)&&(backToKw cpos (keywordEach [] X.env)).all (fun x=>x.1.isSome)
  && decide (([e]:List Expr).length+([]:List Keyword).length+(if ([]:List Keyword).isEmpty then 0 else 1)<30))=true
 line:(apos.endLine == cpos.line)=true
 trees:backTo cpos (starEach [e] X.env)=[(false,eval e X.env)]
def IsD (H:Hp) (a:Addr):Prop:=(∃ kvs,Rd H a (.dK kvs))∨∃ kvs,Rd H a (.dT kvs)
theorem zil {X:Cx}{pins:List (Addr×Obj)}{σ:St}{H:Hp}{s:Shared}{a:Addr}(I:Inv X pins σ H s) (d:IsD H a) :
  s.TypeIs (.ref a) "dict" ∧ (∀ b,Value.ref a=.ref b→∃ ob,s.heap.get? b=some ob∧ob.dict=none)∧(a == sysModules)=false:=by
 rcases d with⟨kvs,e⟩ | ⟨kvs,e⟩
 ·obtain⟨_,hd,vs,_,dd⟩:=Za I.hok e
  refine⟨dd.typeIs,fun b q=>?_,hd⟩
  cases q
  obtain⟨ob,_,_,h1,h2,_⟩:=dd
  exact⟨ob,h1,h2.2.1⟩
 ·obtain⟨_,hd,xs,_,dd⟩:=Xe I.hok e
  refine⟨dd.typeIs,fun b q=>?_,hd⟩
  cases q
  obtain⟨ob,_,_,h1,h2,_⟩:=dd
  exact⟨ob,h1,h2.2.1⟩
section
variable {X:Cx}{pins:List (Addr×Obj)}{σ:St}{H:Hp}{s:Shared}{a:Addr}{kvs:List (Key×V)}{A:Around}{E:Value→Shared→Prop}
theorem WC {Q:Value→Shared→Prop}(I:Inv X pins σ H s) (e:Rd H a (.dK kvs)) (h:∀ p s',H p=none→Inv X pins σ (upd H p (.dK kvs)) s'→Q (.ref p) s'):wpAny (model X.prog X.w) A (call (.type "dict") [.ref a]) Q E s:=by
 obtain⟨z,hd,vs,rel,dd⟩:=Za I.hok e
 refine kt_call_dict hd dd (by rw[← rel.length];exact z) fun h' dd' hs=>?_
 refine h _ _ (I.hok.fresh (Nat.le_refl _)) (I.laid (a:=s.heap.objs.size) (o:=.dK kvs) (t':=s.toks) (fun b q hq=>?_) (Nat.le_refl _) (vD z (beq_eq_false_iff_ne.mpr (Ne.symm (Nat.ne_of_lt I.big))) rel dd'))
 exact(hs.2 b (Nat.ne_of_lt (Heap.lt_size hq))).trans (Heap.get?_push_of_some _ hq)
end
end L2
namespace Att
open PySem PySem.W PySem.Calls PyProof.Rows
theorem xW {P:Params}{h:Heap}:∀ (ns:List Int) (vs:List Value),WellAll P h vs (ns.map WData.int)→IntsAre vs ns:=by
 intro ns
 induction ns with
 |nil =>
  intro vs w
  rw[List.map_nil] at w
  cases w
  exact .nil
 |cons n ns ih =>
  intro vs w
  rw[List.map_cons] at w
  cases w with
  |cons a b =>
   cases a
   exact .cons _ _ (ih _ b)
theorem Yq {l:OpenLaw}{n:Nat}(hn:l.most=some n){P:Params}{h:Heap}{args:List WData}{vals:List Value}
  (hpre:l.row.toRowW.claim.pre args=true) (hwl:WellAll P h vals args) :
  ∃ a vs ns,vals=[Value.ref a]∧args=[WData.list (ns.map WData.int)]∧h.get? a=some { cls:=.type "list",data:=.seq vs.toArray }∧IntsAre vs ns∧ns.length≤n:=by
 have hsh:WShape.hasAll [] args [.list .int]=true:=(pre_splitW hpre).1
 have hc:l.pre.holds [] { args:=args }=true:=(pre_splitW hpre).2
 obtain⟨d,r,rfl,h1,h2⟩:=hasAllW_cons hsh
 obtain rfl:=hasAllW_nil h2
 obtain⟨xs,rfl,h3⟩:=hasW_list h1
 obtain⟨ns,rfl⟩:=items_int h3
 have hlen:ns.length≤n:=by
  unfold OpenLaw.pre at hc
  have h4:(WTm.not (.lt (.lit (.int (n:Int))) (.len (.arg 0)))).holds [] { args:=[.list (ns.map .int)] }=true:=by
   have h4:=(holds_andW hc).1
   rw[hn] at h4
   exact h4
  have h5:=condW_of h4 (w_not (w_lt w_lit (w_len_list (w_arg rfl))))
  rw[List.length_map] at h5
  refine Nat.le_of_not_lt fun q=>?_
  have q':(n:Int)<((ns.length:Nat):Int):=by omega
  first
   |(rw[decide_eq_true q'] at h5;exact absurd h5 (by decide))
   |(simp at h5;omega)
 cases hwl with
 |cons w1 w2 =>
  cases w2
  cases w1 with
  |list ho hall=>exact⟨_,_,ns,rfl,rfl,ho,xW ns _ hall,hlen⟩
theorem Ys (l:OpenLaw) (args:List WData):l.row.toRowW.claim.post args (.bool true) args=true :=
 postW_of (r:=l.row.toRowW) (X:=(true == true))
  (show WShape.has [] (.bool true) .bool=true by first | rfl | decide | simp[WShape.has,WShape.arms,WShape.armsAll])
  (show(WTm.eq .res (.lit (.bool true))).value [] { args:=args,res:=some (.bool true),after:=args }=some (.bool (true == true)) from w_eq_bool (w_res rfl) w_lit) rfl
theorem attach_call {l:OpenLaw}{n:Nat}{q:Program}{loose:List Str}{XP:(Str→Option Value)→Heap→Prop}{YP:World→Heap→Prop}{d:DefRec}
  (hn:l.most=some n) (hdf:d.params.defaults=[])
  (call:∀ (w:World) (s₀ s₁:Shared) (mg mb:Str→Option Value) (fa:Addr) (o:Obj) (pm cd doc:Value) (a:Addr) (vs:List Value) (ns:List Int),
   Ground q loose [] XP w s₀ mg mb s₁.heap→YP w s₁.heap →
   s₁.heap.get? fa=some o→o.data=.func (docDef d.name d.params d.body d.scope pm cd doc)→s₁.heap.CodeRec cd d.name→mg d.name=some (.ref fa) →
   s₁.heap.get? a=some { cls:=.type "list",data:=.seq vs.toArray }→IntsAre vs ns→ns.length≤n→s₁.gens = #[] →
   codeAny (model l.prog w) callerA (.call (.ref fa) ⟨[.ref a],[]⟩) (fun r s'=>r=.ok (.ret (.bool true))∧OldK s₁.heap s'.heap∧s'.os=s₁.os∧AllBare s'.gens) s₁) :
  WalkO q loose XP YP l.row.toRowW d [] (fun f vs=>PySem.call f vs):=by
 intro w s₀ s₁ mg mb G Y fa o pm cd doc dV kV ho hd hcd hD hmg hg args vals as hpre hlay hrd hwl hlo
 obtain rfl:dV=.none:=Dflts.none hD hdf
 obtain rfl:kV=.none:=Dflts.noKw hD
 obtain⟨a,vs,ns,rfl,rfl,hobj,hints,hlen⟩:=Yq hn hpre hwl
 refine enter_call (codeAny_mono (call w s₀ s₁ mg mb fa o pm cd doc a vs ns G Y ho (fd_plain hd) hcd hmg hobj hints hlen hg) fun r s' hq=>?_)
 obtain⟨rfl,h2,h3,h4⟩:=hq
 exact⟨.inl ⟨.bool true,.bool true,[],rfl,fun _=>rfl,.bool true,Ys l _,fun _=>⟨List.Pairwise.nil,fun _ hm=>(nomatch hm)⟩⟩,h2,h3,h4⟩
end Att
namespace L2
open PySem PySem.Spec PyProof.Rows
theorem wZ:∀ {vs:List Value}{ns:List Int},IntsAre vs ns→Vals (ns.map V.int) vs
 |_,_,.nil=>.nil
 |_,_,.cons n t h=>.cons ⟨t,rfl⟩ (wZ h)
def ziy (H:Hp):Prop:=∀ b,H b=none∨∃ o xs,H b=some (.frz o (.lst xs))
theorem Wq {P:Program}{w:World}{K:PySem.W.Frag}{mg mb:Str→Option Value}{CX:CXT}{k:Nat}{fa a:Addr}{fd:FuncData}{x:Str}{sp:Sp}{s₁:Shared}{vs:List Value}{ns:List Int}
  (KX:K.In s₁.heap) (hns:s₁.heap.Ns mainGlobals mg) (hb:s₁.heap.Ns builtinsNs mb) (hbb:∀ x:Str,x ≠ "__name__" → mb x=bootBuiltins x) (hlim:s₁.heap.NoLimit) (hg:s₁.gens = #[])
  (ha:s₁.heap.get? a=some { cls:=.type "list",data:=.seq vs.toArray }) (hi:IntsAre vs ns) (hl:ns.length≤sizeLine) (hr:Room k callerA)
  (F:∀ base:Heap,K.In base→base.Ns mainGlobals mg→FnOk P w K mg base CX k fa fd [x] sp) (hbind:∀ (s:Shared) (u:Value),BindsTo s fd ⟨[u],[]⟩ [(x,u)])
  (hsp:∀ H:Hp,ziy H→SqL K H a (ns.map V.int)→sp [.ref a] H (fun v _=>v=.bl true) fun _ _ _=>False)
  (hCX:∀ H e s',CX [] H s₁ (fun _ _ _=>False) e s'→False) :
  codeAny (model P w) callerA (.call (.ref fa) ⟨[.ref a],[]⟩) (fun r s'=>r=.ok (.ret (.bool true))∧OldK s₁.heap s'.heap∧s'.os=s₁.os∧AllBare s'.gens) s₁:=by
 have rv:=wZ hi
 have lenV:=hi.length
 -- from an abstract heap in which nothing but the script may be tracked
 have core:∀ H:Hp,ziy H→SqL K H a (ns.map V.int)→HOk P w H s₁.heap→(∀ b,H b≠none→b=a)→(H a≠none→K.lookup a=none) →
   codeAny (model P w) callerA (.call (.ref fa) ⟨[.ref a],[]⟩) (fun r s'=>r=.ok (.ret (.bool true))∧OldK s₁.heap s'.heap∧s'.os=s₁.os∧AllBare s'.gens) s₁:=by
  intro H hO hS hok hA hK
  have base_of:∀ {b:Addr}{o:Obj},s₁.heap.get? b=some o→H b=none→(Wx s₁.heap H).get? b=some o:=fun e n=>Ww e n
  have noA:∀ {b:Addr}{o:Obj}{es:Array DictEntry}{ep:Nat},s₁.heap.get? b=some o→o.data=.dict es ep→H b=none:=fun {b o es ep} e d=>by
   cases q:H b with
   |none=>rfl
   |some u =>
    have e':b=a:=hA b (by rw[q];simp)
    subst e'
    rw[ha] at e;cases e
    have d':Data.seq vs.toArray _=Data.dict es ep:=d
    cases d'
  have nsK:∀ {b:Addr}{m:Str→Option Value},s₁.heap.Ns b m→(Wx s₁.heap H).Ns b m:=fun {b m} ⟨o,es,ep,e,d,r⟩=>⟨o,es,ep,base_of e (noA e d),d,r⟩
  have hKb:K.In (Wx s₁.heap H):=fun b o e=>base_of (KX b o e) (by
   cases q:H b with
   |none=>rfl
   |some u =>
    have e':b=a:=hA b (by rw[q];simp)
    subst e'
    rw[hK (by rw[q];simp)] at e;cases e)
  have hM:Mod K mg (Wx s₁.heap H):=⟨hKb,nsK hns,⟨mb,nsK hb,hbb⟩,let ⟨mc,h1,h2⟩:=hlim;⟨mc,nsK h1,h2⟩⟩
  have e0:Env0 P w K mg (Wx s₁.heap H) callerA [] s₁ H:=⟨rfl,hM,fun b o e=>VY e,Nat.le_of_eq (Xa _ _),trivial,fun b hb=>absurd (show b∈([]:List Addr) from hb) (by simp),hok,.of_eq hg⟩
  refine codeAny_mono ((F _ hKb (nsK hns)).run callerA [] s₁ H ⟨[.ref a],[]⟩ [.ref a] [.ref a] _ _ hr e0 (hbind s₁ (.ref a)) (.cons rfl .nil) (hsp H hO hS)) fun r s' h=>?_
  cases r with
  |error e=>exact(hCX H e s' h).elim
  |ok fl =>
   cases fl with
   |next=>exact False.elim h
   |brk=>exact False.elim h
   |cont=>exact False.elim h
   |ret u =>
    obtain⟨v,H',os,bare,un,hok',r',q⟩:=h
    have q':v=.bl true:=q
    subst q'
    obtain rfl:u=Value.bool true:=r'
    refine⟨rfl,OldK.of_keep fun b o e=>?_,os,bare⟩
    cases q:H b with
    |none=>exact un.keep b o e q (by intro z;exact absurd (show b∈([]:List Addr) from z) (by simp)) (by simp)
    |some u =>
     rcases hO b with z | ⟨ob,xs,z⟩
     ·rw[q] at z;cases z
     ·have z2:=un.frzs b ob _ z
      obtain⟨e1,_⟩:=hok b _ z
      obtain⟨e2,_⟩:=hok' b _ z2
      rw[e] at e1;cases e1
      exact e2
 cases hk:K.lookup a with
 |some o =>
  -- the script is one of the module's own objects
  have e:=KX a o hk
  rw[ha] at e
  cases e
  refine core (fun _=>none) (fun _=>.inl rfl) (.inr ⟨_,vs.toArray,_,hk,rfl,rfl,rfl,by rw[List.size_toArray,lenV];exact hl,by simpa using rv⟩) (fun b u z=>by have z':(none:Option HO)=some u:=z;cases z') (fun b z=>absurd rfl z) fun z=>absurd rfl z
 |none =>
  refine core (fun b=>if b=a then some (.frz { cls:=.type "list",data:=.seq vs.toArray } (.lst (ns.map V.int))) else none) (fun b=>?_) (.inl (.inr ⟨{ cls:=.type "list",data:=.seq vs.toArray },if_pos rfl⟩)) (fun b u z=>?_) (fun b z=>?_) fun _=>hk
  ·by_cases hb:b=a
   ·exact .inr ⟨_,_,if_pos hb⟩
   ·exact .inl (if_neg hb)
  ·by_cases hb:b=a
   ·have z':=(if_pos hb).symm.trans z
    cases z'
    subst hb
    exact⟨ha,by rw[List.length_map];exact hl,vs,_,rv,ha⟩
   ·have z':=(if_neg hb).symm.trans z
    cases z'
  ·by_cases hb:b=a
   ·exact hb
   ·exact absurd (if_neg hb) z
end L2
namespace L2
open PySem PySem.Spec PyProof.Rows
abbrev KOf {K:PySem.W.Frag}{h:Heap}(_:K.In h):PySem.W.Frag:=K
theorem Vg {l:PySem.W.OpenLaw}{n k:Nat}{q:Program}{loose:List Str}{XP:(Str→Option Value)→Heap→Prop}{YP:World→Heap→Prop}{d:DefRec}{K:Params→PySem.W.Frag}{CX:World→CXT}{sp:World→Sp}{x:Str}
  (hn:l.most=some n) (hn2:n≤sizeLine) (hdf:d.params.defaults=[]) (hr:Room k callerA)
  (hY:∀ (w:World) (h:Heap),YP w h→(K w.params).In h)
  (F:∀ (w:World) (mg:Str→Option Value) (fa:Addr) (h:Heap),(K w.params).In h→h.Ns mainGlobals mg→mg d.name=some (.ref fa) →
   ∃ fd:FuncData,(∀ (s:Shared) (u:Value),BindsTo s fd ⟨[u],[]⟩ [(x,u)]) ∧
    ∀ base:Heap,(K w.params).In base→base.Ns mainGlobals mg→FnOk l.prog w (K w.params) mg base (CX w) k fa fd [x] (sp w))
  (hsp:∀ (w:World) (H:Hp) (a:Addr) (ns:List Int),ns.length≤n→ziy H→SqL (K w.params) H a (ns.map V.int)→sp w [.ref a] H (fun v _=>v=.bl true) fun _ _ _=>False)
  (hCX:∀ (w:World) (H:Hp) (s:Shared) (e:Value) (s':Shared),CX w [] H s (fun _ _ _=>False) e s'→False) :
  PySem.W.WalkO q loose XP YP l.row.toRowW d [] (fun f vs=>PySem.call f vs):=by
 refine Att.attach_call hn hdf fun w s₀ s₁ mg mb fa o pm cd doc a vs ns G Y ho hd hcd hmg hobj hints hlen hg=>?_
 have KX:=hY w _ Y
 obtain⟨fd,hb,hF⟩:=F w mg fa _ KX G.T.g hmg
 exact Wq KX G.T.g G.T.b G.T.builtins G.T.nolimit hg hobj hints (Nat.le_trans hlen hn2) hr hF hb (fun H hO hS=>hsp w H a ns hlen hO hS) fun H e s'=>hCX w H s₁ e s'
theorem walk_ofK {l:PySem.W.OpenLaw}{n k:Nat}{q:Program}{loose:List Str}{XP:(Str→Option Value)→Heap→Prop}{YP:World→Heap→Prop}{d:DefRec}{K:Params→PySem.W.Frag}{CX:CXT}{sp:PySem.W.Frag→Sp}{x:Str}
  (hn:l.most=some n) (hn2:n≤sizeLine) (hdf:d.params.defaults=[]) (hr:Room k callerA)
  (hY:∀ (w:World) (h:Heap),YP w h→(K w.params).In h)
  (F:∀ (w:World) (mg:Str→Option Value) (fa:Addr) (h:Heap),(K w.params).In h→h.Ns mainGlobals mg→mg d.name=some (.ref fa) →
   ∃ fd:FuncData,(∀ (s:Shared) (u:Value),BindsTo s fd ⟨[u],[]⟩ [(x,u)]) ∧
    ∀ base:Heap,(K w.params).In base→base.Ns mainGlobals mg→FnOk l.prog w (K w.params) mg base CX k fa fd [x] (sp (K w.params)))
  (hsp:∀ (K:PySem.W.Frag) (H:Hp) (a:Addr) (ns:List Int),ns.length≤n→ziy H→SqL K H a (ns.map V.int)→sp K [.ref a] H (fun v _=>v=.bl true) fun _ _ _=>False)
  (hCX:∀ (H:Hp) (s:Shared) (e:Value) (s':Shared),CX [] H s (fun _ _ _=>False) e s'→False) :
  PySem.W.WalkO q loose XP YP l.row.toRowW d [] (fun f vs=>PySem.call f vs) :=
 Vg (K:=K) (CX:=fun _=>CX) (sp:=fun w=>sp (K w.params)) hn hn2 hdf hr hY F (fun w H a ns h1 h2 h3=>hsp (K w.params) H a ns h1 h2 h3) fun _ H s e s'=>hCX H s e s'
end L2
namespace L2
open PySem PySem.Spec PyProof.Rows
noncomputable def inClass (s:Stmt) (j:Nat):Stmt:=match s with
 |.ClassDef _ _ _ body _ _ _ _ _ _ _=>body.getD j (.Pass ⟨0,0,0,0⟩)
 |_=>.Pass ⟨0,0,0,0⟩
noncomputable def defArgs (s:Stmt):Arguments:=match s with
 |.FunctionDef _ a _ _ _ _ _ _ _ _=>a
 |_=>{ posonlyargs:=[],args:=[],vararg:=none,kwonlyargs:=[],kw_defaults:=[],kwarg:=none,defaults:=[] }
noncomputable def defBody (s:Stmt):List Stmt:=match s with
 |.FunctionDef _ _ b _ _ _ _ _ _ _=>b
 |_=>[]
noncomputable def defScope (s:Stmt):Scope:=match s with
 |.FunctionDef _ _ _ _ _ _ sc _ _ _=>sc
 |_=>{ kind:=.function,names:=[],isGenerator:=false,isCoroutine:=false }
abbrev CX0:CXT:=fun _ _ _ _ _ _=>False
abbrev E0:XK:=fun _ _ _=>False
theorem Yy {X:Cx}:xl CX0 X E0:=fun _ _ _ _ _ _ _ h=>h.elim
structure Fun (K:PySem.W.Frag) (x qual:Str) (st:Stmt) (f:Addr) (fd:FuncData):Prop where
 ex:∃ (oc:Value) (od:Option Addr) (kV doc pm:Value) (an:Option Addr) (cdv ct:Value) (osl:Array (Option Value)),
  fd=PySem.W.fnOf x qual (defArgs st) (defBody st) (defScope st) .none kV doc pm an cdv ct∧K.lookup f=some ⟨oc,od,.func fd,osl⟩∧PySem.W.codeIn K cdv qual=true
 kp:PySem.W.keepIn K (.ref f)=true
section
variable {P:Program}{w:World}{K:PySem.W.Frag}{mg:Str→Option Value}{base:Heap}
theorem Fun.ok {x qual:Str}{st:Stmt}{f:Addr}{fd:FuncData}{N ps:List Str}{k:Nat}{sp:Sp}(F:Fun K x qual st f fd) (S:FnScope N ps (defScope st)) (len:∀ vs H Q E,sp vs H Q E→vs.length=ps.length)
  (hbody:∀ (cdv:Value) (A:Around) (outer:List Env) (s:Shared) (H:Hp) (vs:List V) (Q:VK) (E:XK),Room k (A.deeper (envOfC qual (defScope st) s.heap.objs.size f cdv))→sp vs H Q E →
   ∃ t,PSs (zau CX0 P w K mg base N qual (defScope st) f cdv A outer s H E).nox (defBody st) t∧t { nx:=fun _ H'=>Q .non H',rt:=Q } (start N vs) H):FnOk P w K mg base CX0 (k+1) f fd ps sp:=by
 obtain⟨oc,od,kV,doc,pm,an,cdv,ct,osl,rfl,lk,hcd⟩:=F.ex
 refine zn3 lk hcd S len fun A outer s H vs Q E hr hsp=>?_
 obtain⟨t,h,q⟩:=hbody cdv A outer s H vs Q E hr hsp
 exact⟨t,h.nox,q⟩
theorem Fun.binds {x qual:Str}{st:Stmt}{f:Addr}{fd:FuncData}{ps:List Str}(F:Fun K x qual st f fd)
  (h:∀ (kV doc pm:Value) (an:Option Addr) (cdv ct:Value) (us:List Value),us.length=ps.length→bindArgs (PySem.W.fnOf x qual (defArgs st) (defBody st) (defScope st) .none kV doc pm an cdv ct) ⟨us,[]⟩=pure (ps.zip us)):Binds K fd ps []:=by
 obtain⟨oc,od,kV,doc,pm,an,cdv,ct,osl,rfl,lk,hcd⟩:=F.ex
 exact .all (h kV doc pm an cdv ct)
theorem zt {x qual:Str}{st:Stmt}{f:Addr}{oc:Value}{od an:Option Addr}{osl:Array (Option Value)}{kV doc pm cdv ct:Value}(l:K.lookup f=some ⟨oc,od,.func (PySem.W.fnOf x qual (defArgs st) (defBody st) (defScope st) .none kV doc pm an cdv ct),osl⟩)
  (c:PySem.W.codeIn K cdv qual=true) (k:PySem.W.keepIn K (.ref f)=true):Fun K x qual st f (PySem.W.fnOf x qual (defArgs st) (defBody st) (defScope st) .none kV doc pm an cdv ct):=⟨⟨oc,od,kV,doc,pm,an,cdv,ct,osl,rfl,l,c⟩,k⟩
end
theorem xX {A:Around}{k:Nat}(hr:Room k A):A.units+1<cLine:=Nat.lt_of_le_of_lt (Nat.add_le_add_left (by decide:1≤64) _) hr.units
theorem zr {n:Nat}(h:n≤1000):n<sizeLine:=Nat.lt_of_le_of_lt h (by decide)
section
variable {X:Cx}
theorem pv (i:Nat){x:Str}{pos:Pos}(hN:X.N[i]?=some x:=by rfl) (hv:Vis X.env.scope x:=by first | exact Or.inl rfl | exact Or.inr (Or.inl rfl) | exact Or.inr (Or.inr rfl)) (hd:(x == ("__debug__" : Str))=false:=by decide)
  (hcd:(x == ("__classdict__" : Str))=false:=by decide):PE X (.Name x pos) (zlx i):=zgb hN hv hd hcd
end
theorem vL {A B:Prop}(h:B):if false=true then A else B:=by
 rw[if_neg Bool.false_ne_true]
 exact h
theorem XA {A B:Prop}(h:A):if true=true then A else B:=by
 rw[if_pos rfl]
 exact h
theorem ite2 {c A B:Prop} [Decidable c] (h1:c→A) (h2:¬ c→B):if c then A else B:=by
 by_cases h:c
 ·rw[if_pos h]
  exact h1 h
 ·rw[if_neg h]
  exact h2 h
def Same (H H':Hp):Prop:=∀ b o,H b=some o→H' b=some o
theorem Same.refl (H:Hp):Same H H:=fun _ _ h=>h
theorem Same.trans {H H1 H2:Hp}(a:Same H H1) (b:Same H1 H2):Same H H2:=fun c o h=>b c o (a c o h)
theorem Same.free {H H':Hp}(e:Same H H'){l:Addr}(h:H' l=Option.none):H l=Option.none:=by
 cases q:H l with
 |none=>rfl
 |some o =>
  rw[e l o q] at h
  cases h
end L2

set_option maxHeartbeats 4000000
namespace L2
open PySem PySem.Spec PyProof.Rows
def zaF (t u:TS):TS:=fun D σ H=>∃ M:St→Hp→Prop,t { D with nx:=M } σ H∧∀ σ' H',M σ' H'→u D σ' H'
theorem Vy {X:Cx}{st:Stmt}{rest:List Stmt}{t u:TS}(h1:PS X st t) (h2:PSs X rest u):PSs X (st::rest) (zaF t u):=by
 intro pins s σ H D I h
 obtain⟨M,h,hM⟩:=h
 refine wpAny_execs_cons (thn (h1 pins s σ H { D with nx:=M } I h) fun f s1 q=>?_)
 cases f with
 |next =>
  obtain⟨σ',H',I',q⟩:=q
  exact h2 pins s1 σ' H' D I' (hM σ' H' q)
 |brk=>exact q
 |cont=>exact q
 |ret u=>exact q
theorem iteB {c:Bool}{A B:Prop}(hc:c=true) (h:A):if c=true then A else B:=by rw[if_pos hc];exact h
theorem yn {c:Bool}{A B:Prop}(hc:c=false) (h:B):if c=true then A else B:=by rw[hc];exact vL h
def PTs (X:Cx) (ifs:List Expr) (t:TT):Prop :=
 ∀ (pins:List (Addr×Obj)) (s:Shared) (σ:St) (H:Hp) (Q:Bool→Hp→Prop),Inv X pins σ H s→t σ H Q →
  wpAny (model X.prog X.w) X.A (forIn ifs true fun c r=>if r=true then do let ok ← isTrue c X.env (eval c X.env);pure (ForInStep.yield ok) else pure (ForInStep.yield r)) (TP X pins σ Q) X.xe s
def ziB:TT:=fun _ H Q=>Q true H
theorem Vx {X:Cx}:PTs X [] ziB:=fun _ _ _ H _ I h=>wpAny_tests_nil ⟨H,I,h⟩
theorem Vw {X:Cx}{c:Expr}{t:TT}(h:PT X c t):PTs X [c] t:=fun pins s σ H Q I hw=>wpAny_tests_one (h pins s σ H Q I hw)
section
variable {prog:Program}{w:World}{A:Around}{R:Result→Shared→Prop}{s:Shared}
abbrev NoE:Value→Shared→Prop:=fun _ _=>False
theorem zm9 {α:Type}{m:Sem α}{Q:α→Shared→Prop}{E:Value→Shared→Prop}{s:Shared}(h:wpAny (model prog w) A m Q NoE s):wpAny (model prog w) A m Q E s :=
 wpAny_mono h (fun _ _ q=>q) fun _ _ z=>z.elim
noncomputable def Xx (prog:Program) (w:World) (A:Around) (env:Env) (tg:Expr) (ifs:List Expr) (elt:Expr) (it acc:Value) (again:Shared→Prop) (v:Value) (s1:Shared):Prop :=
 wpAny (model prog w) A (letOwnedTupleGo tg it v) (fun _ s2=>wpAny (model prog w) A (assign tg env v) (fun _ s3 =>
  wpAny (model prog w) A (forIn ifs true fun c r=>if r=true then do let ok ← isTrue c env (eval c env);pure (ForInStep.yield ok) else pure (ForInStep.yield r)) (fun ok s4 =>
   if ok=true then wpAny (model prog w) A (eval elt env) (fun x s5=>wpAny (model prog w) A (call (.builtin "list.append") [acc,x]) (fun _ s6=>again s6) NoE s5) NoE s4
   else again s4) NoE s3) NoE s2) NoE s1
theorem Ze {elt tg iter:Expr}{ifs:List Expr}{scope:Scope}{pos:Pos}{it acc:Value}{env:Env}(J:Nat→Shared→Prop)
  (turn:∀ n s,J n s→wpAny (model prog w) A (pyNext it) (fun r s1=>match r with
   |none=>R (.ok .next) s1
   |some v=>Xx prog w A env tg ifs elt it acc (fun s6=>∃ m,m<n∧J m s6) v s1) NoE s)
  (n:Nat) (h:J n s):codeAny (model prog w) A (.compLoop (.ListComp elt [⟨tg,iter,ifs,0⟩] scope pos) 0 it acc env) R s:=by
 refine codeAny_loop rfl J (fun n s hJ=>?_) n h
 show wpAny _ A ((compTurn (.ListComp elt [⟨tg,iter,ifs,0⟩] scope pos) 0 it acc env).onRaise (fun x=>do noteFrame x env;theTreesLotGoes x)) _ _ s
 refine wpAny_noted (zm9 ?_)
 rw[compTurn_list]
 refine wpAny_bind (wpAny_standAt (wpAny_bind (thn (turn n s hJ) fun r s1 h1=>?_)))
 cases r with
 |none=>exact wpAny_pure h1
 |some v =>
  refine wpAny_bind (thn h1 fun _ s2 h2=>wpAny_bind (thn h2 fun _ s3 h3=>wpAny_bind (thn h3 fun ok s4 h4=>?_)))
  cases ok with
  |false=>exact wpAny_pure ⟨rfl,h4⟩
  |true=>exact wpAny_bind (wpAny_bind (thn h4 fun x s5 h5=>wpAny_bind (thn h5 fun _ s6 h6=>wpAny_pure (wpAny_pure ⟨rfl,h6⟩))))
end
theorem uc {env:Env}:∀ (names:List (Str×NameKind)) (acc:List (Str×Addr)),(∀ y∈names,y.2=.free→∃ c,env.cells.lookup y.1=some c)→(∀ x c,acc.lookup x=some c→env.cells.lookup x=some c) →
  ∃ cl,(forIn names acc (fun(y:Str×NameKind) (cs:List (Str×Addr))=>(if (y.2 == NameKind.free)=true then(do let c ← cellOf env y.1;pure (ForInStep.yield ((y.1,c)::cs))) else pure (ForInStep.yield cs):Sem (ForInStep (List (Str×Addr))))))=(pure cl:Sem (List (Str×Addr))) ∧
   (∀ x c,cl.lookup x=some c→env.cells.lookup x=some c)∧(∀ x,(acc.lookup x).isSome=true→(cl.lookup x).isSome=true)∧(∀ y∈names,y.2=.free→(cl.lookup y.1).isSome=true)
 |[],acc,_,h2=>⟨acc,rfl,h2,fun _ h=>h,fun y hy=>by cases hy⟩
 |(n,k)::r,acc,h1,h2=>by
  have h1':∀ y∈r,y.2=.free→∃ c,env.cells.lookup y.1=some c:=fun y hy=>h1 y (List.mem_cons_of_mem _ hy)
  by_cases hk:k=.free
  ·subst hk
   obtain⟨c,hc⟩:=h1 (n,.free) List.mem_cons_self rfl
   have h2':∀ x c',(((n,c)::acc:List (Str×Addr)).lookup x)=some c'→env.cells.lookup x=some c':=fun x c' e=>by
    rw[List.lookup_cons] at e
    by_cases hx:(x == n)=true
    ·rw[hx] at e
     cases e
     rw[beq_iff_eq.mp hx]
     exact hc
    ·rw[Bool.not_eq_true] at hx
     rw[hx] at e
     exact h2 x c' e
   obtain⟨cl,e,p1,p2,p3⟩:=uc r ((n,c)::acc) h1' h2'
   refine⟨cl,?_,p1,fun x hx=>p2 x ?_,fun y hy hf=>?_⟩
   ·rw[List.forIn_cons]
    have q:cellOf env n=pure c:=by unfold cellOf;rw[hc]
    simp only[beq_self_eq_true,if_true,q,pure_bind]
    exact e
   ·rw[List.lookup_cons]
    cases q:x == n with
    |true=>rfl
    |false=>exact hx
   ·rcases List.mem_cons.mp hy with rfl | hy
    ·exact p2 n (by rw[List.lookup_cons,beq_self_eq_true];rfl)
    ·exact p3 y hy hf
  ·obtain⟨cl,e,p1,p2,p3⟩:=uc r acc h1' h2
   have hb:(k == NameKind.free)=false:=by simpa using hk
   refine⟨cl,?_,p1,p2,fun y hy hf=>?_⟩
   ·rw[List.forIn_cons]
    simp only[hb,Bool.false_eq_true,if_false,pure_bind]
    exact e
   ·rcases List.mem_cons.mp hy with rfl | hy
    ·exact absurd hf hk
    ·exact p3 y hy hf
structure Clos (env:Env) (scope:Scope) (cl:List (Str×Addr)):Prop where
 eq:closureFor scope env=pure cl
 sub:∀ x c,cl.lookup x=some c→env.cells.lookup x=some c
 all:∀ y∈scope.names,y.2=.free→(cl.lookup y.1).isSome=true
theorem Xm {env:Env}{scope:Scope}(h:∀ y∈scope.names,y.2=.free→∃ c,env.cells.lookup y.1=some c):∃ cl,Clos env scope cl:=by
 obtain⟨cl,e,p1,p2,p3⟩:=uc (env:=env) scope.names [] h (fun x c z=>by simp at z)
 refine⟨cl,⟨?_,p1,p3⟩⟩
 have q:closureFor scope env=(forIn scope.names [] (fun(y:Str×NameKind) (cs:List (Str×Addr))=>(if (y.2 == NameKind.free)=true then(do let c ← cellOf env y.1;pure (ForInStep.yield ((y.1,c)::cs))) else pure (ForInStep.yield cs):Sem (ForInStep (List (Str×Addr))))) >>= fun s=>pure s):=rfl
 rw[q,e,pure_bind]
abbrev yW (X:Cx) (scope:Scope) (N':List Str) (cl:List (Str×Addr)) (C:Addr) (s₀:Shared) (H₀:Hp) (fp:List Addr):Cx :=
 { X with N:=N',s₀:=s₀,H₀:=H₀,env:=compEnvC scope cl C X.env,outer:=X.stack,ex:=fp,fn:=fun _=>false,pn:=[],xe:=NoE }
structure Blk where
 cl:List (Str×Addr)
 C:Addr
 s₀:Shared
 H₀:Hp
 fp:List Addr
abbrev cxB (X:Cx) (scope:Scope) (N':List Str) (b:Blk):Cx:=yW X scope N' b.cl b.C b.s₀ b.H₀ b.fp
noncomputable def Y6:Option NameKind→Bool
 |some .cell=>true
 |some .free=>true
 |_=>false
theorem xH {k:Option NameKind}(h:Y6 k=true):k=some .cell∨k=some .free:=by
 cases k with
 |none=>cases h
 |some k=>cases k<;>first | exact .inl rfl | exact .inr rfl | cases h
noncomputable def WG (N:List Str) (kd kd':Str→Option NameKind) (N':List Str) (t:Nat):List Nat→Nat→Bool
 |[],k=>N'.length == t+k
 |j::r,k=>(match N[j]?,N'[t+k]? with
  |some x,some y=>(x == y)&&Y6 (kd x)&&Y6 (kd' x)
  |_,_=>false)&&WG N kd kd' N' t r (k+1)
theorem vF {N:List Str}{kd kd':Str→Option NameKind}{N':List Str}{t:Nat}:∀ {caps:List Nat}{k:Nat},WG N kd kd' N' t caps k=true→N'.length=t+k+caps.length
 |[],k,h=>by
  have:=beq_iff_eq.mp h
  simpa using this
 |j::r,k,h=>by
  have:=vF (Bool.and_eq_true_iff.mp h).2
  rw[List.length_cons]
  omega
theorem uF {N:List Str}{kd kd':Str→Option NameKind}{N':List Str}{t:Nat}:∀ {caps:List Nat}{k i j:Nat},WG N kd kd' N' t caps k=true→caps[i]?=some j →
  ∃ x,N[j]?=some x∧N'[t+k+i]?=some x∧Y6 (kd x)=true∧Y6 (kd' x)=true
 |[],_,_,_,_,e=>by simp at e
 |j::r,k,0,j',h,e=>by
  simp at e
  subst e
  have h1:=(Bool.and_eq_true_iff.mp h).1
  cases q:N[j]? with
  |none=>rw[q] at h1;cases h1
  |some x =>
   cases q':N'[t+k]? with
   |none=>rw[q,q'] at h1;cases h1
   |some y =>
    rw[q,q'] at h1
    obtain⟨h2,h3⟩:=Bool.and_eq_true_iff.mp h1
    obtain⟨h4,h5⟩:=Bool.and_eq_true_iff.mp h2
    obtain rfl:x=y:=beq_iff_eq.mp h4
    exact⟨x,rfl,rfl,h5,h3⟩
 |j::r,k,i+1,j',h,e=>by
  obtain⟨x,a,b,c,d⟩:=uF (i:=i) (Bool.and_eq_true_iff.mp h).2 (by simpa using e)
  refine⟨x,a,?_,c,d⟩
  have q:t+(k+1)+i=t+k+(i+1):=by omega
  rw[← q]
  exact b
structure CompOk (X:Cx) (scope:Scope) (N':List Str) (t:Nat) (caps:List Nat):Prop where
 kind:scope.kind=.function
 shape:(scope.names.all fun y=>(y.2 == .local&&scope.names.lookup y.1 == some .local)||(y.2 == .free&&Y6 (X.env.kindOf y.1))||(y.2 == .globalImplicit))=true
 cap:WG X.N X.env.kindOf (compEnvC scope [] 0 X.env).kindOf N' t caps 0=true
theorem CompOk.at {X:Cx}{scope:Scope}{N':List Str}{t:Nat}{caps:List Nat}(S:CompOk X scope N' t caps){y:Str×NameKind}(hy:y∈scope.names) :
  y.2≠.cell∧(y.2=.local→scope.names.lookup y.1=some .local)∧(y.2=.free→Y6 (X.env.kindOf y.1)=true):=by
 have h:=List.all_eq_true.mp S.shape y hy
 obtain⟨n,k⟩:=y
 cases k<;>simp at h<;>simp[h]
noncomputable def ziw (t:Nat) (caps:List Nat) (σ:St):St:=List.replicate t none++caps.map fun j=>(σ[j]?).join
theorem xp {scope:Scope}{env:Env}{x:Str}:∀ {names:List (Str×NameKind)},(∀ y∈names,y.2≠.cell)→Y6 ((names.map fun(y:Str×NameKind)=>if (y.2 == NameKind.free&&env.scope.kind == .function&&env.kindOf y.1 == some .cell)=true then(y.1,NameKind.cell) else(y.1,y.2)).lookup x)=true →
  (x,NameKind.free)∈names
 |[],_,h=>by simp[Y6] at h
 |(n,k)::r,hn,h=>by
  have hr:∀ y∈r,y.2≠.cell:=fun y hy=>hn y (List.mem_cons_of_mem _ hy)
  have hk:k≠.cell:=hn (n,k) List.mem_cons_self
  rw[List.map_cons] at h
  by_cases hx:(x == n)=true
  ·obtain rfl:x=n:=beq_iff_eq.mp hx
   have q:k=.free:=by
    by_cases hf:k=.free
    ·exact hf
    ·exfalso
     have hb:(k == NameKind.free)=false:=by simpa using hf
     simp only[hb,Bool.false_and,Bool.false_eq_true,if_false,List.lookup_cons,beq_self_eq_true] at h
     cases k<;>simp[Y6] at h hk hf
   subst q
   exact List.mem_cons_self
  ·rw[Bool.not_eq_true] at hx
   refine List.mem_cons_of_mem _ (xp (scope:=scope) (env:=env) hr ?_)
   by_cases hc:(k == NameKind.free&&env.scope.kind == .function&&env.kindOf n == some .cell)=true
   ·simp only[hc,if_true,List.lookup_cons,hx] at h
    exact h
   ·rw[Bool.not_eq_true] at hc
    simp only[hc,Bool.false_eq_true,if_false,List.lookup_cons,hx] at h
    exact h
def Xz (J:It) (g:TG) (tc:TT) (te:TE) (Q:VK) (D:Addr) (τ0:St) (H0:Hp):Prop :=
 ∃ W:Nat→Nat→List V→St→Hp→Prop,(∃ m,W 0 m [] τ0 H0)∧∀ i m ys τ H,W i m ys τ H →
  (J.stop i H∧Q (.ref D) H)∨(J.go i H∧∃ N:List V→St→Hp→Prop,(∀ zs τ' H',N zs τ' H'→∃ m',m'<m∧W (i+1) m' zs τ' H')∧∀ x H3,J.yld i H x H3→g x τ H3 fun τ2 H4=>tc τ2 H4 fun b H5 =>
   if b=true then te τ2 H5 fun y H6=>H6 D=some (.lst ys)∧ys.length<sizeLine∧N (ys++[y]) τ2 (upd H6 D (.lst (ys++[y]))) else N ys τ2 H5)
def XI (wi:TI) (g:Blk→TG) (tc:Blk→TT) (te:Blk→TE) (t:Nat) (caps:List Nat):TE:=fun σ H Q =>
 wi σ H fun J H1=>∀ D,H1 D=none→∀ b:Blk,Xz J (g b) (tc b) (te b) Q D (ziw t caps σ) (upd H1 D (.lst []))
theorem Xl {J:It}{g:TG}{tc:TT}{te:TE}{Q:VK}{D:Addr}{τ0:St}{H0:Hp}(n:Nat) (Pv:Nat→List V→St→Hp→Prop) (h0:Pv 0 [] τ0 H0)
  (hst:∀ zs τ H,Pv n zs τ H→J.stop n H∧Q (.ref D) H)
  (hgo:∀ i zs τ H,i<n→Pv i zs τ H→J.go i H∧∀ x H3,J.yld i H x H3→g x τ H3 fun τ2 H4=>tc τ2 H4 fun b H5 =>
   if b=true then te τ2 H5 fun y H6=>H6 D=some (.lst zs)∧zs.length<sizeLine∧Pv (i+1) (zs++[y]) τ2 (upd H6 D (.lst (zs++[y]))) else Pv (i+1) zs τ2 H5):Xz J g tc te Q D τ0 H0:=by
 refine⟨fun i m zs τ H=>m=n-i∧i≤n∧Pv i zs τ H,⟨n,by simp,Nat.zero_le _,h0⟩,?_⟩
 rintro i m zs τ H ⟨rfl,hi,p⟩
 by_cases hlt:i<n
 ·obtain⟨go,step⟩:=hgo i zs τ H hlt p
  exact .inr ⟨go,Pv (i+1),fun zs' τ' H' p'=>⟨n-(i+1),by omega,rfl,hlt,p'⟩,step⟩
 ·have e:i=n:=by omega
  subst e
  exact .inl (hst zs τ H p)
theorem yp {K:PySem.W.Frag}{a:Addr}{xs:List V}{g:TG}{tc:TT}{te:TE}{Q:VK}{D:Addr}{τ0:St}{H0:Hp}(Pv:Nat→List V→St→Hp→Prop) (h0:Pv 0 [] τ0 H0) (hl:∀ i zs τ H,Pv i zs τ H→SqL K H a xs)
  (hs:∀ i x zs τ H,xs[i]?=some x→Pv i zs τ H→g x τ H fun τ2 H4=>tc τ2 H4 fun b H5 =>
   if b=true then te τ2 H5 fun y H6=>H6 D=some (.lst zs)∧zs.length<sizeLine∧Pv (i+1) (zs++[y]) τ2 (upd H6 D (.lst (zs++[y]))) else Pv (i+1) zs τ2 H5)
  (hd:∀ zs τ H,Pv xs.length zs τ H→Q (.ref D) H):Xz (Itl K a) g tc te Q D τ0 H0 :=
 Xl xs.length Pv h0 (fun zs τ H p=>⟨⟨xs,hl _ _ _ _ p,Nat.le_refl _⟩,hd zs τ H p⟩) fun i zs τ H hi p=>⟨⟨xs,xs[i],hl _ _ _ _ p,by simp[hi]⟩,fun x H3 y=>by
  obtain⟨e,y⟩:=y
  subst e
  exact hs i x zs τ _ (y xs (hl _ _ _ _ p)) p⟩
theorem Zb {lo:Int}{n:Nat}{g:TG}{tc:TT}{te:TE}{Q:VK}{D:Addr}{τ0:St}{H0:Hp}(Pv:Nat→List V→St→Hp→Prop) (h0:Pv 0 [] τ0 H0)
  (hs:∀ i zs τ H,i<n→Pv i zs τ H→g (.int (lo+i)) τ H fun τ2 H4=>tc τ2 H4 fun b H5 =>
   if b=true then te τ2 H5 fun y H6=>H6 D=some (.lst zs)∧zs.length<sizeLine∧Pv (i+1) (zs++[y]) τ2 (upd H6 D (.lst (zs++[y]))) else Pv (i+1) zs τ2 H5)
  (hd:∀ zs τ H,Pv n zs τ H→Q (.ref D) H):Xz (Itr lo n) g tc te Q D τ0 H0 :=
 Xl n Pv h0 (fun zs τ H p=>⟨Nat.le_refl _,hd zs τ H p⟩) fun i zs τ H hi p=>⟨hi,fun x H3 y=>by
  obtain⟨e,y⟩:=y
  subst e y
  exact hs i zs τ _ hi p⟩
section
variable {X:Cx}{tg iter elt:Expr}{ifs:List Expr}{scope:Scope}{pos:Pos}{N':List Str}{t:Nat}{caps:List Nat}{g:Blk→TG}{tc:Blk→TT}{te:Blk→TE}{wi:TI}
theorem FpOk.heap {pins:List (Addr×Obj)}{H H':Hp}{b:Addr}(f:FpOk X pins H b) (h:H' b=none):FpOk X pins H' b:=⟨h,f.2⟩
theorem vE {cl:List (Str×Addr)}{J:It}{fp:List Addr}{it:Addr}{tn:Nat→Heap→Prop}{pins:List (Addr×Obj)}{σ:St}{H2:Hp}{s2:Shared}{Q:VK}{E:Value→Shared→Prop}
  (hc:X.calm=true) (S:CompOk X scope N' t caps) (L:Clos X.env scope cl)
  (hg:∀ b,PG (cxB X scope N' b) tg (g b)) (ht:∀ b,PTs (cxB X scope N' b) ifs (tc b)) (he:∀ b,PE (cxB X scope N' b) elt (te b))
  (I2:Inv X pins σ H2 s2) (T:Turn X.prog X.w X.K tg J fp it tn) (st2:tn 0 s2.heap) (f2:∀ b∈fp,FpOk X pins H2 b)
  (R:∀ D,H2 D=none→∀ b,Xz J (g b) (tc b) (te b) Q D (ziw t caps σ) (upd H2 D (.lst []))) :
  wpAny (model X.prog X.w) X.A (newList []) (fun acc s3=>wpAny (model X.prog X.w) X.A (newFunctionEnv scope X.env.globals cl [] X.env.qual none .none (some X.env)) (fun cenv s4 =>
   codeAny (model X.prog X.w) X.A (.compStart (.ListComp elt [⟨tg,iter,ifs,0⟩] scope pos) 0 (.ref it) acc { cenv with scope:=relabel scope X.env })
    (fun r s'=>∃ (D:Addr) (H':Hp) (m:Str→Option Value),acc=.ref D∧r=.ok .next∧Inv X pins σ H' s'∧s'.heap.Ns cenv.locals m∧FpOk X pins H' cenv.locals∧Q (.ref D) H') s4) E s3) E s2:=by
 refine wpAny_newObj_type ?_
 have I3:Inv X pins σ (upd H2 s2.heap.objs.size (.lst [])) { s2 with heap:=s2.heap.push { cls:=.type "list",data:=.seq ([]:List Value).toArray } }:=I2.lnew (t':=s2.toks) .nil (Nat.zero_le _)
 have hD:H2 s2.heap.objs.size=none:=I2.fresh
 have R:=R _ hD
 generalize hs3:({ s2 with heap:=s2.heap.push { cls:=.type "list",data:=.seq ([]:List Value).toArray } }:Shared)=s3 at I3 ⊢
 generalize hH3:upd H2 s2.heap.objs.size (.lst [])=H3 at I3 R
 generalize hDD:s2.heap.objs.size=D at R ⊢
 have k3:∀ b o,s2.heap.get? b=some o→s3.heap.get? b=some o:=fun b o e=>by rw[← hs3];exact Heap.get?_push_of_some _ e
 have st3:tn 0 s3.heap:=T.keep 0 _ _ st2 fun b _ o e=>k3 b o e
 have fpn:∀ b∈fp,H3 b=none:=fun b hb=>by
  obtain⟨o,e,_⟩:=T.obj 0 _ st2 b hb
  rw[← hH3,upd_ne (Nat.ne_of_lt (Heap.lt_size e))]
  exact(f2 b hb).1
 have f3:∀ b∈fp,FpOk X pins H3 b:=fun b hb=>(f2 b hb).heap (fpn b hb)
 refine wpAny_newFunctionEnv (fun y hy=>(S.at hy).1) (by intro y hy;simp at hy) (fun h4 hns hsb=>?_) S.kind
 generalize hC:s3.heap.objs.size=C at hns hsb ⊢
 have k4:∀ b o,s3.heap.get? b=some o→h4.get? b=some o:=fun b o e=>hsb.extBut b o (by rw[← hC];exact Nat.ne_of_lt (Heap.lt_size e)) (Heap.get?_push_of_some _ e)
 have cellsub:∀ x c,(yW X scope N' cl C s3 H3 fp).env.cells.lookup x=some c→X.env.cells.lookup x=some c:=L.sub
 have hnc:∀ y∈scope.names,y.2≠.cell:=fun y hy=>(S.at hy).1
 have fC:∀ {H':Hp},H' C=none→FpOk X pins H' C:=fun h=>by rw[← hC] at h ⊢;exact I3.fpOk (Nat.le_refl _) h
 have I4:Inv (yW X scope N' cl C s3 H3 fp) [] (ziw t caps σ) H3 { s3 with heap:=h4,toks:=s3.toks+([]:List (Str×Value)).length }:=by
  refine⟨⟨I3.ok.mod,S.kind,I3.ok.glob,I3.ok.blt,Nat.le_of_eq hC,fun x y c h1 h2=>I3.ok.inj x y c (L.sub _ _ h1) (L.sub _ _ h2),fun x hx=>?_,fun x c h _=>absurd (show false=true from h) Bool.false_ne_true,I3.ok.hd,I3.ok.frames,.inl rfl,fun b hb=>⟨?_,fun x c e=>(f3 b hb).2.2.2.2.1 x c (L.sub x c e)⟩,
    I3.bs,Nat.le_trans I3.ok.bsz I3.sz,fun b o e hb=>?_,fun b hb z=>?_,I3.stack,I3.stkFree⟩,
   rfl,I3.bare,Un.kept k4,⟨_,hns,fun i x v e1 e2 e3=>?_⟩,fun x c e=>?_,(by rw[← hC];exact I3.fresh),fun x c e=>I3.freeC x c (L.sub x c e),fun p hp=>?_,I3.hok.kept k4,?_⟩
  ·have hx':Y6 ((relabel scope X.env).names.lookup x)=true:=by
    rcases hx with q | q
    ·rw[show(relabel scope X.env).names.lookup x=some .cell from q];rfl
    ·rw[show(relabel scope X.env).names.lookup x=some .free from q];rfl
   exact Option.isSome_iff_exists.mp (L.all _ (xp (scope:=scope) hnc hx') rfl)
  ·obtain⟨o,e,_⟩:=T.obj 0 _ st3 b hb
   rw[← hC]
   exact Nat.ne_of_lt (Heap.lt_size e)
  ·rcases(f3 b hb).2.2.2.1 with z | z
   ·exact I3.ok.noex b o e z
   ·exact absurd (Nat.lt_of_lt_of_le (Nat.lt_of_lt_of_le (Heap.lt_size e) I3.ok.bsz) z) (Nat.lt_irrefl _)
  ·rcases List.mem_cons.mp (I3.stkSub b z) with q | q
   ·exact(f3 b hb).2.1 q
   ·exact(f3 b hb).2.2.1 q
  ·-- a name that was taken over
   unfold ziw at e2
   by_cases hi:i<t
   ·rw[List.getElem?_append_left (by simpa using hi),List.getElem?_replicate] at e2
    simp[hi] at e2
   ·rw[List.getElem?_append_right (by simpa using hi),List.length_replicate,List.getElem?_map] at e2
    cases q:caps[i-t]? with
    |none=>rw[q] at e2;simp at e2
    |some j =>
     rw[q] at e2
     obtain⟨y,c1,c2,c3,c4⟩:=uF S.cap q
     have ei:t+0+(i-t)=i:=by omega
     rw[ei] at c2
     have exy:x=y:=Option.some.inj ((show N'[i]?=some x from e1).symm.trans c2)
     subst exy
     have e2':σ[j]?=some (some v):=by
      have e2:(σ[j]?).join=some v:=Option.some.inj e2
      cases r:σ[j]? with
      |none=>rw[r] at e2;cases e2
      |some z =>
       rw[r] at e2
       have e2:z=some v:=e2
       rw[e2]
     obtain⟨m,hn,hl⟩:=I3.loc
     have cf:=xH c3
     obtain⟨u,ru,lk⟩:=hl j x v c1 e2' (.inr (by
      rcases cf with z | z
      ·exact .inl z
      ·exact .inr z))
     refine⟨u,ru,.inr ⟨xH c4,?_⟩⟩
     rcases lk with⟨z,_⟩ | ⟨_,c,ec,zc⟩
     ·rcases cf with w | w<;>(rw[z] at w;cases w)
     ·have hfree:=xp (scope:=scope) (env:=X.env) (x:=x) hnc c4
      obtain⟨c',ec'⟩:=Option.isSome_iff_exists.mp (L.all _ hfree rfl)
      have:=L.sub _ _ ec'
      rw[show X.env.cells.lookup x=some c from ec] at this
      cases this
      obtain⟨o,ho,hd⟩:=zc
      exact⟨c,ec',o,k4 _ _ ho,hd⟩
  ·obtain⟨v,o,ho,hd⟩:=I3.cell x c (L.sub x c e)
   exact⟨v,o,k4 _ _ ho,hd⟩
  ·exact absurd (show p∈([]:List (Addr×Obj)) from hp) (by simp)
  ·unfold ziw
   rw[List.length_append,List.length_replicate,List.length_map,vF S.cap]
   omega
 obtain⟨W,⟨m0,w0⟩,turn⟩:=R ⟨cl,C,s3,H3,fp⟩
 -- back to the frame outside
 have back:∀ {τ:St}{H':Hp}{s':Shared},Inv (yW X scope N' cl C s3 H3 fp) [] τ H' s'→Inv X pins σ H' s':=fun {τ H' s'} J=>by
  refine I3.call' (ch:=fp) (J.os.trans ?_) J.base J.hok J.bare fun b hb=>⟨(f3 b hb).2.2.2.1,(f3 b hb).2.1,(f3 b hb).2.2.2.2.1,(f3 b hb).2.2.2.2.2⟩
  rfl
 have stat:∀ {H':Hp},(∀ b∈fp,H' b=none)→∀ b∈fp,FpOk (yW X scope N' cl C s3 H3 fp) [] H' b:=fun {H'} hn b hb=>by
  refine⟨hn b hb,(I4.ok.exf b hb).1,I4.ok.exfs b hb,.inl hb,(I4.ok.exf b hb).2,fun p hp=>?_⟩
  exact absurd (show p∈([]:List (Addr×Obj)) from hp) (by simp)
 have loop:codeAny (model X.prog X.w) X.A (.compLoop (.ListComp elt [⟨tg,iter,ifs,0⟩] scope pos) 0 (.ref it) (.ref D) (compEnvC scope cl C X.env))
   (fun r s'=>∃ (D':Addr) (H':Hp) (m:Str→Option Value),Value.ref D=.ref D'∧r=.ok .next∧Inv X pins σ H' s'∧s'.heap.Ns C m∧FpOk X pins H' C∧Q (.ref D') H') { s3 with heap:=h4,toks:=s3.toks+([]:List (Str×Value)).length }:=by
  refine Ze (fun n s'=>∃ i ys τ H',Inv (yW X scope N' cl C s3 H3 fp) [] τ H' s'∧tn i s'.heap∧(∀ b∈fp,H' b=none)∧W i n ys τ H') ?_ m0 ⟨0,[],_,H3,I4,T.keep 0 _ _ st3 fun b _ o e=>k4 b o e,fpn,w0⟩
  rintro n s5 ⟨i,ys,τ,H5,I5,st5,fr5,w5⟩
  rcases turn i n ys τ H5 w5 with⟨stop,q⟩ | ⟨go,N,hN,step⟩
  ·refine thn (T.done (yW X scope N' cl C s3 H3 fp) rfl rfl rfl hc i [] s5 τ H5 NoE I5 (stat fr5) st5 stop) fun r s6 ⟨hr,I6⟩=>?_
   subst hr
   obtain⟨m,hm,_⟩:=id I6.loc
   exact⟨D,H5,m,rfl,rfl,back I6,hm,fC I6.free,q⟩
  ·refine thn (T.item (yW X scope N' cl C s3 H3 fp) rfl rfl rfl hc i [] s5 τ H5 NoE I5 (stat fr5) st5 go) fun r s6 ⟨u,hr,h6⟩=>?_
   subst hr
   refine thn h6 fun _ s7 hq0=>?_
   obtain⟨x,H7,I7,r7,y7,st7,fr7⟩:=hq0
   have I7':=I7.pinned (stat fr7) (T.obj _ _ st7)
   have again:∀ {τ9:St}{H9:Hp}{s9:Shared}{ys9:List V}{m':Nat},Inv (yW X scope N' cl C s3 H3 fp) ([]++vn fp s7.heap) τ9 H9 s9→m'<n→W (i+1) m' ys9 τ9 H9 →
     ∃ m,m<n∧∃ i ys τ H',Inv (yW X scope N' cl C s3 H3 fp) [] τ H' s9∧tn i s9.heap∧(∀ b∈fp,H' b=none)∧W i m ys τ H':=fun {τ9 H9 s9 ys9 m'} I9 hm w9=>by
    refine⟨m',hm,i+1,ys9,τ9,H9,I9.unpinned,T.keep _ _ _ st7 fun b hb o e=>(I9.pin (b,o) (List.mem_append_right _ (List.mem_append_right _ (yO hb e)))).1,fun b hb=>?_,w9⟩
    obtain⟨o,e,_⟩:=T.obj _ _ st7 b hb
    exact(I9.pin (b,o) (List.mem_append_right _ (List.mem_append_right _ (yO hb e)))).2.1
   refine thn (hg ⟨cl,C,s3,H3,fp⟩ _ s7 τ H7 x u _ I7' r7 (step x H7 y7)) fun _ s8 hq0=>?_
   obtain⟨τ8,H8,I8,q8⟩:=hq0
   refine thn (ht ⟨cl,C,s3,H3,fp⟩ _ s8 τ8 H8 _ I8 q8) fun ok s9 hq0=>?_
   obtain⟨H9,I9,q9⟩:=hq0
   cases ok with
   |false =>
    obtain⟨m',hm,w9⟩:=hN _ _ _ (show N ys τ8 H9 from q9)
    exact again I9 hm w9
   |true =>
    refine thn (he ⟨cl,C,s3,H3,fp⟩ _ s9 τ8 H9 _ I9 q9) fun y s10 hq0=>?_
    obtain⟨z,H10,I10,r10,hl,hz,q10⟩:=hq0
    refine thn (zS _ s10 τ8 H10 (.ref D) [z] (.ref D) [y] (fun v H11=>v=.non∧H11=upd H10 D (.lst (ys++[z]))) I10 rfl (.cons r10 .nil) ⟨D,ys,z,rfl,rfl,hl,hz,rfl,rfl⟩) fun _ s11 hq0=>?_
    obtain⟨v,H11,I11,_,_,e11⟩:=hq0
    subst e11
    obtain⟨m',hm,w10⟩:=hN _ _ _ q10
    exact again I11 hm w10
 exact codeAny_compStart_list loop (T.self _ 0 _ _ _ (T.keep 0 _ _ st3 fun b _ o e=>k4 b o e) loop)
theorem VJ (hc:X.calm=true) (S:CompOk X scope N' t caps) (hi:PI X tg iter wi)
  (hg:∀ b,PG (cxB X scope N' b) tg (g b)) (ht:∀ b,PTs (cxB X scope N' b) ifs (tc b)) (he:∀ b,PE (cxB X scope N' b) elt (te b))
  (hs:∀ x,foldedSetIterable iter X.env x=pure x:=by intro _;rfl):PE X (.ListComp elt [⟨tg,iter,ifs,0⟩] scope pos) (XI wi g tc te t caps):=by
 intro pins s σ H Q I h
 obtain⟨cl,L⟩:=Xm (env:=X.env) (scope:=scope) fun y hy hf=>I.ok.has y.1 (xH ((S.at hy).2.2 hf))
 rw[eval_ListComp]
 refine wpAny_comprehension_free (use:=none) rfl hs L.eq S.kind (fun y hy=>(S.at hy).2.1) (thn (hi pins s σ H _ I h) fun x s1 h1=>thn h1 fun itv s2 h2=>?_)
 obtain⟨it,fp,tn,J,H2,rfl,I2,T,st2,f2,R⟩:=h2
 refine thn (vE hc S L hg ht he I2 T st2 f2 R) fun acc s3 h3=>thn h3 fun cenv s4 h4=>codeAny_mono h4 fun r s' hr=>?_
 obtain⟨D,H',m,rfl,rfl,I',hm,fC,q⟩:=hr
 obtain⟨c0,c1,c2,c3,c4,c5⟩:=fC
 exact⟨m,hm,fun h' sb=>⟨.ref D,H',I'.turned (t':=s'.toks) (fun b o hb e=>sb.extBut b o hb e) c0 c1 c3 c4 c5,rfl,q⟩⟩
theorem uU {i:Nat}{y:Str}{py spos:Pos}(hc:X.calm=true) (hN:X.N.Nodup) (hiy:X.N[i]?=some y) (hy:Loc X.env.scope y) (S:CompOk X scope N' t caps) (hi:PI X tg iter wi)
  (hg:∀ b,PG (cxB X scope N' b) tg (g b)) (ht:∀ b,PTs (cxB X scope N' b) ifs (tc b)) (he:∀ b,PE (cxB X scope N' b) elt (te b))
  (hsw:swapsWith (.ListComp elt [⟨tg,iter,ifs,0⟩] scope pos) (some (.Name y py)) spos.line X.env=pure true:=by rfl)
  (hs:∀ x,foldedSetIterable iter X.env x=pure x:=by intro _;rfl) (hf:X.fn y=true∨X.env.scope.names.lookup y=some .local:=by first | exact .inl rfl | exact .inr rfl | assumption) :
  PS X (.Assign [.Name y py] (.ListComp elt [⟨tg,iter,ifs,0⟩] scope pos) spos) (zaq (XI wi g tc te t caps) (ua i)):=by
 intro pins s σ H D' I h
 obtain⟨cl,L⟩:=Xm (env:=X.env) (scope:=scope) fun y hy hf=>I.ok.has y.1 (xH ((S.at hy).2.2 hf))
 rw[exec_Assign_Name_used _ _ _ _ hsw]
 refine wpAny_bind (wpAny_standAt (wpAny_bind ?_))
 show wpAny _ X.A (comprehension (.ListComp elt [⟨tg,iter,ifs,0⟩] scope pos) scope X.env _ (newList []) false (eval iter X.env) (some (assign (.Name y py) X.env)) >>= fun _=>pure ()) _ _ s
 refine wpAny_bind (thn (Q:=fun _ s'=>SP X pins D' .next s') ?_ fun _ s' hq=>wpAny_pure (wpAny_pure hq))
 refine wpAny_comprehension_free (use:=some (assign (.Name y py) X.env)) rfl hs L.eq S.kind (fun y hy=>(S.at hy).2.1) (thn (hi pins s σ H _ I h) fun x s1 h1=>thn h1 fun itv s2 h2=>?_)
 obtain⟨it,fp,tn,J,H2,rfl,I2,T,st2,f2,R⟩:=h2
 refine thn (vE hc S L hg ht he I2 T st2 f2 R) fun acc s3 h3=>thn h3 fun cenv s4 h4=>codeAny_mono h4 fun r s' hr=>?_
 obtain⟨D,H',m,rfl,rfl,I',hm,fC,q⟩:=hr
 obtain⟨c0,c1,c2,c3,c4,c5⟩:=fC
 show wpAny _ X.A (assign (.Name y py) X.env (.ref D)) _ _ _
 refine wpAny_assign_Name (va I' hN hiy hy (show RelV (.ref D) (.ref D) from rfl) (fun s'' I'' hq0=>?_) hf)
 obtain⟨a,sb,ha⟩:=hq0
 have hne:cenv.locals≠a:=by
  rcases ha with z | z
  ·rw[z];exact c1
  ·exact fun z'=>c4 y a z z'.symm
 refine⟨m,hm.sameBut sb hne,fun h' sb'=>?_⟩
 exact⟨_,H',I''.turned (t':=s''.toks) (fun b o hb e=>sb'.extBut b o hb e) c0 c1 c3 c4 c5,q⟩
end
end L2

namespace L2
open PySem PySem.Spec PyProof.Rows
def zoa (i j:Int):Prop:=0<j∧j.natAbs.log2<9000
section
variable {X:Cx}
theorem xF:OpR X (binaryOp .FloorDiv) (rI zoa fun i j=>.int (i/j)):=opI fun i j _ _ _ _ _ hc q=>by
 have e:i.fdiv j=i/j:=Int.fdiv_eq_ediv_of_nonneg i (Int.le_of_lt hc.1)
 exact floordiv_int (Ne.symm (Int.ne_of_lt hc.1)) (by rw[e];exact q) (.inl (PyProof.noPylong_of_log2 hc.2))
noncomputable def zn6:V→Option Value
 |.ty n=>some (.type n)
 |.ref a=>some (.ref a)
 |_=>none
theorem WF {c:V}{cv u:Value}(h:zn6 c=some cv) (r:RelV c u):u=cv:=by
 cases c<;>simp[zn6] at h
 ·exact(show u=Value.ref _ from r).trans h
 ·exact(show u=Value.type _ from r).trans h
def zw5 (K:PySem.W.Frag):List V→Hp→VK→Prop:=fun xs H Q=>∃ x c t cv b,xs=[x,c]∧zn6 c=some cv∧TyOf K H x t∧PySem.W.kitOne K t cv=some b∧Q (.bl b) H
theorem zT:yJ X (.builtin "isinstance") (zw5 X.K):=by
 intro pins s σ H xs us Q I r h
 obtain⟨x,c,t,cv,b,rfl,hc,ty,e,q⟩:=h
 obtain⟨u,v,rfl,r1,r2⟩:=r.two
 obtain rfl:=WF hc r2
 exact Y5 I r1 ty e fun tk=>⟨.bl b,H,I.tok tk,rfl,q⟩
inductive EqD (K:PySem.W.Frag) (H:Hp):V→V→Bool→Nat→Prop where
 |flat {x y:V}{n:Nat}(fx:yZ x=true) (fy:yZ y=true):EqD K H x y (eqV x y) n
 |same {a:Addr}{n:Nat}:EqD K H (.ref a) (.ref a) true n
 |lst {a b:Addr}{xs ys:List V}{e:Nat→Bool}{n:Nat}(hne:a≠b) (ha:SqL K H a xs) (hb:SqL K H b ys) (hl:xs.length=ys.length) (h:∀ (j:Nat) x y,xs[j]?=some x→ys[j]?=some y→EqD K H x y (e j) n) :
   EqD K H (.ref a) (.ref b) ((List.range xs.length).all e) (n+1)
 |tup {a b:Addr}{xs ys:List V}{e:Nat→Bool}{n:Nat}(hne:a≠b) (ha:SqT K H a xs) (hb:SqT K H b ys) (hl:xs.length=ys.length) (h:∀ (j:Nat) x y,xs[j]?=some x→ys[j]?=some y→EqD K H x y (e j) n) :
   EqD K H (.ref a) (.ref b) ((List.range xs.length).all e) (n+1)
theorem yH (A:Around):A.in1.units=A.units+1:=rfl
theorem EqD.at {pins:List (Addr×Obj)}{σ:St}{H:Hp}{s:Shared}{x y:V}{b:Bool}{n:Nat}(I:Inv X pins σ H s) (h:EqD X.K H x y b n) :
  ∀ (A:Around) (u v:Value),A.units+n<cLine→RelV x u→RelV y v→SeqAt.EqAt A s u v b:=by
 induction h with
 |flat fx fy=>intro A u v _ rx ry;exact eqAt_V rx ry fx fy
 |same=>intro A u v _ rx ry;cases rx;cases ry;exact SeqAt.EqAt.same _
 | @lst a b xs ys e n hne ha hb hl h ih =>
  intro A u v hu rx ry
  cases rx;cases ry
  obtain⟨i1,r1,p1,_⟩:=I.list ha
  obtain⟨i2,r2,p2,_⟩:=I.list hb
  have l1:=r1.length
  have l2:=r2.length
  refine SeqAt.EqAt.of_refs hne ?_
  have q:=SeqAt.RcAt.lists (A:=A) (s:=s) (e:=e) p1.isList p2.isList (by simp;omega) (by omega) (fun j h1 h2=>?_)
  ·rw[List.size_toArray,← l1] at q
   exact q
  ·have g1:j<xs.length:=by rw[l1];simpa using h1
   have g2:j<ys.length:=by rw[l2];simpa using h2
   obtain⟨u1,e1,q1⟩:=r1.get (i:=j) (x:=xs[j]) (by simp[g1])
   obtain⟨u2,e2,q2⟩:=r2.get (i:=j) (x:=ys[j]) (by simp[g2])
   have f1:i1.toArray[j]=u1:=by
    have:=List.getElem?_eq_some_iff.mp e1
    obtain⟨_,z⟩:=this
    simpa using z
   have f2:i2.toArray[j]=u2:=by
    have:=List.getElem?_eq_some_iff.mp e2
    obtain⟨_,z⟩:=this
    simpa using z
   rw[f1,f2]
   exact ih j _ _ (by simp[g1]) (by simp[g2]) A.in1 u1 u2 (by rw[yH];omega) q1 q2
 | @tup a b xs ys e n hne ha hb hl h ih =>
  intro A u v hu rx ry
  cases rx;cases ry
  obtain⟨i1,r1,p1,_⟩:=I.tuple ha
  obtain⟨i2,r2,p2,_⟩:=I.tuple hb
  have l1:=r1.length
  have l2:=r2.length
  refine SeqAt.EqAt.of_refs hne ?_
  have q:=SeqAt.RcAt.tuples (A:=A) (s:=s) (e:=e) (show s.heap.IsTuple a i1.toArray from p1) (show s.heap.IsTuple b i2.toArray from p2) (by omega) (fun j h1 h2=>?_)
  ·have z:i1.toArray.size=i2.toArray.size:=by simp;omega
   rw[← z,Nat.min_self,beq_self_eq_true,Bool.and_true,List.size_toArray,← l1] at q
   exact q
  ·have g1:j<xs.length:=by rw[l1];simpa using h1
   have g2:j<ys.length:=by rw[l2];simpa using h2
   obtain⟨u1,e1,q1⟩:=r1.get (i:=j) (x:=xs[j]) (by simp[g1])
   obtain⟨u2,e2,q2⟩:=r2.get (i:=j) (x:=ys[j]) (by simp[g2])
   have f1:i1.toArray[j]=u1:=by
    have:=List.getElem?_eq_some_iff.mp e1
    obtain⟨_,z⟩:=this
    simpa using z
   have f2:i2.toArray[j]=u2:=by
    have:=List.getElem?_eq_some_iff.mp e2
    obtain⟨_,z⟩:=this
    simpa using z
   rw[f1,f2]
   exact ih j _ _ (by simp[g1]) (by simp[g2]) A.in1 u1 u2 (by rw[yH];omega) q1 q2
def zw6 (K:PySem.W.Frag) (A:Around) (neg:Bool):R2:=fun x y H Q=>∃ (a b:Addr) (xs ys:List V) (e:Nat→Bool) (n:Nat),x=.ref a∧y=.ref b∧((SqL K H a xs∧SqL K H b ys)∨(SqT K H a xs∧SqT K H b ys))∧xs.length=ys.length ∧
 A.units+n+2<cLine∧(∀ (j:Nat) x y,xs[j]?=some x→ys[j]?=some y→EqD K H x y (e j) n)∧Q (.bl (if neg then !(List.range xs.length).all e else(List.range xs.length).all e)) H
theorem uA {pins:List (Addr×Obj)}{σ:St}{H:Hp}{s:Shared}{A:Around}{xs ys:List V}{i1 i2:List Value}{e:Nat→Bool}{n:Nat}(I:Inv X pins σ H s) (r1:Vals xs i1) (r2:Vals ys i2) (hu:A.units+n+2<cLine)
  (h:∀ (j:Nat) x y,xs[j]?=some x→ys[j]?=some y→EqD X.K H x y (e j) n):∀ (j:Nat) (h1:j<i1.toArray.size) (h2:j<i2.toArray.size),SeqAt.EqAt A.in1 s i1.toArray[j] i2.toArray[j] (e j):=fun j h1 h2=>by
 have g1:j<xs.length:=by rw[r1.length];simpa using h1
 have g2:j<ys.length:=by rw[r2.length];simpa using h2
 obtain⟨u1,e1,q1⟩:=r1.get (i:=j) (x:=xs[j]) (by simp[g1])
 obtain⟨u2,e2,q2⟩:=r2.get (i:=j) (x:=ys[j]) (by simp[g2])
 have f1:i1.toArray[j]=u1:=by
  obtain⟨_,z⟩:=List.getElem?_eq_some_iff.mp e1
  simpa using z
 have f2:i2.toArray[j]=u2:=by
  obtain⟨_,z⟩:=List.getElem?_eq_some_iff.mp e2
  simpa using z
 rw[f1,f2]
 exact(h j _ _ (by simp[g1]) (by simp[g2])).at I A.in1 u1 u2 (by rw[yH];omega) q1 q2
theorem W1:OpR X (compareOp .Eq) (zw6 X.K X.A false):=by
 intro pins s σ H x y v u Q I rx ry h
 obtain⟨a,b,xs,ys,e,n,rfl,rfl,hq,hl,hu,hi,q⟩:=h
 cases rx;cases ry
 rcases hq with⟨h1,h2⟩ | ⟨h1,h2⟩
 ·obtain⟨i1,r1,p1,_⟩:=I.list h1
  obtain⟨i2,r2,p2,_⟩:=I.list h2
  refine SeqAt.eq_listAt p1.isList p2.isList (by simp;rw[← r1.length,← r2.length,hl]) (by omega) (uA I r1 r2 hu hi) ⟨.bl _,H,I,rfl,?_⟩
  rw[List.size_toArray,← r1.length]
  exact q
 ·obtain⟨i1,r1,p1,_⟩:=I.tuple h1
  obtain⟨i2,r2,p2,_⟩:=I.tuple h2
  have z:i1.toArray.size=i2.toArray.size:=by simp;rw[← r1.length,← r2.length,hl]
  refine SeqAt.eq_tupleAt (show s.heap.IsTuple a i1.toArray from p1) (show s.heap.IsTuple b i2.toArray from p2) (by omega) (uA I r1 r2 hu hi) ⟨.bl _,H,I,rfl,?_⟩
  rw[← z,Nat.min_self,beq_self_eq_true,Bool.and_true,List.size_toArray,← r1.length]
  exact q
theorem Zd:yJ X (.type "dict") (fun xs H Q=>∃ a kvs,xs=[V.ref a]∧H a=some (.dK kvs)∧∀ p,H p=none→Q (.ref p) (upd H p (.dK kvs))):=by
 intro pins s σ H xs us Q I r h
 obtain⟨a,kvs,rfl,ha,q⟩:=h
 obtain⟨u,rfl,ru⟩:=r.one
 cases ru
 exact WC I (.inl ha) fun p s' hp I'=>⟨.ref p,_,I',rfl,q p hp⟩
end
structure Callee (P:Program) (w:World) (K:PySem.W.Frag) (mg:Str→Option Value) (base:Heap) (x:Str) (f:Addr) (fd:FuncData) (ps:List Str) (k:Nat) (sp:Sp):Prop where
 ok:FnOk P w K mg base CX0 k f fd ps sp
 g:mg x=some (.ref f)
 kp:PySem.W.keepIn K (.ref f)=true
 b:Binds K fd ps []
structure Maker (P:Program) (w:World) (K:PySem.W.Frag) (mg:Str→Option Value) (base:Heap) (x:Str) (C f:Addr) (fd:FuncData) (ps:List Str) (k:Nat) (sp:Sp):Prop where
 ok:FnOk P w K mg base CX0 k f fd ps sp
 g:mg x=some (.ref C)
 mm:Mk K C f
 b:Binds K fd ps []
section
variable {X:Cx}{k:Nat}{f C:Addr}{fd:FuncData}{ps:List Str}{sp:Sp}{x m:Str}{p pos apos:Pos}{e o:Expr}{es:List Expr}{ta:TE}{t:TA}
theorem WY (c:Callee X.prog X.w X.K X.mg X.base x f fd ps k sp) (hr:Room k X.A) (ha:PA X (e::es) t) (hg:Gl X x:=by rfl) (hdb:(x == ("__debug__" : Str))=false:=by decide)
  (he:starEach (e::es) X.env=(false,eval e X.env)::starEach es X.env:=by rfl) (hpl:(backTo pos (starEach es X.env)).any (·.1)=false:=by rfl):PE X (.Call (.Name x p) (e::es) [] pos) (Zw sp [] E0 t) :=
 VL c.ok hr hg c.g c.kp c.b .nil Yy ha hdb he hpl
theorem zxa (c:Maker X.prog X.w X.K X.mg X.base x C f fd ps k sp) (hr:Room (k+1) X.A) (ha:PA X (e::es) t) (hg:Gl X x:=by rfl) (hdb:(x == ("__debug__" : Str))=false:=by decide)
  (he:starEach (e::es) X.env=(false,eval e X.env)::starEach es X.env:=by rfl) (hpl:(backTo pos (starEach es X.env)).any (·.1)=false:=by rfl):PE X (.Call (.Name x p) (e::es) [] pos) (Vj C sp [] E0 t) :=
 VG c.mm c.ok hr hg c.g c.b .nil Yy ha hdb he hpl
def ul (X:Cx) (m:Str) (ta:TE) (t:TA):TE:=fun σ H Q=>ta σ H fun x H1=>∃ (a C dx:Addr) (fs:List (Str×V)) (f:Addr) (fd:FuncData) (ps:List Str) (k:Nat) (sp:Sp),x=.ref a∧H1 a=some (.ins C dx fs)∧fs.lookup m=none∧Cls X.K C∧Meth X.K C m f ∧
 FnOk X.prog X.w X.K X.mg X.base CX0 k f fd ps sp∧Room k X.A∧Binds X.K fd ps []∧t σ H1 fun vs H2=>sp (x::(vs++[])) H2 Q E0
theorem XW {pl:Sem Bool}(he:PE X o ta) (ha:PA X (e::es) t)
  (hst:starEach (e::es) X.env=(false,eval e X.env)::starEach es X.env:=by rfl) (hpl:(backTo pos (starEach es X.env)).any (·.1)=false:=by rfl)
  (ht:eval (.Call (.Attribute o m apos) (e::es) [] pos) X.env=(do
   let ov ← eval o X.env
   standAt apos.atName
   let (f,first) ← holding [ov] (getMethod ov m pl)
   callWith pos f first (backTo pos (starEach (e::es) X.env)) (backToKw pos (keywordEach [] X.env))):=by rfl) :
  PE X (.Call (.Attribute o m apos) (e::es) [] pos) (ul X m ta t):=by
 intro pins s σ H Q I h
 refine PySem.W.methodCall_KW (pl:=pl) (thn (he pins s σ H _ I h) fun u s1 hq0=>?_) ht
 obtain⟨x,H1,I1,rx,a,C,dx,fs,f,fd,ps,k,sp,ex,ea,l,cl,hm,F,hr,hb,q⟩:=hq0
 subst ex
 obtain rfl:u=Value.ref a:=rx
 refine yP I1 ea cl hm l ?_
 refine PySem.W.callWith_K (first:=[.ref a]) (h₀:=X.base) I.ok.mod.kin hm.kp (thn (ha pos pins s1 σ H1 _ I1 q) fun us s2 ⟨vs,H2,I2,r,q2⟩=>⟨I2.kIn,?_⟩) hst hpl
 exact run_fn (us:=.ref a::us) (vs:=.ref a::vs) F hr hb .nil Yy I2 (.cons rfl r) q2
theorem Yx {pl:Sem Bool}(he:PE X o ta)
  (ht:eval (.Call (.Attribute o m apos) [] [] pos) X.env=(do
   let ov ← eval o X.env
   standAt apos.atName
   let (f,first) ← holding [ov] (getMethod ov m pl)
   callWith pos f first (backTo pos (starEach [] X.env)) (backToKw pos (keywordEach [] X.env))):=by rfl) :
  PE X (.Call (.Attribute o m apos) [] [] pos) (ul X m ta zap):=by
 intro pins s σ H Q I h
 refine PySem.W.methodCall_KW (pl:=pl) (thn (he pins s σ H _ I h) fun u s1 hq0=>?_) ht
 obtain⟨x,H1,I1,rx,a,C,dx,fs,f,fd,ps,k,sp,ex,ea,l,cl,hm,F,hr,hb,q⟩:=hq0
 subst ex
 obtain rfl:u=Value.ref a:=rx
 refine yP I1 ea cl hm l ?_
 exact PySem.W.callWith_K0 (first:=[.ref a]) I1.kIn hm.kp (run_fn (us:=[.ref a]) (vs:=[.ref a]) F hr hb .nil Yy I1 (.cons rfl .nil) q)
end
end L2

namespace PySem
namespace Zt
end Zt
end PySem

namespace PySem
namespace Zt
end Zt
end PySem

namespace L2
open PySem PySem.Spec PyProof.Rows PySem.Zt
theorem zgi {X:Cx}{x:Str}{C:Addr}{pos:Pos}(hm:X.mg x=some (.ref C)) (hg:Gl X x:=by rfl) (hd:(x == ("__debug__" : Str))=false:=by decide):PE X (.Name x pos) (tC (.ref C)):=wF hg hm rfl hd
theorem wn {X:Cx}{x:Str}{n:String}{pos:Pos}(hm:X.mg x=none) (hv:bootBuiltins x=some (.type n)) (hg:Gl X x:=by rfl) (hn:x ≠ "__name__" := by decide) (hd:(x == ("__debug__" : Str))=false:=by decide):PE X (.Name x pos) (tC (.ty n)):=VN hg hm hv rfl hn hd
theorem zY:bootBuiltins "len" = some (.builtin "len"):=by decide +kernel
theorem Vf:bootBuiltins "int" = some (.type "int"):=by decide +kernel
theorem bt_min:bootBuiltins "min" = some (.builtin "min"):=by decide +kernel
theorem bt_max:bootBuiltins "max" = some (.builtin "max"):=by decide +kernel
theorem zz:bootBuiltins "isinstance" = some (.builtin "isinstance"):=by decide +kernel
theorem wV:bootBuiltins "list" = some (.type "list"):=by decide +kernel
theorem ud:bootBuiltins "dict" = some (.type "dict"):=by decide +kernel
theorem zix:bootBuiltins "abs" = some (.builtin "abs"):=by decide +kernel
theorem vG:bootBuiltins "sorted" = some (.builtin "sorted"):=by decide +kernel
theorem Xo:bootBuiltins "str" = some (.type "str"):=by decide +kernel
theorem Ve:bootBuiltins "sum" = some (.builtin "sum"):=by decide +kernel
theorem Xp:bootBuiltins "bool" = some (.type "bool"):=by decide +kernel
theorem uG:bootBuiltins "tuple" = some (.type "tuple"):=by decide +kernel
end L2

namespace L2
open PySem PySem.Spec PyProof.Rows
theorem xY {ns:List Int}{i:Nat}(h:i<ns.length):ns.getD i 0=ns[i]:=by simp[List.getD,h]
theorem xM {ns:List Int}{its:List Value}(r:Vals (ns.map V.int) its){i:Nat}{v:Value}(e:its.toArray[i]?=some v):∃ t,v=.int (ns.getD i 0) t:=by
 have e':its[i]?=some v:=by simpa using e
 have hi:i<its.length:=(List.getElem?_eq_some_iff.mp e').1
 have hl:=r.length
 rw[List.length_map] at hl
 have hb:i<ns.length:=by omega
 obtain⟨u,e2,ru⟩:=r.get (i:=i) (x:=V.int ns[i]) (by simp[hb])
 rw[e'] at e2
 cases e2
 obtain⟨t,rfl⟩:=ru
 exact⟨t,by rw[xY hb]⟩
theorem Xs (val:Nat→Int):∀ k,argBest (fun i j=>decide (val i>val j)) k≤k∧∀ j,j≤k→val j≤val (argBest (fun i j=>decide (val i>val j)) k)
 |0=>⟨Nat.le_refl _,fun j hj=>by rw[Nat.le_zero.mp hj];exact Int.le_refl _⟩
 |k+1=>by
  obtain⟨h1,h2⟩:=Xs val k
  show(if decide (val (k+1)>val (argBest _ k))=true then k+1 else argBest _ k)≤k+1∧∀ j,j≤k+1→val j≤val (if decide (val (k+1)>val (argBest _ k))=true then k+1 else argBest _ k)
  by_cases q:val (k+1)>val (argBest (fun i j=>decide (val i>val j)) k)
  ·rw[if_pos (decide_eq_true q)]
   refine⟨Nat.le_refl _,fun j hj=>?_⟩
   by_cases e:j=k+1
   ·rw[e];exact Int.le_refl _
   ·have:=h2 j (by omega)
    omega
  ·rw[if_neg (fun z=>q (of_decide_eq_true z))]
   refine⟨Nat.le_succ_of_le h1,fun j hj=>?_⟩
   by_cases e:j=k+1
   ·rw[e];omega
   ·exact h2 j (by omega)
theorem Xr (val:Nat→Int):∀ k,argBest (fun i j=>decide (val i<val j)) k≤k∧∀ j,j≤k→val (argBest (fun i j=>decide (val i<val j)) k)≤val j
 |0=>⟨Nat.le_refl _,fun j hj=>by rw[Nat.le_zero.mp hj];exact Int.le_refl _⟩
 |k+1=>by
  obtain⟨h1,h2⟩:=Xr val k
  show(if decide (val (k+1)<val (argBest _ k))=true then k+1 else argBest _ k)≤k+1∧∀ j,j≤k+1→val (if decide (val (k+1)<val (argBest _ k))=true then k+1 else argBest _ k)≤val j
  by_cases q:val (k+1)<val (argBest (fun i j=>decide (val i<val j)) k)
  ·rw[if_pos (decide_eq_true q)]
   refine⟨Nat.le_refl _,fun j hj=>?_⟩
   by_cases e:j=k+1
   ·rw[e];exact Int.le_refl _
   ·have:=h2 j (by omega)
    omega
  ·rw[if_neg (fun z=>q (of_decide_eq_true z))]
   refine⟨Nat.le_succ_of_le h1,fun j hj=>?_⟩
   by_cases e:j=k+1
   ·rw[e];omega
   ·exact h2 j (by omega)
abbrev bst (u:Value) (c:Nat):Obj:={ cls:=.type "list",data:=.seq #[u,u] c }
section
variable {P:Program}{w:World}{A:Around}{R:Result→Shared→Prop}{I S:Addr}{fp wr:List Addr}{n:Nat}{Is:Nat→Value→Prop}{St:Nat→Heap→Prop}{kw:List (Str×Value)}
theorem zaf (W:Walks P w A.in1 I fp wr n Is St) (bt:Nat→Nat→Bool) (cm:CmpOf P w A.in1 .Gt Is bt) (nf:S∉fp):∀ (r j:Nat) (t:Shared) (u:Value) (c:Nat),n=j+1+r→St (j+1) t.heap→Is (argBest bt j) u→t.heap.get? S=some (bst u c) →
  (∀ v h' tk,Is (argBest bt (n-1)) v→(∀ b o,b∉wr→b≠S→t.heap.get? b=some o→h'.get? b=some o)→R (.ok (.ret v)) { t with heap:=h',toks:=tk })→codeAny (model P w) A (.builtin "max.loop" ⟨[.ref I,.none,.ref S],kw⟩) R t:=by
 have nw:S∉wr:=fun z=>nf (W.sub _ z)
 have nm:(toString "max" ++ toString ".loop" : String) = "max.loop" := by decide
 intro r
 induction r with
 |zero =>
  intro j t u c hn st iu at_ fin
  subst hn
  refine codeAny_builtin F.entry_max_loop (by
   rw[Around.under_plainId F.plain_max_loop _]
   show wpAny _ A.in1 (seqItems? (.ref S) >>= _) _ _ t
   refine wpAny_bind (wpAny_seqItems at_ rfl (by
    show wpAny _ A.in1 (tryCatch (pyNext (.ref I)) _ >>= _) _ _ t
    refine wpAny_bind (wpAny_tryCatch (W.done t _ _ st fun h1 tk kk=>?_))
    show wpAny _ A.in1 (updateSeq S (fun _=>#[]) >>= _) _ _ _
    refine wpAny_bind (wpAny_updateSeq (kk S _ nw at_) rfl (wpAny_bind (wpAny_letGo (wpAny_pure ?_))))
    exact fin u _ tk iu fun b o n1 n2 e=>(Heap.get?_update_other _ _ n2.symm).trans (kk b o n1 e))))
 |succ r ih =>
  intro j t u c hn st iu at_ fin
  refine codeAny_builtin F.entry_max_loop (by
   rw[Around.under_plainId F.plain_max_loop _]
   show wpAny _ A.in1 (seqItems? (.ref S) >>= _) _ _ t
   refine wpAny_bind (wpAny_seqItems at_ rfl (by
    show wpAny _ A.in1 (tryCatch (pyNext (.ref I)) _ >>= _) _ _ t
    refine wpAny_bind (wpAny_tryCatch (W.item (j+1) t _ _ (by omega) st fun v h1 tk iv st1 kk=>?_))
    have at1:=kk S _ nw at_
    show wpAny _ A.in1 (tryCatch (holding [v,v] (richCompare .Gt v u >>= _)) _ >>= _) _ _ _
    refine wpAny_bind (wpAny_tryCatch (wpAny_holding (wpAny_bind (cm (j+1) (argBest bt j) v u _ _ _ iv iu (wpAny_bind (wpAny_holding (wpAny_truthy_bool (wpAny_bind (wpAny_letGo (wpAny_pure ?_))))))))))
    by_cases q:bt (j+1) (argBest bt j)=true
    ·have ab:argBest bt (j+1)=j+1:=by show(if bt (j+1) (argBest bt j)=true then j+1 else argBest bt j)=_;rw[if_pos q]
     rw[if_pos q]
     refine wpAny_bind (wpAny_updateSeq at1 rfl (wpAny_bind (wpAny_letGo ?_)))
     rw[nm]
     refine wpAny_pure ⟨plainId_quiet F.plain_max_loop _,ih (j+1) _ v _ (by omega) (W.frame _ _ _ st1 fun b hb o e=>(Heap.get?_update_other _ _ fun z:S=b=>nf (z ▸ hb)).trans e) (by rw[ab];exact iv) (Heap.get?_update_self _ at1 rfl) fun v2 h2 tk2 iv2 kk2=>?_⟩
     exact fin v2 h2 tk2 iv2 fun b o n1 n2 e=>kk2 b o n1 n2 ((Heap.get?_update_other _ _ n2.symm).trans (kk b o n1 e))
    ·have ab:argBest bt (j+1)=argBest bt j:=by show(if bt (j+1) (argBest bt j)=true then j+1 else argBest bt j)=_;rw[if_neg q]
     rw[if_neg q]
     refine wpAny_bind (wpAny_letGo ?_)
     rw[nm]
     exact wpAny_pure ⟨plainId_quiet F.plain_max_loop _,ih (j+1) _ u c (by omega) st1 (by rw[ab];exact iu) at1 fun v2 h2 tk2 iv2 kk2=>fin v2 h2 tk2 iv2 fun b o n1 n2 e=>kk2 b o n1 n2 (kk b o n1 e)⟩)))
theorem Wn {d:Value}{x:Str}(W:Walks P w A.in1 I fp wr n Is St) (bt:Nat→Nat→Bool) (cm:CmpOf P w A.in1 .Gt Is bt) (nf:S∉fp){t:Shared}{c:Nat}(st:St 0 t.heap)
  (at_:t.heap.get? S=some { cls:=.type "list",data:=.seq #[] c }) (fin:∀ v h' tk,((n=0∧v=d)∨(0<n∧Is (argBest bt (n-1)) v))→(∀ b o,b∉wr→b≠S→t.heap.get? b=some o→h'.get? b=some o)→R (.ok (.ret v)) { t with heap:=h',toks:=tk }) :
  codeAny (model P w) A (.builtin "max.loop" ⟨[.ref I,.none,.ref S],[(x,d)]⟩) R t:=by
 have nw:S∉wr:=fun z=>nf (W.sub _ z)
 have nm:(toString "max" ++ toString ".loop" : String) = "max.loop" := by decide
 refine codeAny_builtin F.entry_max_loop (by
  rw[Around.under_plainId F.plain_max_loop _]
  show wpAny _ A.in1 (seqItems? (.ref S) >>= _) _ _ t
  refine wpAny_bind (wpAny_seqItems at_ rfl (by
   show wpAny _ A.in1 (tryCatch (pyNext (.ref I)) _ >>= _) _ _ t
   by_cases hn:n=0
   ·subst hn
    refine wpAny_bind (wpAny_tryCatch (W.done t _ _ st fun h1 tk kk=>?_))
    show wpAny _ A.in1 (rule _ >>= _) _ _ _
    exact wpAny_bind (wpAny_rule (wpAny_pure (fin d h1 tk (.inl ⟨rfl,rfl⟩) fun b o n1 _ e=>kk b o n1 e)))
   ·refine wpAny_bind (wpAny_tryCatch (W.item 0 t _ _ (by omega) st fun v h1 tk iv st1 kk=>?_))
    have at1:=kk S _ nw at_
    show wpAny _ A.in1 (updateSeq S (fun _=>#[v,v]) >>= _) _ _ _
    refine wpAny_bind (wpAny_updateSeq at1 rfl ?_)
    rw[nm]
    refine wpAny_pure ⟨plainId_quiet F.plain_max_loop _,zaf W bt cm nf (n-1) 0 _ v _ (by omega) (W.frame _ _ _ st1 fun b hb o e=>(Heap.get?_update_other _ _ fun z:S=b=>nf (z ▸ hb)).trans e) iv (Heap.get?_update_self _ at1 rfl) fun v2 h2 tk2 iv2 kk2=>?_⟩
    exact fin v2 h2 tk2 (.inr ⟨by omega,iv2⟩) fun b o n1 n2 e=>kk2 b o n1 n2 ((Heap.get?_update_other _ _ n2.symm).trans (kk b o n1 e)))))
theorem Xw (a v:Value):argsOk "max" ⟨[a],[(Str.ofString "default",v)]⟩:=by unfold argsOk;kernel_rfl
theorem v7 {l:Addr}{its:List Value}{ns:List Int}{d:Value}{Q:Value→Shared→Prop}{E:Value→Shared→Prop}{s:Shared}(hh:A.handled=none) (hl:s.heap.IsList l its.toArray) (hr:Vals (ns.map V.int) its)
  (h:∀ v h' tk,((ns=[]∧v=d)∨∃ m t,v=.int m t∧m∈ns∧∀ y∈ns,y≤m)→(∀ b o,s.heap.get? b=some o→h'.get? b=some o)→Q v { s with heap:=h',toks:=tk }) :
  wpAny (model P w) A (call (.builtin "max") [.ref l] [(Str.ofString "default",d)]) Q E s:=by
 have nm:(toString "max" ++ toString ".loop" : String) = "max.loop" := by decide
 have lt:l<s.heap.objs.size:=by
  obtain⟨_,e,_⟩:=hl
  exact Heap.lt_size e
 have len:its.toArray.size=ns.length:=by
  have:=hr.length
  rw[List.length_map] at this
  simp[this]
 refine PyProof.Rows.kmk_tree F.kind_max F.plain_max F.entry_max (Xw _ _) (by
  show wpAny _ A.in1 (Builtin.Builtins.bindParams "max" ["key", "default"] 0 ⟨[],[(Str.ofString "default",d)]⟩ >>= _) _ _ s
  refine wpAny_bind (wpAny_of_eq (show Builtin.Builtins.bindParams "max" ["key", "default"] 0 ⟨[],[(Str.ofString "default",d)]⟩=pure [none,some d] from rfl) (wpAny_bind (wpAny_pure (wpAny_bind (wpAny_pyIter_list hl (wpAny_bind (wpAny_newObj_type ?_)))))))
  rw[nm]
  have W:=Walks.list (prog:=P) (w:=w) (A:=A.in1) hh s.heap.objs.size l (Nat.ne_of_lt lt) its.toArray
  have st:((s.heap.push { cls:=.type "list_iterator",data:=.fields #[.ref l,.int 0 0] }).IsListIter s.heap.objs.size l 0∧(s.heap.push { cls:=.type "list_iterator",data:=.fields #[.ref l,.int 0 0] }).IsList l its.toArray):=⟨⟨_,Heap.get?_push_size _ rfl,rfl,rfl⟩,hl.push _⟩
  have cm:=CmpOf.ints_gt (prog:=P) (w:=w) (A:=A.in1) (fun i=>ns.getD i 0) (fun i v e=>xM hr e)
  have nf:(s.heap.push { cls:=.type "list_iterator",data:=.fields #[.ref l,.int 0 0] }).objs.size∉[s.heap.objs.size,l]:=by
   intro z
   rw[Heap.size_push] at z
   rcases List.mem_cons.mp z with e | e
   ·exact Nat.succ_ne_self _ e
   ·exact Nat.lt_irrefl _ (Nat.lt_trans (Nat.lt_succ_self _) ((List.mem_singleton.mp e).symm ▸ lt))
  refine wpAny_pure ⟨plainId_quiet F.plain_max_loop _,Wn (c:=0) W _ cm nf (W.frame _ _ _ st fun b _ o e=>Heap.get?_push_of_some _ e) (Heap.get?_push_size _ rfl) fun v h' tk hv kk=>?_⟩
  refine h v h' tk ?_ fun b o e=>kk b o (fun z=>?_) (fun z=>?_) (Heap.get?_push_of_some _ (Heap.get?_push_of_some _ e))
  ·rcases hv with⟨z,e⟩ | ⟨z,e⟩
   ·left
    exact⟨List.eq_nil_of_length_eq_zero (by omega),e⟩
   ·right
    obtain⟨t,et⟩:=xM hr e
    have hb:=Xs (fun i=>ns.getD i 0) (its.toArray.size-1)
    refine⟨_,t,et,?_,fun y hy=>?_⟩
    ·have hi:=hb.1
     rw[xY (by omega)]
     exact List.getElem_mem _
    ·obtain⟨i,hi,rfl⟩:=List.mem_iff_getElem.mp hy
     have:=hb.2 i (by omega)
     rw[show(ns.getD i 0)=ns[i] from xY hi] at this
     exact this
  ·rw[List.mem_singleton.mp z] at e
   exact Nat.lt_irrefl _ (Heap.lt_size e)
  ·have z2:b=s.heap.objs.size+1:=z.trans (Heap.size_push _ _)
   exact Nat.lt_irrefl _ (Nat.lt_trans (Nat.lt_succ_self _) (z2 ▸ Heap.lt_size e)))
def zaL (K:PySem.W.Frag) (ta:TA) (td:TE):TE:=fun σ H Q=>ta σ H fun vs H1=>td σ H1 fun dv H2=>∃ a ns i,vs=[V.ref a]∧dv=.int i∧SqL K H2 a (ns.map V.int)∧∀ m:Int,((ns=[]∧m=i)∨(m∈ns∧∀ y∈ns,y≤m))→Q (.int m) H2
theorem VF {X:Cx}{e dv:Expr}{ta:TA}{td:TE}{p kp pos:Pos}(hc:X.calm=true) (hg:Gl X "max") (hm:X.mg "max" = none) (ha:PA X [e] ta) (hd:PE X dv td) (hs:starEach [e] X.env=[(false,eval e X.env)]:=by rfl) :
  PE X (.Call (.Name "max" p) [e] [⟨some "default",dv,kp⟩] pos) (zaL X.K ta td):=by
 intro pins s σ H Q I h
 refine wpAny_Call_Name_kw (ld_blt I hg hm bt_max ?_)
 refine PyProof.Rows.callWith_kw (thn (ha pos pins s σ H _ I h) fun us s1 ⟨vs,H1,I1,r1,q1⟩=>PyProof.Rows.kws_cons (thn (hd pins s1 σ H1 _ I1 q1) fun u s2 ⟨y,H2,I2,r2,q2⟩=>PyProof.Rows.kws_nil ?_)) (by rw[hs];rfl) (by rw[hs];rfl)
 obtain⟨a,ns,i,rfl,rfl,hl,q⟩:=q2
 obtain⟨z,rfl,rz⟩:=r1.one
 cases rz
 obtain⟨tk0,rfl⟩:=r2
 obtain⟨its,rv,pl,_⟩:=I2.list hl
 refine v7 (I2.ok.hd hc) pl.isList rv fun v h' tk hv kk=>?_
 rcases hv with⟨e1,rfl⟩ | ⟨m,t,rfl,hm⟩
 ·exact⟨.int i,H2,I2.kept (t':=tk) kk,⟨_,rfl⟩,q i (.inl ⟨e1,rfl⟩)⟩
 ·exact⟨.int m,H2,I2.kept (t':=tk) kk,⟨_,rfl⟩,q m (.inr hm)⟩
theorem zad (W:Walks P w A.in1 I fp wr n Is St) (bt:Nat→Nat→Bool) (cm:CmpOf P w A.in1 .Lt Is bt) (nf:S∉fp):∀ (r j:Nat) (t:Shared) (u:Value) (c:Nat),n=j+1+r→St (j+1) t.heap→Is (argBest bt j) u→t.heap.get? S=some (bst u c) →
  (∀ v h' tk,Is (argBest bt (n-1)) v→(∀ b o,b∉wr→b≠S→t.heap.get? b=some o→h'.get? b=some o)→R (.ok (.ret v)) { t with heap:=h',toks:=tk })→codeAny (model P w) A (.builtin "min.loop" ⟨[.ref I,.none,.ref S],kw⟩) R t:=by
 have nw:S∉wr:=fun z=>nf (W.sub _ z)
 have nm:(toString "min" ++ toString ".loop" : String) = "min.loop" := by decide
 intro r
 induction r with
 |zero =>
  intro j t u c hn st iu at_ fin
  subst hn
  refine codeAny_builtin F.entry_min_loop (by
   rw[Around.under_plainId F.plain_min_loop _]
   show wpAny _ A.in1 (seqItems? (.ref S) >>= _) _ _ t
   refine wpAny_bind (wpAny_seqItems at_ rfl (by
    show wpAny _ A.in1 (tryCatch (pyNext (.ref I)) _ >>= _) _ _ t
    refine wpAny_bind (wpAny_tryCatch (W.done t _ _ st fun h1 tk kk=>?_))
    show wpAny _ A.in1 (updateSeq S (fun _=>#[]) >>= _) _ _ _
    refine wpAny_bind (wpAny_updateSeq (kk S _ nw at_) rfl (wpAny_bind (wpAny_letGo (wpAny_pure ?_))))
    exact fin u _ tk iu fun b o n1 n2 e=>(Heap.get?_update_other _ _ n2.symm).trans (kk b o n1 e))))
 |succ r ih =>
  intro j t u c hn st iu at_ fin
  refine codeAny_builtin F.entry_min_loop (by
   rw[Around.under_plainId F.plain_min_loop _]
   show wpAny _ A.in1 (seqItems? (.ref S) >>= _) _ _ t
   refine wpAny_bind (wpAny_seqItems at_ rfl (by
    show wpAny _ A.in1 (tryCatch (pyNext (.ref I)) _ >>= _) _ _ t
    refine wpAny_bind (wpAny_tryCatch (W.item (j+1) t _ _ (by omega) st fun v h1 tk iv st1 kk=>?_))
    have at1:=kk S _ nw at_
    show wpAny _ A.in1 (tryCatch (holding [v,v] (richCompare .Lt v u >>= _)) _ >>= _) _ _ _
    refine wpAny_bind (wpAny_tryCatch (wpAny_holding (wpAny_bind (cm (j+1) (argBest bt j) v u _ _ _ iv iu (wpAny_bind (wpAny_holding (wpAny_truthy_bool (wpAny_bind (wpAny_letGo (wpAny_pure ?_))))))))))
    by_cases q:bt (j+1) (argBest bt j)=true
    ·have ab:argBest bt (j+1)=j+1:=by show(if bt (j+1) (argBest bt j)=true then j+1 else argBest bt j)=_;rw[if_pos q]
     rw[if_pos q]
     refine wpAny_bind (wpAny_updateSeq at1 rfl (wpAny_bind (wpAny_letGo ?_)))
     rw[nm]
     refine wpAny_pure ⟨plainId_quiet F.plain_min_loop _,ih (j+1) _ v _ (by omega) (W.frame _ _ _ st1 fun b hb o e=>(Heap.get?_update_other _ _ fun z:S=b=>nf (z ▸ hb)).trans e) (by rw[ab];exact iv) (Heap.get?_update_self _ at1 rfl) fun v2 h2 tk2 iv2 kk2=>?_⟩
     exact fin v2 h2 tk2 iv2 fun b o n1 n2 e=>kk2 b o n1 n2 ((Heap.get?_update_other _ _ n2.symm).trans (kk b o n1 e))
    ·have ab:argBest bt (j+1)=argBest bt j:=by show(if bt (j+1) (argBest bt j)=true then j+1 else argBest bt j)=_;rw[if_neg q]
     rw[if_neg q]
     refine wpAny_bind (wpAny_letGo ?_)
     rw[nm]
     exact wpAny_pure ⟨plainId_quiet F.plain_min_loop _,ih (j+1) _ u c (by omega) st1 (by rw[ab];exact iu) at1 fun v2 h2 tk2 iv2 kk2=>fin v2 h2 tk2 iv2 fun b o n1 n2 e=>kk2 b o n1 n2 (kk b o n1 e)⟩)))
theorem Wj {d:Value}{x:Str}(W:Walks P w A.in1 I fp wr n Is St) (bt:Nat→Nat→Bool) (cm:CmpOf P w A.in1 .Lt Is bt) (nf:S∉fp){t:Shared}{c:Nat}(st:St 0 t.heap)
  (at_:t.heap.get? S=some { cls:=.type "list",data:=.seq #[] c }) (fin:∀ v h' tk,((n=0∧v=d)∨(0<n∧Is (argBest bt (n-1)) v))→(∀ b o,b∉wr→b≠S→t.heap.get? b=some o→h'.get? b=some o)→R (.ok (.ret v)) { t with heap:=h',toks:=tk }) :
  codeAny (model P w) A (.builtin "min.loop" ⟨[.ref I,.none,.ref S],[(x,d)]⟩) R t:=by
 have nw:S∉wr:=fun z=>nf (W.sub _ z)
 have nm:(toString "min" ++ toString ".loop" : String) = "min.loop" := by decide
 refine codeAny_builtin F.entry_min_loop (by
  rw[Around.under_plainId F.plain_min_loop _]
  show wpAny _ A.in1 (seqItems? (.ref S) >>= _) _ _ t
  refine wpAny_bind (wpAny_seqItems at_ rfl (by
   show wpAny _ A.in1 (tryCatch (pyNext (.ref I)) _ >>= _) _ _ t
   by_cases hn:n=0
   ·subst hn
    refine wpAny_bind (wpAny_tryCatch (W.done t _ _ st fun h1 tk kk=>?_))
    show wpAny _ A.in1 (rule _ >>= _) _ _ _
    exact wpAny_bind (wpAny_rule (wpAny_pure (fin d h1 tk (.inl ⟨rfl,rfl⟩) fun b o n1 _ e=>kk b o n1 e)))
   ·refine wpAny_bind (wpAny_tryCatch (W.item 0 t _ _ (by omega) st fun v h1 tk iv st1 kk=>?_))
    have at1:=kk S _ nw at_
    show wpAny _ A.in1 (updateSeq S (fun _=>#[v,v]) >>= _) _ _ _
    refine wpAny_bind (wpAny_updateSeq at1 rfl ?_)
    rw[nm]
    refine wpAny_pure ⟨plainId_quiet F.plain_min_loop _,zad W bt cm nf (n-1) 0 _ v _ (by omega) (W.frame _ _ _ st1 fun b hb o e=>(Heap.get?_update_other _ _ fun z:S=b=>nf (z ▸ hb)).trans e) iv (Heap.get?_update_self _ at1 rfl) fun v2 h2 tk2 iv2 kk2=>?_⟩
    exact fin v2 h2 tk2 (.inr ⟨by omega,iv2⟩) fun b o n1 n2 e=>kk2 b o n1 n2 ((Heap.get?_update_other _ _ n2.symm).trans (kk b o n1 e)))))
theorem Xv (a v:Value):argsOk "min" ⟨[a],[(Str.ofString "default",v)]⟩:=by unfold argsOk;kernel_rfl
theorem v6 {l:Addr}{its:List Value}{ns:List Int}{d:Value}{Q:Value→Shared→Prop}{E:Value→Shared→Prop}{s:Shared}(hh:A.handled=none) (hl:s.heap.IsList l its.toArray) (hr:Vals (ns.map V.int) its)
  (h:∀ v h' tk,((ns=[]∧v=d)∨∃ m t,v=.int m t∧m∈ns∧∀ y∈ns,m≤y)→(∀ b o,s.heap.get? b=some o→h'.get? b=some o)→Q v { s with heap:=h',toks:=tk }) :
  wpAny (model P w) A (call (.builtin "min") [.ref l] [(Str.ofString "default",d)]) Q E s:=by
 have nm:(toString "min" ++ toString ".loop" : String) = "min.loop" := by decide
 have lt:l<s.heap.objs.size:=by
  obtain⟨_,e,_⟩:=hl
  exact Heap.lt_size e
 have len:its.toArray.size=ns.length:=by
  have:=hr.length
  rw[List.length_map] at this
  simp[this]
 refine PyProof.Rows.kmk_tree F.kind_min F.plain_min F.entry_min (Xv _ _) (by
  show wpAny _ A.in1 (Builtin.Builtins.bindParams "min" ["key", "default"] 0 ⟨[],[(Str.ofString "default",d)]⟩ >>= _) _ _ s
  refine wpAny_bind (wpAny_of_eq (show Builtin.Builtins.bindParams "min" ["key", "default"] 0 ⟨[],[(Str.ofString "default",d)]⟩=pure [none,some d] from rfl) (wpAny_bind (wpAny_pure (wpAny_bind (wpAny_pyIter_list hl (wpAny_bind (wpAny_newObj_type ?_)))))))
  rw[nm]
  have W:=Walks.list (prog:=P) (w:=w) (A:=A.in1) hh s.heap.objs.size l (Nat.ne_of_lt lt) its.toArray
  have st:((s.heap.push { cls:=.type "list_iterator",data:=.fields #[.ref l,.int 0 0] }).IsListIter s.heap.objs.size l 0∧(s.heap.push { cls:=.type "list_iterator",data:=.fields #[.ref l,.int 0 0] }).IsList l its.toArray):=⟨⟨_,Heap.get?_push_size _ rfl,rfl,rfl⟩,hl.push _⟩
  have cm:=CmpOf.ints_lt (prog:=P) (w:=w) (A:=A.in1) (fun i=>ns.getD i 0) (fun i v e=>xM hr e)
  have nf:(s.heap.push { cls:=.type "list_iterator",data:=.fields #[.ref l,.int 0 0] }).objs.size∉[s.heap.objs.size,l]:=by
   intro z
   rw[Heap.size_push] at z
   rcases List.mem_cons.mp z with e | e
   ·exact Nat.succ_ne_self _ e
   ·exact Nat.lt_irrefl _ (Nat.lt_trans (Nat.lt_succ_self _) ((List.mem_singleton.mp e).symm ▸ lt))
  refine wpAny_pure ⟨plainId_quiet F.plain_min_loop _,Wj (c:=0) W _ cm nf (W.frame _ _ _ st fun b _ o e=>Heap.get?_push_of_some _ e) (Heap.get?_push_size _ rfl) fun v h' tk hv kk=>?_⟩
  refine h v h' tk ?_ fun b o e=>kk b o (fun z=>?_) (fun z=>?_) (Heap.get?_push_of_some _ (Heap.get?_push_of_some _ e))
  ·rcases hv with⟨z,e⟩ | ⟨z,e⟩
   ·left
    exact⟨List.eq_nil_of_length_eq_zero (by omega),e⟩
   ·right
    obtain⟨t,et⟩:=xM hr e
    have hb:=Xr (fun i=>ns.getD i 0) (its.toArray.size-1)
    refine⟨_,t,et,?_,fun y hy=>?_⟩
    ·have hi:=hb.1
     rw[xY (by omega)]
     exact List.getElem_mem _
    ·obtain⟨i,hi,rfl⟩:=List.mem_iff_getElem.mp hy
     have:=hb.2 i (by omega)
     rw[show(ns.getD i 0)=ns[i] from xY hi] at this
     exact this
  ·rw[List.mem_singleton.mp z] at e
   exact Nat.lt_irrefl _ (Heap.lt_size e)
  ·have z2:b=s.heap.objs.size+1:=z.trans (Heap.size_push _ _)
   exact Nat.lt_irrefl _ (Nat.lt_trans (Nat.lt_succ_self _) (z2 ▸ Heap.lt_size e)))
def zaJ (K:PySem.W.Frag) (ta:TA) (td:TE):TE:=fun σ H Q=>ta σ H fun vs H1=>td σ H1 fun dv H2=>∃ a ns i,vs=[V.ref a]∧dv=.int i∧SqL K H2 a (ns.map V.int)∧∀ m:Int,((ns=[]∧m=i)∨(m∈ns∧∀ y∈ns,m≤y))→Q (.int m) H2
theorem VD {X:Cx}{e dv:Expr}{ta:TA}{td:TE}{p kp pos:Pos}(hc:X.calm=true) (hg:Gl X "min") (hm:X.mg "min" = none) (ha:PA X [e] ta) (hd:PE X dv td) (hs:starEach [e] X.env=[(false,eval e X.env)]:=by rfl) :
  PE X (.Call (.Name "min" p) [e] [⟨some "default",dv,kp⟩] pos) (zaJ X.K ta td):=by
 intro pins s σ H Q I h
 refine wpAny_Call_Name_kw (ld_blt I hg hm bt_min ?_)
 refine PyProof.Rows.callWith_kw (thn (ha pos pins s σ H _ I h) fun us s1 ⟨vs,H1,I1,r1,q1⟩=>PyProof.Rows.kws_cons (thn (hd pins s1 σ H1 _ I1 q1) fun u s2 ⟨y,H2,I2,r2,q2⟩=>PyProof.Rows.kws_nil ?_)) (by rw[hs];rfl) (by rw[hs];rfl)
 obtain⟨a,ns,i,rfl,rfl,hl,q⟩:=q2
 obtain⟨z,rfl,rz⟩:=r1.one
 cases rz
 obtain⟨tk0,rfl⟩:=r2
 obtain⟨its,rv,pl,_⟩:=I2.list hl
 refine v6 (I2.ok.hd hc) pl.isList rv fun v h' tk hv kk=>?_
 rcases hv with⟨e1,rfl⟩ | ⟨m,t,rfl,hm⟩
 ·exact⟨.int i,H2,I2.kept (t':=tk) kk,⟨_,rfl⟩,q i (.inl ⟨e1,rfl⟩)⟩
 ·exact⟨.int m,H2,I2.kept (t':=tk) kk,⟨_,rfl⟩,q m (.inr hm)⟩
end
theorem ut (ns:List Int):∀ k,preSum (fun i=>ns.getD i 0) k=(ns.take k).sum
 |0=>by simp[preSum]
 |k+1=>by
  show preSum _ k+ns.getD k 0=_
  rw[ut ns k,List.take_add_one]
  cases q:ns[k]? with
  |none=>simp[List.getD,q]
  |some x=>simp[List.getD,q]
def zmP (K:PySem.W.Frag):List V→Hp→VK→Prop:=fun xs H Q=>∃ (a:Addr) (ns:List Int),xs=[V.ref a]∧SqL K H a (ns.map V.int)∧Q (.int ns.sum) H
section
variable {X:Cx}
theorem call_sumI (hc:X.calm=true):yJ X (.builtin "sum") (zmP X.K):=by
 intro pins s σ H xs us Q I r h
 obtain⟨a,ns,rfl,ha,q⟩:=h
 obtain⟨u,rfl,ru⟩:=r.one
 cases ru
 obtain⟨its,rv,p,hz⟩:=I.list ha
 have lt:a<s.heap.objs.size:=by
  obtain⟨_,e,_⟩:=p.isList
  exact Heap.lt_size e
 refine call_sum_walkAnyS (wpAny_pyIter_list p.isList ?_)
 refine⟨s.heap.objs.size,_,_,_,_,_,_,fun i=>ns.getD i 0,rfl,(Walks.list (A:=X.A.in1) (show X.A.in1.handled=none from I.ok.hd hc) s.heap.objs.size a (Nat.ne_of_lt lt) its.toArray).toS,⟨⟨_,Heap.get?_push_size _ rfl,rfl,rfl⟩,p.isList.push _⟩,fun b hb=>?_,fun i v hv=>xM rv hv,fun s' t' hm=>?_⟩
 ·show b<(s.heap.push _).objs.size
  rw[Heap.size_push]
  have z:b=s.heap.objs.size∨b=a:=by simpa using hb
  rcases z with z | z
  ·rw[z];exact Nat.lt_succ_self _
  ·rw[z];exact Nat.lt_succ_of_lt lt
 ·obtain⟨h',g',d',tk',os'⟩:=s'
  have e1:g'=s.gens:=hm.gens
  have e2:d'=s.drawn:=hm.drawn
  have e3:os'=s.os:=hm.os
  subst e1 e2 e3
  have hl:=rv.length
  rw[List.length_map] at hl
  rw[ut,List.size_toArray,← hl,List.take_length]
  exact⟨.int _,H,I.kept (t':=tk') fun b o e=>hm.heap b o (fun z=>by
   rw[List.mem_singleton.mp z] at e
   exact Nat.lt_irrefl _ (Heap.lt_size e)) (Heap.get?_push_of_some _ e),⟨_,rfl⟩,q⟩
theorem Y8:∀ {ns:List Int}{its:List Value},Vals (ns.map V.int) its→IntsAre its ns
 |[],_,r=>by cases r;exact .nil
 |n::ns,_,r=>by
  cases r with
  |cons h t =>
   obtain⟨k,rfl⟩:=h
   exact .cons _ _ (Y8 t)
theorem YF:∀ {ns:List Int}{its:List Value},IntsAre its ns→Vals (ns.map V.int) its
 |_,_,.nil=>.nil
 |_,_,.cons _ _ t=>.cons ⟨_,rfl⟩ (YF t)
def zf2 (K:PySem.W.Frag):List V→Hp→VK→Prop:=fun xs H Q=>∃ (a:Addr) (ns:List Int),xs=[V.ref a]∧SqL K H a (ns.map V.int)∧ns.length<64∧∀ (p:Addr) (ms:List Int),H p=none→ms.Perm ns→ms.Pairwise (· ≤ ·)→Q (.ref p) (upd H p (.lst (ms.map V.int)))
theorem Zc:yJ X (.builtin "sorted") (zf2 X.K):=by
 intro pins s σ H xs us Q I r h
 obtain⟨a,ns,rfl,ha,h64,q⟩:=h
 obtain⟨u,rfl,ru⟩:=r.one
 cases ru
 obtain⟨its,rv,p,hz⟩:=I.list ha
 have hl:=rv.length
 rw[List.length_map] at hl hz
 refine sorted_ints p.isList (Y8 rv) (by omega) fun out ms a1 a2 a3=>?_
 have hn:H (s.heap.objs.size+1)=none:=I.hok.fresh (Nat.le_succ _)
 obtain⟨c,hc⟩:=sortedAll_at s.heap its out
 refine⟨.ref _,_,I.laid (a:=s.heap.objs.size+1) (o:=.lst (ms.map V.int)) (t':=s.toks) (fun _ _ e=>sortedAll_old e) (Nat.le_succ _) ⟨?_,out.toList,c,YF a1,?_⟩,rfl,q _ ms hn a2 a3⟩
 ·rw[List.length_map,a2.length_eq];exact hz
 ·exact hc
end
end L2

namespace L2
open PySem PySem.Spec PyProof.Rows
theorem W3 {X:Cx}{f:Value→Value→Sem Value}{r1 r2:R2}(h1:OpR X f r1) (h2:OpR X f r2):OpR X f (fun x y H Q=>r1 x y H Q∨r2 x y H Q):=by
 intro pins s σ H x y v u Q I rx ry h
 rcases h with h | h
 ·exact h1 pins s σ H x y v u Q I rx ry h
 ·exact h2 pins s σ H x y v u Q I rx ry h
end L2

namespace K04
open PySem L2
inductive Ex where
 |num (i:Int)
 |name (x:Str)
 |two (w:Str) (e f:Ex)
 |mod (e:Ex) (n:Int)
 |less (e f g h:Ex)
noncomputable def Ex.dep:Ex→Nat
 |.num _=>1
 |.name _=>1
 |.two _ e f=>max e.dep f.dep+1
 |.mod e _=>e.dep+1
 |.less e f g h=>max (max e.dep f.dep) (max g.dep h.dep)+1
theorem Ex.dep_pos:∀ e:Ex,1≤e.dep
 |.num _=>Nat.le_refl _
 |.name _=>Nat.le_refl _
 |.two _ _ _=>Nat.le_add_left _ _
 |.mod _ _=>Nat.le_add_left _ _
 |.less _ _ _ _=>Nat.le_add_left _ _
noncomputable def Ex.val (ρ:Str→Int):Ex→Int
 |.num i=>i
 |.name x=>ρ x
 |.two w e f=>if w = "add" then e.val ρ+f.val ρ else if w = "sub" then e.val ρ-f.val ρ else if w = "min" then(if f.val ρ<e.val ρ then f.val ρ else e.val ρ) else(if f.val ρ>e.val ρ then f.val ρ else e.val ρ)
 |.mod e n=>e.val ρ%n
 |.less e f g h=>if e.val ρ<f.val ρ then g.val ρ else h.val ρ
abbrev zn7 (w:Str):Prop:=w = "add" ∨ w = "sub" ∨ w = "min" ∨ w = "max"
noncomputable def Ex.ok (names:List Str):Ex→Prop
 |.num i=>-100000000000000000000<i∧i<100000000000000000000
 |.name x=>x∈names
 |.two w e f=>zn7 w∧e.ok names∧f.ok names
 |.mod e n=>(1≤n∧n≤1000000000)∧e.ok names
 |.less e f g h=>e.ok names∧f.ok names∧g.ok names∧h.ok names
def Ext (l:Addr) (H H':Hp):Prop:=∀ b o,H b=some o→b≠l→H' b=some o
theorem Ext.trans {l:Addr}{H H1 H2:Hp}(a:Ext l H H1) (b:Ext l H1 H2):Ext l H H2:=fun c o e n=>b c o (a c o e n) n
theorem Ext.same {l:Addr}{H H':Hp}(a:Same H H'):Ext l H H':=fun c o e _=>a c o e
theorem Ext.new {l p:Addr}{H:Hp}{o:HO}(h:H p=none):Ext l H (upd H p o):=fun c u e _=>by rw[upd_ne (ne_of_none e h)];exact e
theorem Ext.at {l:Addr}{H:Hp}{o:HO}:Ext l H (upd H l o):=fun c u e n=>by rw[upd_ne n];exact e
theorem Same.new {p:Addr}{H:Hp}{o:HO}(h:H p=none):Same H (upd H p o):=fun c u e=>by rw[upd_ne (ne_of_none e h)];exact e
noncomputable def Told (H:Hp):Ex→V→Prop
 |.num i,v=>∃ p,v=.ref p∧H p=some (.tup [.str "num",.int i])
 |.name x,v=>∃ p,v=.ref p∧H p=some (.tup [.str "name",.str x])
 |.two w e f,v=>∃ p a b,v=.ref p∧H p=some (.tup [.str w,a,b])∧Told H e a∧Told H f b
 |.mod e n,v=>∃ p a,v=.ref p∧H p=some (.tup [.str "mod",a,.int n])∧Told H e a
 |.less e f g h,v=>∃ p a b c d,v=.ref p∧H p=some (.tup [.str "less",a,b,c,d])∧Told H e a∧Told H f b∧Told H g c∧Told H h d
theorem Told.mono {H H':Hp}(k:∀ b xs,H b=some (.tup xs)→H' b=some (.tup xs)):∀ {e:Ex}{v:V},Told H e v→Told H' e v
 |.num _,_,⟨p,e,h⟩=>⟨p,e,k _ _ h⟩
 |.name _,_,⟨p,e,h⟩=>⟨p,e,k _ _ h⟩
 |.two _ _ _,_,⟨p,a,b,e,h,t1,t2⟩=>⟨p,a,b,e,k _ _ h,t1.mono k,t2.mono k⟩
 |.mod _ _,_,⟨p,a,e,h,t1⟩=>⟨p,a,e,k _ _ h,t1.mono k⟩
 |.less _ _ _ _,_,⟨p,a,b,c,d,e,h,t1,t2,t3,t4⟩=>⟨p,a,b,c,d,e,k _ _ h,t1.mono k,t2.mono k,t3.mono k,t4.mono k⟩
theorem Told.same {H H':Hp}(k:Same H H'){e:Ex}{v:V}(t:Told H e v):Told H' e v:=t.mono fun b xs h=>k b _ h
theorem eqV_refl {x:V}(h:yZ x=true):eqV x x=true:=by
 cases x<;>simp[yZ] at h<;>simp[eqV]
theorem xZ {K:PySem.W.Frag}{H:Hp}{x:V}{n:Nat}(h:yZ x=true):EqD K H x x true n:=by
 have:=EqD.flat (K:=K) (H:=H) (n:=n) h h
 rw[eqV_refl h] at this
 exact this
noncomputable def rho (kvs:List (Key×V)) (x:Str):Int:=match xE kvs (Sum.inr x) with
 |some (.int i)=>i
 |_=>0
def Has (names:List Str) (kvs:List (Key×V)):Prop:=∀ x∈names,∃ i,xE kvs (Sum.inr x:Key)=some (.int i)
theorem Has.at {names:List Str}{kvs:List (Key×V)}(h:Has names kvs){x:Str}(hx:x∈names):xE kvs (Sum.inr x:Key)=some (.int (rho kvs x)):=by
 obtain⟨i,e⟩:=h x hx
 unfold rho
 rw[e]
theorem Same.made {H:Hp}{x dx C:Addr}{fs fs':List (Str×V)}(nx:H x=none) (ndx:H dx=none):Same H (upd (upd (upd H dx (.own x)) x (.ins C dx fs')) x (.ins C dx fs)):=fun b o e=>by
 rw[upd_ne (ne_of_none e nx),upd_ne (ne_of_none e nx),upd_ne (ne_of_none e ndx)]
 exact e
theorem zaA {w:Str}(h:zn7 w):decide (V.str w=V.str "num")=false∧decide (V.str w=V.str "name")=false∧decide (V.str w=V.str "mod")=false∧decide (V.str w=V.str "less")=false:=by
 rcases h with rfl | rfl | rfl | rfl<;>decide +kernel
theorem zga {x y d:Int}(h0:0≤d) (h3:d<2):∃ v,atI [V.int x,V.int y] d=some (.int v)∧(v=x∨v=y):=by
 have:d=0∨d=1:=by omega
 rcases this with rfl | rfl
 ·exact⟨x,rfl,.inl rfl⟩
 ·exact⟨y,rfl,.inr rfl⟩
theorem zmS:(10:Int) ^ (20:Int).toNat=100000000000000000000:=by decide
theorem zw9:(10:Int) ^ (9:Int).toNat=1000000000:=by decide
theorem zmT {xs:List Str}{d:Int}(h0:0≤d) (h1:d<(xs.map V.str).length):∃ x,x∈xs∧atI (xs.map V.str) d=some (V.str x):=by
 rw[List.length_map] at h1
 have hd:d.toNat<xs.length:=by omega
 refine⟨xs[d.toNat],List.getElem_mem hd,?_⟩
 unfold atI ixN
 rw[List.length_map,if_pos h0,if_pos h1]
 show(xs.map V.str)[d.toNat]?=_
 simp[hd]
theorem zf9 {d:Int}(h0:0≤d) (h4:d<4):∃ x,zn7 x∧atI [V.str "add",V.str "sub",V.str "min",V.str "max"] d=some (V.str x):=by
 have:d=0∨d=1∨d=2∨d=3:=by omega
 rcases this with rfl | rfl | rfl | rfl
 ·exact⟨"add",.inl rfl,rfl⟩
 ·exact⟨"sub",.inr (.inl rfl),rfl⟩
 ·exact⟨"min",.inr (.inr (.inl rfl)),rfl⟩
 ·exact⟨"max",.inr (.inr (.inr rfl)),rfl⟩
theorem gn_if {i:Nat}{v:V}{τ:St}{H:Hp}{A B:St→Hp→Prop}(h:A (τ.set i (some v)) H):ua i v τ H fun τ2 H4=>ziB τ2 H4 fun b H5=>if b=true then A τ2 H5 else B τ2 H5:=by
 show if true=true then A (τ.set i (some v)) H else B (τ.set i (some v)) H
 exact XA h
theorem Told.updL {H:Hp}{D:Addr}{zs:List V}{o:HO}(hD:H D=some (.lst zs)){e:Ex}{v:V}(t:Told H e v):Told (upd H D o) e v:=t.mono fun b xs h=>by
 have hb:b≠D:=ne_of h hD (by intro z;cases z)
 rw[upd_ne hb]
 exact h
theorem log_1009:((1009:Int).natAbs.log2<9000):=by decide
theorem Wp:((2003:Int).natAbs.log2<9000):=by decide
end K04

namespace K04
open PySem L2
def zn2:V→Bool
 |.int _=>true
 |.bl _=>true
 |_=>false
def zwx:V→Bool
 |.bl _=>true
 |_=>false
def zik:V→Bool
 |.str _=>true
 |_=>false
def Lf (K:PySem.W.Frag) (H:Hp) (v:V):Prop:=∃ t,TyOf K H v t∧PySem.W.kitOne K t (.type "int")=some (zn2 v)∧PySem.W.kitOne K t (.type "bool")=some (zwx v)∧PySem.W.kitOne K t (.type "str")=some (zik v)
def whole:V→Bool
 |.int _=>true
 |_=>false
noncomputable def uo:V→Bool
 |.int i=>decide ((if i<0 then -i else i)<100000000000000000000)
 |_=>false
noncomputable def wg (ws:List Str):V→Bool
 |.str x=>inV (.str x) (ws.map V.str)
 |_=>false
noncomputable def zat:V→Bool
 |.int i=>decide (1≤i)&&decide (i≤1000000000)
 |_=>false
theorem XC (v:V):whole v=(zn2 v&&!zwx v):=by cases v<;>rfl
theorem wX {v:V}(h:whole v=true):∃ i,v=.int i:=by
 cases v<;>simp[whole] at h
 exact⟨_,rfl⟩
theorem Wt {v:V}(h:zik v=true):∃ x,v=.str x:=by
 cases v<;>simp[zik] at h
 exact⟨_,rfl⟩
theorem inV_str {x:Str}:∀ {ws:List Str},inV (.str x) (ws.map V.str)=true↔x∈ws
 |[]=>by simp[inV]
 |w::ws=>by
  have ih:=inV_str (x:=x) (ws:=ws)
  unfold inV at ih ⊢
  rw[List.map_cons,List.any_cons,Bool.or_eq_true,List.mem_cons,ih]
  constructor
  ·rintro(h | h)
   ·left
    have:V.str w=V.str x:=by simpa[eqV] using h
    cases this
    rfl
   ·exact .inr h
  ·rintro(h | h)
   ·left
    subst h
    exact eqV_refl rfl
   ·exact .inr h
theorem flat_strs (ws:List Str):(ws.map V.str).all yZ=true:=by
 rw[List.all_eq_true]
 intro v hv
 obtain⟨x,_,rfl⟩:=List.mem_map.mp hv
 rfl
inductive Gx where
 |num (v:V)
 |name (v:V)
 |two (w:V) (e f:Gx)
 |mod (e:Gx) (n:V)
 |less (e f g h:Gx)
 |oth (v:V)
abbrev twoWs:List Str:=["add", "sub", "min", "max"]
noncomputable def Gx.sound (names:List Str):Nat→Gx→Bool
 |0,_=>false
 |_+1,.num v=>uo v
 |_+1,.name v=>wg names v
 |n+1,.two w e f=>wg twoWs w&&([e,f].all (Gx.sound names n))
 |n+1,.mod e v=>zat v&&Gx.sound names n e
 |n+1,.less e f g h=>[e,f,g,h].all (Gx.sound names n)
 |_+1,.oth _=>false
noncomputable def Ex.gx:Ex→Gx
 |.num i=>.num (.int i)
 |.name x=>.name (.str x)
 |.two w e f=>.two (.str w) e.gx f.gx
 |.mod e n=>.mod e.gx (.int n)
 |.less e f g h=>.less e.gx f.gx g.gx h.gx
theorem Ex.sound {names:List Str}:∀ {n:Nat}{e:Ex},e.ok names→e.dep≤n→e.gx.sound names n=true
 |0,e,_,d=>by have:=e.dep_pos;omega
 |n+1,.num i,o,d=>by
  obtain⟨o1,o2⟩:=o
  show decide _=true
  refine decide_eq_true ?_
  split<;>omega
 |n+1,.name x,o,d=>inV_str.mpr o
 |n+1,.two w e f,o,d=>by
  obtain⟨hw,o1,o2⟩:=o
  have d:max e.dep f.dep+1≤n+1:=d
  have h1:=Ex.sound (n:=n) o1 (by omega)
  have h2:=Ex.sound (n:=n) o2 (by omega)
  show(inV (.str w) (twoWs.map V.str)&&([e.gx,f.gx].all _))=true
  have hw':inV (.str w) (twoWs.map V.str)=true:=inV_str.mpr (by rcases hw with rfl | rfl | rfl | rfl<;>simp)
  rw[hw']
  simp[h1,h2]
 |n+1,.mod e i,o,d=>by
  obtain⟨⟨i1,i2⟩,o1⟩:=o
  have d:e.dep+1≤n+1:=d
  have h1:=Ex.sound (n:=n) o1 (by omega)
  show((decide (1≤i)&&decide (i≤1000000000))&&e.gx.sound names n)=true
  simp[h1,i1,i2]
 |n+1,.less e f g h,o,d=>by
  obtain⟨o1,o2,o3,o4⟩:=o
  have d:max (max e.dep f.dep) (max g.dep h.dep)+1≤n+1:=d
  have h1:=Ex.sound (n:=n) o1 (by omega)
  have h2:=Ex.sound (n:=n) o2 (by omega)
  have h3:=Ex.sound (n:=n) o3 (by omega)
  have h4:=Ex.sound (n:=n) o4 (by omega)
  show([e.gx,f.gx,g.gx,h.gx].all _)=true
  simp[h1,h2,h3,h4]
noncomputable def Ex.words:Ex→List Str
 |.num i=>[toString i]
 |.name x=>[x]
 |.two w e f=>w::(e.words++f.words)
 |.mod e n => "mod" :: (e.words++[(toString n:Str)])
 |.less e f g h => "less" :: (e.words++(f.words++(g.words++h.words)))
noncomputable def Ex.size:Ex→Nat
 |.num _=>1
 |.name _=>1
 |.two _ e f=>1+e.size+f.size
 |.mod e _=>2+e.size
 |.less e f g h=>1+e.size+f.size+g.size+h.size
theorem Ex.words_len:∀ e:Ex,e.words.length=e.size
 |.num _=>rfl
 |.name _=>rfl
 |.two _ e f=>by simp[Ex.words,Ex.size,Ex.words_len e,Ex.words_len f];omega
 |.mod e _=>by simp[Ex.words,Ex.size,Ex.words_len e];omega
 |.less e f g h=>by simp[Ex.words,Ex.size,Ex.words_len e,Ex.words_len f,Ex.words_len g,Ex.words_len h];omega
end K04

namespace L2
open PySem PySem.Spec PyProof.Rows
end L2

namespace L2
open PySem PySem.Spec PyProof.Rows
end L2

namespace L2
open PySem PySem.Spec PyProof.Rows
end L2

namespace L2
open PySem PySem.Spec PyProof.Rows
end L2
namespace L2
open PySem PySem.Spec PyProof.Rows
end L2

namespace L2
open PySem PySem.W PySem.Spec PySem.Calls PyProof.Rows PySem.Builtin PySem.Builtin.ObjectAttr PySem.Builtin.Getset_descriptor
end L2

namespace L2
open PySem PySem.Spec PyProof.Rows
end L2

namespace L2
open PySem PySem.Spec PyProof.Rows
end L2

namespace L2
open PySem
section
variable {X:Cx}{es:List Expr}{t:TA}{te:TE}
theorem zxd {c j pos}(ha:PE X (.Constant c j pos) te) (hr:PA X es t):PA X (.Constant c j pos::es) (xz te t):=yF ha hr rfl
theorem zxb {xs c pos}(ha:PE X (.Tuple xs c pos) te) (hr:PA X es t):PA X (.Tuple xs c pos::es) (xz te t):=yF ha hr rfl
theorem zxc {f xs ks pos}(ha:PE X (.Call f xs ks pos) te) (hr:PA X es t):PA X (.Call f xs ks pos::es) (xz te t):=yF ha hr rfl
theorem zxe {l o r pos}(ha:PE X (.BinOp l o r pos) te) (hr:PA X es t):PA X (.BinOp l o r pos::es) (xz te t):=yF ha hr rfl
theorem xw {x pos}(ha:PE X (.Name x pos) te) (hr:PA X es t):PA X (.Name x pos::es) (xz te t):=yF ha hr rfl
end
end L2

namespace L2
open PySem PySem.Spec PyProof.Rows
end L2

namespace L2
open PySem PySem.Spec PyProof.Rows PySem.Builtin PySem.Builtin.Str
end L2

namespace L2
open PySem PySem.Spec PyProof.Rows
end L2

namespace PySem
namespace Zt
end Zt
end PySem
namespace L2
open PySem PySem.Spec PyProof.Rows PySem.Zt
end L2

namespace L2
open PySem PySem.Spec PyProof.Rows
end L2

namespace L2
open PySem PySem.Spec PyProof.Rows
end L2

namespace L2
open PySem PySem.W PySem.Spec PySem.Calls PyProof.Rows PySem.Builtin PySem.Builtin.ObjectAttr
end L2

namespace L2
open PySem PySem.Spec PyProof.Rows
end L2

namespace L2
open PySem PySem.Spec PyProof.Rows
end L2

namespace L2
open PySem PySem.Spec PyProof.Rows
end L2

namespace L2
open PySem PySem.Spec PyProof.Rows
end L2

namespace L2
open PySem PySem.Spec PyProof.Rows
end L2

namespace L2
open PySem PySem.W PySem.Spec PySem.Calls PyProof.Rows PySem.Builtin PySem.Builtin.ObjectAttr PySem.Builtin.Getset_descriptor
end L2

namespace L2
open PySem PySem.Spec PyProof.Rows
end L2

namespace L2
open PySem PySem.Spec PyProof.Rows
end L2

namespace L2
open PySem PySem.W PySem.Spec PySem.Calls PyProof.Rows
end L2

namespace L2
open PySem PySem.Spec PyProof.Rows
end L2

namespace L2
open PySem PySem.Spec PyProof.Rows
theorem entry_dul:entryFor table "dict.update.loop" = some Builtin.«dict.update.loop»:=entryFor_of_tree (by kernel_rfl)
theorem plain_dul:plainId "dict.update.loop" = true:=by decide +kernel
theorem Y2:typeLookup (.type "list") "keys" = pure none:=am_miss_of_fast (by kernel_rfl)
section
variable {P:Program}{w:World}{A:Around}{E:Value→Shared→Prop}{s:Shared}
theorem zaa {a:Addr}{xs:Array Value}{Q:Option Value→Shared→Prop}(hl:PlainL s.heap a xs) (hA:A.handled=none)
  (q:∀ h' tk,(∀ b o,s.heap.get? b=some o→h'.get? b=some o)→Q none { s with heap:=h',toks:=tk }):wpAny (model P w) A (getAttr? (.ref a) "keys") Q E s:=by
 obtain⟨o,n,hx,hc,hd,hs⟩:=hl
 obtain⟨c,dct,dat,sl⟩:=o
 dsimp only at hc hd hs
 subst hc hd hs
 obtain⟨hp,g,dr,tk0,os⟩:=s
 have hT:∀ tk',(⟨hp,g,dr,tk',os⟩:Shared).TypeIs (.ref a) "list" := fun _=>⟨_,hx,rfl⟩
 have f1:=sub_AttributeError
 have f3:=F.slot_list_getattribute.lookup
 have f4:=F.slot_list_getattribute.bind (.ref a)
 have f5:=am_list_getattr_none
 unfold getAttr? getAttrBy? getAttrBy
 repeat (any_goals (first | assumption | exact hT _ | ((with_reducible show wpAny _ _ (call (Value.builtin "list.__getattribute__") _ _) _ _ _);refine call_meets F.slot_list_getattribute (hT _) am_entry_list_getattribute (F.args_list_getattribute_2 _ _) (meets_getattribute_miss_list a xs n sl "keys" _ Y2 (by decide +kernel) (by decide +kernel)) ⟨hx,hA,fun h1 tk1 e1 ne=>?_⟩) | wp_step))
 obtain⟨t',u',he⟩:=ne.there
 show wpAny _ _ (getattributeRaised _ _ _ _ _ _ _) _ _ _
 unfold getattributeRaised hookOrError attributeErrorLeaves
 repeat (any_goals (first | assumption | wp_step))
 exact q _ _ ne.keeps
variable {K:Type} [DecidableEq K]{knd:KeyKind P w K}
theorem ziu {d I:Addr}{fp wr:List Addr}{n:Nat}{Is:Nat→Value→Prop}{St:Nat→Heap→Prop}{R:Except Value Flow→Shared→Prop}(W:Walks P w A.in1 I fp wr n Is St) (nf:d∉fp) (kvs:List (K×Value)) (hk:kvs.length=n) (hz:n≤1000)
  (h0:Heap) (hI:∀ i v,Is i v→∃ q k,v=.ref q∧(∃ o x,h0.get? q=some o∧o.cls=.type "tuple" ∧ o.data=.seq #[k,(kvs[i]?.map (·.2)).getD .none] x)∧∃ kk,(kvs[i]?.map (·.1))=some kk∧knd.is kk k=true)
  (hq:∀ i v q,Is i v→v=.ref q→q∉wr∧q≠d) :
  ∀ (r j:Nat) (t:Shared) (tk0:Tok),j+r=n→St j t.heap→t.heap.DictOf knd d (merged [] (kvs.take j))→(∀ b o,b∉wr→b≠d→h0.get? b=some o→t.heap.get? b=some o) →
   (∀ h' tk,h'.DictOf knd d (merged [] kvs)→(∀ b o,b∉wr→b≠d→t.heap.get? b=some o→h'.get? b=some o)→R (.ok (.ret .none)) { t with heap:=h',toks:=tk }) →
   codeAny (model P w) A (.builtin "dict.update.loop" ⟨[.ref d,.ref I,.int (j:Int) tk0,.none],[]⟩) R t:=by
 have nw:d∉wr:=fun z=>nf (W.sub _ z)
 intro r
 induction r with
 |zero =>
  intro j t tk0 hj st hd keep fin
  have ej:j=n:=by omega
  subst ej
  refine codeAny_builtin entry_dul (by
   rw[Around.under_plainId plain_dul _]
   show wpAny _ A.in1 (pyNext (.ref I) >>= _) _ _ t
   refine wpAny_bind (W.done t _ _ st fun h1 tk kk=>?_)
   show wpAny _ A.in1 (Builtin.Dict.addKeywords d [] >>= _) _ _ _
   rw[← hk,List.take_length] at hd
   obtain⟨o,ho,hdo⟩:=Heap.dictOf_iff.mp hd
   exact wpAny_bind (wpAny_pure (wpAny_pure (fin h1 tk (Heap.dictOf_iff.mpr ⟨o,kk d o nw ho,hdo⟩) fun b o n1 _ e=>kk b o n1 e))))
 |succ r ih =>
  intro j t tk0 hj st hd keep fin
  refine codeAny_builtin entry_dul (by
   rw[Around.under_plainId plain_dul _]
   show wpAny _ A.in1 (pyNext (.ref I) >>= _) _ _ t
   refine wpAny_bind (W.item j t _ _ (by omega) st fun v h1 tk iv st1 kk=>?_)
   obtain⟨q,k,rfl,⟨o,x,hq0,hc,hs⟩,kx,hkx,hki⟩:=hI j v iv
   obtain⟨nq1,nq2⟩:=hq j _ q iv rfl
   have hq1:=kk q o nq1 (keep q o nq1 nq2 hq0)
   obtain⟨od,hod,hdo⟩:=Heap.dictOf_iff.mp hd
   have hd1:h1.DictOf knd d (merged [] (kvs.take j)):=Heap.dictOf_iff.mpr ⟨od,kk d od nw hod,hdo⟩
   obtain⟨⟨k2,v2⟩,hkv⟩:∃ kv,kvs[j]?=some kv:=⟨kvs[j]'(by omega),by simp[show j<kvs.length by omega]⟩
   rw[hkv] at hs hkx
   cases hkx
   show wpAny _ A.in1 (holding [Value.ref q] (tryCatch (Builtin.Dict.pairItems (Value.ref q)) _ >>= _) >>= _) _ _ _
   refine wpAny_bind (wpAny_holding (wpAny_bind (wpAny_tryCatch ?_)))
   unfold Builtin.Dict.pairItems
   refine wpAny_bind (wpAny_typeOf (T := "tuple") ⟨o,hq1,hc⟩ ?_)
   rw[if_pos (by decide)]
   refine wpAny_bind (wpAny_seqItems hq1 hs (wpAny_pure ?_))
   show wpAny _ A.in1 (holding [k,v2] (dictSet d k v2)) _ _ _
   refine wpAny_holding (wpAny_dictSet_pairs hki hd1 (fun h2 hd2 sb=>?_) ?_)
   ·show wpAny _ A.in1 (pure _) _ _ _
    have hm:=merged_take_succ ([]:List (K×Value)) kvs j (k2,v2) hkv
    refine wpAny_pure ⟨plainId_quiet plain_dul _,ih (j+1) _ _ (by omega) (W.frame _ _ _ st1 fun b hb o e=>?_) (by rw[hm];exact hd2) (fun b o n1 n2 e=>?_) fun h3 tk3 hd3 kk3=>fin h3 tk3 hd3 fun b o n1 n2 e=>kk3 b o n1 n2 ?_⟩
    ·exact(sb.2 b fun z=>nf (z ▸ hb)).trans e
    ·exact(sb.2 b n2).trans (kk b o n1 (keep b o n1 n2 e))
    ·exact(sb.2 b n2).trans (kk b o n1 e)
   ·have:=merged_length_le ([]:List (K×Value)) (kvs.take j)
    rw[List.length_take] at this
    simp only[List.length_nil] at this
    exact Nat.le_trans (show _≤1000 by omega) (by decide))
end
section
variable {X:Cx}
theorem uh:∀ {xs:List V}{us:List Value}{i:Nat}{u:Value},Vals xs us→us[i]?=some u→∃ x,xs[i]?=some x∧RelV x u
 |_,_,0,_,.cons r _,h=>by cases h;exact⟨_,rfl,r⟩
 |_,_,i+1,_,.cons _ t,h=>by
  obtain⟨x,e,r⟩:=uh t (by simpa using h)
  exact⟨x,by simpa using e,r⟩
theorem uw {pins:List (Addr×Obj)}{σ:St}{H:Hp}{s:Shared}(I:Inv X pins σ H s):∀ (qs:List Addr) (kvs:List (Key×V)),qs.length=kvs.length→(∀ (i:Nat) (q:Addr) (kv:Key×V),qs[i]?=some q→kvs[i]?=some kv→H q=some (.tup [kV kv.1,kv.2])) →
  ∃ vs:List (Key×Value),KV kvs vs∧∀ (i:Nat) (q:Addr),qs[i]?=some q→∃ o x k kv,s.heap.get? q=some o∧o.cls=.type "tuple" ∧ o.data=.seq #[k,kv.2] x∧vs[i]?=some kv∧(zC X.prog X.w).is kv.1 k=true
 |[],[],_,_=>⟨[],.nil,fun i q h=>by simp at h⟩
 |q::qs,kv::kvs,hl,h=>by
  obtain⟨vs,r,hv⟩:=uw I qs kvs (by simpa using hl) fun i q' kv' h1 h2=>h (i+1) q' kv' (by simpa using h1) (by simpa using h2)
  have h0:=h 0 q kv rfl rfl
  obtain⟨its,rv,it,_⟩:=I.tuple (SqT.of h0)
  obtain⟨uk,ux,rfl,rk,rx⟩:∃ uk ux,its=[uk,ux]∧RelV (kV kv.1) uk∧RelV kv.2 ux:=by
   cases rv with | cons r1 rv =>
   cases rv with | cons r2 rv =>
   cases rv
   exact⟨_,_,rfl,r1,r2⟩
  obtain⟨o,e,oc,n,od⟩:=it
  refine⟨(kv.1,ux)::vs,.cons ⟨rfl,rx⟩ r,fun i q' hi=>?_⟩
  cases i with
  |zero =>
   cases hi
   exact⟨o,n,uk,(kv.1,ux),e,oc,od,rfl,uZ rk⟩
  |succ i=>exact hv i q' (by simpa using hi)
def zf4 (K:PySem.W.Frag):List V→Hp→VK→Prop:=fun xs H Q=>∃ (a:Addr) (qs:List Addr) (kvs:List (Key×V)),xs=[V.ref a]∧H a=some (.lst (qs.map V.ref))∧qs.length=kvs.length∧kvs.length≤1000∧(∀ (i:Nat) (q:Addr) (kv:Key×V),qs[i]?=some q→kvs[i]?=some kv→H q=some (.tup [kV kv.1,kv.2])) ∧
 ∀ p,H p=none→Q (.ref p) (upd H p (.dK (mergeK [] kvs)))
theorem wv (hc:X.calm=true):yJ X (.type "dict") (zf4 X.K):=by
 intro pins s σ H xs us Q I r h
 obtain⟨a,qs,kvs,rfl,ha,hl,hz,hq,k⟩:=h
 obtain⟨u,rfl,ru⟩:=r.one
 cases ru
 obtain⟨its,rv,pl,_⟩:=I.list (SqL.of ha)
 have hA:X.A.handled=none:=I.ok.hd hc
 refine callType_codes (Q₁:=fun obj s₁=>obj=.ref s.heap.objs.size∧s₁={ s with heap:=s.heap.push { cls:=.type "dict",data:=.dict #[] } }) F.kt_called_dict (F.kt_typeCall_dict_1 _) F.entry_dict_init (kt_code_dict_new _ ⟨rfl,rfl⟩) ?_
 rintro obj s₁ ⟨rfl,rfl⟩
 have hnew:(s.heap.push { cls:=.type "dict",data:=.dict #[] }).DictOf (zC X.prog X.w) s.heap.objs.size []:=Heap.DictOf.new s.heap
 have lt:a<s.heap.objs.size:=by
  obtain⟨_,e,_⟩:=pl.isList
  exact Heap.lt_size e
 have pl1:PlainL (s.heap.push { cls:=.type "dict",data:=.dict #[] }) a its.toArray:=by
  obtain⟨o,n,e,r⟩:=pl
  exact⟨o,n,Heap.get?_push_of_some _ e,r⟩
 refine⟨hnew.typeIs,F.args_dict_init_2 _ _,?_⟩
 unfold Builtin.«dict.__init__»
 refine wpAny_bind ?_
 unfold Builtin.Dict.selfAndRest
 refine wpAny_bind (wpAny_notOrdered_dict hnew.typeIs ?_)
 show wpAny _ _ (pure (s.heap.objs.size,[Value.ref a])) _ _ _
 refine wpAny_pure ?_
 show wpAny _ _ (Builtin.Dict.updateFrom "dict.__init__" s.heap.objs.size (.ref a) [] .none) _ _ _
 unfold Builtin.Dict.updateFrom
 obtain⟨o,n,e,oc,od,os⟩:=pl1
 refine wpAny_bind (wpAny_typeOf (T := "list") ⟨o,e,oc⟩ ?_)
 rw[if_pos (by decide)]
 refine wpAny_bind (zaa ⟨o,n,e,oc,od,os⟩ hA fun h1 tk1 kk1=>?_)
 obtain⟨vs,rel,hvs⟩:=uw I qs kvs hl hq
 have hl1:h1.IsList a its.toArray:=⟨o,kk1 _ _ e,oc,n,os⟩
 show wpAny _ _ (rule _ >>= _) _ _ _
 refine wpAny_bind (wpAny_rule (wpAny_bind (wpAny_pyIter_list hl1 ?_)))
 have nd0:(s.heap.push { cls:=.type "dict",data:=.dict #[] }).get? s.heap.objs.size=some { cls:=.type "dict",data:=.dict #[] }:=Heap.get?_push_size _ rfl
 have nd1:=kk1 _ _ nd0
 have ltd:s.heap.objs.size<h1.objs.size:=Heap.lt_size nd1
 have lta:a<h1.objs.size:=Nat.lt_trans lt ltd
 have len:its.toArray.size=vs.length:=by
  have e1:=rv.length
  rw[List.length_map] at e1
  have e2:=rel.length
  simp
  omega
 have lvs:vs.length=kvs.length:=(rel.length).symm
 have W:=Walks.list (prog:=X.prog) (w:=X.w) (A:=X.A.in1.in1) hA h1.objs.size a (Nat.ne_of_lt lta) its.toArray
 have st:((h1.push { cls:=.type "list_iterator",data:=.fields #[.ref a,.int 0 0] }).IsListIter h1.objs.size a 0∧(h1.push { cls:=.type "list_iterator",data:=.fields #[.ref a,.int 0 0] }).IsList a its.toArray):=⟨⟨_,Heap.get?_push_size _ rfl,rfl,rfl⟩,hl1.push _⟩
 have nf:s.heap.objs.size∉[h1.objs.size,a]:=by
  intro z
  rcases List.mem_cons.mp z with z | z
  ·exact Nat.lt_irrefl _ (z ▸ ltd)
  ·exact Nat.lt_irrefl _ ((List.mem_singleton.mp z) ▸ lt)
 have item:∀ (i:Nat) (v:Value),its.toArray[i]?=some v→∃ q:Addr,v=Value.ref q∧qs[i]?=some q:=fun i v hv=>by
  have hv:its[i]?=some v:=by simpa using hv
  obtain⟨x,hx,rx⟩:=uh rv hv
  rw[List.getElem?_map] at hx
  obtain⟨q,hq,rfl⟩:=Option.map_eq_some_iff.mp hx
  exact⟨q,rx,hq⟩
 have hd0:(h1.push { cls:=.type "list_iterator",data:=.fields #[.ref a,.int 0 0] }).DictOf (zC X.prog X.w) s.heap.objs.size []:=by
  obtain⟨od,hod,hdo⟩:=Heap.dictOf_iff.mp hnew
  exact Heap.dictOf_iff.mpr ⟨od,Heap.get?_push_of_some _ (kk1 _ _ hod),hdo⟩
 refine wpAny_pure ⟨plainId_quiet plain_dul _,ziu (A:=X.A.in1) (knd:=zC X.prog X.w) W nf vs len.symm (by omega) s.heap ?_ ?_ its.toArray.size 0 _ 0 (by omega) st hd0 ?_ ?_⟩
 ·intro i v hv
  obtain⟨q,rfl,hq'⟩:=item i v hv
  obtain⟨o,x,k',kv,e1,e2,e3,e4,e5⟩:=hvs i q hq'
  exact⟨q,k',rfl,⟨o,x,e1,e2,by rw[e4];exact e3⟩,kv.1,by rw[e4];rfl,e5⟩
 ·intro i v q hv ev
  obtain⟨q',rfl,hq'⟩:=item i v hv
  cases ev
  obtain⟨o,x,k',kv,e1,_⟩:=hvs i _ hq'
  have l1:=Heap.lt_size e1
  exact⟨fun z=>by rw[List.mem_singleton.mp z] at l1;exact Nat.lt_irrefl _ (Nat.lt_trans l1 ltd),fun z=>by rw[z] at l1;exact Nat.lt_irrefl _ l1⟩
 ·intro b o n1 n2 e
  exact Heap.get?_push_of_some _ (kk1 _ _ (Heap.get?_push_of_some _ e))
 ·intro h' tk hd' kk'
  refine⟨rfl,?_⟩
  refine⟨.ref s.heap.objs.size,_,I.laid (a:=s.heap.objs.size) (o:=.dK (mergeK [] kvs)) (t':=tk) (fun b o e=>?_) (Nat.le_refl _) (vD ?_ (beq_eq_false_iff_ne.mpr (Ne.symm (Nat.ne_of_lt I.big))) (KV.merge rel .nil) hd'),rfl,k _ (I.hok.fresh (Nat.le_refl _))⟩
  ·have l1:=Heap.lt_size e
   refine kk' b o (fun z=>?_) (fun z=>?_) (Heap.get?_push_of_some _ (kk1 _ _ (Heap.get?_push_of_some _ e)))
   ·rw[List.mem_singleton.mp z] at l1
    exact Nat.lt_irrefl _ (Nat.lt_trans l1 ltd)
   ·rw[z] at l1
    exact Nat.lt_irrefl _ l1
  ·have e1:=(KV.merge rel (.nil:KV ([]:List (Key×V)) [])).length
   have e2:=merged_length_le ([]:List (Key×Value)) vs
   simp only[List.length_nil] at e2
   exact Nat.le_trans (show _≤1000 by omega) (by decide)
end
end L2

namespace L2
open PySem PySem.Spec PyProof.Rows
def zaO (td ty:TE):TE:=fun σ H Q=>td σ H fun x H1=>∃ a,x=.ref a∧IsD H1 a∧ty σ H1 fun y H2=>∃ b kvs more,y=.ref b∧a≠b∧H2 a=some (.dK kvs)∧H2 b=some (.dK more)∧kvs.length+more.length≤1000∧Q .non (upd H2 a (.dK (mergeK kvs more)))
section
variable {X:Cx}{o e:Expr}{apos cpos:Pos}{td ty:TE}
theorem VH (ho:PE X o td) (he:PE X e ty) (m:M1 X o "update" apos e cpos):PE X (.Call (.Attribute o "update" apos) [e] [] cpos) (zaO td ty):=by
 intro pins s σ H Q I h
 refine wpAny_Call_method m.base m.few m.line PySem.F.plainAttrs_dict PySem.F.slot_dict_update PySem.F.type_dict_update (thn (ho pins s σ H _ I h) fun u s1 hq0=>?_)
 obtain⟨x,H1,I1,rx,a,ex,d,q1⟩:=hq0
 subst ex
 obtain rfl:u=Value.ref a:=rx
 obtain⟨t1,t2,_⟩:=zil I1 d
 refine⟨t1,t2,?_⟩
 rw[m.trees]
 refine Calls.callWith_builtin rfl (Calls.evalArgs_plain (Calls.spliced_cons (thn (he pins s1 σ H1 _ I1 q1) fun iv s2 ⟨y,H2,I2,ry,b,kvs,more,ey,ne,ha,hb,hz,q2⟩=>Calls.spliced_nil ?_)))
 subst ey
 obtain rfl:iv=Value.ref b:=ry
 obtain⟨z1,hd1,vs1,rel1,dd1⟩:=WB I2.hok ha
 obtain⟨z2,hd2,vs2,rel2,dd2⟩:=WB I2.hok hb
 have l1:=rel1.length
 have l2:=rel2.length
 have rm:=KV.merge rel2 rel1
 have lm:=merged_length_le vs1 vs2
 have lm2:=rm.length
 refine call_meetsIn PySem.F.slot_dict_update dd1.typeIs PySem.F.entry_dict_update (PySem.F.args_dict_update_2 _ _) (meets_dict_update (zC X.prog X.w) a b ne hd2) ⟨vs1,vs2,dd1,dd2,Nat.le_trans (show _≤1000 by omega) (by decide),fun h' dd' _ hs=>?_⟩
 have he':∃ q,h'.get? a=some q:=let ⟨q,_,_,hq,_⟩:=dd';⟨q,hq⟩
 exact⟨.non,_,wS (t':=s2.toks) I2 (by rw[ha];exact True.intro) hs he' (vD (Nat.le_trans (show _≤1000 by omega) (by decide)) hd1 rm dd'),rfl,q2⟩
end
end L2

namespace L2
open PySem PySem.Spec PyProof.Rows
section
variable {X:Cx}
def zw7 (K:PySem.W.Frag) (A:Around):R2:=fun x y H Q=>∃ (a b:Addr) (xs ys:List V),x=.ref a∧y=.ref b∧SqL K H a xs∧SqL K H b ys∧xs.length≠ys.length∧A.units<cLine∧Q (.bl false) H
theorem W2:OpR X (compareOp .Eq) (zw7 X.K X.A):=by
 intro pins s σ H x y v u Q I rx ry h
 obtain⟨a,b,xs,ys,rfl,rfl,h1,h2,hl,hu,q⟩:=h
 cases rx;cases ry
 obtain⟨i1,r1,p1,_⟩:=I.list h1
 obtain⟨i2,r2,p2,_⟩:=I.list h2
 exact SeqAt.RcAt.lists_lengths p1.isList p2.isList (by simp;rw[← r1.length,← r2.length];exact hl) hu _ _ _ _ ⟨.bl _,H,I,rfl,q⟩
end
end L2

namespace L2
open PySem PySem.Spec PyProof.Rows
theorem YA {prog prog':Program}{w w':World}{es:List DictEntry}{kvs:List (Key×Value)}(h:Pairs (zC prog w) es kvs):Pairs (zC prog' w') es kvs:=by
 induction h with
 |nil=>exact .nil
 |cons h1 h2 _ ih=>exact .cons h1 h2 ih
theorem Yz {prog:Program}{w:World}{es:List DictEntry}{kvs:List (Key×Value)}(h:Pairs (zC prog w) es kvs):∀ e∈es,∃ kv∈kvs,v8 kv.1 e.key=true:=by
 induction h with
 |nil=>intro e he;cases he
 | @cons e kv es kvs h1 h2 _ ih =>
  intro e' he'
  rcases List.mem_cons.mp he' with z | z
  ·exact⟨kv,List.mem_cons_self ..,by rw[z];exact h1⟩
  ·obtain⟨kv',m,q⟩:=ih e' z
   exact⟨kv',List.mem_cons_of_mem _ m,q⟩
theorem wq {prog prog':Program}{w w':World}{h:Heap}{a:Addr}{kvs:List (Key×Value)}(hk:∀ p∈kvs,∃ i,p.1=Sum.inl i) (D:h.DictOf (zC prog w) a kvs):h.DictOf (zC prog' w') a kvs:=by
 obtain⟨o,es,ep,ho,ex,hd,ks,ps,nd⟩:=D
 refine⟨o,es,ep,ho,ex,hd,fun e he=>?_,YA ps,nd⟩
 obtain⟨k,h1,h2⟩:=ks e he
 obtain⟨kv,m,q⟩:=Yz ps e (by simpa using he)
 obtain⟨i,hi⟩:=hk kv m
 have e1:k=kv.1:=(zC prog w).inj e.key k kv.1 h1 q
 refine⟨k,h1,?_⟩
 rw[h2,e1,hi]
 rfl
section
variable {X:Cx}
def EqP (X:Cx) (H:Hp) (x y:V) (b:Bool) (n:Nat):Prop:=∀ (pins:List (Addr×Obj)) (σ:St) (s:Shared),Inv X pins σ H s→∀ (A:Around) (u v:Value),A.units+n<cLine→RelV x u→RelV y v→SeqAt.EqAt A s u v b
theorem EqP.of {H:Hp}{x y:V}{b:Bool}{n:Nat}(h:EqD X.K H x y b n):EqP X H x y b n:=fun pins σ s I A u v hu r1 r2=>h.at I A u v hu r1 r2
theorem EqP.same {H:Hp}{a:Addr}{n:Nat}:EqP X H (.ref a) (.ref a) true n:=fun pins σ s I A u v hu rx ry=>by
 cases rx;cases ry
 exact SeqAt.EqAt.same _
theorem vB {pins:List (Addr×Obj)}{σ:St}{H:Hp}{s:Shared}{A:Around}{xs ys:List V}{i1 i2:List Value}{e:Nat→Bool}{n:Nat}(I:Inv X pins σ H s) (r1:Vals xs i1) (r2:Vals ys i2) (hu:A.units+n+2<cLine)
  (h:∀ (j:Nat) x y,xs[j]?=some x→ys[j]?=some y→EqP X H x y (e j) n):∀ (j:Nat) (h1:j<i1.toArray.size) (h2:j<i2.toArray.size),SeqAt.EqAt A.in1 s i1.toArray[j] i2.toArray[j] (e j):=fun j h1 h2=>by
 have g1:j<xs.length:=by rw[r1.length];simpa using h1
 have g2:j<ys.length:=by rw[r2.length];simpa using h2
 obtain⟨u1,e1,q1⟩:=r1.get (i:=j) (x:=xs[j]) (by simp[g1])
 obtain⟨u2,e2,q2⟩:=r2.get (i:=j) (x:=ys[j]) (by simp[g2])
 have f1:i1.toArray[j]=u1:=by
  obtain⟨_,z⟩:=List.getElem?_eq_some_iff.mp e1
  simpa using z
 have f2:i2.toArray[j]=u2:=by
  obtain⟨_,z⟩:=List.getElem?_eq_some_iff.mp e2
  simpa using z
 rw[f1,f2]
 exact(h j _ _ (by simp[g1]) (by simp[g2])) _ _ _ I A.in1 u1 u2 (by rw[yH];omega) q1 q2
theorem EqP.lst {H:Hp}{a b:Addr}{xs ys:List V}{n:Nat}(ha:SqL X.K H a xs) (hb:SqL X.K H b ys) (hl:xs.length=ys.length) (h:∀ (j:Nat) x y,xs[j]?=some x→ys[j]?=some y→EqP X H x y true n):EqP X H (.ref a) (.ref b) true (n+2):=fun pins σ s I A u v hu rx ry=>by
 by_cases hne:a=b
 ·subst hne;exact EqP.same _ _ _ I A u v hu rx ry
 ·cases rx;cases ry
  obtain⟨i1,r1,p1,_⟩:=I.list ha
  obtain⟨i2,r2,p2,_⟩:=I.list hb
  have l1:=r1.length
  have l2:=r2.length
  refine SeqAt.EqAt.of_refs hne ?_
  have q:=SeqAt.RcAt.lists (A:=A) (s:=s) (e:=fun _=>true) p1.isList p2.isList (by simp;omega) (by omega) (vB I r1 r2 (by omega) h)
  have e:((List.range i1.toArray.size).all fun _=>true)=true:=by simp
  rw[e] at q
  exact q
theorem ziq {pins:List (Addr×Obj)}{σ:St}{H:Hp}{s:Shared}{A:Around}{n:Nat}(I:Inv X pins σ H s) (hu:A.units+n<cLine){kvb:List (Key×V)}{kb:List (Key×Value)}(rb:KV kvb kb) :
  ∀ {kva:List (Key×V)}{ka:List (Key×Value)},KV kva ka→(∀ p∈kva,∃ y,xE kvb p.1=some y∧EqP X H p.2 y true n)→PySem.W.KeqHits A s kb ka true
 |_,_,.nil,_=>.nil
 |(k,v)::r,(k',u)::r',.cons h t,hs=>by
  obtain⟨e1,e2⟩:=h
  cases e1
  obtain⟨y,hv,hE⟩:=hs (k,v) List.mem_cons_self
  have q:=rb.val k
  rw[hv] at q
  cases e:valueAt kb k with
  |none=>rw[e] at q;exact False.elim q
  |some y' =>
   rw[e] at q
   have he:=hE _ _ _ I A u y' hu e2 (show RelV y y' from q)
   have:=PySem.W.KeqHits.hit (k:=k) e he (ziq I hu rb t fun p hp=>hs p (List.mem_cons_of_mem _ hp))
   simpa using this
theorem KV.keysL {kvs:List (Key×V)}{vs:List (Key×Value)}(r:KV kvs vs) (h:∀ p∈kvs,∃ i,p.1=Sum.inl i):∀ p∈vs,∃ i,p.1=Sum.inl i:=by
 induction r with
 |nil=>intro p hp;cases hp
 | @cons x y xs ys h1 t ih =>
  intro p hp
  rcases List.mem_cons.mp hp with z | z
  ·obtain⟨i,hi⟩:=h x List.mem_cons_self
   exact⟨i,by rw[z,← h1.1];exact hi⟩
  ·exact ih (fun p hp=>h p (List.mem_cons_of_mem _ hp)) p z
theorem EqP.dct {H:Hp}{a b:Addr}{kva kvb:List (Key×V)}{n:Nat}(ha:H a=some (.dK kva)) (hb:H b=some (.dK kvb)) (hl:kva.length=kvb.length) (ia:∀ p∈kva,∃ i,p.1=Sum.inl i) (ib:∀ p∈kvb,∃ i,p.1=Sum.inl i)
  (h:∀ p∈kva,∃ y,xE kvb p.1=some y∧EqP X H p.2 y true n):EqP X H (.ref a) (.ref b) true (n+2):=fun pins σ s I A u v hu rx ry=>by
 by_cases hne:a=b
 ·subst hne;exact EqP.same _ _ _ I A u v hu rx ry
 ·cases rx;cases ry
  obtain⟨z1,d1,vs1,r1,o1⟩:=I.hok a _ ha
  obtain⟨z2,d2,vs2,r2,o2⟩:=I.hok b _ hb
  refine SeqAt.EqAt.of_refs hne fun prog w E Q hq=>?_
  have l1:=r1.length
  have l2:=r2.length
  have e:(vs1.length == vs2.length)=true:=by rw[← l1,← l2,hl];simp
  exact PySem.W.keq_eq d1 d2 (wq (r1.keysL ia) o1) (wq (r2.keysL ib) o2) (by omega) (fun _=>ziq I (by rw[yH];omega) r2 r1 h) (by rw[e];exact hq)
def zu2 (X:Cx) (neg:Bool):R2:=fun x y H Q=>∃ (a b:Addr) (xs ys:List V) (n:Nat),x=.ref a∧y=.ref b∧((SqL X.K H a xs∧SqL X.K H b ys)∨(SqT X.K H a xs∧SqT X.K H b ys))∧xs.length=ys.length∧X.A.units+n+2<cLine ∧
 (∀ (j:Nat) x y,xs[j]?=some x→ys[j]?=some y→EqP X H x y true n)∧Q (.bl (!neg)) H
theorem zgl:OpR X (compareOp .Eq) (zu2 X false):=by
 intro pins s σ H x y v u Q I rx ry h
 obtain⟨a,b,xs,ys,n,rfl,rfl,hq,hl,hu,hi,q⟩:=h
 cases rx;cases ry
 rcases hq with⟨h1,h2⟩ | ⟨h1,h2⟩
 ·obtain⟨i1,r1,p1,_⟩:=I.list h1
  obtain⟨i2,r2,p2,_⟩:=I.list h2
  refine SeqAt.eq_listAt (e:=fun _=>true) p1.isList p2.isList (by simp;rw[← r1.length,← r2.length,hl]) (by omega) (vB I r1 r2 hu hi) ⟨.bl true,H,I,?_,q⟩
  have e:((List.range i1.toArray.size).all fun _=>true)=true:=by simp
  rw[e]
  rfl
 ·obtain⟨i1,r1,p1,_⟩:=I.tuple h1
  obtain⟨i2,r2,p2,_⟩:=I.tuple h2
  have z:i1.toArray.size=i2.toArray.size:=by simp;rw[← r1.length,← r2.length,hl]
  refine SeqAt.eq_tupleAt (e:=fun _=>true) (show s.heap.IsTuple a i1.toArray from p1) (show s.heap.IsTuple b i2.toArray from p2) (by omega) (vB I r1 r2 hu hi) ⟨.bl true,H,I,?_,q⟩
  have e:((List.range i1.toArray.size).all fun _=>true)=true:=by simp
  rw[← z,Nat.min_self,beq_self_eq_true,Bool.and_true,e]
  rfl
theorem wo:OpR X (compareOp .NotEq) (zu2 X true):=by
 intro pins s σ H x y v u Q I rx ry h
 obtain⟨a,b,xs,ys,n,rfl,rfl,hq,hl,hu,hi,q⟩:=h
 cases rx;cases ry
 rcases hq with⟨h1,h2⟩ | ⟨h1,h2⟩
 ·obtain⟨i1,r1,p1,_⟩:=I.list h1
  obtain⟨i2,r2,p2,_⟩:=I.list h2
  refine SeqAt.RcNeAt.lists (e:=fun _=>true) p1.isList p2.isList (by simp;rw[← r1.length,← r2.length,hl]) (by omega) (vB I r1 r2 hu hi) _ _ _ _ ⟨.bl false,H,I,?_,q⟩
  have e:((List.range i1.toArray.size).all fun _=>true)=true:=by simp
  rw[e]
  rfl
 ·obtain⟨i1,r1,p1,_⟩:=I.tuple h1
  obtain⟨i2,r2,p2,_⟩:=I.tuple h2
  have z:i1.toArray.size=i2.toArray.size:=by simp;rw[← r1.length,← r2.length,hl]
  refine SeqAt.RcNeAt.tuples (e:=fun _=>true) (show s.heap.IsTuple a i1.toArray from p1) (show s.heap.IsTuple b i2.toArray from p2) (by omega) (vB I r1 r2 hu hi) _ _ _ _ ⟨.bl false,H,I,?_,q⟩
  have e:((List.range i1.toArray.size).all fun _=>true)=true:=by simp
  rw[← z,Nat.min_self,beq_self_eq_true,Bool.and_true,e]
  rfl
end
end L2

namespace L2
open PySem PySem.Spec PyProof.Rows Zt
end L2

namespace L2
open PySem PySem.Spec PyProof.Rows
structure Bx (p:Prop):Prop where
 of:p
theorem zD {X:Cx}{body:List Stmt}{q:TS→Prop}{t:TS}(h:Bx (PSs X body t)) (k:q t):∃ t,PSs X body t∧q t:=⟨t,h.of,k⟩
theorem ziA {X:Cx}{e:Expr}{t:TT}(h:Bx (PW X e t)):Bx (PT X e t):=⟨h.of.pt⟩
section
variable {X:Cx}
theorem ze {i j pos}:Bx (PE X (.Constant (.int i) j pos) (tC (.int i))):=⟨yU⟩
theorem yy {b j pos}:Bx (PE X (.Constant (.bool b) j pos) (tC (.bl b))):=⟨wc⟩
theorem ug {j pos}:Bx (PE X (.Constant .none j pos) (tC .non)):=⟨zgf⟩
theorem w_pe_str {x j pos}:Bx (PE X (.Constant (.str x) j pos) (tC (.str x))):=⟨zge⟩
theorem yi {x:Str}{v:V}{u:Value}{pos:Pos}(hg:Gl X x) (hm:X.mg x=some u) (r:RelV v u) (hd:(x == ("__debug__" : Str))=false:=by decide):Bx (PE X (.Name x pos) (tC v)):=⟨wF hg hm r hd⟩
end
section
variable {X:Cx}
variable {a b:Expr}{ta tb:TE}{pos:Pos}
theorem XF {op:CmpOp}{t:TE}(h:Bx (PC X op a b t)) (h1:behindInMarks op b=false:=by first | exact nobehind _ (by decide) (by decide) | rfl):Bx (PE X (.Compare a [op] [b] pos) t):=⟨zgh h.of h1⟩
theorem zZ {e:Expr}{t:TE}(h:Bx (PE X e t)) (he:∀ whole,isTrue e X.env whole=(do let v ← whole;standAt e.pos;holding [v] (truthy v)):=by intro _;rfl):Bx (PT X e (tB t)):=⟨yS h.of he⟩
end
section
variable {X:Cx}
variable {a b:Expr}{ta tb:TE}{pos:Pos}
variable {tA tB':TT}{rest:List Expr}
theorem Zf (ha:Bx (PT X a tA)):Bx (PW X (.BoolOp .And [a] pos) tA):=⟨Vv ha.of⟩
theorem ww (ha:Bx (PT X a tA)):Bx (PW X (.BoolOp .Or [a] pos) tA):=⟨wm ha.of⟩
theorem XD (ha:Bx (PT X a tA)) (hb:Bx (PW X (.BoolOp .And (b::rest) pos) tB')):Bx (PW X (.BoolOp .And (a::b::rest) pos) (zol tA tB')):=⟨zf5 ha.of hb.of⟩
theorem vM (ha:Bx (PT X a tA)) (hb:Bx (PW X (.BoolOp .Or (b::rest) pos) tB')):Bx (PW X (.BoolOp .Or (a::b::rest) pos) (tOr tA tB')):=⟨vj ha.of hb.of⟩
theorem xc (ha:Bx (PT X a tA)):Bx (PT X (.UnaryOp .Not a pos) (zof tA)):=⟨yT ha.of⟩
theorem yj {op}{t:TE}(h:Bx (PE X a t)):Bx (PE X (.BoolOp op [a] pos) t):=⟨Yw h.of⟩
theorem yq (ha:Bx (PE X a ta)) (hb:Bx (PE X (.BoolOp .And (b::rest) pos) tb)):Bx (PE X (.BoolOp .And (a::b::rest) pos) (tAndV ta tb)):=⟨uv ha.of hb.of⟩
theorem Zh (ha:Bx (PE X a ta)) (hb:Bx (PE X (.BoolOp .Or (b::rest) pos) tb)):Bx (PE X (.BoolOp .Or (a::b::rest) pos) (zoe ta tb)):=⟨zmV ha.of hb.of⟩
theorem XE (ha:Bx (PE X a ta)):Bx (PE X (.UnaryOp .Not a pos) (zaH ta)):=⟨WV ha.of⟩
end
section
variable {X:Cx}{st:Stmt}{rest:List Stmt}{t u:TS}{e:Expr}{te:TE}{pos:Pos}
theorem zm  : Bx (PSs X [] zaI):=⟨yz⟩
theorem w_pss_cons (h1:Bx (PS X st t)) (h2:Bx (PSs X rest u)):Bx (PSs X (st::rest) (zoc t u)):=⟨zG h1.of h2.of⟩
theorem zf (h1:Bx (PS X st t)):Bx (PSs X [st] t):=⟨zP h1.of⟩
theorem yb (he:Bx (PE X e te)) (hs:swapsWith e none pos.line X.env=pure false:=by rfl):Bx (PS X (.Expr e pos) (zaM te)):=⟨vR he.of hs⟩
theorem zh (he:Bx (PE X e te)):Bx (PS X (.Return (some e) pos) (zod te)):=⟨yA he.of⟩
theorem w_ps_if {c:Expr}{a b:List Stmt}{tc:TT}(hc:Bx (PT X c tc)) (ha:Bx (PSs X a t)) (hb:Bx (PSs X b u)):Bx (PS X (.If c a b pos) (zoh tc t u)):=⟨wD hc.of ha.of hb.of⟩
theorem yu  : Bx (PS X st WM):=⟨wC⟩
end
section
variable {X:Cx}{pos:Pos}
theorem zq {i:Nat}{x:Str}(hN:X.N.Nodup) (hi:X.N[i]?=some x) (hx:Loc X.env.scope x) (hf:X.fn x=true∨X.env.scope.names.lookup x=some .local:=by first | exact .inl rfl | exact .inr rfl | assumption):Bx (PG X (.Name x pos) (ua i)):=⟨xu hN hi hx hf⟩
theorem yv  : Bx (PGs X [] gNil):=⟨Yv⟩
theorem zH {e:Expr}{es:List Expr}{t:TG}{u:TGs}(h1:Bx (PG X e t)) (h2:Bx (PGs X es u)) (hs:(assignEach (e::es) X.env).map (·.2)=assign e X.env::(assignEach es X.env).map (·.2):=by rfl):Bx (PGs X (e::es) (zis t u)):=⟨wE h1.of h2.of hs⟩
theorem yL {es:List Expr}{k:Nat}{t:TGs}{n:Nat}(hc:X.calm=true) (h:Bx (PGs X es t)) (hn:(assignEach es X.env).length=n:=by rfl) (hst:(assignEach es X.env).findIdx? (·.1)=none:=by rfl):Bx (PG X (.Tuple es k pos) (zwA X.K n t)):=⟨WU hc h.of hn hst⟩
theorem xA {tg e:Expr}{te:TE}{g:TG}(he:Bx (PE X e te)) (hg:Bx (PG X tg g)) (hs:swapsWithSole [tg] e pos.line X.env=pure false:=by rfl) (hw:swappedStores [tg] e X.env=pure none:=by rfl) (h1:(assignEach [tg] X.env).map (·.2)=[assign tg X.env]:=by rfl):Bx (PS X (.Assign [tg] e pos) (zaq te g)):=⟨zf8 he.of hg.of hs hw h1⟩
theorem zl {i:Nat}{x:Str}{e:Expr}{te:TE}{pos':Pos}(hN:X.N.Nodup) (hi:X.N[i]?=some x) (hx:Loc X.env.scope x) (he:Bx (PE X e te)) (hs:swapsWith e (some (.Name x pos')) pos.line X.env=pure false:=by rfl) (hf:X.fn x=true∨X.env.scope.names.lookup x=some .local:=by first | exact .inl rfl | exact .inr rfl | assumption):Bx (PS X (.Assign [.Name x pos'] e pos) (zaq te (ua i))):=⟨vk hN hi hx he.of hs hf⟩
theorem uH {c:Expr}{body:List Stmt}{tc:TT}{tb:TS}(hp:PassesOwn (model X.prog X.w) X.A X.env X.xe) (hc:Bx (PT X c tc)) (hb:Bx (PSs X body tb)):Bx (PS X (.While c body [] pos) (WL tc tb)):=⟨XT hp hc.of hb.of⟩
end
section
variable {X:Cx}{tg:Expr}
theorem zL {l:Expr}{tl:TE}(hl:Bx (PE X l tl)):Bx (PI X tg l (zio X.K tl)):=⟨xN hl.of⟩
theorem yl {a:Expr}{ta:TA}{p pos:Pos}(hg:Gl X "range") (hm:X.mg "range" = none) (ha:Bx (PA X [a] ta)) (hs:starEach [a] X.env=[(false,eval a X.env)]:=by rfl):Bx (PI X tg (.Call (.Name "range" p) [a] [] pos) (zin ta)):=⟨Yu hg hm ha.of hs⟩
theorem vN {a b:Expr}{ta:TA}{p pos:Pos}(hg:Gl X "range") (hm:X.mg "range" = none) (ha:Bx (PA X [a,b] ta)) (hs:starEach [a,b] X.env=[(false,eval a X.env),(false,eval b X.env)]:=by rfl) (hs2:starEach [b] X.env=[(false,eval b X.env)]:=by rfl):Bx (PI X tg (.Call (.Name "range" p) [a,b] [] pos) (zim ta)):=⟨Yt hg hm ha.of hs hs2⟩
theorem ya {iter:Expr}{body:List Stmt}{wi:TI}{g:TG}{tb:TS}{pos:Pos}(hp:PassesOwn (model X.prog X.w) X.A X.env X.xe) (hc:X.calm=true) (hi:Bx (PI X tg iter wi)) (hg:Bx (PG X tg g)) (hb:Bx (PSs X body tb)) (hs:∀ x,foldedSetIterable iter X.env x=pure x:=by intro _;rfl):Bx (PS X (.For tg iter body [] pos) (zoi wi g tb)):=⟨vm hp hc hi.of hg.of hb.of hs⟩
end
section
variable {X:Cx}{a b c:Expr}{ta tb tc:TE}{pos:Pos}
theorem zj {op:Operator}{r:R2}(ho:OpR X (binaryOp op) r) (ha:Bx (PE X a ta)) (hb:Bx (PE X b tb)):Bx (PE X (.BinOp a op b pos) (tOp r ta tb)):=⟨zmW ho ha.of hb.of⟩
theorem xJ {op:UnaryOp}{r:V→Hp→VK→Prop}(ho:UnR X (unaryOp op) r) (ha:Bx (PE X a ta)):Bx (PE X (.UnaryOp op a pos) (tUn r ta)):=⟨zgc ho ha.of⟩
theorem zR {op:CmpOp}{r:R2}(ho:OpR X (compareOp op) r) (ha:Bx (PE X a ta)) (hb:Bx (PE X b tb)) (hm:behindInMarks op b=false):Bx (PE X (.Compare a [op] [b] pos) (tOp r ta tb)):=⟨wG ho ha.of hb.of hm⟩
theorem w_pt_cmpR {op:CmpOp}{r:R2}(ho:OpR X (compareOp op) r) (ha:Bx (PE X a ta)) (hb:Bx (PE X b tb)) (hm:behindInMarks op b=false):Bx (PT X (.Compare a [op] [b] pos) (zaE (tOp r ta tb))):=⟨xt ho ha.of hb.of hm⟩
end
section
variable {X:Cx}{o e value:Expr}{f:Str}{pos pos' tpos:Pos}{ta tv:TE}
theorem w_pe_fld (he:Bx (PE X e ta)) (hb:attributeBase e f X.env (eval e X.env)=eval e X.env):Bx (PE X (.Attribute e f pos) (zoj X.K ta f)):=⟨zgg he.of hb⟩
theorem zO (ha:Bx (PE X o ta)) (hv:Bx (PE X value tv)) (hs:swapsWith value (some (.Attribute o f pos')) pos.line X.env=pure false):Bx (PS X (.Assign [.Attribute o f pos'] value pos) (zu1 X.K ta tv f)):=⟨ur ha.of hv.of hs⟩
end
section
variable {X:Cx}{e:Expr}{es:List Expr}{te:TE}{t:TA}{pos:Pos}
theorem w_pa_nil  : Bx (PA X [] zap):=⟨zU⟩
theorem zg (ha:Bx (PE X e te)) (hr:Bx (PA X es t)) (hs:starEach (e::es) X.env=(false,eval e X.env)::starEach es X.env:=by rfl):Bx (PA X (e::es) (xz te t)):=⟨yF ha.of hr.of hs⟩
theorem zA {x1}(h:Bx (PA X es t)):Bx (PE X (.Tuple es x1 pos) (zob t)):=⟨zgd h.of⟩
theorem zu (h:Bx (PA X es t)):Bx (PE X (.List es pos) (zog t)):=⟨WX h.of⟩
end
section
variable {X:Cx}{CX:CXT}{k:Nat}{f C:Addr}{fd:FuncData}{ps:List Str}{sp:Sp}{dvs:List V}{ds:List Value}{E:XK}{x m:Str}{p pos apos:Pos}{e o:Expr}{es:List Expr}{ta:TE}{t:TA}
theorem uJ (F:FnOk X.prog X.w X.K X.mg X.base CX k f fd ps sp) (hr:Room k X.A) (hg:Gl X x) (hm:X.mg x=some (.ref f)) (hk:PySem.W.keepIn X.K (.ref f)=true) (hb:Binds X.K fd ps ds) (hd:Vals dvs ds) (hx:xl CX X E) (hdb:(x == ("__debug__" : Str))=false:=by decide):Bx (PE X (.Call (.Name x p) [] [] pos) (Zw sp dvs E zap)):=⟨XY F hr hg hm hk hb hd hx hdb⟩
theorem zax {pl:Sem Bool}(he:Bx (PE X o ta)) (c:Cls X.K C) (hm:Meth X.K C m f) (F:FnOk X.prog X.w X.K X.mg X.base CX k f fd ps sp) (hr:Room k X.A) (hb:Binds X.K fd ps ds) (hd:Vals dvs ds) (hx:xl CX X E) (ha:Bx (PA X (e::es) t)) (hst:starEach (e::es) X.env=(false,eval e X.env)::starEach es X.env:=by rfl) (hpl:(backTo pos (starEach es X.env)).any (·.1)=false:=by rfl) (ht:eval (.Call (.Attribute o m apos) (e::es) [] pos) X.env=(do
   let ov ← eval o X.env
   standAt apos.atName
   let (f,first) ← holding [ov] (getMethod ov m pl)
   callWith pos f first (backTo pos (starEach (e::es) X.env)) (backToKw pos (keywordEach [] X.env))):=by rfl):Bx (PE X (.Call (.Attribute o m apos) (e::es) [] pos) (zaK C m sp dvs E ta t)):=⟨VE he.of c hm F hr hb hd hx ha.of hst hpl ht⟩
end
section
variable {X:Cx}{x:Str}{p pos:Pos}{e:Expr}{es:List Expr}{t:TA}{id T:String}{r:List V→Hp→VK→Prop}
theorem w_pe_callB (hc:yJ X (.builtin id) r) (hg:Gl X x) (hm:X.mg x=none) (hv:bootBuiltins x=some (.builtin id)) (ha:Bx (PA X (e::es) t)) (hn:x ≠ "__name__" := by decide) (hdb:(x == ("__debug__" : Str))=false:=by decide) (he:starEach (e::es) X.env=(false,eval e X.env)::starEach es X.env:=by rfl) (hpl:(backTo pos (starEach es X.env)).any (·.1)=false:=by rfl):Bx (PE X (.Call (.Name x p) (e::es) [] pos) (tCB r t)):=⟨yf hc hg hm hv ha.of hn hdb he hpl⟩
theorem zW (hc:yJ X (.type T) r) (hg:Gl X x) (hm:X.mg x=none) (hv:bootBuiltins x=some (.type T)) (ha:Bx (PA X (e::es) t)) (hn:x ≠ "__name__" := by decide) (hdb:(x == ("__debug__" : Str))=false:=by decide) (he:starEach (e::es) X.env=(false,eval e X.env)::starEach es X.env:=by rfl) (hpl:(backTo pos (starEach es X.env)).any (·.1)=false:=by rfl):Bx (PE X (.Call (.Name x p) (e::es) [] pos) (tCB r t)):=⟨vo hc hg hm hv ha.of hn hdb he hpl⟩
end
section
variable {X:Cx}{e:Expr}{te:TE}{lo hi:Option Expr}{tl th:TO}{pos p2:Pos}
theorem zJ  : Bx (PO X none Zv):=⟨VC⟩
theorem zF (h:Bx (PE X e te)):Bx (PO X (some e) (zaG te)):=⟨po_some h.of⟩
theorem zB {r:V→Option Int→Option Int→Hp→VK→Prop}(hr:SlR X r) (he:Bx (PE X e te)) (hl:Bx (PO X lo tl)) (hu:Bx (PO X hi th)):Bx (PE X (.Subscript e (.Slice lo hi none p2) pos) (tSl r te tl th)):=⟨XV hr he.of hl.of hu.of⟩
end
section
variable {X:Cx}{a b:Expr}{ta tb:TE}{pos:Pos}
theorem zw {r:R2}(hr:IxR X r) (ha:Bx (PE X a ta)) (hb:Bx (PE X b tb)) (hs:Xy b):Bx (PE X (.Subscript a b pos) (tOp r ta tb)):=⟨vT hr ha.of hb.of hs⟩
end
section
variable {X:Cx}{a b:Expr}{ta tb:TE}{pos:Pos}
variable {o e:Expr}{es:List Expr}{to:TE}{t:TA}{name:Str}{apos cpos:Pos}{T id:String}{r:V→List V→Hp→VK→Prop}
theorem yx (pa:PlainAttrs T) (slot:Slot T name id) (hty:typeOf (.builtin id)=pure (.type "method_descriptor")) (hm:MtR X id r) (ho:Bx (PE X o to)) (ha:Bx (PA X (e::es) t)) (hbase:attributeBase o name X.env (eval o X.env)=eval o X.env:=by rfl) (hfew:((backTo cpos (starEach (e::es) X.env)).all (fun x=>!x.1)&&(backToKw cpos (keywordEach [] X.env)).all (fun x=>x.1.isSome)
   && decide ((e::es).length+([]:List Keyword).length+(if ([]:List Keyword).isEmpty then 0 else 1)<30))=true:=by rfl) (hline:(apos.endLine == cpos.line)=true:=by rfl) (hs:starEach (e::es) X.env=(false,eval e X.env)::starEach es X.env:=by rfl) (hplain:(backTo cpos (starEach es X.env)).any (·.1)=false:=by rfl):Bx (PE X (.Call (.Attribute o name apos) (e::es) [] cpos) (tBM X.K T r to t)):=⟨VM pa slot hty hm ho.of ha.of hbase hfew hline hs hplain⟩
end
section
variable {X:Cx}{o i e value:Expr}{pos pos' tpos:Pos}{td ty tv:TE}
theorem yw (hu:X.A.units+1<cLine) (ho:Bx (PE X o td)) (hi:Bx (PE X i ty)) (hs:zn8 i):Bx (PE X (.Subscript o i pos) (zaQ td ty)):=⟨vU hu ho.of hi.of hs⟩
theorem XG (hu:X.A.units+1<cLine) (hi:Bx (PE X i ty)) (ho:Bx (PE X o td)):Bx (PC X .In i o (zok ty td)):=⟨WZ hu hi.of ho.of⟩
theorem w_ps_dput (hu:X.A.units+1<cLine) (ho:Bx (PE X o td)) (hi:Bx (PE X i ty)) (hv:Bx (PE X value tv)) (hs:swapsWith value (some (.Subscript o i pos')) pos.line X.env=pure false):Bx (PS X (.Assign [.Subscript o i pos'] value pos) (zfY td ty tv)):=⟨vS hu ho.of hi.of hv.of hs⟩
end
section
variable {X:Cx}{pos:Pos}
theorem uI  : Bx (PE X (.Dict [] [] pos) WN):=⟨uu⟩
end
section
theorem xI {X:Cx}{pos:Pos}:Bx (PPs X pos [] [] []):=⟨VB⟩
theorem zK {X:Cx}{pos:Pos}{k v:Expr}{ks:List (Option Expr)}{vs:List Expr}{tk tv:TE}{trs:List (TE×TE)}(hk:Bx (PE X k tk)) (hv:Bx (PE X v tv)) (hr:Bx (PPs X pos ks vs trs)):Bx (PPs X pos (some k::ks) (v::vs) ((tk,tv)::trs)):=⟨XU hk.of hv.of hr.of⟩
theorem xL {X:Cx}{pos:Pos}{keys:List (Option Expr)}{values:List Expr}{trs:List (TE×TE)}(h:Bx (PPs X pos keys values trs)) (hall:keys.all (·.isSome)=true) (hl:keys.length=values.length) (h0:keys≠[]) (h15:keys.length≤15):Bx (PE X (.Dict keys values pos) (zaN trs)):=⟨VI h.of hall hl h0 h15⟩
end
section
variable {X:Cx}
theorem w_pv (i:Nat){x:Str}{pos:Pos}(hN:X.N[i]?=some x:=by rfl) (hv:Vis X.env.scope x:=by first | exact Or.inl rfl | exact Or.inr (Or.inl rfl) | exact Or.inr (Or.inr rfl)) (hd:(x == ("__debug__" : Str))=false:=by decide) (hcd:(x == ("__classdict__" : Str))=false:=by decide):Bx (PE X (.Name x pos) (zlx i)):=⟨pv i hN hv hd hcd⟩
end
section
theorem yh {X:Cx}{st:Stmt}{rest:List Stmt}{t u:TS}(h1:Bx (PS X st t)) (h2:Bx (PSs X rest u)):Bx (PSs X (st::rest) (zaF t u)):=⟨Vy h1.of h2.of⟩
theorem yk {X:Cx}:Bx (PTs X [] ziB):=⟨Vx⟩
theorem Zg {X:Cx}{c:Expr}{t:TT}(h:Bx (PT X c t)):Bx (PTs X [c] t):=⟨Vw h.of⟩
end
section
variable {X:Cx}{tg iter elt:Expr}{ifs:List Expr}{scope:Scope}{pos:Pos}{N':List Str}{t:Nat}{caps:List Nat}{g:Blk→TG}{tc:Blk→TT}{te:Blk→TE}{wi:TI}
theorem yC (hc:X.calm=true) (S:CompOk X scope N' t caps) (hi:Bx (PI X tg iter wi)) (hg:∀ b,Bx (PG (cxB X scope N' b) tg (g b))) (ht:∀ b,Bx (PTs (cxB X scope N' b) ifs (tc b))) (he:∀ b,Bx (PE (cxB X scope N' b) elt (te b))) (hs:∀ x,foldedSetIterable iter X.env x=pure x:=by intro _;rfl):Bx (PE X (.ListComp elt [⟨tg,iter,ifs,0⟩] scope pos) (XI wi g tc te t caps)):=⟨VJ hc S hi.of (fun x0=>(hg x0).of) (fun x0=>(ht x0).of) (fun x0=>(he x0).of) hs⟩
theorem yB {i:Nat}{y:Str}{py spos:Pos}(hc:X.calm=true) (hN:X.N.Nodup) (hiy:X.N[i]?=some y) (hy:Loc X.env.scope y) (S:CompOk X scope N' t caps) (hi:Bx (PI X tg iter wi)) (hg:∀ b,Bx (PG (cxB X scope N' b) tg (g b))) (ht:∀ b,Bx (PTs (cxB X scope N' b) ifs (tc b))) (he:∀ b,Bx (PE (cxB X scope N' b) elt (te b))) (hsw:swapsWith (.ListComp elt [⟨tg,iter,ifs,0⟩] scope pos) (some (.Name y py)) spos.line X.env=pure true:=by rfl) (hs:∀ x,foldedSetIterable iter X.env x=pure x:=by intro _;rfl) (hf:X.fn y=true∨X.env.scope.names.lookup y=some .local:=by first | exact .inl rfl | exact .inr rfl | assumption):Bx (PS X (.Assign [.Name y py] (.ListComp elt [⟨tg,iter,ifs,0⟩] scope pos) spos) (zaq (XI wi g tc te t caps) (ua i))):=⟨uU hc hN hiy hy S hi.of (fun x0=>(hg x0).of) (fun x0=>(ht x0).of) (fun x0=>(he x0).of) hsw hs hf⟩
end
section
variable {X:Cx}{k:Nat}{f C:Addr}{fd:FuncData}{ps:List Str}{sp:Sp}{x m:Str}{p pos apos:Pos}{e o:Expr}{es:List Expr}{ta:TE}{t:TA}
theorem zk (c:Callee X.prog X.w X.K X.mg X.base x f fd ps k sp) (hr:Room k X.A) (ha:Bx (PA X (e::es) t)) (hg:Gl X x:=by rfl) (hdb:(x == ("__debug__" : Str))=false:=by decide) (he:starEach (e::es) X.env=(false,eval e X.env)::starEach es X.env:=by rfl) (hpl:(backTo pos (starEach es X.env)).any (·.1)=false:=by rfl):Bx (PE X (.Call (.Name x p) (e::es) [] pos) (Zw sp [] E0 t)):=⟨WY c hr ha.of hg hdb he hpl⟩
theorem xK (c:Maker X.prog X.w X.K X.mg X.base x C f fd ps k sp) (hr:Room (k+1) X.A) (ha:Bx (PA X (e::es) t)) (hg:Gl X x:=by rfl) (hdb:(x == ("__debug__" : Str))=false:=by decide) (he:starEach (e::es) X.env=(false,eval e X.env)::starEach es X.env:=by rfl) (hpl:(backTo pos (starEach es X.env)).any (·.1)=false:=by rfl):Bx (PE X (.Call (.Name x p) (e::es) [] pos) (Vj C sp [] E0 t)):=⟨zxa c hr ha.of hg hdb he hpl⟩
theorem w_pe_methD {pl:Sem Bool}(he:Bx (PE X o ta)) (ha:Bx (PA X (e::es) t)) (hst:starEach (e::es) X.env=(false,eval e X.env)::starEach es X.env:=by rfl) (hpl:(backTo pos (starEach es X.env)).any (·.1)=false:=by rfl) (ht:eval (.Call (.Attribute o m apos) (e::es) [] pos) X.env=(do
   let ov ← eval o X.env
   standAt apos.atName
   let (f,first) ← holding [ov] (getMethod ov m pl)
   callWith pos f first (backTo pos (starEach (e::es) X.env)) (backToKw pos (keywordEach [] X.env))):=by rfl):Bx (PE X (.Call (.Attribute o m apos) (e::es) [] pos) (ul X m ta t)):=⟨XW he.of ha.of hst hpl ht⟩
theorem zE {pl:Sem Bool}(he:Bx (PE X o ta)) (ht:eval (.Call (.Attribute o m apos) [] [] pos) X.env=(do
   let ov ← eval o X.env
   standAt apos.atName
   let (f,first) ← holding [ov] (getMethod ov m pl)
   callWith pos f first (backTo pos (starEach [] X.env)) (backToKw pos (keywordEach [] X.env))):=by rfl):Bx (PE X (.Call (.Attribute o m apos) [] [] pos) (ul X m ta zap)):=⟨Yx he.of ht⟩
end
section
theorem xf {X:Cx}{x:Str}{C:Addr}{pos:Pos}(hm:X.mg x=some (.ref C)) (hg:Gl X x:=by rfl) (hd:(x == ("__debug__" : Str))=false:=by decide):Bx (PE X (.Name x pos) (tC (.ref C))):=⟨zgi hm hg hd⟩
theorem wx {X:Cx}{x:Str}{n:String}{pos:Pos}(hm:X.mg x=none) (hv:bootBuiltins x=some (.type n)) (hg:Gl X x:=by rfl) (hn:x ≠ "__name__" := by decide) (hd:(x == ("__debug__" : Str))=false:=by decide):Bx (PE X (.Name x pos) (tC (.ty n))):=⟨wn hm hv hg hn hd⟩
end
section
variable {P:Program}{w:World}{A:Around}{R:Result→Shared→Prop}{I S:Addr}{fp wr:List Addr}{n:Nat}{Is:Nat→Value→Prop}{St:Nat→Heap→Prop}{kw:List (Str×Value)}
theorem Zj {X:Cx}{e dv:Expr}{ta:TA}{td:TE}{p kp pos:Pos}(hc:X.calm=true) (hg:Gl X "max") (hm:X.mg "max" = none) (ha:Bx (PA X [e] ta)) (hd:Bx (PE X dv td)) (hs:starEach [e] X.env=[(false,eval e X.env)]:=by rfl):Bx (PE X (.Call (.Name "max" p) [e] [⟨some "default",dv,kp⟩] pos) (zaL X.K ta td)):=⟨VF hc hg hm ha.of hd.of hs⟩
theorem Zi {X:Cx}{e dv:Expr}{ta:TA}{td:TE}{p kp pos:Pos}(hc:X.calm=true) (hg:Gl X "min") (hm:X.mg "min" = none) (ha:Bx (PA X [e] ta)) (hd:Bx (PE X dv td)) (hs:starEach [e] X.env=[(false,eval e X.env)]:=by rfl):Bx (PE X (.Call (.Name "min" p) [e] [⟨some "default",dv,kp⟩] pos) (zaJ X.K ta td)):=⟨VD hc hg hm ha.of hd.of hs⟩
end
section
variable {X:Cx}{es:List Expr}{t:TA}{te:TE}
theorem zn {c j pos}(ha:Bx (PE X (.Constant c j pos) te)) (hr:Bx (PA X es t)):Bx (PA X (.Constant c j pos::es) (xz te t)):=⟨zxd ha.of hr.of⟩
theorem yQ {xs c pos}(ha:Bx (PE X (.Tuple xs c pos) te)) (hr:Bx (PA X es t)):Bx (PA X (.Tuple xs c pos::es) (xz te t)):=⟨zxb ha.of hr.of⟩
theorem zy {f xs ks pos}(ha:Bx (PE X (.Call f xs ks pos) te)) (hr:Bx (PA X es t)):Bx (PA X (.Call f xs ks pos::es) (xz te t)):=⟨zxc ha.of hr.of⟩
theorem yc {l o r pos}(ha:Bx (PE X (.BinOp l o r pos) te)) (hr:Bx (PA X es t)):Bx (PA X (.BinOp l o r pos::es) (xz te t)):=⟨zxe ha.of hr.of⟩
theorem w_pa_N {x pos}(ha:Bx (PE X (.Name x pos) te)) (hr:Bx (PA X es t)):Bx (PA X (.Name x pos::es) (xz te t)):=⟨xw ha.of hr.of⟩
end
section
variable {X:Cx}{o e:Expr}{apos cpos:Pos}{td ty:TE}
theorem Zk (ho:Bx (PE X o td)) (he:Bx (PE X e ty)) (m:M1 X o "update" apos e cpos):Bx (PE X (.Call (.Attribute o "update" apos) [e] [] cpos) (zaO td ty)):=⟨VH ho.of he.of m⟩
end
end L2

namespace L2
namespace Srt
open PySem PyProof.Rows
noncomputable def zak:Bool→Keyed→Array Keyed→Nat→Nat→Nat→StateT SortSt Sem (Option Nat):=sortPriv% PySem.Builtin.gallop
noncomputable def Wk:Array Keyed→Array Keyed→StateT SortSt Sem (Array Keyed):=sortPriv% PySem.Builtin.mergeLo
noncomputable def Wm:Array Keyed→Array Keyed→StateT SortSt Sem (Array Keyed):=sortPriv% PySem.Builtin.mergeHi
noncomputable def Vq:Nat→StateT SortSt Sem Unit:=sortPriv% PySem.Builtin.setMinGallop
noncomputable def Xq (left:Bool) (key:Keyed) (arr:Array Keyed) (base i:Nat):StateT SortSt Sem (Option Bool) :=
 elem' arr (base+i) >>= fun x=>if left=true then lt' x key else lt' key x >>= fun o=>pure (o.map fun b=>!b)
section
variable {prog:Program}{w:World}{A:Around}{E:Value→Shared→Prop}{s:Shared}{it:List Keyed}{κ:SortKind}
noncomputable def Cmp (prog:Program) (w:World) (A:Around) (s:Shared) (it:List Keyed) (κ:SortKind):Prop :=
 ∀ x∈it,∀ y∈it,∀ (Q:Bool→Shared→Prop) (E:Value→Shared→Prop),(∀ b,Q b s)→wpAny (model prog w) A (keyLt' κ x.1 y.1) Q E s
theorem zaD (C:Cmp prog w A s it κ){st:SortSt}(hk:kindOf st=κ){x y:Keyed}(hx:x∈it) (hy:y∈it){Q:Option Bool→SortSt→Prop}(h:∀ b,Q (some b) st):wpS (model prog w) A E s (lt' x y) Q st:=by
 rw[lt'_eq]
 refine wpS_bind (wpS_get ?_)
 rw[hk]
 refine wpS_bind (wpS_lift (wpAny_attempt (C x hx y hy _ _ fun b=>⟨rfl,?_⟩)))
 exact wpS_pure (h b)
theorem t_elem {st:SortSt}{arr:Array Keyed}{i:Nat}(hi:i<arr.size){Q:Keyed→SortSt→Prop}(h:Q arr[i] st):wpS (model prog w) A E s (elem' arr i) Q st:=by
 rw[elem'_eq,getElem?_pos arr i hi]
 exact wpS_pure h
theorem xg (C:Cmp prog w A s it κ){st:SortSt}(hk:kindOf st=κ){left:Bool}{key:Keyed}{arr:Array Keyed}{base i:Nat}(hkey:key∈it) (harr:∀ x∈arr,x∈it) (hi:base+i<arr.size)
  {Q:Option Bool→SortSt→Prop}(h:∀ b,Q (some b) st):wpS (model prog w) A E s (Xq left key arr base i) Q st:=by
 unfold Xq
 refine wpS_bind (t_elem hi ?_)
 have hx:arr[base+i]∈it:=harr _ (Array.getElem_mem hi)
 cases left with
 |true=>exact zaD C hk hx hkey h
 |false =>
  refine wpS_bind (zaD C hk hkey hx fun b=>?_)
  exact wpS_pure (h (!b))
theorem yM (C:Cmp prog w A s it κ){st:SortSt}(hk:kindOf st=κ){left:Bool}{key:Keyed}{arr:Array Keyed}{base n hint:Nat}(hkey:key∈it) (harr:∀ x∈arr,x∈it) (hb:base+n≤arr.size) (hh:hint<n)
  {Q:Option Nat→SortSt→Prop}(h:∀ k,k≤n→Q (some k) st):wpS (model prog w) A E s (zak left key arr base n hint) Q st:=by
 refine wpS_bind (xg C hk hkey harr (by omega) fun rt=>?_)
 cases rt with
 |true =>
  simp only[if_true]
  refine wpS_bind (wpS_mono (wpS_forRange (I:=fun _ c st'=>st'=st∧∃ a b,c=(none,a,b)) (Q:=fun c st'=>st'=st∧∃ a b,c=(none,a,b)) ?_ ?_ ⟨rfl,_,_,rfl⟩) ?_)
  ·rintro i c st' _ hi ⟨rfl,a,b,rfl⟩
   dsimp only
   by_cases q:b≥n-hint
   ·rw[if_pos q]
    exact wpS_pure ⟨rfl,_,_,rfl⟩
   ·rw[if_neg q]
    refine wpS_bind (xg C hk hkey harr (by omega) fun mo=>?_)
    cases mo with
    |true=>exact wpS_pure ⟨rfl,_,_,rfl⟩
    |false=>exact wpS_pure ⟨rfl,_,_,rfl⟩
  ·exact fun c st' h=>h
  ·rintro c st' ⟨rfl,a,b,rfl⟩
   dsimp only
   refine wpS_bind (wpS_mono (wpS_forRange (I:=fun _ c st''=>st''=st'∧∃ a b,c=(none,a,b)∧b≤n) (Q:=fun c st''=>st''=st'∧∃ a b,c=(none,a,b)∧b≤n) ?_ ?_ ⟨rfl,_,_,rfl,by omega⟩) ?_)
   ·rintro i c st'' _ _ ⟨rfl,a,b,rfl,ha⟩
    dsimp only
    by_cases q:a≥b
    ·rw[if_pos q]
     exact wpS_pure ⟨rfl,a,b,rfl,ha⟩
    ·rw[if_neg q]
     refine wpS_bind (xg C hk hkey harr (by omega) fun mo=>?_)
     cases mo with
     |true=>exact wpS_pure ⟨rfl,_,_,rfl,ha⟩
     |false=>exact wpS_pure ⟨rfl,_,_,rfl,by omega⟩
   ·exact fun c st'' h=>h
   ·rintro c st'' ⟨rfl,a,b,rfl,ha⟩
    exact wpS_pure (h b ha)
 |false =>
  simp only[Bool.false_eq_true,if_false]
  refine wpS_bind (wpS_mono (wpS_forRange (I:=fun _ c st'=>st'=st∧∃ a b,c=(none,a,b)) (Q:=fun c st'=>st'=st∧∃ a b,c=(none,a,b)) ?_ ?_ ⟨rfl,_,_,rfl⟩) ?_)
  ·rintro i c st' _ hi ⟨rfl,a,b,rfl⟩
   dsimp only
   by_cases q:b≥hint+1
   ·rw[if_pos q]
    exact wpS_pure ⟨rfl,_,_,rfl⟩
   ·rw[if_neg q]
    refine wpS_bind (xg C hk hkey harr (by omega) fun mo=>?_)
    cases mo with
    |true=>exact wpS_pure ⟨rfl,_,_,rfl⟩
    |false=>exact wpS_pure ⟨rfl,_,_,rfl⟩
  ·exact fun c st' h=>h
  ·rintro c st' ⟨rfl,a,b,rfl⟩
   dsimp only
   refine wpS_bind (wpS_mono (wpS_forRange (I:=fun _ c st''=>st''=st'∧∃ a b,c=(none,a,b)∧b≤n) (Q:=fun c st''=>st''=st'∧∃ a b,c=(none,a,b)∧b≤n) ?_ ?_ ⟨rfl,_,_,rfl,by omega⟩) ?_)
   ·rintro i c st'' _ _ ⟨rfl,a,b,rfl,ha⟩
    dsimp only
    by_cases q:a≥b
    ·rw[if_pos q]
     exact wpS_pure ⟨rfl,a,b,rfl,ha⟩
    ·rw[if_neg q]
     refine wpS_bind (xg C hk hkey harr (by omega) fun mo=>?_)
     cases mo with
     |true=>exact wpS_pure ⟨rfl,_,_,rfl,ha⟩
     |false=>exact wpS_pure ⟨rfl,_,_,rfl,by omega⟩
   ·exact fun c st'' h=>h
   ·rintro c st'' ⟨rfl,a,b,rfl,ha⟩
    exact wpS_pure (h b ha)
structure Eqv (st st':SortSt):Prop where
 k:kindOf st'=kindOf st
 a:arrOf st'=arrOf st
 p:pendingOf st'=pendingOf st
 f:failedOf st'=failedOf st
theorem Eqv.refl (st:SortSt):Eqv st st:=⟨rfl,rfl,rfl,rfl⟩
theorem t_setMin {st st':SortSt}(e:Eqv st st'){g:Nat}{Q:Unit→SortSt→Prop}(h:∀ st'',Eqv st st''→Q () st''):wpS (model prog w) A E s (Vq g) Q st':=wpS_modify (h _ ⟨e.k,e.a,e.p,e.f⟩)
def In (it:List Keyed) (o:Array Keyed):Prop:=∀ x∈o,x∈it
theorem In.push {o:Array Keyed}{x:Keyed}(h:In it o) (hx:x∈it):In it (o.push x):=fun y hy=>by
 rcases Array.mem_push.mp hy with q | q
 ·exact h y q
 ·rw[q];exact hx
theorem In.app {o p:Array Keyed}(h:In it o) (k:In it p):In it (o++p):=fun y hy=>by
 rcases Array.mem_append.mp hy with q | q
 ·exact h y q
 ·exact k y q
theorem In.ext {o:Array Keyed}{i j:Nat}(h:In it o):In it (o.extract i j):=fun y hy=>by
 have hy:y∈(o.extract i j).toList:=Array.mem_def.mp hy
 rw[Array.toList_extract,List.extract_eq_drop_take] at hy
 exact h y (Array.mem_def.mpr (List.mem_of_mem_drop (List.mem_of_mem_take hy)))
theorem In.rev {o:Array Keyed}(h:In it o):In it o.reverse:=fun y hy=>h y (Array.mem_reverse.mp hy)
theorem In.at {o:Array Keyed}{i:Nat}(h:In it o) (hi:i<o.size):o[i]∈it:=h _ (Array.getElem_mem hi)
theorem In.one {x:Keyed}(h:x∈it):In it #[x]:=fun y hy=>by
 simp at hy
 rw[hy];exact h
theorem jn1 {α:Type}{P G:α→Prop}(J:∀ m,P m) (k:(∀ m,P m)→∀ m,G m):∀ m,G m:=k J
theorem jn2 {α β:Type}{H K G:α→β→Prop}(h:∃ P:α→β→Prop,(∀ m n,H m n→P m n)∧((∀ m n,H m n→P m n)→∀ m n,K m n→G m n)):∀ m n,K m n→G m n:=by
 obtain⟨P,J,k⟩:=h
 exact k J
noncomputable def LoP (it:List Keyed) (a b:Array Keyed) (m:Nat) (r:Option (Array Keyed)) (o:Array Keyed) (x y:Nat):Prop :=
 match r with
 |some o=>In it o
 |none=>In it o∧x+1<a.size∧y<b.size∧m≤x+y
theorem Zq (C:Cmp prog w A s it κ){st:SortSt}(hk:kindOf st=κ){a b:Array Keyed}(ha:In it a) (hb:In it b) (za:1≤a.size) (zb:1≤b.size)
  {Q:Array Keyed→SortSt→Prop}(h:∀ o st',In it o→Eqv st st'→Q o st'):wpS (model prog w) A E s (Wk a b) Q st:=by
 refine wpS_bind (wpS_lift (wpAny_rule ⟨rfl,?_⟩))
 refine wpS_bind (t_elem (by omega) ?_)
 have b0:=In.one (hb.at (i:=0) (by omega))
 dsimp only
 by_cases q1:(1 == b.size)=true
 ·rw[if_pos q1]
  exact wpS_pure (h _ _ ((b0.app ha.ext).app hb.ext) (Eqv.refl st))
 rw[if_neg q1]
 by_cases q2:(0+1 == a.size)=true
 ·rw[if_pos q2]
  exact wpS_pure (h _ _ ((b0.app hb.ext).app ha.ext) (Eqv.refl st))
 rw[if_neg q2]
 have q1:1≠b.size:=fun z=>q1 (by simp[z])
 have q2:1≠a.size:=fun z=>q2 (by simp[z])
 refine wpS_bind (wpS_get ?_)
 refine wpS_bind (wpS_mono (wpS_forRange (I:=fun i c st'=>Eqv st st'∧∃ o x y mg,c=(none,o,x,y,mg)∧In it o∧x+1<a.size∧y<b.size∧i≤x+y) (Q:=fun c st'=>Eqv st st'∧∃ r o x y mg,c=(some r,o,x,y,mg)∧In it r) ?_ ?_ ⟨Eqv.refl st,_,_,_,_,rfl,b0,by omega,by omega,by omega⟩) ?_)
 ·rintro i c st1 _ hi ⟨ev,o,x,y,mg,rfl,ho,hx,hy,hm⟩
  dsimp only
  refine wpS_bind (wpS_mono (wpS_forRange (I:=fun j c st'=>Eqv st st'∧∃ o x y ca cb,c=(none,o,x,y,ca,cb)∧In it o∧x+1<a.size∧y<b.size∧i+j≤x+y) (Q:=fun c st'=>Eqv st st'∧∃ r o x y ca cb,c=(r,o,x,y,ca,cb)∧LoP it a b (i+1) r o x y) ?_ ?_ ⟨ev,_,_,_,_,_,rfl,ho,hx,hy,hm⟩) ?_)
  ·rintro j c st2 _ hj ⟨ev,o,x,y,ca,cb,rfl,ho,hx,hy,hm⟩
   dsimp only
   have hx0:=ha.at (i:=x) (by omega)
   have hy0:=hb.at hy
   refine wpS_bind (t_elem hy (wpS_bind (t_elem (by omega) (wpS_bind (zaD C (ev.k.trans hk) hy0 hx0 fun bw=>?_)))))
   cases bw with
   |true =>
    simp only[if_true]
    refine wpS_bind (t_elem hy ?_)
    have ho':=ho.push hy0
    by_cases q3:(y+1 == b.size)=true
    ·rw[if_pos q3]
     exact wpS_pure ⟨ev,_,_,_,_,_,_,rfl,(ho'.app ha.ext).app hb.ext⟩
    ·rw[if_neg q3]
     have q3:y+1≠b.size:=fun z=>q3 (by simp[z])
     by_cases q4:cb+1≥mg
     ·rw[if_pos q4]
      exact wpS_pure ⟨ev,_,_,_,_,_,_,rfl,ho',hx,by omega,by omega⟩
     ·rw[if_neg q4]
      exact wpS_pure ⟨ev,_,_,_,_,_,rfl,ho',hx,by omega,by omega⟩
   |false =>
    simp only[Bool.false_eq_true,if_false]
    refine wpS_bind (t_elem (by omega) ?_)
    have ho':=ho.push hx0
    by_cases q3:(x+1+1 == a.size)=true
    ·rw[if_pos q3]
     exact wpS_pure ⟨ev,_,_,_,_,_,_,rfl,(ho'.app hb.ext).app ha.ext⟩
    ·rw[if_neg q3]
     have q3:x+1+1≠a.size:=fun z=>q3 (by simp[z])
     by_cases q4:ca+1≥mg
     ·rw[if_pos q4]
      exact wpS_pure ⟨ev,_,_,_,_,_,_,rfl,ho',by omega,hy,by omega⟩
     ·rw[if_neg q4]
      exact wpS_pure ⟨ev,_,_,_,_,_,rfl,ho',by omega,hy,by omega⟩
  ·rintro c st2 ⟨ev,o,x,y,ca,cb,rfl,ho,hx,hy,hm⟩
   exact⟨ev,_,_,_,_,_,_,rfl,ho,hx,hy,by omega⟩
  ·rintro c st2 ⟨ev,r,o,x,y,ca,cb,rfl,hp⟩
   dsimp only
   cases r with
   |some r=>exact wpS_pure ⟨ev,_,_,_,_,_,rfl,hp⟩
   |none =>
    obtain⟨ho,hx,hy,hm⟩:=hp
    refine wpS_bind (wpS_lift (wpAny_rule ⟨rfl,?_⟩))
    refine wpS_bind (wpS_mono (wpS_forRange (I:=fun _ c st'=>Eqv st st'∧∃ o x y mg ca cb,c=(none,o,x,y,mg,ca,cb)∧In it o∧x+1<a.size∧y<b.size∧i+1≤x+y) (Q:=fun c st'=>Eqv st st'∧∃ r o x y mg ca cb,c=(r,o,x,y,mg,ca,cb)∧LoP it a b (i+1) r o x y) ?_ ?_ ⟨ev,_,_,_,_,_,_,rfl,ho,hx,hy,hm⟩) ?_)
    ·rintro j c st3 _ hj ⟨ev,o,x,y,mg,ca,cb,rfl,ho,hx,hy,hm⟩
     dsimp only
     revert mg
     apply jn1
     case k =>
      intro J mg
      by_cases qm:¬ mg>1
      ·rw[if_neg qm]
       exact J mg
      ·rw[if_pos (Decidable.not_not.mp qm)]
       exact J (mg-1)
     case J =>
      intro mg
      refine wpS_bind (t_setMin ev fun st4 ev4=>?_)
      refine wpS_bind (t_elem hy ?_)
      refine wpS_bind (yM C (ev4.k.trans hk) (hb.at hy) ha (by omega) (by omega) fun k hk1=>?_)
      dsimp only
      have HH:=And.intro ho (And.intro hx (And.intro hm hk1))
      clear ho hx hm hk1
      revert HH
      revert o x
      refine jn2 (H:=fun o x=>In it o∧x+1<a.size∧i+1≤x+y) ?_
      apply Exists.intro
      apply And.intro
      case right =>
       intro J o x ⟨ho,hx,hm,hk1⟩
       by_cases qk:¬ k>0
       ·rw[if_neg qk]
        exact J o x ⟨ho,hx,hm⟩
       rw[if_pos (Decidable.not_not.mp qk)]
       have ho1:=ho.app (ha.ext (i:=x) (j:=x+k))
       by_cases qa:(x+k+1 == a.size)=true
       ·rw[if_pos qa]
        exact wpS_pure ⟨ev4,_,_,_,_,_,_,_,rfl,(ho1.app hb.ext).app ha.ext⟩
       rw[if_neg qa]
       have qa:x+k+1≠a.size:=fun z=>qa (by simp[z])
       by_cases qb:(x+k == a.size)=true
       ·rw[if_pos qb]
        exact wpS_pure ⟨ev4,_,_,_,_,_,_,_,rfl,(ho1.app ha.ext).app hb.ext⟩
       rw[if_neg qb]
       have qb:x+k≠a.size:=fun z=>qb (by simp[z])
       exact J _ _ ⟨ho1,by omega,by omega⟩
      case left =>
       intro o x ⟨ho,hx,hm⟩
       refine wpS_bind (t_elem hy ?_)
       have ho2:=ho.push (hb.at hy)
       by_cases qc:(y+1 == b.size)=true
       ·rw[if_pos qc]
        exact wpS_pure ⟨ev4,_,_,_,_,_,_,_,rfl,(ho2.app ha.ext).app hb.ext⟩
       rw[if_neg qc]
       have qc:y+1≠b.size:=fun z=>qc (by simp[z])
       refine wpS_bind (t_elem (by omega) ?_)
       refine wpS_bind (yM C (ev4.k.trans hk) (ha.at (i:=x) (by omega)) hb (by omega) (by omega) fun k2 hk2=>?_)
       dsimp only
       have hy1:y+1<b.size:=by omega
       have hm1:i+1≤x+(y+1):=by omega
       generalize o.push b[y]=o2 at ho2 ⊢
       generalize y+1=y1 at hy1 hm1 hk2 ⊢
       have HH:=And.intro ho2 (And.intro hy1 (And.intro hm1 hk2))
       clear ho2 hy1 hm1 hk2
       revert HH
       revert o2 y1
       refine jn2 (H:=fun o y=>In it o∧y<b.size∧i+1≤x+y) ?_
       apply Exists.intro
       apply And.intro
       case right =>
        intro J o2 y1 ⟨ho2,hy1,hm1,hk2⟩
        by_cases qk2:¬ k2>0
        ·rw[if_neg qk2]
         exact J o2 y1 ⟨ho2,hy1,hm1⟩
        rw[if_pos (Decidable.not_not.mp qk2)]
        have ho3:=ho2.app (hb.ext (i:=y1) (j:=y1+k2))
        by_cases qd:(y1+k2 == b.size)=true
        ·rw[if_pos qd]
         exact wpS_pure ⟨ev4,_,_,_,_,_,_,_,rfl,(ho3.app ha.ext).app hb.ext⟩
        rw[if_neg qd]
        have qd:y1+k2≠b.size:=fun z=>qd (by simp[z])
        exact J _ _ ⟨ho3,by omega,by omega⟩
       case left =>
        intro o y ⟨ho,hy,hm⟩
        refine wpS_bind (t_elem (by omega) ?_)
        have ho4:=ho.push (ha.at (i:=x) (by omega))
        by_cases qe:(x+1+1 == a.size)=true
        ·rw[if_pos qe]
         exact wpS_pure ⟨ev4,_,_,_,_,_,_,_,rfl,(ho4.app hb.ext).app ha.ext⟩
        rw[if_neg qe]
        have qe:x+1+1≠a.size:=fun z=>qe (by simp[z])
        have H:In it (o.push a[x])∧x+1+1<a.size∧y<b.size∧i+1≤x+1+y:=⟨ho4,by omega,hy,by omega⟩
        split
        ·exact wpS_pure ⟨ev4,_,_,_,_,_,_,_,rfl,H⟩
        ·exact wpS_pure ⟨ev4,_,_,_,_,_,_,rfl,H⟩
    ·rintro c st3 ⟨ev,o,x,y,mg,ca,cb,rfl,ho,hx,hy,hm⟩
     exact⟨ev,_,_,_,_,_,_,_,rfl,ho,hx,hy,hm⟩
    ·rintro c st3 ⟨ev,r,o,x,y,mg,ca,cb,rfl,hp⟩
     dsimp only
     cases r with
     |some r=>exact wpS_pure ⟨ev,_,_,_,_,_,rfl,hp⟩
     |none =>
      obtain⟨ho,hx,hy,hm⟩:=hp
      refine wpS_bind (t_setMin ev fun st4 ev4=>?_)
      exact wpS_pure ⟨ev4,_,_,_,_,rfl,ho,hx,hy,hm⟩
 ·rintro c st1 ⟨ev,o,x,y,mg,rfl,ho,hx,hy,hm⟩
  omega
 ·rintro c st1 ⟨ev,r,o,x,y,mg,rfl,hr⟩
  exact wpS_pure (h r st1 hr ev)
noncomputable def HiP (it:List Keyed) (a b:Array Keyed) (m:Nat) (r:Option (Array Keyed)) (o:Array Keyed) (x y:Nat):Prop :=
 match r with
 |some o=>In it o
 |none=>In it o∧1≤x∧x<a.size∧2≤y∧y≤b.size∧m+x+y≤a.size+b.size
theorem Zr (C:Cmp prog w A s it κ){st:SortSt}(hk:kindOf st=κ){a b:Array Keyed}(ha:In it a) (hb:In it b) (za:1≤a.size) (zb:1≤b.size)
  {Q:Array Keyed→SortSt→Prop}(h:∀ o st',In it o→Eqv st st'→Q o st'):wpS (model prog w) A E s (Wm a b) Q st:=by
 refine wpS_bind (wpS_lift (wpAny_rule ⟨rfl,?_⟩))
 refine wpS_bind (t_elem (by omega) ?_)
 have b0:=In.one (ha.at (i:=a.size-1) (by omega))
 dsimp only
 by_cases q1:(a.size-1 == 0)=true
 ·rw[if_pos q1]
  exact wpS_pure (h _ _ ((ha.ext.app hb.ext).app b0.rev) (Eqv.refl st))
 rw[if_neg q1]
 by_cases q2:(b.size == 1)=true
 ·rw[if_pos q2]
  exact wpS_pure (h _ _ ((hb.ext.app ha.ext).app b0.rev) (Eqv.refl st))
 rw[if_neg q2]
 have q1:a.size-1≠0:=fun z=>q1 (by simp[z])
 have q2:b.size≠1:=fun z=>q2 (by simp[z])
 refine wpS_bind (wpS_get ?_)
 refine wpS_bind (wpS_mono (wpS_forRange (I:=fun i c st'=>Eqv st st'∧∃ x y o mg,c=(none,x,y,o,mg)∧In it o∧1≤x∧x<a.size∧2≤y∧y≤b.size∧i+x+y≤a.size+b.size) (Q:=fun c st'=>Eqv st st'∧∃ r x y o mg,c=(some r,x,y,o,mg)∧In it r) ?_ ?_ ⟨Eqv.refl st,_,_,_,_,rfl,b0,by omega,by omega,by omega,by omega,by omega⟩) ?_)
 ·rintro i c st1 _ hi ⟨ev,x,y,o,mg,rfl,ho,hx,hx2,hy,hy2,hm⟩
  dsimp only
  refine wpS_bind (wpS_mono (wpS_forRange (I:=fun j c st'=>Eqv st st'∧∃ x y o ca cb,c=(none,x,y,o,ca,cb)∧In it o∧1≤x∧x<a.size∧2≤y∧y≤b.size∧i+j+x+y≤a.size+b.size) (Q:=fun c st'=>Eqv st st'∧∃ r x y o ca cb,c=(r,x,y,o,ca,cb)∧HiP it a b (i+1) r o x y) ?_ ?_ ⟨ev,_,_,_,_,_,rfl,ho,hx,hx2,hy,hy2,hm⟩) ?_)
  ·rintro j c st2 _ hj ⟨ev,x,y,o,ca,cb,rfl,ho,hx,hx2,hy,hy2,hm⟩
   dsimp only
   have hx0:=ha.at (i:=x-1) (by omega)
   have hy0:=hb.at (i:=y-1) (by omega)
   refine wpS_bind (t_elem (by omega) (wpS_bind (t_elem (by omega) (wpS_bind (zaD C (ev.k.trans hk) hy0 hx0 fun bw=>?_)))))
   cases bw with
   |true =>
    simp only[if_true]
    refine wpS_bind (t_elem (by omega) ?_)
    have ho':=ho.push hx0
    by_cases q3:(x-1 == 0)=true
    ·rw[if_pos q3]
     exact wpS_pure ⟨ev,_,_,_,_,_,_,rfl,(ha.ext.app hb.ext).app ho'.rev⟩
    ·rw[if_neg q3]
     have q3:x-1≠0:=fun z=>q3 (by simp[z])
     by_cases q4:ca+1≥mg
     ·rw[if_pos q4]
      exact wpS_pure ⟨ev,_,_,_,_,_,_,rfl,ho',by omega,by omega,by omega,by omega,by omega⟩
     ·rw[if_neg q4]
      exact wpS_pure ⟨ev,_,_,_,_,_,rfl,ho',by omega,by omega,by omega,by omega,by omega⟩
   |false =>
    simp only[Bool.false_eq_true,if_false]
    refine wpS_bind (t_elem (by omega) ?_)
    have ho':=ho.push hy0
    by_cases q3:(y-1 == 1)=true
    ·rw[if_pos q3]
     exact wpS_pure ⟨ev,_,_,_,_,_,_,rfl,(hb.ext.app ha.ext).app ho'.rev⟩
    ·rw[if_neg q3]
     have q3:y-1≠1:=fun z=>q3 (by simp[z])
     by_cases q4:cb+1≥mg
     ·rw[if_pos q4]
      exact wpS_pure ⟨ev,_,_,_,_,_,_,rfl,ho',by omega,by omega,by omega,by omega,by omega⟩
     ·rw[if_neg q4]
      exact wpS_pure ⟨ev,_,_,_,_,_,rfl,ho',by omega,by omega,by omega,by omega,by omega⟩
  ·rintro c st2 ⟨ev,x,y,o,ca,cb,rfl,ho,hx,hx2,hy,hy2,hm⟩
   exact⟨ev,_,_,_,_,_,_,rfl,ho,hx,hx2,hy,hy2,by omega⟩
  ·rintro c st2 ⟨ev,r,x,y,o,ca,cb,rfl,hp⟩
   dsimp only
   cases r with
   |some r=>exact wpS_pure ⟨ev,_,_,_,_,_,rfl,hp⟩
   |none =>
    obtain⟨ho,hx,hx2,hy,hy2,hm⟩:=hp
    refine wpS_bind (wpS_lift (wpAny_rule ⟨rfl,?_⟩))
    refine wpS_bind (wpS_mono (wpS_forRange (I:=fun _ c st'=>Eqv st st'∧∃ x y o mg ca cb,c=(none,x,y,o,mg,ca,cb)∧In it o∧1≤x∧x<a.size∧2≤y∧y≤b.size∧i+1+x+y≤a.size+b.size) (Q:=fun c st'=>Eqv st st'∧∃ r x y o mg ca cb,c=(r,x,y,o,mg,ca,cb)∧HiP it a b (i+1) r o x y) ?_ ?_ ⟨ev,_,_,_,_,_,_,rfl,ho,hx,hx2,hy,hy2,hm⟩) ?_)
    ·rintro j c st3 _ hj ⟨ev,x,y,o,mg,ca,cb,rfl,ho,hx,hx2,hy,hy2,hm⟩
     dsimp only
     revert mg
     apply jn1
     case k =>
      intro J mg
      by_cases qm:¬ mg>1
      ·rw[if_neg qm]
       exact J mg
      ·rw[if_pos (Decidable.not_not.mp qm)]
       exact J (mg-1)
     case J =>
      intro mg
      refine wpS_bind (t_setMin ev fun st4 ev4=>?_)
      refine wpS_bind (t_elem (by omega) ?_)
      refine wpS_bind (yM C (ev4.k.trans hk) (hb.at (i:=y-1) (by omega)) ha (by omega) (by omega) fun k hk1=>?_)
      dsimp only
      generalize hn1:x-k=n1
      have HH:=And.intro ho (And.intro hx (And.intro hx2 (And.intro hm (And.intro hk1 hn1))))
      clear ho hx hx2 hm hk1 hn1
      revert HH
      revert o x
      refine jn2 (H:=fun x o=>In it o∧1≤x∧x<a.size∧i+1+x+y≤a.size+b.size) ?_
      apply Exists.intro
      apply And.intro
      case right =>
       intro J x o ⟨ho,hx,hx2,hm,hk1,hn1⟩
       by_cases qk:¬ n1>0
       ·rw[if_neg qk]
        exact J x o ⟨ho,hx,hx2,hm⟩
       rw[if_pos (Decidable.not_not.mp qk)]
       have ho1:=ho.app (ha.ext (i:=k) (j:=x)).rev
       by_cases qa:(k == 0)=true
       ·rw[if_pos qa]
        exact wpS_pure ⟨ev4,_,_,_,_,_,_,_,rfl,(ha.ext.app hb.ext).app ho1.rev⟩
       rw[if_neg qa]
       have qa:k≠0:=fun z=>qa (by simp[z])
       exact J k _ ⟨ho1,by omega,by omega,by omega⟩
      case left =>
       intro x o ⟨ho,hx,hx2,hm⟩
       refine wpS_bind (t_elem (by omega) ?_)
       have ho2:=ho.push (hb.at (i:=y-1) (by omega))
       by_cases qc:(y-1 == 1)=true
       ·rw[if_pos qc]
        exact wpS_pure ⟨ev4,_,_,_,_,_,_,_,rfl,(hb.ext.app ha.ext).app ho2.rev⟩
       rw[if_neg qc]
       have qc:y-1≠1:=fun z=>qc (by simp[z])
       refine wpS_bind (t_elem (by omega) ?_)
       refine wpS_bind (yM C (ev4.k.trans hk) (ha.at (i:=x-1) (by omega)) hb (by omega) (by omega) fun k2 hk2=>?_)
       dsimp only
       have hy1:2≤y-1∧y-1≤b.size∧i+1+x+(y-1)≤a.size+b.size:=⟨by omega,by omega,by omega⟩
       generalize o.push (b[y-1]'(by omega))=o2 at ho2 ⊢
       generalize y-1=y1 at hy1 hk2 ⊢
       generalize hn2:y1-k2=n2
       have HH:=And.intro ho2 (And.intro hy1 (And.intro hk2 hn2))
       clear ho2 hy1 hk2 hn2
       revert HH
       revert o2 y1
       refine jn2 (H:=fun o y=>In it o∧2≤y∧y≤b.size∧i+1+x+y≤a.size+b.size) ?_
       apply Exists.intro
       apply And.intro
       case right =>
        intro J o2 y1 ⟨ho2,hy1,hk2,hn2⟩
        by_cases qk2:¬ n2>0
        ·rw[if_neg qk2]
         exact J o2 y1 ⟨ho2,hy1⟩
        rw[if_pos (Decidable.not_not.mp qk2)]
        have ho3:=ho2.app (hb.ext (i:=k2) (j:=y1)).rev
        by_cases qd:(k2 == 1)=true
        ·rw[if_pos qd]
         exact wpS_pure ⟨ev4,_,_,_,_,_,_,_,rfl,(hb.ext.app ha.ext).app ho3.rev⟩
        rw[if_neg qd]
        have qd:k2≠1:=fun z=>qd (by simp[z])
        by_cases qd2:(k2 == 0)=true
        ·rw[if_pos qd2]
         exact wpS_pure ⟨ev4,_,_,_,_,_,_,_,rfl,(ha.ext.app hb.ext).app ho3.rev⟩
        rw[if_neg qd2]
        have qd2:k2≠0:=fun z=>qd2 (by simp[z])
        exact J _ k2 ⟨ho3,by omega,by omega,by omega⟩
       case left =>
        intro o y ⟨ho,hy,hy2,hm⟩
        refine wpS_bind (t_elem (by omega) ?_)
        have ho4:=ho.push (ha.at (i:=x-1) (by omega))
        by_cases qe:(x-1 == 0)=true
        ·rw[if_pos qe]
         exact wpS_pure ⟨ev4,_,_,_,_,_,_,_,rfl,(ha.ext.app hb.ext).app ho4.rev⟩
        rw[if_neg qe]
        have qe:x-1≠0:=fun z=>qe (by simp[z])
        have H:In it (o.push (a[x-1]'(by omega)))∧1≤x-1∧x-1<a.size∧2≤y∧y≤b.size∧i+1+(x-1)+y≤a.size+b.size:=⟨ho4,by omega,by omega,hy,hy2,by omega⟩
        split
        ·exact wpS_pure ⟨ev4,_,_,_,_,_,_,_,rfl,H⟩
        ·exact wpS_pure ⟨ev4,_,_,_,_,_,_,rfl,H⟩
    ·rintro c st3 ⟨ev,x,y,o,mg,ca,cb,rfl,ho,hx,hx2,hy,hy2,hm⟩
     exact⟨ev,_,_,_,_,_,_,_,rfl,ho,hx,hx2,hy,hy2,hm⟩
    ·rintro c st3 ⟨ev,r,x,y,o,mg,ca,cb,rfl,hp⟩
     dsimp only
     cases r with
     |some r=>exact wpS_pure ⟨ev,_,_,_,_,_,rfl,hp⟩
     |none =>
      obtain⟨ho,hx,hx2,hy,hy2,hm⟩:=hp
      refine wpS_bind (t_setMin ev fun st4 ev4=>?_)
      exact wpS_pure ⟨ev4,_,_,_,_,rfl,ho,hx,hx2,hy,hy2,hm⟩
 ·rintro c st1 ⟨ev,x,y,o,mg,rfl,ho,hx,hx2,hy,hy2,hm⟩
  omega
 ·rintro c st1 ⟨ev,r,x,y,o,mg,rfl,hr⟩
  exact wpS_pure (h r st1 hr ev)
end
end Srt
end L2

namespace L2
namespace Srt
open PySem PyProof.Rows
section
variable {prog:Program}{w:World}{A:Around}{E:Value→Shared→Prop}{s:Shared}{it:List Keyed}{κ:SortKind}{n:Nat}
structure TB (it:List Keyed) (κ:SortKind) (n:Nat) (st:SortSt):Prop where
 z:(arrOf st).size=n
 i:In it (arrOf st)
 k:kindOf st=κ
 f:failedOf st=none
theorem TB.perm {st:SortSt}(t:TB it κ n st){xs:Array Keyed}(p:xs.Perm (arrOf st)):TB it κ n (setArr st xs) :=
 ⟨p.size_eq.trans t.z,fun x hx=>t.i x (Array.mem_def.mpr ((Array.perm_iff_toList_perm.mp p).mem_iff.mp (Array.mem_def.mp hx))),t.k,t.f⟩
theorem t_ltAt (C:Cmp prog w A s it κ){st:SortSt}(t:TB it κ n st){i j:Nat}(hi:i<n) (hj:j<n){Q:Option Bool→SortSt→Prop}(h:∀ b,Q (some b) st):wpS (model prog w) A E s (ltAt' i j) Q st:=by
 rw[ltAt'_eq]
 refine wpS_bind (wpS_get ?_)
 have hi:i<(arrOf st).size:=by rw[t.z];exact hi
 have hj:j<(arrOf st).size:=by rw[t.z];exact hj
 exact wpS_bind (t_elem hi (wpS_bind (t_elem hj (zaD C t.k (t.i.at hi) (t.i.at hj) h))))
def Ord (it:List Keyed) (κ:SortKind) (n:Nat) (p:Array (Nat×Nat×Nat)) (st:SortSt):Prop:=TB it κ n st∧pendingOf st=p
theorem wy {p:Array (Nat×Nat×Nat)}{st:SortSt}(o:Ord it κ n p st){i j:Nat}{Q:Unit→SortSt→Prop}(h:∀ st',Ord it κ n p st'→Q () st'):wpS (model prog w) A E s (reverseSlice' i j) Q st:=by
 rw[reverseSlice'_eq]
 exact wpS_modify (h _ ⟨o.1.perm (mirror_perm _ _ _ _),o.2⟩)
theorem t_move {p:Array (Nat×Nat×Nat)}{st:SortSt}(o:Ord it κ n p st){i j:Nat}{Q:Unit→SortSt→Prop}(h:∀ st',Ord it κ n p st'→Q () st'):wpS (model prog w) A E s (moveDown' i j) Q st:=by
 rw[moveDown'_eq]
 exact wpS_modify (h _ ⟨o.1.perm (bubble_perm _ _ _),o.2⟩)
theorem zlw (C:Cmp prog w A s it κ){p:Array (Nat×Nat×Nat)}{st:SortSt}(o:Ord it κ n p st){lo m ok:Nat}(hm:lo+m≤n){Q:Bool→SortSt→Prop}(h:∀ st',Ord it κ n p st'→Q true st'):wpS (model prog w) A E s (binarySort' lo m ok) Q st:=by
 rw[binarySort'_eq]
 refine wpS_bind (wpS_mono (wpS_forRange (I:=fun k c st'=>c=(none,())∧Ord it κ n p st') (Q:=fun c st'=>c=(none,())∧Ord it κ n p st') ?_ ?_ ⟨rfl,o⟩) ?_)
 ·rintro k c st1 hk1 hk ⟨rfl,o1⟩
  dsimp only
  refine wpS_bind (wpS_mono (wpS_forRange (I:=fun _ c st'=>st'=st1∧∃ l r,c=(none,l,r)∧r≤k) (Q:=fun c st'=>st'=st1∧∃ l r,c=(none,l,r)∧r≤k) ?_ ?_ ⟨rfl,_,_,rfl,Nat.le_refl _⟩) ?_)
  ·rintro j c st2 _ hj ⟨rfl,l,r,rfl,hr⟩
   dsimp only
   by_cases q:l≥r
   ·rw[if_pos q]
    exact wpS_pure ⟨rfl,_,_,rfl,hr⟩
   ·rw[if_neg q]
    refine wpS_bind (t_ltAt C o1.1 (by omega) (by omega) fun b=>?_)
    cases b with
    |true=>exact wpS_pure ⟨rfl,_,_,rfl,by omega⟩
    |false=>exact wpS_pure ⟨rfl,_,_,rfl,hr⟩
  ·exact fun c st' h=>h
  ·rintro c st2 ⟨rfl,l,r,rfl,hr⟩
   dsimp only
   exact wpS_bind (t_move o1 fun st3 o3=>wpS_pure ⟨rfl,o3⟩)
 ·exact fun c st' h=>h
 ·rintro c st1 ⟨rfl,o1⟩
  exact wpS_pure (h st1 o1)
theorem Vi (C:Cmp prog w A s it κ){p:Array (Nat×Nat×Nat)}{st:SortSt}(o:Ord it κ n p st){lo m:Nat}(h1:1≤m) (hm:lo+m≤n){Q:Option Nat→SortSt→Prop}(h:∀ k st',1≤k→k≤m→Ord it κ n p st'→Q (some k) st'):wpS (model prog w) A E s (countRun' lo m) Q st:=by
 rw[countRun'_eq]
 refine wpS_bind (wpS_mono (wpS_forRange (I:=fun i c st'=>Ord it κ n p st'∧c=(none,i)) (Q:=fun c st'=>Ord it κ n p st'∧∃ k,c=(none,k)∧1≤k∧k≤m) ?_ ?_ ⟨o,rfl⟩) ?_)
 ·rintro i c st1 hi1 hi ⟨o1,rfl⟩
  dsimp only
  refine wpS_bind (t_ltAt C o1.1 (by omega) (by omega) fun b=>?_)
  cases b with
  |true=>exact wpS_pure ⟨o1,_,rfl,hi1,by omega⟩
  |false=>exact wpS_pure ⟨o1,rfl⟩
 ·rintro c st1 ⟨o1,rfl⟩
  exact⟨o1,_,rfl,by omega,by omega⟩
 ·rintro c st1 ⟨o1,k,rfl,k1,k2⟩
  dsimp only
  by_cases q:(k == m)=true
  ·rw[if_pos q]
   exact wpS_pure (h k st1 k1 k2 o1)
  rw[if_neg q]
  have q:k≠m:=fun z=>q (by simp[z])
  by_cases qk:k>1
  ·rw[if_pos qk]
   refine wpS_bind (t_ltAt C o1.1 (by omega) (by omega) fun b=>?_)
   cases b with
   |true=>exact wpS_pure (h k st1 k1 k2 o1)
   |false =>
    simp only[Bool.false_eq_true,if_false]
    refine wpS_bind (wy o1 fun st2 o2=>?_)
    refine wpS_bind (wpS_lift (wpAny_rule ⟨rfl,?_⟩))
    refine wpS_bind (wpS_mono (wpS_forRange (I:=fun i c st'=>Ord it κ n p st'∧∃ g,c=(none,i,g)) (Q:=fun c st'=>Ord it κ n p st'∧∃ j g,c=(none,j,g)∧k+1≤j∧j≤m) ?_ ?_ ⟨o2,_,rfl⟩) ?_)
    ·rintro i c st3 hi1 hi ⟨o3,g,rfl⟩
     dsimp only
     refine wpS_bind (t_ltAt C o3.1 (by omega) (by omega) fun b=>?_)
     cases b with
     |true =>
      simp only[if_true]
      by_cases qg:g>0
      ·rw[if_pos qg]
       exact wpS_bind (wy o3 fun st4 o4=>wpS_pure ⟨o4,_,rfl⟩)
      ·rw[if_neg qg]
       exact wpS_pure ⟨o3,_,rfl⟩
     |false =>
      simp only[Bool.false_eq_true,if_false]
      refine wpS_bind (t_ltAt C o3.1 (by omega) (by omega) fun b=>?_)
      cases b with
      |true=>exact wpS_pure ⟨o3,_,_,rfl,by omega,by omega⟩
      |false=>exact wpS_pure ⟨o3,_,rfl⟩
    ·rintro c st3 ⟨o3,g,rfl⟩
     exact⟨o3,_,_,rfl,by omega,by omega⟩
    ·rintro c st3 ⟨o3,j,g,rfl,j1,j2⟩
     dsimp only
     by_cases qg:g>0
     ·rw[if_pos qg]
      refine wpS_bind (wy o3 fun st4 o4=>?_)
      refine wpS_bind (wy o4 fun st8 o8=>?_)
      refine wpS_bind (wpS_mono (wpS_forRange (I:=fun i c st'=>Ord it κ n p st'∧c=(none,i)) (Q:=fun c st'=>Ord it κ n p st'∧∃ k,c=(none,k)∧1≤k∧k≤m) ?_ ?_ ⟨o8,rfl⟩) ?_)
      ·rintro i c st9 hi1 hi ⟨o9,rfl⟩
       dsimp only
       refine wpS_bind (t_ltAt C o9.1 (by omega) (by omega) fun b=>?_)
       cases b with
       |true=>exact wpS_pure ⟨o9,_,rfl,by omega,by omega⟩
       |false=>exact wpS_pure ⟨o9,rfl⟩
      ·rintro c st9 ⟨o9,rfl⟩
       exact⟨o9,_,rfl,by omega,by omega⟩
      ·rintro c st9 ⟨o9,kk,rfl,e1,e2⟩
       exact wpS_pure (h kk st9 e1 e2 o9)
     ·rw[if_neg qg]
      refine wpS_bind (wy o3 fun st8 o8=>?_)
      refine wpS_bind (wpS_mono (wpS_forRange (I:=fun i c st'=>Ord it κ n p st'∧c=(none,i)) (Q:=fun c st'=>Ord it κ n p st'∧∃ k,c=(none,k)∧1≤k∧k≤m) ?_ ?_ ⟨o8,rfl⟩) ?_)
      ·rintro i c st9 hi1 hi ⟨o9,rfl⟩
       dsimp only
       refine wpS_bind (t_ltAt C o9.1 (by omega) (by omega) fun b=>?_)
       cases b with
       |true=>exact wpS_pure ⟨o9,_,rfl,by omega,by omega⟩
       |false=>exact wpS_pure ⟨o9,rfl⟩
      ·rintro c st9 ⟨o9,rfl⟩
       exact⟨o9,_,rfl,by omega,by omega⟩
      ·rintro c st9 ⟨o9,kk,rfl,e1,e2⟩
       exact wpS_pure (h kk st9 e1 e2 o9)
  ·rw[if_neg qk]
   refine wpS_bind (wpS_lift (wpAny_rule ⟨rfl,?_⟩))
   refine wpS_bind (wpS_mono (wpS_forRange (I:=fun i c st'=>Ord it κ n p st'∧∃ g,c=(none,i,g)) (Q:=fun c st'=>Ord it κ n p st'∧∃ j g,c=(none,j,g)∧k+1≤j∧j≤m) ?_ ?_ ⟨o1,_,rfl⟩) ?_)
   ·rintro i c st3 hi1 hi ⟨o3,g,rfl⟩
    dsimp only
    refine wpS_bind (t_ltAt C o3.1 (by omega) (by omega) fun b=>?_)
    cases b with
    |true =>
     simp only[if_true]
     by_cases qg:g>0
     ·rw[if_pos qg]
      exact wpS_bind (wy o3 fun st4 o4=>wpS_pure ⟨o4,_,rfl⟩)
     ·rw[if_neg qg]
      exact wpS_pure ⟨o3,_,rfl⟩
    |false =>
     simp only[Bool.false_eq_true,if_false]
     refine wpS_bind (t_ltAt C o3.1 (by omega) (by omega) fun b=>?_)
     cases b with
     |true=>exact wpS_pure ⟨o3,_,_,rfl,by omega,by omega⟩
     |false=>exact wpS_pure ⟨o3,_,rfl⟩
   ·rintro c st3 ⟨o3,g,rfl⟩
    exact⟨o3,_,_,rfl,by omega,by omega⟩
   ·rintro c st3 ⟨o3,j,g,rfl,j1,j2⟩
    dsimp only
    by_cases qg:g>0
    ·rw[if_pos qg]
     refine wpS_bind (wy o3 fun st4 o4=>?_)
     refine wpS_bind (wy o4 fun st8 o8=>?_)
     refine wpS_bind (wpS_mono (wpS_forRange (I:=fun i c st'=>Ord it κ n p st'∧c=(none,i)) (Q:=fun c st'=>Ord it κ n p st'∧∃ k,c=(none,k)∧1≤k∧k≤m) ?_ ?_ ⟨o8,rfl⟩) ?_)
     ·rintro i c st9 hi1 hi ⟨o9,rfl⟩
      dsimp only
      refine wpS_bind (t_ltAt C o9.1 (by omega) (by omega) fun b=>?_)
      cases b with
      |true=>exact wpS_pure ⟨o9,_,rfl,by omega,by omega⟩
      |false=>exact wpS_pure ⟨o9,rfl⟩
     ·rintro c st9 ⟨o9,rfl⟩
      exact⟨o9,_,rfl,by omega,by omega⟩
     ·rintro c st9 ⟨o9,kk,rfl,e1,e2⟩
      exact wpS_pure (h kk st9 e1 e2 o9)
    ·rw[if_neg qg]
     refine wpS_bind (wy o3 fun st8 o8=>?_)
     refine wpS_bind (wpS_mono (wpS_forRange (I:=fun i c st'=>Ord it κ n p st'∧c=(none,i)) (Q:=fun c st'=>Ord it κ n p st'∧∃ k,c=(none,k)∧1≤k∧k≤m) ?_ ?_ ⟨o8,rfl⟩) ?_)
     ·rintro i c st9 hi1 hi ⟨o9,rfl⟩
      dsimp only
      refine wpS_bind (t_ltAt C o9.1 (by omega) (by omega) fun b=>?_)
      cases b with
      |true=>exact wpS_pure ⟨o9,_,rfl,by omega,by omega⟩
      |false=>exact wpS_pure ⟨o9,rfl⟩
     ·rintro c st9 ⟨o9,rfl⟩
      exact⟨o9,_,rfl,by omega,by omega⟩
     ·rintro c st9 ⟨o9,kk,rfl,e1,e2⟩
      exact wpS_pure (h kk st9 e1 e2 o9)
theorem vh:∀ (l:List (Keyed×Nat)) (b:Nat) (a:Array Keyed),(l.foldl (fun a (q,j)=>a.setIfInBounds (b+j) q) a).size=a.size
 |[],_,_=>rfl
 |(q,j)::l,b,a=>by rw[List.foldl_cons,vh l b];simp
theorem Yp:∀ (l:List (Keyed×Nat)) (b:Nat) (a:Array Keyed),In it a→(∀ q∈l,q.1∈it)→In it (l.foldl (fun a (q,j)=>a.setIfInBounds (b+j) q) a)
 |[],_,_,h,_=>h
 |(q,j)::l,b,a,h,hl=>by
  rw[List.foldl_cons]
  refine Yp l b _ (fun x hx=>?_) fun r hr=>hl r (List.mem_cons_of_mem _ hr)
  rcases Array.mem_or_eq_of_mem_setIfInBounds hx with z | z
  ·exact h x z
  ·rw[z];exact hl (q,j) List.mem_cons_self
theorem zav {o:Array Keyed}(h:In it o):∀ q∈o.toList.zipIdx,q.1∈it:=fun q hq=>by
 obtain⟨x,i⟩:=q
 have:=(List.mem_zipIdx hq).2.2
 rw[this]
 exact h _ (Array.mem_def.mpr (List.getElem_mem _))
theorem zlv {x st:SortSt}{Q:PUnit→SortSt→Prop}(h:Q ⟨⟩ x):wpS (model prog w) A E s (set x:StateT SortSt Sem PUnit) Q st:=by
 unfold wpS
 rw[StateT.run_set]
 exact wpAny_pure ⟨rfl,h⟩
theorem Zs (C:Cmp prog w A s it κ){st:SortSt}(t:TB it κ n st){n1 p1 p2:Nat}(hp:pendingOf st = #[(0,n1,p1),(n1,n-n1,p2)]) (h1:1≤n1) (h2:n1<n){Q:Bool→SortSt→Prop}
  (h:∀ st',TB it κ n st'→pendingOf st' = #[(0,n,p1)]→Q true st'):wpS (model prog w) A E s (mergeAt' 0) Q st:=by
 refine wpS_bind (wpS_get ?_)
 have hq:=hp
 unfold pendingOf at hq
 rw[hq]
 have e0 : #[(0,n1,p1),(n1,n-n1,p2)][0]?=some (0,n1,p1):=rfl
 have e1 : #[(0,n1,p1),(n1,n-n1,p2)][0+1]?=some (n1,n-n1,p2):=rfl
 rw[e0,e1]
 dsimp only
 have ep:(#[(0,n1,p1),(n1,n-n1,p2)].setIfInBounds 0 (0,n1+(n-n1),p1)).eraseIdxIfInBounds (0+1) = #[(0,n,p1)]:=by
  rw[show n1+(n-n1)=n by omega]
  apply Array.toList_inj.mp
  simp[Array.setIfInBounds,Array.eraseIdxIfInBounds]
 rw[ep]
 refine wpS_bind (zlv ?_)
 have t2:TB it κ n (setPending st #[(0,n,p1)]):=⟨t.z,t.i,t.k,t.f⟩
 have hz:=t.z
 refine wpS_bind (t_elem (show n1<(arrOf st).size by omega) ?_)
 refine wpS_bind (yM C t2.k (t.i.at (i:=n1) (by omega)) t.i (by omega) (by omega) fun k hk1=>?_)
 dsimp only
 by_cases q1:(n1-k == 0)=true
 ·rw[if_pos q1]
  exact wpS_pure (h _ t2 rfl)
 rw[if_neg q1]
 have q1:n1-k≠0:=fun z=>q1 (by simp[z])
 refine wpS_bind (t_elem (show 0+k+(n1-k)-1<(arrOf st).size by omega) ?_)
 refine wpS_bind (yM C t2.k (t.i.at (i:=0+k+(n1-k)-1) (by omega)) t.i (by omega) (by omega) fun m hm1=>?_)
 dsimp only
 by_cases q2:(m == 0)=true
 ·rw[if_pos q2]
  exact wpS_pure (h _ t2 rfl)
 rw[if_neg q2]
 have q2:m≠0:=fun z=>q2 (by simp[z])
 have fin:∀ (o:Array Keyed) (st3:SortSt),In it o→Eqv (setPending st #[(0,n,p1)]) st3→wpS (model prog w) A E s (do
   modify fun u=>setArr u (o.toList.zipIdx.foldl (fun a (q,j)=>a.setIfInBounds (0+k+j) q) (arrOf u))
   return (failedOf (← get)).isNone) Q st3:=fun o st3 ho ev=>by
  refine wpS_bind (wpS_modify (wpS_bind (wpS_get ?_)))
  have hf:failedOf st3=none:=ev.f.trans t.f
  have e:(failedOf (setArr st3 (o.toList.zipIdx.foldl (fun a (q,j)=>a.setIfInBounds (0+k+j) q) (arrOf st3)))).isNone=true:=by
   show(failedOf st3).isNone=true
   rw[hf];rfl
  rw[e]
  refine wpS_pure (h _ ⟨?_,?_,ev.k.trans t.k,hf⟩ ev.p)
  ·exact(vh _ _ _).trans ((congrArg Array.size ev.a).trans hz)
  ·refine Yp _ _ _ ?_ (zav ho)
   rw[ev.a]
   exact t.i
 by_cases q3:n1-k≤m
 ·rw[if_pos q3]
  exact wpS_bind (Zq C t2.k t.i.ext t.i.ext (by simp;omega) (by simp;omega) fin)
 ·rw[if_neg q3]
  exact wpS_bind (Zr C t2.k t.i.ext t.i.ext (by simp;omega) (by simp;omega) fin)
theorem YY:∀ z,z≤66→2≤z→z≤2*minRun' z z 0∧minRun' z z 0≤z∧1≤minRun' z z 0:=by decide
theorem zaC (C:Cmp prog w A s it κ){st:SortSt}(t:TB it κ n st) (hp:pendingOf st = #[]) (h2:2≤n) (h66:n≤66){Q:Unit→SortSt→Prop}(h:∀ st',TB it κ n st'→Q () st'):wpS (model prog w) A E s sortRuns' Q st:=by
 obtain⟨r1,r2,r3⟩:=YY n h66 h2
 rw[sortRuns'_eq]
 refine wpS_bind (wpS_get ?_)
 rw[t.z]
 dsimp only
 refine wpS_bind (wpS_mono (wpS_forRange (I:=fun i c st'=>TB it κ n st'∧∃ lo,c=(none,lo)∧i≤lo∧((lo=0∧pendingOf st' = #[])∨(1≤lo∧lo≤n∧(lo=n∨minRun' n n 0≤lo)∧∃ p1,pendingOf st' = #[(0,lo,p1)])∨(lo=n∧∃ n1 p1 p2,1≤n1∧n1<n∧pendingOf st' = #[(0,n1,p1),(n1,n-n1,p2)])))
  (Q:=fun c st'=>TB it κ n st'∧∃ lo,c=(none,lo)∧((∃ p1,pendingOf st' = #[(0,n,p1)])∨∃ n1 p1 p2,1≤n1∧n1<n∧pendingOf st' = #[(0,n1,p1),(n1,n-n1,p2)])) ?_ ?_ ⟨t,0,rfl,Nat.le_refl _,.inl ⟨rfl,hp⟩⟩) ?_)
 ·rintro i c st1 _ hi ⟨t1,lo,rfl,hil,hc⟩
  dsimp only
  by_cases q1:lo≥n
  ·rw[if_pos q1]
   refine wpS_pure ⟨t1,lo,rfl,?_⟩
   rcases hc with⟨l0,_⟩ | ⟨l1,l2,l3,p1,hpd⟩ | ⟨l0,hpd⟩
   ·omega
   ·have:lo=n:=by omega
    subst this
    exact .inl ⟨p1,hpd⟩
   ·exact .inr hpd
  rw[if_neg q1]
  refine wpS_bind (Vi (p:=pendingOf st1) C ⟨t1,rfl⟩ (by omega) (by omega) fun fd st0 f1 f2 o0=>?_)
  dsimp only
  by_cases q2:fd<minRun' n n 0
  ·rw[if_pos q2]
   refine wpS_bind (wpS_lift (wpAny_rule ⟨rfl,?_⟩))
   refine wpS_bind (zlw C o0 (by omega) fun st2 o2=>?_)
   simp only[Bool.not_true,Bool.false_eq_true,if_false]
   refine wpS_bind (wpS_get ?_)
   rcases hc with⟨l0,hpd⟩ | ⟨l1,l2,l3,p1,hpd⟩ | ⟨l0,_⟩
   ·subst l0
    rw[o2.2,hpd]
    refine wpS_bind (wpS_modify (wpS_pure ⟨⟨o2.1.z,o2.1.i,o2.1.k,o2.1.f⟩,_,rfl,by omega,.inr (.inl ⟨by omega,by omega,by omega,0,?_⟩)⟩))
    show(pendingOf st2).push _=_
    rw[o2.2,hpd,Nat.zero_add]
    rfl
   ·have hRe:min (n-lo) (minRun' n n 0)=n-lo:=by omega
    have hpd2:pendingOf st2 = #[(0,lo,p1)]:=o2.2.trans hpd
    rw[hpd2]
    refine wpS_bind (wpS_mono (wpS_forRange (I:=fun _ c st'=>st'=st2∧c=(none,())) (Q:=fun c st'=>st'=st2∧c=(none,())) ?_ (fun _ _ h=>h) ⟨rfl,rfl⟩) ?_)
    ·rintro j c st3 _ hj ⟨rfl,rfl⟩
     refine wpS_bind (wpS_get ?_)
     rw[hpd2]
     exact wpS_pure ⟨rfl,rfl⟩
    ·rintro c st3 ⟨rfl,rfl⟩
     refine wpS_bind (wpS_modify (wpS_bind (wpS_modify (wpS_pure ⟨⟨o2.1.z,o2.1.i,o2.1.k,o2.1.f⟩,_,rfl,by omega,.inr (.inr ⟨by omega,lo,power' n (2*0+lo) (2*0+lo+lo+min (n-lo) (minRun' n n 0)) n,0,by omega,by omega,?_⟩)⟩))))
     show((pendingOf st3).modify ((pendingOf st3).size-1) _).push _=_
     rw[hpd2,hRe]
     apply Array.toList_inj.mp
     simp[Array.modify]
     rfl
   ·omega
  ·rw[if_neg q2]
   obtain⟨st2,e2⟩:∃ st2,st2=st0:=⟨_,rfl⟩
   rw[← e2] at o0 ⊢
   have o2:=o0
   refine wpS_bind (wpS_get ?_)
   rcases hc with⟨l0,hpd⟩ | ⟨l1,l2,l3,p1,hpd⟩ | ⟨l0,_⟩
   ·subst l0
    rw[o2.2,hpd]
    refine wpS_bind (wpS_modify (wpS_pure ⟨⟨o2.1.z,o2.1.i,o2.1.k,o2.1.f⟩,_,rfl,by omega,.inr (.inl ⟨by omega,by omega,by omega,0,?_⟩)⟩))
    show(pendingOf st2).push _=_
    rw[o2.2,hpd,Nat.zero_add]
    rfl
   ·have hRe:fd=n-lo:=by omega
    have hpd2:pendingOf st2 = #[(0,lo,p1)]:=o2.2.trans hpd
    rw[hpd2]
    refine wpS_bind (wpS_mono (wpS_forRange (I:=fun _ c st'=>st'=st2∧c=(none,())) (Q:=fun c st'=>st'=st2∧c=(none,())) ?_ (fun _ _ h=>h) ⟨rfl,rfl⟩) ?_)
    ·rintro j c st3 _ hj ⟨rfl,rfl⟩
     refine wpS_bind (wpS_get ?_)
     rw[hpd2]
     exact wpS_pure ⟨rfl,rfl⟩
    ·rintro c st3 ⟨rfl,rfl⟩
     refine wpS_bind (wpS_modify (wpS_bind (wpS_modify (wpS_pure ⟨⟨o2.1.z,o2.1.i,o2.1.k,o2.1.f⟩,_,rfl,by omega,.inr (.inr ⟨by omega,lo,power' n (2*0+lo) (2*0+lo+lo+fd) n,0,by omega,by omega,?_⟩)⟩))))
     show((pendingOf st3).modify ((pendingOf st3).size-1) _).push _=_
     rw[hpd2,hRe]
     apply Array.toList_inj.mp
     simp[Array.modify]
     rfl
   ·omega
 ·rintro c st1 ⟨t1,lo,rfl,hil,hc⟩
  refine⟨t1,lo,rfl,?_⟩
  rcases hc with⟨l0,_⟩ | ⟨l1,l2,l3,p1,hpd⟩ | ⟨l0,hpd⟩
  ·omega
  ·have:lo=n:=by omega
   subst this
   exact .inl ⟨p1,hpd⟩
  ·exact .inr hpd
 ·rintro c st1 ⟨t1,lo,rfl,hc⟩
  dsimp only
  refine wpS_bind (wpS_mono (wpS_forRange (I:=fun _ c st'=>TB it κ n st'∧c=(none,())∧((∃ p1,pendingOf st' = #[(0,n,p1)])∨∃ n1 p1 p2,1≤n1∧n1<n∧pendingOf st' = #[(0,n1,p1),(n1,n-n1,p2)])) (Q:=fun c st'=>TB it κ n st'∧c=(none,())) ?_ (fun _ _ h=>⟨h.1,h.2.1⟩) ⟨t1,rfl,hc⟩) ?_)
  ·rintro i c st2 _ hi ⟨t2,rfl,hc⟩
   refine wpS_bind (wpS_get ?_)
   rcases hc with⟨p1,hpd⟩ | ⟨n1,p1,p2,h1,h2,hpd⟩
   ·rw[hpd]
    exact wpS_pure ⟨t2,rfl⟩
   ·rw[hpd]
    refine wpS_bind (Zs C t2 hpd h1 h2 fun st3 t3 hp3=>?_)
    exact wpS_pure ⟨t3,rfl,.inl ⟨_,hp3⟩⟩
  ·rintro c st2 ⟨t2,rfl⟩
   exact wpS_pure (h st2 t2)
end
end Srt
end L2

namespace L2
namespace Srt
open PySem PyProof.Rows PySem.W
def Pr (h:Heap) (v:Value):Prop:=∃ x o i j t u n,v=.ref x∧h.get? x=some o∧o.cls=.type "tuple" ∧ o.data=.seq #[.int i t,.int j u] n
section
variable {prog:Program}{w:World}{A:Around}{E:Value→Shared→Prop}{s:Shared}
theorem zmR {x y:Value}(hx:Pr s.heap x) (hy:Pr s.heap y){Q:Bool→Shared→Prop}(h:∀ b,Q b s):wpAny (model prog w) A (keyLt' (tuples' true) x y) Q E s:=by
 obtain⟨x,o,i,j,t,u,n,rfl,ho,_,hd⟩:=hx
 obtain⟨y,o',i',j',t',u',n',rfl,ho',_,hd'⟩:=hy
 refine kat_lt ho hd ho' hd' (kat_cons (wpAny_eqBool_int ?_))
 refine kat_go (fun _=>kat_yes (kat_cons (wpAny_eqBool_int ?_))) fun _=>kat_no (oneLt_int (h _))
 exact kat_go (fun _=>kat_yes (kat_nil (h _))) fun _=>kat_no (kat_one _ _ (lt_int (h _)))
theorem Yr:∀ {vs:List Value},(∀ v∈vs,Pr s.heap v)→∃ fs:List Value,KatTups s.heap vs fs∧fs.length=vs.length∧∀ f∈fs,∃ i t,f=.int i t
 |[],_=>⟨[],.nil,rfl,fun f hf=>by cases hf⟩
 |v::vs,h=>by
  obtain⟨fs,k,hl,hi⟩:=Yr (vs:=vs) fun v hv=>h v (List.mem_cons_of_mem _ hv)
  obtain⟨x,o,i,j,t,u,n,rfl,ho,hc,hd⟩:=h v List.mem_cons_self
  refine⟨.int i t::fs,.cons ho hc hd rfl k,by simp[hl],fun f hf=>?_⟩
  rcases List.mem_cons.mp hf with rfl | hf
  ·exact⟨i,t,rfl⟩
  ·exact hi f hf
theorem VA {vs:List Value}(h:∀ v∈vs,Pr s.heap v) (hne:0<vs.length){Q:SortKind→Shared→Prop}(q:Q (tuples' true) s):wpAny (model prog w) A (keyKind' vs.toArray) Q E s:=by
 obtain⟨fs,k,hl,hi⟩:=Yr h
 refine kat_kind (T:=.type "int") k (by omega) (fun v hv=>?_) rfl q
 obtain⟨i,t,rfl⟩:=hi v hv
 exact Looks.of_pure rfl
theorem xG {vs:List Value}{p:Keyed}(h:p∈vs.toArray.zip vs.toArray):p.1∈vs∧p.2∈vs:=by
 have h:p∈(vs.toArray.zip vs.toArray).toList:=Array.mem_def.mp h
 rw[Array.toList_zip] at h
 obtain⟨a,b⟩:=p
 exact List.of_mem_zip h
theorem Vz {vs:List Value}(h:∀ v∈vs,Pr s.heap v) (h2:2≤vs.length) (h66:vs.length≤66){Q:Unit→SortSt→Prop}
  (q:∀ st':SortSt,failedOf st'=none→((arrOf st').map (·.2)).size=vs.length→(∀ v∈(arrOf st').map (·.2),v∈vs)→Q () st') :
  wpS (model prog w) A E s sortRuns' Q (SortSt.mk' (tuples' true) (vs.toArray.zip vs.toArray) #[] 7 none):=by
 have hz:(vs.toArray.zip vs.toArray).size=vs.length:=by simp
 refine zaC (it:=(vs.toArray.zip vs.toArray).toList) (κ:=tuples' true) (n:=vs.length) (fun x hx y hy Q E hq=>?_) ⟨hz,fun x hx=>Array.mem_def.mp hx,rfl,rfl⟩ rfl h2 h66 fun st' t=>q st' t.f ?_ fun v hv=>?_
 ·exact zmR (h _ (xG (Array.mem_def.mpr hx)).1) (h _ (xG (Array.mem_def.mpr hy)).1) hq
 ·rw[Array.size_map];exact t.z
 ·obtain⟨p,hp,rfl⟩:=Array.mem_map.mp hv
  exact(xG (Array.mem_def.mpr (t.i p hp))).2
theorem Pr.keeps {h h':Heap}{v:Value}(p:Pr h v) (k:∀ b o,h.get? b=some o→o.cls=.type "tuple" → h'.get? b=some o):Pr h' v:=by
 obtain⟨x,o,i,j,t,u,n,e,ho,hc,hd⟩:=p
 exact⟨x,o,i,j,t,u,n,e,k _ _ ho hc,hc,hd⟩
theorem uR {a:Addr}{vs:List Value}{n:Nat}{P:PySem.Fin→Shared→Prop}(ho:s.heap.get? a=some (seqObj "list" vs.toArray n)) (hp:∀ v∈vs,Pr s.heap v) (h66:vs.length≤66)
  (h:∀ o:Array Value,o.size=vs.length→(∀ v∈o,v∈vs)→P (.done (.ret .none)) { s with heap:=sortedHeap s.heap a vs o }):wpAny (model prog w) A (Builtin.«list.sort» ⟨[.ref a],[]⟩) P E s:=by
 have big:66≤sizeLine:=by decide
 have ha:=Heap.lt_size ho
 rw[list_sort_plain]
 refine wpAny_bind (listItems_at ho rfl (wpAny_bind (listUpdate_at ho rfl ?_ (by simp;omega) (Nat.zero_le _))))
 have o1:=get?_update_seq ho (fun _=>(#[]:Array Value))
 refine wpAny_bind (seqEpoch_at o1 rfl (wpAny_bind (wpAny_newTuple (wpAny_bind (wpAny_newList (wpAny_holding ?_) (Nat.zero_le _))) (by show vs.length≤_;omega))))
 generalize hH:Heap.push (Heap.push (s.heap.update a (Obj.mapSeq fun _=>(#[]:Array Value))) (seqObj "tuple" vs.toArray 0)) (seqObj "list" #[] 0)=H6
 have hs:∀ o:Array Value,sortedHeap s.heap a vs o=H6.update a (Obj.mapSeq fun _=>o):=fun o=>by rw[← hH];rfl
 have o6:=Heap.get?_push_of_some (seqObj "list" #[] 0) (Heap.get?_push_of_some (seqObj "tuple" vs.toArray 0) o1)
 rw[hH] at o6
 have hp6:∀ v∈vs,Pr H6 v:=fun v hv=>(hp v hv).keeps fun b o e hc=>by
  have hb:a≠b:=fun z=>by
   rw[← z,ho] at e
   cases e
   have hc:Value.type "list" = .type "tuple" := hc
   injection hc with hc
   exact absurd hc (by decide)
  rw[← hH]
  refine Heap.get?_push_of_some _ (Heap.get?_push_of_some _ ?_)
  rw[Heap.get?_update_other _ _ hb]
  exact e
 have e6:({ s with heap:=Heap.push (Heap.push (s.heap.update a (Obj.mapSeq fun _=>(#[]:Array Value))) (seqObj "tuple" vs.toArray 0)) (seqObj "list" #[] 0) }:Shared)={ s with heap:=H6 }:=by rw[hH]
 refine(show wpAny (model prog w) A _ P E { s with heap:=H6 } from ?_)
 dsimp only
 have hz0:((vs.toArray.zip vs.toArray).map (fun p:Keyed=>p.2)).size=vs.length:=by simp
 by_cases q:vs.toArray.size<2
 ·rw[if_pos q,if_pos q]
  refine wpAny_bind (wpAny_pure ?_)
  rw[StateT.run_pure]
  refine wpAny_bind (wpAny_pure (wpAny_bind (seqEpoch_at o6 rfl (wpAny_bind (listUpdate_at o6 rfl ?_ (Nat.zero_le _) (by show((vs.toArray.zip vs.toArray).map (fun p:Keyed=>p.2)).size≤_;omega))))))
  simp only[bne_self_eq_false,Bool.false_eq_true,if_false]
  refine wpAny_pure ?_
  rw[← hs]
  refine h _ hz0 fun v hv=>?_
  obtain⟨p,hp',rfl⟩:=Array.mem_map.mp hv
  exact(xG hp').2
 ·rw[if_neg q,if_neg q]
  have q:2≤vs.length:=by simp at q;omega
  refine wpAny_bind (VA hp6 (by omega) ?_)
  refine wpAny_bind (wpAny_mono (Vz (s:={ s with heap:=H6 }) hp6 q h66 (Q:=fun _ st'=>failedOf st'=none∧((arrOf st').map (·.2)).size=vs.length∧∀ v∈(arrOf st').map (·.2),v∈vs) fun st' a1 a2 a3=>⟨a1,a2,a3⟩) ?_ fun _ _ e=>e)
  rintro⟨⟨⟩,st'⟩ s' ⟨rfl,hf,hz,hm⟩
  refine wpAny_bind (seqEpoch_at o6 rfl (wpAny_bind (listUpdate_at o6 rfl ?_ (Nat.zero_le _) (by omega))))
  rw[hf]
  simp only[bne_self_eq_false,Bool.false_eq_true,if_false]
  refine wpAny_pure ?_
  rw[← hs]
  exact h _ hz hm
theorem vf {l:Addr}{vs:List Value}{Q:Value→Shared→Prop}(hl:s.heap.IsList l vs.toArray) (hp:∀ v∈vs,Pr s.heap v) (h66:vs.length≤66)
  (h:∀ o:Array Value,o.size=vs.length→(∀ v∈o,v∈vs)→Q (.ref (s.heap.objs.size+1)) { s with heap:=sortedAll s.heap vs o }):wpAny (model prog w) A (call (.builtin "sorted") [.ref l]) Q E s:=by
 have big:66≤sizeLine:=by decide
 refine Calls.call_function_entry kind_sorted plain_sorted entry_sorted (args_sorted1 _) ?_
 unfold Builtin.«sorted»
 refine wpAny_bind (m:=checkCount "sorted" 1 1 _) (wpAny_pure (wpAny_bind (collect_list hl (wpAny_bind (wpAny_newList ?_ (by show vs.length≤_;omega))) (by omega))))
 have hz:(Heap.update (Heap.push s.heap (seqObj "list" #[] 0)) s.heap.objs.size (Obj.mapSeq fun x=>x++vs.toArray)).objs.size=s.heap.objs.size+1:=(Heap.size_update _ _ _).trans (size_push' _ _)
 have hk:∀ b o,s.heap.get? b=some o→(Heap.push (Heap.update (Heap.push s.heap (seqObj "list" #[] 0)) s.heap.objs.size (Obj.mapSeq fun x=>x++vs.toArray)) (seqObj "list" vs.toArray 0)).get? b=some o:=fun b o e=>by
  refine Heap.get?_push_of_some _ ?_
  rw[Heap.get?_update_other _ _ (Nat.ne_of_gt (Heap.lt_size e))]
  exact Heap.get?_push_of_some _ e
 have ho:=Heap.get?_push_size (Heap.update (Heap.push s.heap (seqObj "list" #[] 0)) s.heap.objs.size (Obj.mapSeq fun x=>x++vs.toArray)) (o:=seqObj "list" vs.toArray 0) rfl
 refine(show wpAny _ _ _ _ _ { s with heap:=Heap.push (Heap.update (Heap.push s.heap (seqObj "list" #[] 0)) s.heap.objs.size (Obj.mapSeq fun x=>x++vs.toArray)) (seqObj "list" vs.toArray 0) } from ?_)
 rw[hz] at ho ⊢
 refine wpAny_bind (wpAny_holding (wpAny_call_entry slot_list_sort ⟨_,ho,rfl⟩ entry_list_sort ?_ (args_list_sort _)))
 refine uR ho (fun v hv=>(hp v hv).keeps fun b o e _=>hk b o e) h66 fun o z m=>⟨_,rfl,wpAny_pure ⟨_,rfl,h o z m⟩⟩
end
section
variable {X:Cx}
theorem wY {ys:List V}:∀ {l:List Value},(∀ v∈l,∃ y∈ys,RelV y v)→∃ zs,Vals zs l∧∀ z∈zs,z∈ys
 |[],_=>⟨[],.nil,fun z hz=>by cases hz⟩
 |v::l,h=>by
  obtain⟨zs,r,m⟩:=wY (l:=l) fun v hv=>h v (List.mem_cons_of_mem _ hv)
  obtain⟨y,hy,e⟩:=h v List.mem_cons_self
  refine⟨y::zs,.cons e r,fun z hz=>?_⟩
  rcases List.mem_cons.mp hz with rfl | hz
  ·exact hy
  ·exact m z hz
def zf1 (K:PySem.W.Frag):List V→Hp→VK→Prop:=fun xs H Q=>∃ (a:Addr) (ys:List V),xs=[V.ref a]∧SqL K H a ys∧ys.length≤66∧(∀ y∈ys,∃ q i j,y=.ref q∧H q=some (.tup [.int i,.int j])) ∧
 ∀ (p:Addr) (zs:List V),H p=none→zs.length=ys.length→(∀ z∈zs,z∈ys)→Q (.ref p) (upd H p (.lst zs))
theorem wu:yJ X (.builtin "sorted") (zf1 X.K):=by
 intro pins s σ H xs us Q I r h
 obtain⟨a,ys,rfl,ha,h66,hy,q⟩:=h
 obtain⟨u,rfl,ru⟩:=r.one
 cases ru
 obtain⟨its,rv,p,hz⟩:=I.list ha
 have hl:=rv.length
 have back:∀ v∈its,∃ y∈ys,RelV y v:=fun v hv=>by
  obtain⟨i,hi,e⟩:=List.getElem_of_mem hv
  have hi':i<ys.length:=by omega
  obtain⟨u,hu,ru⟩:=rv.get (i:=i) (x:=ys[i]) (by simp[hi'])
  rw[List.getElem?_eq_getElem hi] at hu
  cases hu
  exact⟨ys[i],List.getElem_mem hi',e ▸ ru⟩
 refine vf p.isList (fun v hv=>?_) (by omega) fun o z m=>?_
 ·obtain⟨y,hy',e⟩:=back v hv
  obtain⟨t,i,j,rfl,ht⟩:=hy y hy'
  cases e
  obtain⟨_,vs,rr,ob,e1,e2,n,e3⟩:=(show ObjOk X.prog X.w H s.heap t (.tup [.int i,.int j]) from I.hok t _ ht)
  cases rr with
  |cons r1 rr =>
   cases rr with
   |cons r2 rr =>
    cases rr
    obtain⟨t1,rfl⟩:=r1
    obtain⟨t2,rfl⟩:=r2
    exact⟨t,ob,i,j,t1,t2,n,rfl,e1,e2,e3⟩
 ·obtain⟨zs,rz,mz⟩:=wY (ys:=ys) (l:=o.toList) fun v hv=>back v (m v (Array.mem_def.mpr hv))
  have hn:H (s.heap.objs.size+1)=none:=I.hok.fresh (Nat.le_succ _)
  have lz:zs.length=ys.length:=by rw[rz.length,Array.length_toList,z,hl]
  obtain⟨c,hc⟩:=sortedAll_at s.heap its o
  refine⟨.ref _,_,I.laid (a:=s.heap.objs.size+1) (o:=.lst zs) (t':=s.toks) (fun _ _ e=>sortedAll_old e) (Nat.le_succ _) ⟨by rw[lz];exact hz,o.toList,c,rz,hc⟩,rfl,q _ zs hn lz mz⟩
end
end Srt
end L2

namespace L2
namespace Srt
open PySem PyProof.Rows PySem.W
end Srt
end L2

namespace K04
open PySem L2
structure Hs (hs:List Int):Prop where
 l1:1≤hs.length
 l12:hs.length≤12
 up:hs.Pairwise (· < ·)
 lo:∀ h∈hs,0≤h
 hi:∀ h∈hs,h≤99
structure Ls (hs:List Int) (ls:List (Int×Int)):Prop where
 nd:ls.Nodup
 ok:∀ p∈ls,p.1∈hs∧p.2∈hs∧p.1<p.2
 le:ls.length≤66
def Adj (ls:List (Int×Int)) (x y:Int):Prop:=(x,y)∈ls∨(y,x)∈ls
theorem XH {as:List Int}(h:as.Pairwise (· < ·)):as.Nodup:=h.imp fun {a b} z=>by omega
theorem zid:∀ {as bs:List Int},as.Nodup→(∀ x∈as,x∈bs)→as.length≤bs.length
 |[],_,_,_=>Nat.zero_le _
 |a::as,bs,hn,hs=>by
  rw[List.nodup_cons] at hn
  have ha:=hs a List.mem_cons_self
  have ih:=zid (as:=as) (bs:=bs.erase a) hn.2 fun x hx=>by
   have ne:x≠a:=fun z=>hn.1 (by rw[← z];exact hx)
   exact(List.mem_erase_of_ne ne).mpr (hs x (List.mem_cons_of_mem _ hx))
  rw[List.length_erase_of_mem ha] at ih
  have:=List.length_pos_of_mem ha
  rw[List.length_cons];omega
noncomputable def nbs (ls:List (Int×Int)) (h:Int):List Int:=ls.flatMap fun p=>(if p.1=h then[p.2] else[])++if p.2=h then[p.1] else[]
theorem mem_nbs {ls:List (Int×Int)}{h x:Int}:x∈nbs ls h↔Adj ls h x:=by
 unfold nbs Adj
 rw[List.mem_flatMap]
 constructor
 ·rintro⟨⟨u,v⟩,hp,hx⟩
  dsimp only at hx
  rw[List.mem_append] at hx
  rcases hx with hx | hx
  ·split at hx
   ·rename_i e;subst e
    rw[List.mem_singleton] at hx;subst hx;exact .inl hp
   ·cases hx
  ·split at hx
   ·rename_i e;subst e
    rw[List.mem_singleton] at hx;subst hx;exact .inr hp
   ·cases hx
 ·rintro(h1 | h1)
  ·exact⟨_,h1,by simp⟩
  ·exact⟨_,h1,by simp⟩
theorem YX {h:Int}:∀ {ls:List (Int×Int)},(nbs ls h).length≤2*ls.length
 |[]=>Nat.le_refl _
 |p::ls=>by
  have ih:=YX (h:=h) (ls:=ls)
  unfold nbs at ih ⊢
  rw[List.flatMap_cons,List.length_append,List.length_append,List.length_cons]
  have h1:(if p.1=h then[p.2] else[]).length≤1:=by split<;>simp
  have h2:(if p.2=h then[p.1] else[]).length≤1:=by split<;>simp
  omega
theorem Wg {ls:List (Int×Int)}{p:Int×Int}{h:Int}:nbs (ls++[p]) h=nbs ls h++((if p.1=h then[p.2] else[])++if p.2=h then[p.1] else[]):=by
 unfold nbs
 rw[List.flatMap_append,List.flatMap_cons,List.flatMap_nil,List.append_nil]
theorem Wf {ls:List (Int×Int)}{p:Int×Int}{i:Nat}{h:Int}(e:ls[i]?=some p):nbs (ls.take (i+1)) h=nbs (ls.take i) h++((if p.1=h then[p.2] else[])++if p.2=h then[p.1] else[]):=by
 rw[List.take_add_one,e]
 exact Wg
end K04

namespace K04
open PySem L2
noncomputable def top (i:Nat):Stmt:=PySem.Challenge.pw_beatless_k24_whole_pieces_joined.main.body.getD i (.Pass ⟨0,0,0,0⟩)
abbrev ZV:Stmt:=top 2
abbrev ZU:Stmt:=top 3
abbrev ZT:Stmt:=top 4
abbrev ZS:Stmt:=top 5
abbrev ZR:Stmt:=top 6
abbrev ZQ:Stmt:=top 7
abbrev ZP:Stmt:=top 8
abbrev ZO:Stmt:=top 9
abbrev ZN:Stmt:=top 23
abbrev ZM:Stmt:=top 31
abbrev ZL:Stmt:=top 32
abbrev ZK:Stmt:=top 33
abbrev ZJ:Stmt:=top 34
abbrev ZI:Stmt:=top 35
abbrev uM:Stmt:=top 36
abbrev ZH:Stmt:=top 41
abbrev ZG:Stmt:=top 42
abbrev ZF:Stmt:=top 43
abbrev ZE:Stmt:=top 44
abbrev ZD:Stmt:=top 47
abbrev ZC:Stmt:=top 48
abbrev uL:Stmt:=top 49
abbrev ZB:Stmt:=top 50
abbrev ZA:Stmt:=top 51
abbrev Zz:Stmt:=top 53
abbrev Zy:Stmt:=top 54
abbrev Yh:Stmt:=top 55
abbrev Yg:Stmt:=top 56
abbrev Yf:Stmt:=top 57
abbrev uQ:Stmt:=top 58
abbrev Ye:Stmt:=top 59
abbrev Yd:Stmt:=top 60
abbrev Yc:Stmt:=top 61
abbrev uP:Stmt:=top 62
abbrev Yb:Stmt:=inClass (top 12) 0
abbrev Ya:Stmt:=inClass (top 12) 1
abbrev Z9:Stmt:=inClass (top 12) 3
abbrev Z8:Stmt:=inClass (top 13) 0
abbrev Z7:Stmt:=inClass (top 13) 1
abbrev Z6:Stmt:=inClass (top 13) 3
abbrev Z5:Stmt:=inClass (top 14) 0
abbrev Z4:Stmt:=inClass (top 14) 1
abbrev Z3:Stmt:=inClass (top 14) 3
abbrev Z2:Stmt:=inClass (top 15) 0
abbrev Z1:Stmt:=inClass (top 15) 1
abbrev Z0:Stmt:=inClass (top 15) 3
abbrev ZZ:Stmt:=inClass (top 16) 0
abbrev ZY:Stmt:=inClass (top 16) 1
abbrev ZX:Stmt:=inClass (top 16) 3
abbrev ZW:Stmt:=inClass (top 37) 0
abbrev uN:Stmt:=inClass (top 37) 1
abbrev vQ:Stmt:=inClass (top 37) 2
abbrev wk:Stmt:=inClass (top 37) 3
abbrev ve:Stmt:=inClass (top 45) 0
abbrev vd:Stmt:=inClass (top 45) 1
abbrev um:Stmt:=inClass (top 45) 2
abbrev vc:Stmt:=inClass (top 45) 3
abbrev vb:Stmt:=inClass (top 45) 5
theorem zmu:FnScope ["web", "program"] ["web", "program"] (defScope ZV):=⟨rfl,rfl,rfl,by decide +kernel,rfl,by decide +kernel,by decide +kernel⟩
theorem sc_qb:FnScope ["web", "program", "worths", "turn", "heard", "hand", "near", "other", "number"] ["web", "program", "worths", "turn"] (defScope ZU):=⟨rfl,rfl,rfl,by decide +kernel,rfl,by decide +kernel,by decide +kernel⟩
theorem sc_qc:FnScope ["web", "program", "worths", "turn", "heard", "found", "hand", "lines", "numbers"] ["web", "program", "worths", "turn", "heard"] (defScope ZT):=⟨rfl,rfl,rfl,by decide +kernel,rfl,by decide +kernel,by decide +kernel⟩
theorem sc_qd:FnScope ["pieces", "program", "last", "worths", "heard", "web", "rounds", "first", "turn"] ["pieces", "program"] (defScope ZS):=⟨rfl,rfl,rfl,by decide +kernel,rfl,by decide +kernel,by decide +kernel⟩
theorem zmt:FnScope ["pieces", "program"] ["pieces", "program"] (defScope ZR):=⟨rfl,rfl,rfl,by decide +kernel,rfl,by decide +kernel,by decide +kernel⟩
theorem zms:FnScope ["pieces", "program"] ["pieces", "program"] (defScope ZQ):=⟨rfl,rfl,rfl,by decide +kernel,rfl,by decide +kernel,by decide +kernel⟩
theorem zmr:FnScope ["web", "program", "rounds"] ["web", "program", "rounds"] (defScope ZP):=⟨rfl,rfl,rfl,by decide +kernel,rfl,by decide +kernel,by decide +kernel⟩
theorem zmq:FnScope ["web", "program", "rounds"] ["web", "program", "rounds"] (defScope ZO):=⟨rfl,rfl,rfl,by decide +kernel,rfl,by decide +kernel,by decide +kernel⟩
theorem zfT:FnScope ["value"] ["value"] (defScope ZN):=⟨rfl,rfl,rfl,by decide +kernel,rfl,by decide +kernel,by decide +kernel⟩
theorem zmp:FnScope ["value"] ["value"] (defScope ZM):=⟨rfl,rfl,rfl,by decide +kernel,rfl,by decide +kernel,by decide +kernel⟩
theorem zmo:FnScope ["word", "words"] ["word", "words"] (defScope ZL):=⟨rfl,rfl,rfl,by decide +kernel,rfl,by decide +kernel,by decide +kernel⟩
theorem zmn:FnScope ["number"] ["number"] (defScope ZK):=⟨rfl,rfl,rfl,by decide +kernel,rfl,by decide +kernel,by decide +kernel⟩
theorem sc_qm:FnScope ["parts", "names", "deep", "part"] ["parts", "names", "deep"] (defScope ZJ):=⟨rfl,rfl,rfl,by decide +kernel,rfl,by decide +kernel,by decide +kernel⟩
theorem zmm:FnScope ["expr", "names", "deep"] ["expr", "names", "deep"] (defScope ZI):=⟨rfl,rfl,rfl,by decide +kernel,rfl,by decide +kernel,by decide +kernel⟩
theorem zml:FnScope ["exprs"] ["exprs"] (defScope uM):=⟨rfl,rfl,rfl,by decide +kernel,rfl,by decide +kernel,by decide +kernel⟩
theorem sc_qp:FnScope ["hands", "ahead", "hand"] ["hands"] (defScope ZH):=⟨rfl,rfl,rfl,by decide +kernel,rfl,by decide +kernel,by decide +kernel⟩
theorem zmk:FnScope ["line", "hands"] ["line", "hands"] (defScope ZG):=⟨rfl,rfl,rfl,by decide +kernel,rfl,by decide +kernel,by decide +kernel⟩
theorem sc_qr:FnScope ["lines", "hands", "seen", "line"] ["lines", "hands"] (defScope ZF):=⟨rfl,rfl,rfl,by decide +kernel,rfl,by decide +kernel,by decide +kernel⟩
theorem sc_qs:FnScope ["hands", "lines", "near", "hand", "one", "other"] ["hands", "lines"] (defScope ZE):=⟨rfl,rfl,rfl,by decide +kernel,rfl,by decide +kernel,by decide +kernel⟩
theorem zmj:FnScope ["_law_script", "_law_k"] ["_law_script", "_law_k"] (defScope ZD):=⟨rfl,rfl,rfl,by decide +kernel,rfl,by decide +kernel,by decide +kernel⟩
theorem sc_qu:FnScope ["_law_cell", "_law_many", "_law_found", "_law_rest", "_law_number", "_law_k", "_law_mixed"] ["_law_cell", "_law_many"] (defScope ZC):=⟨rfl,rfl,rfl,by decide +kernel,rfl,by decide +kernel,by decide +kernel⟩
theorem zmi:FnScope ["_law_xs", "_law_size"] ["_law_xs", "_law_size"] (defScope uL):=⟨rfl,rfl,rfl,by decide +kernel,rfl,by decide +kernel,by decide +kernel⟩
theorem sc_qw:FnScope ["_law_xs", "_law_most", "_law_hand", "_law_found", "_law_k"] ["_law_xs", "_law_most"] (defScope ZB):=⟨rfl,rfl,rfl,by decide +kernel,rfl,by decide +kernel,by decide +kernel⟩
theorem sc_qx:FnScope ["_law_xs", "_law_hands_here", "_law_way", "_law_found", "_law_j", "_law_k", "_law_near_here", "_law_draw", "_law_at"] ["_law_xs", "_law_hands_here"] (defScope ZA):=⟨rfl,rfl,rfl,by decide +kernel,rfl,by decide +kernel,by decide +kernel⟩
theorem sc_qy:FnScope ["_law_xs", "_law_names", "_law_deep", "_law_way", "_law_word"] ["_law_xs", "_law_names", "_law_deep"] (defScope Zz):=⟨rfl,rfl,rfl,by decide +kernel,rfl,by decide +kernel,by decide +kernel⟩
theorem sc_qz:FnScope ["_law_cell", "_law_xs", "_law_first", "_law_send", "_law_when"] ["_law_cell"] (defScope Zy):=⟨rfl,rfl,rfl,by decide +kernel,rfl,by decide +kernel,by decide +kernel⟩
theorem zmO:FnScope [] [] (defScope Yh):=⟨rfl,rfl,rfl,by decide +kernel,rfl,by decide +kernel,by decide +kernel⟩
theorem zmN:FnScope ["_law_told"] ["_law_told"] (defScope Yg):=⟨rfl,rfl,rfl,by decide +kernel,rfl,by decide +kernel,by decide +kernel⟩
theorem zmM:FnScope ["_law_program_here"] ["_law_program_here"] (defScope Yf):=⟨rfl,rfl,rfl,by decide +kernel,rfl,by decide +kernel,by decide +kernel⟩
theorem sc_qD:FnScope ["_law_xs", "_law_hands_here", "_law_some"] ["_law_xs", "_law_hands_here"] (defScope uQ):=⟨rfl,rfl,rfl,by decide +kernel,rfl,by decide +kernel,by decide +kernel⟩
theorem sc_qE:FnScope ["_law_script", "_law_at", "_law_most", "_law_xs", "_law_hands_here", "_law_pieces_here", "_law_cell", "_law_ys", "_law_some"] ["_law_script", "_law_at", "_law_most"] (defScope Ye):=⟨rfl,rfl,rfl,by decide +kernel,rfl,by decide +kernel,by decide +kernel⟩
theorem zmL:FnScope ["_law_pieces_here", "_law_program_here"] ["_law_pieces_here", "_law_program_here"] (defScope Yd):=⟨rfl,rfl,rfl,by decide +kernel,rfl,by decide +kernel,by decide +kernel⟩
theorem sc_qG:FnScope ["_law_pieces_here", "_law_at", "_law_many", "_law_web", "_law_rounds", "_law_less"] ["_law_pieces_here", "_law_at", "_law_many"] (defScope Yc):=⟨rfl,rfl,rfl,by decide +kernel,rfl,by decide +kernel,by decide +kernel⟩
theorem sc_qH:FnScope ["_law_script", "_law_drawn", "_law_program_here", "_law_pieces_here", "_law_worths", "_law_heard", "_law_xs", "_law_at", "_law_idle", "_law_web", "_law_first", "_law_less", "_law_last", "_law_short", "_law_many"] ["_law_script"] (defScope uP):=⟨rfl,rfl,rfl,by decide +kernel,rfl,by decide +kernel,by decide +kernel⟩
theorem zmK:FnScope ["self", "value"] ["self", "value"] (defScope Yb):=⟨rfl,rfl,rfl,by decide +kernel,rfl,by decide +kernel,by decide +kernel⟩
theorem zmJ:FnScope ["self", "worths"] ["self", "worths"] (defScope Ya):=⟨rfl,rfl,rfl,by decide +kernel,rfl,by decide +kernel,by decide +kernel⟩
theorem zmI:FnScope ["self"] ["self"] (defScope Z9):=⟨rfl,rfl,rfl,by decide +kernel,rfl,by decide +kernel,by decide +kernel⟩
theorem zmH:FnScope ["self", "word"] ["self", "word"] (defScope Z8):=⟨rfl,rfl,rfl,by decide +kernel,rfl,by decide +kernel,by decide +kernel⟩
theorem zmG:FnScope ["self", "worths"] ["self", "worths"] (defScope Z7):=⟨rfl,rfl,rfl,by decide +kernel,rfl,by decide +kernel,by decide +kernel⟩
theorem zmF:FnScope ["self"] ["self"] (defScope Z6):=⟨rfl,rfl,rfl,by decide +kernel,rfl,by decide +kernel,by decide +kernel⟩
theorem zmE:FnScope ["self", "word", "one", "other"] ["self", "word", "one", "other"] (defScope Z5):=⟨rfl,rfl,rfl,by decide +kernel,rfl,by decide +kernel,by decide +kernel⟩
theorem sc_qP:FnScope ["self", "worths", "one", "other"] ["self", "worths"] (defScope Z4):=⟨rfl,rfl,rfl,by decide +kernel,rfl,by decide +kernel,by decide +kernel⟩
theorem zmD:FnScope ["self"] ["self"] (defScope Z3):=⟨rfl,rfl,rfl,by decide +kernel,rfl,by decide +kernel,by decide +kernel⟩
theorem zmC:FnScope ["self", "inner", "number"] ["self", "inner", "number"] (defScope Z2):=⟨rfl,rfl,rfl,by decide +kernel,rfl,by decide +kernel,by decide +kernel⟩
theorem zmB:FnScope ["self", "worths"] ["self", "worths"] (defScope Z1):=⟨rfl,rfl,rfl,by decide +kernel,rfl,by decide +kernel,by decide +kernel⟩
theorem zmA:FnScope ["self"] ["self"] (defScope Z0):=⟨rfl,rfl,rfl,by decide +kernel,rfl,by decide +kernel,by decide +kernel⟩
theorem zmz:FnScope ["self", "one", "other", "third", "fourth"] ["self", "one", "other", "third", "fourth"] (defScope ZZ):=⟨rfl,rfl,rfl,by decide +kernel,rfl,by decide +kernel,by decide +kernel⟩
theorem zmy:FnScope ["self", "worths"] ["self", "worths"] (defScope ZY):=⟨rfl,rfl,rfl,by decide +kernel,rfl,by decide +kernel,by decide +kernel⟩
theorem zmx:FnScope ["self"] ["self"] (defScope ZX):=⟨rfl,rfl,rfl,by decide +kernel,rfl,by decide +kernel,by decide +kernel⟩
theorem zmw:FnScope ["self", "start", "send", "when", "renew"] ["self", "start", "send", "when", "renew"] (defScope ZW):=⟨rfl,rfl,rfl,by decide +kernel,rfl,by decide +kernel,by decide +kernel⟩
theorem zmv:FnScope ["self", "hand", "lines"] ["self", "hand", "lines"] (defScope uN):=⟨rfl,rfl,rfl,by decide +kernel,rfl,by decide +kernel,by decide +kernel⟩
theorem sc_qZ:FnScope ["self", "worth", "hand", "turn", "lines", "other", "worths"] ["self", "worth", "hand", "turn", "lines", "other"] (defScope vQ):=⟨rfl,rfl,rfl,by decide +kernel,rfl,by decide +kernel,by decide +kernel⟩
theorem sc_qa0:FnScope ["self", "worth", "hand", "turn", "lines", "heard", "worths"] ["self", "worth", "hand", "turn", "lines", "heard"] (defScope wk):=⟨rfl,rfl,rfl,by decide +kernel,rfl,by decide +kernel,by decide +kernel⟩
theorem zfX:FnScope ["self", "hands", "lines"] ["self", "hands", "lines"] (defScope ve):=⟨rfl,rfl,rfl,by decide +kernel,rfl,by decide +kernel,by decide +kernel⟩
theorem zfW:FnScope ["self"] ["self"] (defScope vd):=⟨rfl,rfl,rfl,by decide +kernel,rfl,by decide +kernel,by decide +kernel⟩
theorem zfV:FnScope ["self", "hand"] ["self", "hand"] (defScope vc):=⟨rfl,rfl,rfl,by decide +kernel,rfl,by decide +kernel,by decide +kernel⟩
theorem zfU:FnScope ["self", "hand"] ["self", "hand"] (defScope vb):=⟨rfl,rfl,rfl,by decide +kernel,rfl,by decide +kernel,by decide +kernel⟩
set_option genInjectivity false in
set_option genSizeOf false in
structure Ad where
 f_qa:Addr
 d_qa:FuncData
 f_qb:Addr
 d_qb:FuncData
 f_qc:Addr
 d_qc:FuncData
 f_qd:Addr
 d_qd:FuncData
 f_qe:Addr
 d_qe:FuncData
 f_qf:Addr
 d_qf:FuncData
 f_qg:Addr
 d_qg:FuncData
 f_qh:Addr
 d_qh:FuncData
 f_qi:Addr
 d_qi:FuncData
 f_qj:Addr
 d_qj:FuncData
 f_qk:Addr
 d_qk:FuncData
 f_ql:Addr
 d_ql:FuncData
 f_qm:Addr
 d_qm:FuncData
 f_qn:Addr
 d_qn:FuncData
 f_qo:Addr
 d_qo:FuncData
 f_qp:Addr
 d_qp:FuncData
 f_qq:Addr
 d_qq:FuncData
 f_qr:Addr
 d_qr:FuncData
 f_qs:Addr
 d_qs:FuncData
 f_qt:Addr
 d_qt:FuncData
 f_qu:Addr
 d_qu:FuncData
 f_qv:Addr
 d_qv:FuncData
 f_qw:Addr
 d_qw:FuncData
 f_qx:Addr
 d_qx:FuncData
 f_qy:Addr
 d_qy:FuncData
 f_qz:Addr
 d_qz:FuncData
 f_qA:Addr
 d_qA:FuncData
 f_qB:Addr
 d_qB:FuncData
 f_qC:Addr
 d_qC:FuncData
 f_qD:Addr
 d_qD:FuncData
 f_qE:Addr
 d_qE:FuncData
 f_qF:Addr
 d_qF:FuncData
 f_qG:Addr
 d_qG:FuncData
 f_qH:Addr
 d_qH:FuncData
 f_qI:Addr
 d_qI:FuncData
 f_qJ:Addr
 d_qJ:FuncData
 f_qK:Addr
 d_qK:FuncData
 f_qL:Addr
 d_qL:FuncData
 f_qM:Addr
 d_qM:FuncData
 f_qN:Addr
 d_qN:FuncData
 f_qO:Addr
 d_qO:FuncData
 f_qP:Addr
 d_qP:FuncData
 f_qQ:Addr
 d_qQ:FuncData
 f_qR:Addr
 d_qR:FuncData
 f_qS:Addr
 d_qS:FuncData
 f_qT:Addr
 d_qT:FuncData
 f_qU:Addr
 d_qU:FuncData
 f_qV:Addr
 d_qV:FuncData
 f_qW:Addr
 d_qW:FuncData
 f_qX:Addr
 d_qX:FuncData
 f_qY:Addr
 d_qY:FuncData
 f_qZ:Addr
 d_qZ:FuncData
 f_qa0:Addr
 d_qa0:FuncData
 f_qa1:Addr
 d_qa1:FuncData
 f_qa2:Addr
 d_qa2:FuncData
 f_qa3:Addr
 d_qa3:FuncData
 f_qa4:Addr
 d_qa4:FuncData
 f_qa5:Addr
 d_qa5:FuncData
 c_Num:Addr
 c_Name:Addr
 c_Two:Addr
 c_Mod:Addr
 c_Less:Addr
 c_Program:Addr
 c_Web:Addr
 t_START_NAMES:Addr
 t_SEND_NAMES:Addr
 t_RENEW_NAMES:Addr
 t_TWO_WORDS:Addr
 t_MOST_WORDS:Tok
 t_MOST_DEEP:Tok
 t_MOST_HANDS:Tok
 t_LAST_HAND:Tok
structure Txt (w:World) (K:PySem.W.Frag) (mg:Str→Option Value) (a:Ad):Prop where
 n_len:mg "len" = none
 n_int:mg "int" = none
 n_min:mg "min" = none
 n_max:mg "max" = none
 n_range:mg "range" = none
 n_isinstance:mg "isinstance" = none
 n_list:mg "list" = none
 n_dict:mg "dict" = none
 n_abs:mg "abs" = none
 n_sorted:mg "sorted" = none
 n_str:mg "str" = none
 n_sum:mg "sum" = none
 n_bool:mg "bool" = none
 n_tuple:mg "tuple" = none
 n_ValueError:mg "ValueError" = none
 F_qa:Fun K "first_worths" "first_worths" ZV a.f_qa a.d_qa
 b_qa:Binds K a.d_qa ["web", "program"] []
 g_qa:mg "first_worths" = some (.ref a.f_qa)
 F_qb:Fun K "heard_in" "heard_in" ZU a.f_qb a.d_qb
 b_qb:Binds K a.d_qb ["web", "program", "worths", "turn"] []
 g_qb:mg "heard_in" = some (.ref a.f_qb)
 F_qc:Fun K "worths_behind" "worths_behind" ZT a.f_qc a.d_qc
 b_qc:Binds K a.d_qc ["web", "program", "worths", "turn", "heard"] []
 g_qc:mg "worths_behind" = some (.ref a.f_qc)
 F_qd:Fun K "run_pieces" "run_pieces" ZS a.f_qd a.d_qd
 b_qd:Binds K a.d_qd ["pieces", "program"] []
 g_qd:mg "run_pieces" = some (.ref a.f_qd)
 F_qe:Fun K "worths_by_pieces" "worths_by_pieces" ZR a.f_qe a.d_qe
 b_qe:Binds K a.d_qe ["pieces", "program"] []
 g_qe:mg "worths_by_pieces" = some (.ref a.f_qe)
 F_qf:Fun K "heard_by_pieces" "heard_by_pieces" ZQ a.f_qf a.d_qf
 b_qf:Binds K a.d_qf ["pieces", "program"] []
 g_qf:mg "heard_by_pieces" = some (.ref a.f_qf)
 F_qg:Fun K "plain_worths" "plain_worths" ZP a.f_qg a.d_qg
 b_qg:Binds K a.d_qg ["web", "program", "rounds"] []
 g_qg:mg "plain_worths" = some (.ref a.f_qg)
 F_qh:Fun K "plain_heard" "plain_heard" ZO a.f_qh a.d_qh
 b_qh:Binds K a.d_qh ["web", "program", "rounds"] []
 g_qh:mg "plain_heard" = some (.ref a.f_qh)
 F_qi:Fun K "is_whole" "is_whole" ZN a.f_qi a.d_qi
 b_qi:Binds K a.d_qi ["value"] []
 g_qi:mg "is_whole" = some (.ref a.f_qi)
 F_qj:Fun K "is_short_number" "is_short_number" ZM a.f_qj a.d_qj
 b_qj:Binds K a.d_qj ["value"] []
 g_qj:mg "is_short_number" = some (.ref a.f_qj)
 F_qk:Fun K "is_word_of" "is_word_of" ZL a.f_qk a.d_qk
 b_qk:Binds K a.d_qk ["word", "words"] []
 g_qk:mg "is_word_of" = some (.ref a.f_qk)
 F_ql:Fun K "is_divisor" "is_divisor" ZK a.f_ql a.d_ql
 b_ql:Binds K a.d_ql ["number"] []
 g_ql:mg "is_divisor" = some (.ref a.f_ql)
 F_qm:Fun K "are_sound" "are_sound" ZJ a.f_qm a.d_qm
 b_qm:Binds K a.d_qm ["parts", "names", "deep"] []
 g_qm:mg "are_sound" = some (.ref a.f_qm)
 F_qn:Fun K "is_sound" "is_sound" ZI a.f_qn a.d_qn
 b_qn:Binds K a.d_qn ["expr", "names", "deep"] []
 g_qn:mg "is_sound" = some (.ref a.f_qn)
 F_qo:Fun K "count_words" "count_words" uM a.f_qo a.d_qo
 b_qo:Binds K a.d_qo ["exprs"] []
 g_qo:mg "count_words" = some (.ref a.f_qo)
 F_qp:Fun K "are_hands" "are_hands" ZH a.f_qp a.d_qp
 b_qp:Binds K a.d_qp ["hands"] []
 g_qp:mg "are_hands" = some (.ref a.f_qp)
 F_qq:Fun K "is_line" "is_line" ZG a.f_qq a.d_qq
 b_qq:Binds K a.d_qq ["line", "hands"] []
 g_qq:mg "is_line" = some (.ref a.f_qq)
 F_qr:Fun K "are_lines" "are_lines" ZF a.f_qr a.d_qr
 b_qr:Binds K a.d_qr ["lines", "hands"] []
 g_qr:mg "are_lines" = some (.ref a.f_qr)
 F_qs:Fun K "near_by_hand" "near_by_hand" ZE a.f_qs a.d_qs
 b_qs:Binds K a.d_qs ["hands", "lines"] []
 g_qs:mg "near_by_hand" = some (.ref a.f_qs)
 F_qt:Fun K "_law_cell_at" "_law_cell_at" ZD a.f_qt a.d_qt
 b_qt:Binds K a.d_qt ["_law_script", "_law_k"] []
 g_qt:mg "_law_cell_at" = some (.ref a.f_qt)
 F_qu:Fun K "_law_draws" "_law_draws" ZC a.f_qu a.d_qu
 b_qu:Binds K a.d_qu ["_law_cell", "_law_many"] []
 g_qu:mg "_law_draws" = some (.ref a.f_qu)
 F_qv:Fun K "_law_take" "_law_take" uL a.f_qv a.d_qv
 b_qv:Binds K a.d_qv ["_law_xs", "_law_size"] []
 g_qv:mg "_law_take" = some (.ref a.f_qv)
 F_qw:Fun K "_law_hands" "_law_hands" ZB a.f_qw a.d_qw
 b_qw:Binds K a.d_qw ["_law_xs", "_law_most"] []
 g_qw:mg "_law_hands" = some (.ref a.f_qw)
 F_qx:Fun K "_law_lines" "_law_lines" ZA a.f_qx a.d_qx
 b_qx:Binds K a.d_qx ["_law_xs", "_law_hands_here"] []
 g_qx:mg "_law_lines" = some (.ref a.f_qx)
 F_qy:Fun K "_law_expr" "_law_expr" Zz a.f_qy a.d_qy
 b_qy:Binds K a.d_qy ["_law_xs", "_law_names", "_law_deep"] []
 g_qy:mg "_law_expr" = some (.ref a.f_qy)
 F_qz:Fun K "_law_program" "_law_program" Zy a.f_qz a.d_qz
 b_qz:Binds K a.d_qz ["_law_cell"] []
 g_qz:mg "_law_program" = some (.ref a.f_qz)
 F_qA:Fun K "_law_heard_names" "_law_heard_names" Yh a.f_qA a.d_qA
 b_qA:Binds K a.d_qA [] []
 g_qA:mg "_law_heard_names" = some (.ref a.f_qA)
 F_qB:Fun K "_law_made" "_law_made" Yg a.f_qB a.d_qB
 b_qB:Binds K a.d_qB ["_law_told"] []
 g_qB:mg "_law_made" = some (.ref a.f_qB)
 F_qC:Fun K "_law_program_made" "_law_program_made" Yf a.f_qC a.d_qC
 b_qC:Binds K a.d_qC ["_law_program_here"] []
 g_qC:mg "_law_program_made" = some (.ref a.f_qC)
 F_qD:Fun K "_law_part" "_law_part" uQ a.f_qD a.d_qD
 b_qD:Binds K a.d_qD ["_law_xs", "_law_hands_here"] []
 g_qD:mg "_law_part" = some (.ref a.f_qD)
 F_qE:Fun K "_law_pieces" "_law_pieces" Ye a.f_qE a.d_qE
 b_qE:Binds K a.d_qE ["_law_script", "_law_at", "_law_most"] []
 g_qE:mg "_law_pieces" = some (.ref a.f_qE)
 F_qF:Fun K "_law_both" "_law_both" Yd a.f_qF a.d_qF
 b_qF:Binds K a.d_qF ["_law_pieces_here", "_law_program_here"] []
 g_qF:mg "_law_both" = some (.ref a.f_qF)
 F_qG:Fun K "_law_cut" "_law_cut" Yc a.f_qG a.d_qG
 b_qG:Binds K a.d_qG ["_law_pieces_here", "_law_at", "_law_many"] []
 g_qG:mg "_law_cut" = some (.ref a.f_qG)
 F_qH:Fun K "law" "law" uP a.f_qH a.d_qH
 b_qH:Binds K a.d_qH ["_law_script"] []
 b0_qH:∀ (s:Shared) (u:Value),BindsTo s a.d_qH ⟨[u],[]⟩ [("_law_script",u)]
 g_qH:mg "law" = some (.ref a.f_qH)
 F_qI:Fun K "__init__" "Num.__init__" Yb a.f_qI a.d_qI
 b_qI:Binds K a.d_qI ["self", "value"] []
 F_qJ:Fun K "reckon" "Num.reckon" Ya a.f_qJ a.d_qJ
 b_qJ:Binds K a.d_qJ ["self", "worths"] []
 mt_qJ:Meth K a.c_Num "reckon" a.f_qJ
 F_qK:Fun K "words" "Num.words" Z9 a.f_qK a.d_qK
 b_qK:Binds K a.d_qK ["self"] []
 mt_qK:Meth K a.c_Num "words" a.f_qK
 F_qL:Fun K "__init__" "Name.__init__" Z8 a.f_qL a.d_qL
 b_qL:Binds K a.d_qL ["self", "word"] []
 F_qM:Fun K "reckon" "Name.reckon" Z7 a.f_qM a.d_qM
 b_qM:Binds K a.d_qM ["self", "worths"] []
 mt_qM:Meth K a.c_Name "reckon" a.f_qM
 F_qN:Fun K "words" "Name.words" Z6 a.f_qN a.d_qN
 b_qN:Binds K a.d_qN ["self"] []
 mt_qN:Meth K a.c_Name "words" a.f_qN
 F_qO:Fun K "__init__" "Two.__init__" Z5 a.f_qO a.d_qO
 b_qO:Binds K a.d_qO ["self", "word", "one", "other"] []
 F_qP:Fun K "reckon" "Two.reckon" Z4 a.f_qP a.d_qP
 b_qP:Binds K a.d_qP ["self", "worths"] []
 mt_qP:Meth K a.c_Two "reckon" a.f_qP
 F_qQ:Fun K "words" "Two.words" Z3 a.f_qQ a.d_qQ
 b_qQ:Binds K a.d_qQ ["self"] []
 mt_qQ:Meth K a.c_Two "words" a.f_qQ
 F_qR:Fun K "__init__" "Mod.__init__" Z2 a.f_qR a.d_qR
 b_qR:Binds K a.d_qR ["self", "inner", "number"] []
 F_qS:Fun K "reckon" "Mod.reckon" Z1 a.f_qS a.d_qS
 b_qS:Binds K a.d_qS ["self", "worths"] []
 mt_qS:Meth K a.c_Mod "reckon" a.f_qS
 F_qT:Fun K "words" "Mod.words" Z0 a.f_qT a.d_qT
 b_qT:Binds K a.d_qT ["self"] []
 mt_qT:Meth K a.c_Mod "words" a.f_qT
 F_qU:Fun K "__init__" "Less.__init__" ZZ a.f_qU a.d_qU
 b_qU:Binds K a.d_qU ["self", "one", "other", "third", "fourth"] []
 F_qV:Fun K "reckon" "Less.reckon" ZY a.f_qV a.d_qV
 b_qV:Binds K a.d_qV ["self", "worths"] []
 mt_qV:Meth K a.c_Less "reckon" a.f_qV
 F_qW:Fun K "words" "Less.words" ZX a.f_qW a.d_qW
 b_qW:Binds K a.d_qW ["self"] []
 mt_qW:Meth K a.c_Less "words" a.f_qW
 F_qX:Fun K "__init__" "Program.__init__" ZW a.f_qX a.d_qX
 b_qX:Binds K a.d_qX ["self", "start", "send", "when", "renew"] []
 F_qY:Fun K "first_worth" "Program.first_worth" uN a.f_qY a.d_qY
 b_qY:Binds K a.d_qY ["self", "hand", "lines"] []
 mt_qY:Meth K a.c_Program "first_worth" a.f_qY
 F_qZ:Fun K "word_to" "Program.word_to" vQ a.f_qZ a.d_qZ
 b_qZ:Binds K a.d_qZ ["self", "worth", "hand", "turn", "lines", "other"] []
 mt_qZ:Meth K a.c_Program "word_to" a.f_qZ
 F_qa0:Fun K "next_worth" "Program.next_worth" wk a.f_qa0 a.d_qa0
 b_qa0:Binds K a.d_qa0 ["self", "worth", "hand", "turn", "lines", "heard"] []
 mt_qa0:Meth K a.c_Program "next_worth" a.f_qa0
 F_qa1:Fun K "__init__" "Web.__init__" ve a.f_qa1 a.d_qa1
 b_qa1:Binds K a.d_qa1 ["self", "hands", "lines"] []
 F_qa2:Fun K "hands" "Web.hands" vd a.f_qa2 a.d_qa2
 b_qa2:Binds K a.d_qa2 ["self"] []
 mt_qa2:Meth K a.c_Web "hands" a.f_qa2
 F_qa3:Fun K "lines" "Web.lines" um a.f_qa3 a.d_qa3
 b_qa3:Binds K a.d_qa3 ["self"] []
 mt_qa3:Meth K a.c_Web "lines" a.f_qa3
 F_qa4:Fun K "has_hand" "Web.has_hand" vc a.f_qa4 a.d_qa4
 b_qa4:Binds K a.d_qa4 ["self", "hand"] []
 mt_qa4:Meth K a.c_Web "has_hand" a.f_qa4
 F_qa5:Fun K "neighbours" "Web.neighbours" vb a.f_qa5 a.d_qa5
 b_qa5:Binds K a.d_qa5 ["self", "hand"] []
 mt_qa5:Meth K a.c_Web "neighbours" a.f_qa5
 g_Num:mg "Num" = some (.ref a.c_Num)
 cl_Num:Cls K a.c_Num
 mk_Num:Mk K a.c_Num a.f_qI
 ty_Num:∀ (H:Hp) (p dx:Addr) (fs:List (Str×V)),H p=some (.ins a.c_Num dx fs)→TyOf K H (.ref p) (.ref a.c_Num)
 na_Num_value:NoAttr K a.c_Num "value"
 g_Name:mg "Name" = some (.ref a.c_Name)
 cl_Name:Cls K a.c_Name
 mk_Name:Mk K a.c_Name a.f_qL
 ty_Name:∀ (H:Hp) (p dx:Addr) (fs:List (Str×V)),H p=some (.ins a.c_Name dx fs)→TyOf K H (.ref p) (.ref a.c_Name)
 na_Name_word:NoAttr K a.c_Name "word"
 g_Two:mg "Two" = some (.ref a.c_Two)
 cl_Two:Cls K a.c_Two
 mk_Two:Mk K a.c_Two a.f_qO
 ty_Two:∀ (H:Hp) (p dx:Addr) (fs:List (Str×V)),H p=some (.ins a.c_Two dx fs)→TyOf K H (.ref p) (.ref a.c_Two)
 na_Two_word:NoAttr K a.c_Two "word"
 na_Two_one:NoAttr K a.c_Two "one"
 na_Two_other:NoAttr K a.c_Two "other"
 g_Mod:mg "Mod" = some (.ref a.c_Mod)
 cl_Mod:Cls K a.c_Mod
 mk_Mod:Mk K a.c_Mod a.f_qR
 ty_Mod:∀ (H:Hp) (p dx:Addr) (fs:List (Str×V)),H p=some (.ins a.c_Mod dx fs)→TyOf K H (.ref p) (.ref a.c_Mod)
 na_Mod_inner:NoAttr K a.c_Mod "inner"
 na_Mod_number:NoAttr K a.c_Mod "number"
 g_Less:mg "Less" = some (.ref a.c_Less)
 cl_Less:Cls K a.c_Less
 mk_Less:Mk K a.c_Less a.f_qU
 ty_Less:∀ (H:Hp) (p dx:Addr) (fs:List (Str×V)),H p=some (.ins a.c_Less dx fs)→TyOf K H (.ref p) (.ref a.c_Less)
 na_Less_one:NoAttr K a.c_Less "one"
 na_Less_other:NoAttr K a.c_Less "other"
 na_Less_third:NoAttr K a.c_Less "third"
 na_Less_fourth:NoAttr K a.c_Less "fourth"
 g_Program:mg "Program" = some (.ref a.c_Program)
 cl_Program:Cls K a.c_Program
 mk_Program:Mk K a.c_Program a.f_qX
 ty_Program:∀ (H:Hp) (p dx:Addr) (fs:List (Str×V)),H p=some (.ins a.c_Program dx fs)→TyOf K H (.ref p) (.ref a.c_Program)
 na_Program_start:NoAttr K a.c_Program "start"
 na_Program_send:NoAttr K a.c_Program "send"
 na_Program_when:NoAttr K a.c_Program "when"
 na_Program_renew:NoAttr K a.c_Program "renew"
 g_Web:mg "Web" = some (.ref a.c_Web)
 cl_Web:Cls K a.c_Web
 mk_Web:Mk K a.c_Web a.f_qa1
 ty_Web:∀ (H:Hp) (p dx:Addr) (fs:List (Str×V)),H p=some (.ins a.c_Web dx fs)→TyOf K H (.ref p) (.ref a.c_Web)
 na_Web_own_hands:NoAttr K a.c_Web "own_hands"
 na_Web_own_lines:NoAttr K a.c_Web "own_lines"
 na_Web_near:NoAttr K a.c_Web "near"
 k_Num_Num:PySem.W.kitOne K (.ref a.c_Num) (.ref a.c_Num)=some true
 k_Name_Num:PySem.W.kitOne K (.ref a.c_Name) (.ref a.c_Num)=some false
 k_Name_Name:PySem.W.kitOne K (.ref a.c_Name) (.ref a.c_Name)=some true
 k_Two_Num:PySem.W.kitOne K (.ref a.c_Two) (.ref a.c_Num)=some false
 k_Two_Name:PySem.W.kitOne K (.ref a.c_Two) (.ref a.c_Name)=some false
 k_Two_Two:PySem.W.kitOne K (.ref a.c_Two) (.ref a.c_Two)=some true
 k_Mod_Num:PySem.W.kitOne K (.ref a.c_Mod) (.ref a.c_Num)=some false
 k_Mod_Name:PySem.W.kitOne K (.ref a.c_Mod) (.ref a.c_Name)=some false
 k_Mod_Two:PySem.W.kitOne K (.ref a.c_Mod) (.ref a.c_Two)=some false
 k_Mod_Mod:PySem.W.kitOne K (.ref a.c_Mod) (.ref a.c_Mod)=some true
 k_Less_Num:PySem.W.kitOne K (.ref a.c_Less) (.ref a.c_Num)=some false
 k_Less_Name:PySem.W.kitOne K (.ref a.c_Less) (.ref a.c_Name)=some false
 k_Less_Two:PySem.W.kitOne K (.ref a.c_Less) (.ref a.c_Two)=some false
 k_Less_Mod:PySem.W.kitOne K (.ref a.c_Less) (.ref a.c_Mod)=some false
 k_Less_Less:PySem.W.kitOne K (.ref a.c_Less) (.ref a.c_Less)=some true
 k_tint_tint:PySem.W.kitOne K (.type "int") (.type "int")=some true
 k_tint_tbool:PySem.W.kitOne K (.type "int") (.type "bool")=some false
 k_tstr_tstr:PySem.W.kitOne K (.type "str") (.type "str")=some true
 k_ttuple_ttuple:PySem.W.kitOne K (.type "tuple") (.type "tuple")=some true
 k_tint_ttuple:PySem.W.kitOne K (.type "int") (.type "tuple")=some false
 k_tstr_ttuple:PySem.W.kitOne K (.type "str") (.type "tuple")=some false
 k_tint_tstr:PySem.W.kitOne K (.type "int") (.type "str")=some false
 k_tstr_tint:PySem.W.kitOne K (.type "str") (.type "int")=some false
 k_tstr_tbool:PySem.W.kitOne K (.type "str") (.type "bool")=some false
 k_Program_Program:PySem.W.kitOne K (.ref a.c_Program) (.ref a.c_Program)=some true
 k_tNoneType_tbool:PySem.W.kitOne K (.type "NoneType") (.type "bool")=some false
 k_tlist_tlist:PySem.W.kitOne K (.type "list") (.type "list")=some true
 g_START_NAMES:mg "START_NAMES" = some (.ref a.t_START_NAMES)
 s_START_NAMES:∀ H:Hp,SqT K H a.t_START_NAMES [V.str "me",V.str "lines"]
 g_SEND_NAMES:mg "SEND_NAMES" = some (.ref a.t_SEND_NAMES)
 s_SEND_NAMES:∀ H:Hp,SqT K H a.t_SEND_NAMES [V.str "worth",V.str "me",V.str "round",V.str "lines",V.str "to"]
 g_RENEW_NAMES:mg "RENEW_NAMES" = some (.ref a.t_RENEW_NAMES)
 s_RENEW_NAMES:∀ H:Hp,SqT K H a.t_RENEW_NAMES [V.str "worth",V.str "me",V.str "round",V.str "lines",V.str "sum",V.str "least",V.str "most",V.str "count"]
 g_TWO_WORDS:mg "TWO_WORDS" = some (.ref a.t_TWO_WORDS)
 s_TWO_WORDS:∀ H:Hp,SqT K H a.t_TWO_WORDS [V.str "add",V.str "sub",V.str "min",V.str "max"]
 g_MOST_WORDS:mg "MOST_WORDS" = some (.int 60 a.t_MOST_WORDS)
 g_MOST_DEEP:mg "MOST_DEEP" = some (.int 8 a.t_MOST_DEEP)
 g_MOST_HANDS:mg "MOST_HANDS" = some (.int 12 a.t_MOST_HANDS)
 g_LAST_HAND:mg "LAST_HAND" = some (.int 99 a.t_LAST_HAND)
noncomputable def Made (a:Ad) (H:Hp):Ex→V→Prop
 |.num i,v=>∃ p dx,v=.ref p∧H p=some (.ins a.c_Num dx [("value",.int i)])
 |.name x,v=>∃ p dx,v=.ref p∧H p=some (.ins a.c_Name dx [("word",.str x)])
 |.two w e f,v=>∃ p dx u1 u2,v=.ref p∧H p=some (.ins a.c_Two dx [("word",.str w),("one",u1),("other",u2)])∧Made a H e u1∧Made a H f u2
 |.mod e n,v=>∃ p dx u1,v=.ref p∧H p=some (.ins a.c_Mod dx [("inner",u1),("number",.int n)])∧Made a H e u1
 |.less e f g h,v=>∃ p dx u1 u2 u3 u4,v=.ref p∧H p=some (.ins a.c_Less dx [("one",u1),("other",u2),("third",u3),("fourth",u4)])∧Made a H e u1∧Made a H f u2∧Made a H g u3∧Made a H h u4
theorem Made.mono {a:Ad}{H H':Hp}(k:∀ b C dx fs,H b=some (.ins C dx fs)→H' b=some (.ins C dx fs)):∀ {e:Ex}{v:V},Made a H e v→Made a H' e v
 |.num _,_,⟨p,dx,e,h⟩=>⟨p,dx,e,k _ _ _ _ h⟩
 |.name _,_,⟨p,dx,e,h⟩=>⟨p,dx,e,k _ _ _ _ h⟩
 |.two _ _ _,_,⟨p,dx,u1,u2,e,h,t1,t2⟩=>⟨p,dx,u1,u2,e,k _ _ _ _ h,t1.mono k,t2.mono k⟩
 |.mod _ _,_,⟨p,dx,u1,e,h,t1⟩=>⟨p,dx,u1,e,k _ _ _ _ h,t1.mono k⟩
 |.less _ _ _ _,_,⟨p,dx,u1,u2,u3,u4,e,h,t1,t2,t3,t4⟩=>⟨p,dx,u1,u2,u3,u4,e,k _ _ _ _ h,t1.mono k,t2.mono k,t3.mono k,t4.mono k⟩
theorem Made.same {a:Ad}{H H':Hp}(k:Same H H'){e:Ex}{v:V}(t:Made a H e v):Made a H' e v:=t.mono fun b C dx fs h=>k b _ h
section
variable {P:Program}{w:World}{K:PySem.W.Frag}{mg:Str→Option Value}{base:Heap}{a:Ad}
def ziC (C:Addr) (x:Str):Sp:=fun vs H Q _=>∃ (p dx:Addr) (v:V),vs=[.ref p,v]∧H p=some (.ins C dx [])∧Q .non (upd H p (.ins C dx [(x,v)]))
def zuU (C:Addr) (x y:Str):Sp:=fun vs H Q _=>∃ (p dx:Addr) (v u:V),vs=[.ref p,v,u]∧H p=some (.ins C dx [])∧Q .non (upd H p (.ins C dx [(x,v),(y,u)]))
def zuT (C:Addr) (x y z:Str):Sp:=fun vs H Q _=>∃ (p dx:Addr) (v u t:V),vs=[.ref p,v,u,t]∧H p=some (.ins C dx [])∧Q .non (upd H p (.ins C dx [(x,v),(y,u),(z,t)]))
def zuS (C:Addr) (x y z o:Str):Sp:=fun vs H Q _=>∃ (p dx:Addr) (v u t r:V),vs=[.ref p,v,u,t,r]∧H p=some (.ins C dx [])∧Q .non (upd H p (.ins C dx [(x,v),(y,u),(z,t),(o,r)]))
theorem vY (T:Txt w K mg a):FnOk P w K mg base CX0 1 a.f_qI a.d_qI ["self", "value"] (ziC a.c_Num "value"):=by
 refine T.F_qI.ok zmK (fun vs H Q E h=>?_) (fun cdv A outer s H vs Q E hr h=>?_)
 ·obtain⟨p,dx,v,rfl,_⟩:=h
  rfl
 ·obtain⟨p,dx,v,rfl,hp,k⟩:=h
  refine zD (zf (zO (w_pv 0) (w_pv 1) rfl)) ?_
  refine⟨_,rfl,_,rfl,p,a.c_Num,dx,_,rfl,hp,T.cl_Num,T.na_Num_value,(by show 0<1000;decide),?_⟩
  exact k
theorem vt (T:Txt w K mg a):FnOk P w K mg base CX0 1 a.f_qL a.d_qL ["self", "word"] (ziC a.c_Name "word"):=by
 refine T.F_qL.ok zmH (fun vs H Q E h=>?_) (fun cdv A outer s H vs Q E hr h=>?_)
 ·obtain⟨p,dx,v,rfl,_⟩:=h
  rfl
 ·obtain⟨p,dx,v,rfl,hp,k⟩:=h
  refine zD (zf (zO (w_pv 0) (w_pv 1) rfl)) ?_
  refine⟨_,rfl,_,rfl,p,a.c_Name,dx,_,rfl,hp,T.cl_Name,T.na_Name_word,(by show 0<1000;decide),?_⟩
  exact k
theorem vX (T:Txt w K mg a):FnOk P w K mg base CX0 1 a.f_qO a.d_qO ["self", "word", "one", "other"] (zuT a.c_Two "word" "one" "other"):=by
 refine T.F_qO.ok zmE (fun vs H Q E h=>?_) (fun cdv A outer s H vs Q E hr h=>?_)
 ·obtain⟨p,dx,v,u,t,rfl,_⟩:=h
  rfl
 ·obtain⟨p,dx,v,u,t,rfl,hp,k⟩:=h
  refine zD (w_pss_cons (zO (w_pv 0) (w_pv 1) rfl)
   (w_pss_cons (zO (w_pv 0) (w_pv 2) rfl)
   (zf (zO (w_pv 0) (w_pv 3) rfl)))) ?_
  refine⟨_,rfl,_,rfl,p,a.c_Two,dx,_,rfl,hp,T.cl_Two,T.na_Two_word,(by show 0<1000;decide),?_⟩
  refine⟨_,rfl,_,rfl,p,a.c_Two,dx,_,rfl,zd,T.cl_Two,T.na_Two_one,(by show 1<1000;decide),?_⟩
  refine⟨_,rfl,_,rfl,p,a.c_Two,dx,_,rfl,zd,T.cl_Two,T.na_Two_other,(by show 2<1000;decide),?_⟩
  rw[yt,yt]
  exact k
theorem vZ (T:Txt w K mg a):FnOk P w K mg base CX0 1 a.f_qR a.d_qR ["self", "inner", "number"] (zuU a.c_Mod "inner" "number"):=by
 refine T.F_qR.ok zmC (fun vs H Q E h=>?_) (fun cdv A outer s H vs Q E hr h=>?_)
 ·obtain⟨p,dx,v,u,rfl,_⟩:=h
  rfl
 ·obtain⟨p,dx,v,u,rfl,hp,k⟩:=h
  refine zD (w_pss_cons (zO (w_pv 0) (w_pv 1) rfl)
   (zf (zO (w_pv 0) (w_pv 2) rfl))) ?_
  refine⟨_,rfl,_,rfl,p,a.c_Mod,dx,_,rfl,hp,T.cl_Mod,T.na_Mod_inner,(by show 0<1000;decide),?_⟩
  refine⟨_,rfl,_,rfl,p,a.c_Mod,dx,_,rfl,zd,T.cl_Mod,T.na_Mod_number,(by show 1<1000;decide),?_⟩
  rw[yt]
  exact k
theorem vw (T:Txt w K mg a):FnOk P w K mg base CX0 1 a.f_qU a.d_qU ["self", "one", "other", "third", "fourth"] (zuS a.c_Less "one" "other" "third" "fourth"):=by
 refine T.F_qU.ok zmz (fun vs H Q E h=>?_) (fun cdv A outer s H vs Q E hr h=>?_)
 ·obtain⟨p,dx,v,u,t,r,rfl,_⟩:=h
  rfl
 ·obtain⟨p,dx,v,u,t,r,rfl,hp,k⟩:=h
  refine zD (w_pss_cons (zO (w_pv 0) (w_pv 1) rfl)
   (w_pss_cons (zO (w_pv 0) (w_pv 2) rfl)
   (w_pss_cons (zO (w_pv 0) (w_pv 3) rfl)
   (zf (zO (w_pv 0) (w_pv 4) rfl))))) ?_
  refine⟨_,rfl,_,rfl,p,a.c_Less,dx,_,rfl,hp,T.cl_Less,T.na_Less_one,(by show 0<1000;decide),?_⟩
  refine⟨_,rfl,_,rfl,p,a.c_Less,dx,_,rfl,zd,T.cl_Less,T.na_Less_other,(by show 1<1000;decide),?_⟩
  refine⟨_,rfl,_,rfl,p,a.c_Less,dx,_,rfl,zd,T.cl_Less,T.na_Less_third,(by show 2<1000;decide),?_⟩
  refine⟨_,rfl,_,rfl,p,a.c_Less,dx,_,rfl,zd,T.cl_Less,T.na_Less_fourth,(by show 3<1000;decide),?_⟩
  rw[yt,yt,yt]
  exact k
end
end K04

namespace K04
open PySem L2
section
variable {P:Program}{w:World}{K:PySem.W.Frag}{mg:Str→Option Value}{base:Heap}{a:Ad}
def yd (a:Ad) (n:Nat) (Kd:Ex→Prop):Sp:=fun vs H Q _=>∃ (e:Ex) (r:V) (d:Addr) (kvs:List (Key×V)) (names:List Str),vs=[r,.ref d]∧Kd e∧Made a H e r∧e.dep≤n∧e.ok names∧H d=some (.dK kvs)∧Has names kvs∧Q (.int (e.val (rho kvs))) H
abbrev Wu (e:Ex):Prop:=∃ i,e=.num i
abbrev uB (e:Ex):Prop:=∃ x,e=.name x
abbrev Ws (e:Ex):Prop:=∃ w e1 e2,e=.two w e1 e2
abbrev Wv (e:Ex):Prop:=∃ e1 n,e=.mod e1 n
abbrev uC (e:Ex):Prop:=∃ e1 e2 e3 e4,e=.less e1 e2 e3 e4
structure Reckons (P:Program) (w:World) (K:PySem.W.Frag) (mg:Str→Option Value) (base:Heap) (a:Ad) (n:Nat):Prop where
 num:FnOk P w K mg base CX0 (n+1) a.f_qJ a.d_qJ ["self", "worths"] (yd a n Wu)
 name:FnOk P w K mg base CX0 (n+1) a.f_qM a.d_qM ["self", "worths"] (yd a n uB)
 two:FnOk P w K mg base CX0 (n+1) a.f_qP a.d_qP ["self", "worths"] (yd a n Ws)
 mod:FnOk P w K mg base CX0 (n+1) a.f_qS a.d_qS ["self", "worths"] (yd a n Wv)
 less:FnOk P w K mg base CX0 (n+1) a.f_qV a.d_qV ["self", "worths"] (yd a n uC)
theorem Reckons.call {n:Nat}(R:Reckons P w K mg base a n) (T:Txt w K mg a){A:Around}(hr:Room (n+1) A){H:Hp}{e:Ex}{x:V}{d:Addr}{kvs:List (Key×V)}{names:List Str}(hM:Made a H e x) (hd:e.dep≤n) (ho:e.ok names) (h1:H d=some (.dK kvs)) (h2:Has names kvs) :
  ∃ (p C dx:Addr) (fs:List (Str×V)) (f:Addr) (fd:FuncData) (ps:List Str) (k:Nat) (sp:Sp),x=.ref p∧H p=some (.ins C dx fs)∧fs.lookup ("reckon" : Str)=none∧Cls K C∧Meth K C "reckon" f∧FnOk P w K mg base CX0 k f fd ps sp∧Room k A∧Binds K fd ps [] ∧
   ∀ Q:VK,Q (.int (e.val (rho kvs))) H→sp (x::([.ref d]++[])) H Q E0:=by
 cases e with
 |num i =>
  obtain⟨p,dx,rfl,hp⟩:=id hM
  exact⟨p,_,dx,_,_,_,_,_,_,rfl,hp,rfl,T.cl_Num,T.mt_qJ,R.num,hr,T.b_qJ,fun Q q=>⟨_,_,_,_,_,rfl,⟨_,rfl⟩,hM,hd,ho,h1,h2,q⟩⟩
 |name i =>
  obtain⟨p,dx,rfl,hp⟩:=id hM
  exact⟨p,_,dx,_,_,_,_,_,_,rfl,hp,rfl,T.cl_Name,T.mt_qM,R.name,hr,T.b_qM,fun Q q=>⟨_,_,_,_,_,rfl,⟨_,rfl⟩,hM,hd,ho,h1,h2,q⟩⟩
 |two i e1 e2 =>
  obtain⟨p,dx,u1,u2,rfl,hp,_⟩:=id hM
  exact⟨p,_,dx,_,_,_,_,_,_,rfl,hp,rfl,T.cl_Two,T.mt_qP,R.two,hr,T.b_qP,fun Q q=>⟨_,_,_,_,_,rfl,⟨_,_,_,rfl⟩,hM,hd,ho,h1,h2,q⟩⟩
 |mod e1 i =>
  obtain⟨p,dx,u1,rfl,hp,_⟩:=id hM
  exact⟨p,_,dx,_,_,_,_,_,_,rfl,hp,rfl,T.cl_Mod,T.mt_qS,R.mod,hr,T.b_qS,fun Q q=>⟨_,_,_,_,_,rfl,⟨_,_,rfl⟩,hM,hd,ho,h1,h2,q⟩⟩
 |less e1 e2 e3 e4 =>
  obtain⟨p,dx,u1,u2,u3,u4,rfl,hp,_⟩:=id hM
  exact⟨p,_,dx,_,_,_,_,_,_,rfl,hp,rfl,T.cl_Less,T.mt_qV,R.less,hr,T.b_qV,fun Q q=>⟨_,_,_,_,_,rfl,⟨_,_,_,_,rfl⟩,hM,hd,ho,h1,h2,q⟩⟩
theorem wL (T:Txt w K mg a) (n:Nat):FnOk P w K mg base CX0 (n+1) a.f_qJ a.d_qJ ["self", "worths"] (yd a n Wu):=by
 refine T.F_qJ.ok zmJ (fun vs H Q E h=>?_) (fun cdv A outer s H vs Q E hr h=>?_)
 ·obtain⟨e,r,d,kvs,names,rfl,_⟩:=h
  rfl
 ·obtain⟨e,r,d,kvs,names,rfl,⟨i,rfl⟩,⟨p,dx,rfl,hp⟩,_,_,_,_,k⟩:=h
  refine zD (zf (zh (w_pe_fld (w_pv 0) rfl))) ?_
  exact⟨_,rfl,p,_,dx,_,_,rfl,hp,T.cl_Num,T.na_Num_value,rfl,k⟩
theorem we (T:Txt w K mg a) (n:Nat):FnOk P w K mg base CX0 (n+1) a.f_qM a.d_qM ["self", "worths"] (yd a n uB):=by
 refine T.F_qM.ok zmG (fun vs H Q E h=>?_) (fun cdv A outer s H vs Q E hr h=>?_)
 ·obtain⟨e,r,d,kvs,names,rfl,_⟩:=h
  rfl
 ·obtain⟨e,r,d,kvs,names,rfl,⟨x,rfl⟩,⟨p,dx,rfl,hp⟩,_,ho,hd,hh,k⟩:=h
  have hu:=xX hr
  refine zD (zf (zh (yw hu (w_pv 1) (w_pe_fld (w_pv 0) rfl) (fun _ _=>rfl)))) ?_
  refine⟨_,rfl,_,rfl,p,_,dx,_,_,rfl,hp,T.cl_Name,T.na_Name_word,rfl,d,_,rfl,?_,k⟩
  have:=hh.at (show x∈names from ho)
  exact this ▸ DGet.k (k:=Sum.inr x) hd
theorem wK (T:Txt w K mg a){n:Nat}(R:Reckons P w K mg base a n):FnOk P w K mg base CX0 (n+2) a.f_qP a.d_qP ["self", "worths"] (yd a (n+1) Ws):=by
 refine T.F_qP.ok sc_qP (fun vs H Q E h=>?_) (fun cdv A outer s H vs Q E hr h=>?_)
 ·obtain⟨e,r,d,kvs,names,rfl,_⟩:=h
  rfl
 ·obtain⟨e,r,d,kvs,names,rfl,⟨wd,e1,e2,rfl⟩,⟨p,dx,u1,u2,rfl,hp,m1,m2⟩,hdep,⟨hw,o1,o2⟩,hd,hh,k⟩:=h
  have d1:e1.dep≤n:=by have:=Nat.le_max_left e1.dep e2.dep;have:max e1.dep e2.dep+1≤n+1:=hdep;omega
  have d2:e2.dep≤n:=by have:=Nat.le_max_right e1.dep e2.dep;have:max e1.dep e2.dep+1≤n+1:=hdep;omega
  refine zD (w_pss_cons (zl (i:=2) sc_qP.nd rfl (Or.inl rfl) (w_pe_methD (w_pe_fld (w_pv 0) rfl) (w_pa_N (w_pv 1) w_pa_nil)))
   (w_pss_cons (zl (i:=3) sc_qP.nd rfl (Or.inl rfl) (w_pe_methD (w_pe_fld (w_pv 0) rfl) (w_pa_N (w_pv 1) w_pa_nil)))
   (w_pss_cons (w_ps_if (w_pt_cmpR yG (w_pe_fld (w_pv 0) rfl) w_pe_str (zx _))
    (zf (zh (zj zV (w_pv 2) (w_pv 3))))
    zm)
   (w_pss_cons (w_ps_if (w_pt_cmpR yG (w_pe_fld (w_pv 0) rfl) w_pe_str (zx _))
    (zf (zh (zj ye (w_pv 2) (w_pv 3))))
    zm)
   (w_pss_cons (w_ps_if (w_pt_cmpR yG (w_pe_fld (w_pv 0) rfl) w_pe_str (zx _))
    (zf (zh (w_pe_callB (wa rfl) (by rfl) T.n_min bt_min (w_pa_N (w_pv 2) (w_pa_N (w_pv 3) w_pa_nil)))))
    zm)
   (zf (zh (w_pe_callB (Xn rfl) (by rfl) T.n_max bt_max (w_pa_N (w_pv 2) (w_pa_N (w_pv 3) w_pa_nil)))))))))) ?_
  -- one=self.one.reckon(worths)
  refine⟨_,rfl,p,_,dx,_,_,rfl,hp,T.cl_Two,T.na_Two_one,rfl,?_⟩
  obtain⟨p1,c1,x1,f1,f2,f3,f4,f5,f6,q1,q2,q3,q4,q5,q6,q7,q8,q9⟩:=R.call T hr m1 d1 o1 hd hh
  refine⟨p1,c1,x1,f1,f2,f3,f4,f5,f6,q1,q2,q3,q4,q5,q6,q7,q8,_,rfl,q9 _ ?_⟩
  -- other=self.other.reckon(worths)
  refine⟨_,rfl,p,_,dx,_,_,rfl,hp,T.cl_Two,T.na_Two_other,rfl,?_⟩
  obtain⟨p1,c1,x1,f1,f2,f3,f4,f5,f6,q1,q2,q3,q4,q5,q6,q7,q8,q9⟩:=R.call T hr m2 d2 o2 hd hh
  refine⟨p1,c1,x1,f1,f2,f3,f4,f5,f6,q1,q2,q3,q4,q5,q6,q7,q8,_,rfl,q9 _ ?_⟩
  have k':Q (.int (if wd = "add" then e1.val (rho kvs)+e2.val (rho kvs) else if wd = "sub" then e1.val (rho kvs)-e2.val (rho kvs) else if wd = "min" then(if e2.val (rho kvs)<e1.val (rho kvs) then e2.val (rho kvs) else e1.val (rho kvs)) else(if e2.val (rho kvs)>e1.val (rho kvs) then e2.val (rho kvs) else e1.val (rho kvs)))) H:=k
  generalize e1.val (rho kvs)=x1 at k' ⊢
  generalize e2.val (rho kvs)=x2 at k' ⊢
  -- if self.word == 'add':
  refine⟨_,rfl,p,_,dx,_,_,rfl,hp,T.cl_Two,T.na_Two_word,rfl,rfl,_,rfl,?_⟩
  refine ite2 (fun q=>?_) (fun q=>?_)
  ·have q':wd = "add" := by simpa using q
   rw[if_pos q'] at k'
   exact⟨_,rfl,_,rfl,_,_,rfl,rfl,k'⟩
  have q':¬ wd = "add" := by simpa using q
  rw[if_neg q'] at k'
  refine⟨_,rfl,p,_,dx,_,_,rfl,hp,T.cl_Two,T.na_Two_word,rfl,rfl,_,rfl,?_⟩
  refine ite2 (fun q=>?_) (fun q=>?_)
  ·have q':wd = "sub" := by simpa using q
   rw[if_pos q'] at k'
   exact⟨_,rfl,_,rfl,_,_,rfl,rfl,k'⟩
  have q':¬ wd = "sub" := by simpa using q
  rw[if_neg q'] at k'
  refine⟨_,rfl,p,_,dx,_,_,rfl,hp,T.cl_Two,T.na_Two_word,rfl,rfl,_,rfl,?_⟩
  refine ite2 (fun q=>?_) (fun q=>?_)
  ·have q':wd = "min" := by simpa using q
   rw[if_pos q'] at k'
   exact⟨_,rfl,_,rfl,_,_,rfl,k'⟩
  have q':¬ wd = "min" := by simpa using q
  rw[if_neg q'] at k'
  exact⟨_,rfl,_,rfl,_,_,rfl,k'⟩
theorem wN (T:Txt w K mg a){n:Nat}(R:Reckons P w K mg base a n):FnOk P w K mg base CX0 (n+2) a.f_qS a.d_qS ["self", "worths"] (yd a (n+1) Wv):=by
 refine T.F_qS.ok zmB (fun vs H Q E h=>?_) (fun cdv A outer s H vs Q E hr h=>?_)
 ·obtain⟨e,r,d,kvs,names,rfl,_⟩:=h
  rfl
 ·obtain⟨e,r,d,kvs,names,rfl,⟨e1,i,rfl⟩,⟨p,dx,u1,rfl,hp,m1⟩,hdep,⟨⟨hi,_⟩,o1⟩,hd,hh,k⟩:=h
  have d1:e1.dep≤n:=by have:e1.dep+1≤n+1:=hdep;omega
  refine zD (zf (zh (zj yV (w_pe_methD (w_pe_fld (w_pv 0) rfl) (w_pa_N (w_pv 1) w_pa_nil)) (w_pe_fld (w_pv 0) rfl)))) ?_
  refine⟨_,rfl,p,_,dx,_,_,rfl,hp,T.cl_Mod,T.na_Mod_inner,rfl,?_⟩
  obtain⟨p1,c1,x1,f1,f2,f3,f4,f5,f6,q1,q2,q3,q4,q5,q6,q7,q8,q9⟩:=R.call T hr m1 d1 o1 hd hh
  refine⟨p1,c1,x1,f1,f2,f3,f4,f5,f6,q1,q2,q3,q4,q5,q6,q7,q8,_,rfl,q9 _ ?_⟩
  exact⟨_,rfl,p,_,dx,_,_,rfl,hp,T.cl_Mod,T.na_Mod_number,rfl,_,_,rfl,rfl,(by omega),k⟩
theorem wf (T:Txt w K mg a){n:Nat}(R:Reckons P w K mg base a n):FnOk P w K mg base CX0 (n+2) a.f_qV a.d_qV ["self", "worths"] (yd a (n+1) uC):=by
 refine T.F_qV.ok zmy (fun vs H Q E h=>?_) (fun cdv A outer s H vs Q E hr h=>?_)
 ·obtain⟨e,r,d,kvs,names,rfl,_⟩:=h
  rfl
 ·obtain⟨e,r,d,kvs,names,rfl,⟨e1,e2,e3,e4,rfl⟩,⟨p,dx,u1,u2,u3,u4,rfl,hp,m1,m2,m3,m4⟩,hdep,⟨o1,o2,o3,o4⟩,hd,hh,k⟩:=h
  have hdep:max (max e1.dep e2.dep) (max e3.dep e4.dep)+1≤n+1:=hdep
  have d1:e1.dep≤n:=by omega
  have d2:e2.dep≤n:=by omega
  have d3:e3.dep≤n:=by omega
  have d4:e4.dep≤n:=by omega
  refine zD (w_pss_cons (w_ps_if (w_pt_cmpR xO (w_pe_methD (w_pe_fld (w_pv 0) rfl) (w_pa_N (w_pv 1) w_pa_nil)) (w_pe_methD (w_pe_fld (w_pv 0) rfl) (w_pa_N (w_pv 1) w_pa_nil)) (zx _))
    (zf (zh (w_pe_methD (w_pe_fld (w_pv 0) rfl) (w_pa_N (w_pv 1) w_pa_nil))))
    zm)
   (zf (zh (w_pe_methD (w_pe_fld (w_pv 0) rfl) (w_pa_N (w_pv 1) w_pa_nil))))) ?_
  refine⟨_,rfl,p,_,dx,_,_,rfl,hp,T.cl_Less,T.na_Less_one,rfl,?_⟩
  obtain⟨p1,c1,x1,f1,f2,f3,f4,f5,f6,q1,q2,q3,q4,q5,q6,q7,q8,q9⟩:=R.call T hr m1 d1 o1 hd hh
  refine⟨p1,c1,x1,f1,f2,f3,f4,f5,f6,q1,q2,q3,q4,q5,q6,q7,q8,_,rfl,q9 _ ?_⟩
  refine⟨_,rfl,p,_,dx,_,_,rfl,hp,T.cl_Less,T.na_Less_other,rfl,?_⟩
  obtain⟨p1,c1,x1,f1,f2,f3,f4,f5,f6,q1,q2,q3,q4,q5,q6,q7,q8,q9⟩:=R.call T hr m2 d2 o2 hd hh
  refine⟨p1,c1,x1,f1,f2,f3,f4,f5,f6,q1,q2,q3,q4,q5,q6,q7,q8,_,rfl,q9 _ ?_⟩
  have k':Q (.int (if e1.val (rho kvs)<e2.val (rho kvs) then e3.val (rho kvs) else e4.val (rho kvs))) H:=k
  refine⟨_,_,rfl,rfl,_,rfl,?_⟩
  refine ite2 (fun q=>?_) (fun q=>?_)
  ·have q':e1.val (rho kvs)<e2.val (rho kvs):=of_decide_eq_true q
   rw[if_pos q'] at k'
   refine⟨_,rfl,p,_,dx,_,_,rfl,hp,T.cl_Less,T.na_Less_third,rfl,?_⟩
   obtain⟨p1,c1,x1,f1,f2,f3,f4,f5,f6,q1,q2,q3,q4,q5,q6,q7,q8,q9⟩:=R.call T hr m3 d3 o3 hd hh
   exact⟨p1,c1,x1,f1,f2,f3,f4,f5,f6,q1,q2,q3,q4,q5,q6,q7,q8,_,rfl,q9 _ k'⟩
  ·have q':¬ e1.val (rho kvs)<e2.val (rho kvs):=fun z=>q (decide_eq_true z)
   rw[if_neg q'] at k'
   refine⟨_,rfl,p,_,dx,_,_,rfl,hp,T.cl_Less,T.na_Less_fourth,rfl,?_⟩
   obtain⟨p1,c1,x1,f1,f2,f3,f4,f5,f6,q1,q2,q3,q4,q5,q6,q7,q8,q9⟩:=R.call T hr m4 d4 o4 hd hh
   exact⟨p1,c1,x1,f1,f2,f3,f4,f5,f6,q1,q2,q3,q4,q5,q6,q7,q8,_,rfl,q9 _ k'⟩
theorem vx {f:Addr}{fd:FuncData}{ps:List Str}{Kd:Ex→Prop}{k:Nat}(hl:ps.length=2):FnOk P w K mg base CX0 k f fd ps (yd a 0 Kd) :=
 ⟨fun vs H Q E h=>by
  obtain⟨e,r,d,kvs,names,rfl,_⟩:=h
  exact hl.symm,fun A outer s H args us vs Q E _ _ _ _ h=>by
  obtain⟨e,r,d,kvs,names,_,_,_,hd,_⟩:=h
  have:=e.dep_pos
  omega⟩
theorem xq (T:Txt w K mg a):∀ n,Reckons P w K mg base a n
 |0=>⟨vx rfl,vx rfl,vx rfl,vx rfl,vx rfl⟩
 |n+1=>⟨wL T (n+1),we T (n+1),wK T (xq T n),wN T (xq T n),wf T (xq T n)⟩
end
end K04

namespace K04
open PySem L2
section
variable {P:Program}{w:World}{K:PySem.W.Frag}{mg:Str→Option Value}{base:Heap}{a:Ad}
def Vl (K:PySem.W.Frag) (f:V→Bool):Sp:=fun vs H Q _=>∃ v,vs=[v]∧Lf K H v∧Q (.bl (f v)) H
theorem xQ (T:Txt w K mg a):FnOk P w K mg base CX0 1 a.f_qi a.d_qi ["value"] (Vl K whole):=by
 refine T.F_qi.ok zfT (fun vs H Q E h=>?_) (fun cdv A outer s H vs Q E hr h=>?_)
 ·obtain⟨v,rfl,_⟩:=h
  rfl
 ·obtain⟨v,rfl,⟨t,ty,k1,k2,_⟩,k⟩:=h
  refine zD (zf (zh (yq (w_pe_callB zT (by rfl) T.n_isinstance zz (w_pa_N (w_pv 0) (w_pa_N (wx T.n_int Vf) w_pa_nil))) (yj (XE (w_pe_callB zT (by rfl) T.n_isinstance zz (w_pa_N (w_pv 0) (w_pa_N (wx T.n_bool Xp) w_pa_nil)))))))) ?_
  rw[XC] at k
  refine⟨_,rfl,_,_,_,_,_,rfl,rfl,ty,k1,_,rfl,?_⟩
  by_cases q:zn2 v=true
  ·rw[q] at k
   exact iteB q ⟨_,rfl,_,_,_,_,_,rfl,rfl,ty,k2,_,rfl,k⟩
  ·have q:=Bool.eq_false_iff.mpr q
   rw[q] at k
   exact yn q k
theorem vW (T:Txt w K mg a):FnOk P w K mg base CX0 2 a.f_qj a.d_qj ["value"] (Vl K uo):=by
 have c_qi:Callee P w K mg base "is_whole" a.f_qi a.d_qi ["value"] 1 (Vl K whole):=⟨xQ T,T.g_qi,T.F_qi.kp,T.b_qi⟩
 refine T.F_qj.ok zmp (fun vs H Q E h=>?_) (fun cdv A outer s H vs Q E hr h=>?_)
 ·obtain⟨v,rfl,_⟩:=h
  rfl
 ·obtain⟨v,rfl,lf,k⟩:=h
  refine zD (zf (zh (yq (zk c_qi (hr.mono (by omega)) (w_pa_N (w_pv 0) w_pa_nil)) (yj (zR xO (w_pe_callB WH (by rfl) T.n_abs zix (w_pa_N (w_pv 0) w_pa_nil)) (zj xh ze ze) (zx _)))))) ?_
  refine⟨_,rfl,v,rfl,lf,_,rfl,?_⟩
  by_cases q:whole v=true
  ·obtain⟨i,rfl⟩:=wX q
   refine iteB q ⟨_,rfl,i,rfl,_,_,rfl,rfl,⟨by decide,by decide,by decide⟩,_,_,rfl,rfl,?_⟩
   rw[zmS]
   exact k
  ·have q:=Bool.eq_false_iff.mpr q
   refine yn q ?_
   have e:uo v=false:=by cases v<;>first | rfl | simp[whole] at q
   rw[e] at k
   exact k
theorem wI (T:Txt w K mg a):FnOk P w K mg base CX0 2 a.f_ql a.d_ql ["number"] (Vl K zat):=by
 have c_qi:Callee P w K mg base "is_whole" a.f_qi a.d_qi ["value"] 1 (Vl K whole):=⟨xQ T,T.g_qi,T.F_qi.kp,T.b_qi⟩
 refine T.F_ql.ok zmn (fun vs H Q E h=>?_) (fun cdv A outer s H vs Q E hr h=>?_)
 ·obtain⟨v,rfl,_⟩:=h
  rfl
 ·obtain⟨v,rfl,lf,k⟩:=h
  refine zD (zf (zh (yq (zk c_qi (hr.mono (by omega)) (w_pa_N (w_pv 0) w_pa_nil)) (yq (zR zgk (w_pv 0) ze (zx _)) (yj (zR zgj (w_pv 0) (zj xh ze ze) (zx _))))))) ?_
  refine⟨_,rfl,v,rfl,lf,_,rfl,?_⟩
  by_cases q:whole v=true
  ·obtain⟨i,rfl⟩:=wX q
   have k':Q (.bl (decide (1≤i)&&decide (i≤1000000000))) H:=k
   refine iteB q ⟨_,rfl,_,_,rfl,rfl,_,rfl,?_⟩
   by_cases q1:(1:Int)≤i
   ·refine iteB (decide_eq_true q1) ⟨_,rfl,_,_,rfl,rfl,⟨by decide,by decide,by decide⟩,_,_,rfl,rfl,?_⟩
    rw[decide_eq_true q1,Bool.true_and] at k'
    rw[zw9]
    exact k'
   ·refine yn (decide_eq_false q1) ?_
    rw[decide_eq_false q1,Bool.false_and] at k'
    exact k'
  ·have q:=Bool.eq_false_iff.mpr q
   refine yn q ?_
   have e:zat v=false:=by cases v<;>first | rfl | simp[whole] at q
   rw[e] at k
   exact k
def WO (K:PySem.W.Frag):Sp:=fun vs H Q _=>∃ (v:V) (p:Addr) (ws:List Str),vs=[v,.ref p]∧Lf K H v∧SqT K H p (ws.map V.str)∧Q (.bl (wg ws v)) H
theorem uW (T:Txt w K mg a):FnOk P w K mg base CX0 1 a.f_qk a.d_qk ["word", "words"] (WO K):=by
 refine T.F_qk.ok zmo (fun vs H Q E h=>?_) (fun cdv A outer s H vs Q E hr h=>?_)
 ·obtain⟨v,p,ws,rfl,_⟩:=h
  rfl
 ·obtain⟨v,p,ws,rfl,⟨t,ty,_,_,k3⟩,hp,k⟩:=h
  refine zD (zf (zh (yq (w_pe_callB zT (by rfl) T.n_isinstance zz (w_pa_N (w_pv 0) (w_pa_N (wx T.n_str Xo) w_pa_nil))) (yj (zR xP (w_pv 0) (w_pv 1) (by with_unfolding_all rfl)))))) ?_
  refine⟨_,rfl,_,_,_,_,_,rfl,rfl,ty,k3,_,rfl,?_⟩
  by_cases q:zik v=true
  ·obtain⟨x,rfl⟩:=Wt q
   exact iteB q ⟨_,rfl,_,rfl,p,_,rfl,.inr hp,rfl,flat_strs ws,k⟩
  ·have q:=Bool.eq_false_iff.mpr q
   refine yn q ?_
   have e:wg ws v=false:=by cases v<;>first | rfl | simp[zik] at q
   rw[e] at k
   exact k
end
end K04

namespace K04
open PySem L2
theorem TyOf.same {K:PySem.W.Frag}{H H':Hp}{v:V}{t:Value}(s:Same H H') (h:TyOf K H v t):TyOf K H' v t:=by
 cases h with
 |non=>exact .non
 |bl x=>exact .bl x
 |int i=>exact .int i
 |str x=>exact .str x
 |flt x=>exact .flt x
 |lst e=>exact .lst (s _ _ e)
 |frz e=>exact .frz (s _ _ e)
 |tup e=>exact .tup (s _ _ e)
 |dK e=>exact .dK (s _ _ e)
 |dT e=>exact .dT (s _ _ e)
 |ins e cl ha hn htk hm=>exact .ins (s _ _ e) cl ha hn htk hm
theorem Lf.same {K:PySem.W.Frag}{H H':Hp}{v:V}(s:Same H H') (h:Lf K H v):Lf K H' v:=by
 obtain⟨t,ty,k⟩:=h
 exact⟨t,TyOf.same s ty,k⟩
section
variable {P:Program}{w:World}{K:PySem.W.Frag}{mg:Str→Option Value}{base:Heap}{a:Ad}
noncomputable def GMade (K:PySem.W.Frag) (a:Ad) (H:Hp):Gx→V→Prop
 |.num v,r=>∃ p dx,r=.ref p∧H p=some (.ins a.c_Num dx [("value",v)])∧Lf K H v
 |.name v,r=>∃ p dx,r=.ref p∧H p=some (.ins a.c_Name dx [("word",v)])∧Lf K H v
 |.two wd e f,r=>∃ p dx u1 u2,r=.ref p∧H p=some (.ins a.c_Two dx [("word",wd),("one",u1),("other",u2)])∧Lf K H wd∧GMade K a H e u1∧GMade K a H f u2
 |.mod e n,r=>∃ p dx u1,r=.ref p∧H p=some (.ins a.c_Mod dx [("inner",u1),("number",n)])∧Lf K H n∧GMade K a H e u1
 |.less e f g h,r=>∃ p dx u1 u2 u3 u4,r=.ref p∧H p=some (.ins a.c_Less dx [("one",u1),("other",u2),("third",u3),("fourth",u4)])∧GMade K a H e u1∧GMade K a H f u2∧GMade K a H g u3∧GMade K a H h u4
 |.oth v,r=>r=v∧∃ t,TyOf K H v t∧PySem.W.kitOne K t (.ref a.c_Num)=some false∧PySem.W.kitOne K t (.ref a.c_Name)=some false∧PySem.W.kitOne K t (.ref a.c_Two)=some false∧PySem.W.kitOne K t (.ref a.c_Mod)=some false∧PySem.W.kitOne K t (.ref a.c_Less)=some false
theorem GMade.same {H H':Hp}(s:Same H H'):∀ {g:Gx}{r:V},GMade K a H g r→GMade K a H' g r
 |.num _,_,⟨p,dx,e,h,l⟩=>⟨p,dx,e,s _ _ h,l.same s⟩
 |.name _,_,⟨p,dx,e,h,l⟩=>⟨p,dx,e,s _ _ h,l.same s⟩
 |.two _ _ _,_,⟨p,dx,u1,u2,e,h,l,t1,t2⟩=>⟨p,dx,u1,u2,e,s _ _ h,l.same s,t1.same s,t2.same s⟩
 |.mod _ _,_,⟨p,dx,u1,e,h,l,t1⟩=>⟨p,dx,u1,e,s _ _ h,l.same s,t1.same s⟩
 |.less _ _ _ _,_,⟨p,dx,u1,u2,u3,u4,e,h,t1,t2,t3,t4⟩=>⟨p,dx,u1,u2,u3,u4,e,s _ _ h,t1.same s,t2.same s,t3.same s,t4.same s⟩
 |.oth _,_,⟨e,t,ty,k⟩=>⟨e,t,TyOf.same s ty,k⟩
theorem Va (T:Txt w K mg a){H:Hp}(i:Int):Lf K H (.int i):=⟨_,.int i,T.k_tint_tint,T.k_tint_tbool,T.k_tint_tstr⟩
theorem W9 (T:Txt w K mg a){H:Hp}(x:Str):Lf K H (.str x):=⟨_,.str x,T.k_tstr_tint,T.k_tstr_tbool,T.k_tstr_tstr⟩
theorem Made.gx (T:Txt w K mg a){H:Hp}:∀ {e:Ex}{r:V},Made a H e r→GMade K a H e.gx r
 |.num i,_,⟨p,dx,e,h⟩=>⟨p,dx,e,h,Va T i⟩
 |.name x,_,⟨p,dx,e,h⟩=>⟨p,dx,e,h,W9 T x⟩
 |.two w _ _,_,⟨p,dx,u1,u2,e,h,t1,t2⟩=>⟨p,dx,u1,u2,e,h,W9 T w,t1.gx T,t2.gx T⟩
 |.mod _ n,_,⟨p,dx,u1,e,h,t1⟩=>⟨p,dx,u1,e,h,Va T n,t1.gx T⟩
 |.less _ _ _ _,_,⟨p,dx,u1,u2,u3,u4,e,h,t1,t2,t3,t4⟩=>⟨p,dx,u1,u2,u3,u4,e,h,t1.gx T,t2.gx T,t3.gx T,t4.gx T⟩
def GMs (K:PySem.W.Frag) (a:Ad) (H:Hp) (rs:List V) (gs:List Gx):Prop:=rs.length=gs.length∧∀ (i:Nat) r,rs[i]?=some r→∃ g,gs[i]?=some g∧GMade K a H g r
def yD (K:PySem.W.Frag) (a:Ad) (n:Nat):Sp:=fun vs H Q _=>∃ (g:Gx) (r:V) (nm:Addr) (names:List Str) (d:Int),vs=[r,.ref nm,.int d]∧GMade K a H g r∧(∀ H,SqT K H nm (names.map V.str))∧0≤d∧d<n∧∀ H',Same H H'→Q (.bl (g.sound names d.toNat)) H'
def Vo (K:PySem.W.Frag) (a:Ad) (n:Nat):Sp:=fun vs H Q _=>∃ (l:Addr) (rs:List V) (gs:List Gx) (nm:Addr) (names:List Str) (d:Int),vs=[.ref l,.ref nm,.int d]∧H l=some (.lst rs)∧GMs K a H rs gs∧(∀ H,SqT K H nm (names.map V.str))∧0≤d∧d<n∧∀ H',Same H H'→Q (.bl (gs.all (Gx.sound names d.toNat))) H'
theorem W6 (T:Txt w K mg a){n:Nat}(I:FnOk P w K mg base CX0 (2*n+1) a.f_qn a.d_qn ["expr", "names", "deep"] (yD K a n)):FnOk P w K mg base CX0 (2*n+2) a.f_qm a.d_qm ["parts", "names", "deep"] (Vo K a n):=by
 have c_qn:Callee P w K mg base "is_sound" a.f_qn a.d_qn ["expr", "names", "deep"] (2*n+1) (yD K a n):=⟨I,T.g_qn,T.F_qn.kp,T.b_qn⟩
 refine T.F_qm.ok sc_qm (fun vs H Q E h=>?_) (fun cdv A outer s H vs Q E hr h=>?_)
 ·obtain⟨l,rs,gs,nm,names,d,rfl,_⟩:=h
  rfl
 ·obtain⟨l,rs,gs,nm,names,d,rfl,hl,⟨hlen,hgm⟩,hn,d0,d1,k⟩:=h
  refine zD (w_pss_cons (ya PassesOwn.never rfl (zL (w_pv 0)) (zq (i:=3) sc_qm.nd rfl (Or.inl rfl))
    (zf (w_ps_if (xc (zZ (zk c_qn (hr.mono (by omega)) (w_pa_N (w_pv 3) (w_pa_N (w_pv 1) (w_pa_N (w_pv 2) w_pa_nil))))))
     (zf (zh yy))
     zm)))
   (zf (zh yy))) ?_
  refine⟨_,rfl,l,rfl,⟨_,SqL.of hl⟩,?_⟩
  refine yg (K:=K) (a:=l) (xs:=rs) (fun i σ H'=>∃ o,σ=[some (.ref l),some (.ref nm),some (.int d),o]∧Same H H'∧(gs.take i).all (Gx.sound names d.toNat)=true) ?_ ?_ ?_ ?_
  ·exact⟨none,rfl,Same.refl H,by simp⟩
  ·rintro i σ H' _ ⟨o,_,sm,_⟩
   exact SqL.of (sm _ _ hl)
  ·rintro i x σ H' hi ⟨o,rfl,sm,ha⟩
   obtain⟨g,hg,gm⟩:=hgm i x hi
   refine⟨_,rfl,_,rfl,_,rfl,g,x,nm,names,d,rfl,gm.same sm,hn,d0,d1,fun H1 s1=>⟨_,rfl,?_⟩⟩
   have hi':i<gs.length:=(List.getElem?_eq_some_iff.mp hg).1
   by_cases q:g.sound names d.toNat=true
   ·refine yn (by rw[q];rfl) ?_
    refine⟨_,rfl,sm.trans s1,?_⟩
    rw[List.take_add_one,hg,List.all_append,ha]
    simp[q]
   ·have q:=Bool.eq_false_iff.mpr q
    refine iteB (by rw[q];rfl) ?_
    have e:gs.all (Gx.sound names d.toNat)=false:=by
     rw[List.all_eq_false]
     exact⟨g,List.mem_of_getElem? hg,by rw[q];simp⟩
    have:=k H1 (sm.trans s1)
    rw[e] at this
    exact this
  ·rintro σ H' ⟨o,rfl,sm,ha⟩
   rw[hlen,List.take_length] at ha
   have:=k H' sm
   rw[ha] at this
   exact this
theorem zwz {H:Hp}{u1 u2:V}{g1 g2:Gx}(h1:GMade K a H g1 u1) (h2:GMade K a H g2 u2):GMs K a H [u1,u2] [g1,g2]:=⟨rfl,fun i r e=>by
 match i,e with
 |0,e=>cases e;exact⟨_,rfl,h1⟩
 |1,e=>cases e;exact⟨_,rfl,h2⟩
 |_+2,e=>simp at e⟩
theorem zxD {H:Hp}{u1 u2 u3 u4:V}{g1 g2 g3 g4:Gx}(h1:GMade K a H g1 u1) (h2:GMade K a H g2 u2) (h3:GMade K a H g3 u3) (h4:GMade K a H g4 u4):GMs K a H [u1,u2,u3,u4] [g1,g2,g3,g4]:=⟨rfl,fun i r e=>by
 match i,e with
 |0,e=>cases e;exact⟨_,rfl,h1⟩
 |1,e=>cases e;exact⟨_,rfl,h2⟩
 |2,e=>cases e;exact⟨_,rfl,h3⟩
 |3,e=>cases e;exact⟨_,rfl,h4⟩
 |_+4,e=>simp at e⟩
theorem vV (T:Txt w K mg a){n:Nat}(I:FnOk P w K mg base CX0 (2*n+1) a.f_qn a.d_qn ["expr", "names", "deep"] (yD K a n)):FnOk P w K mg base CX0 (2*n+3) a.f_qn a.d_qn ["expr", "names", "deep"] (yD K a (n+1)):=by
 have c_qn:Callee P w K mg base "is_sound" a.f_qn a.d_qn ["expr", "names", "deep"] (2*n+1) (yD K a n):=⟨I,T.g_qn,T.F_qn.kp,T.b_qn⟩
 have c_qm:Callee P w K mg base "are_sound" a.f_qm a.d_qm ["parts", "names", "deep"] (2*n+2) (Vo K a n):=⟨W6 T I,T.g_qm,T.F_qm.kp,T.b_qm⟩
 have c_qj:Callee P w K mg base "is_short_number" a.f_qj a.d_qj ["value"] 2 (Vl K uo):=⟨vW T,T.g_qj,T.F_qj.kp,T.b_qj⟩
 have c_ql:Callee P w K mg base "is_divisor" a.f_ql a.d_ql ["number"] 2 (Vl K zat):=⟨wI T,T.g_ql,T.F_ql.kp,T.b_ql⟩
 have c_qk:Callee P w K mg base "is_word_of" a.f_qk a.d_qk ["word", "words"] 1 (WO K):=⟨uW T,T.g_qk,T.F_qk.kp,T.b_qk⟩
 refine T.F_qn.ok zmm (fun vs H Q E h=>?_) (fun cdv A outer s H vs Q E hr h=>?_)
 ·obtain⟨g,r,nm,names,d,rfl,_⟩:=h
  rfl
 ·obtain⟨g,r,nm,names,d,rfl,gm,hn,d0,d1,k⟩:=h
  refine zD (w_pss_cons (w_ps_if (w_pt_cmpR yG (w_pv 2) ze (zx _))
    (zf (zh yy))
    zm)
   (w_pss_cons (w_ps_if (zZ (w_pe_callB zT (by rfl) T.n_isinstance zz (w_pa_N (w_pv 0) (w_pa_N (xf T.g_Num) w_pa_nil))))
    (zf (zh (zk c_qj (hr.mono (by omega)) (zg (w_pe_fld (w_pv 0) rfl) w_pa_nil))))
    zm)
   (w_pss_cons (w_ps_if (zZ (w_pe_callB zT (by rfl) T.n_isinstance zz (w_pa_N (w_pv 0) (w_pa_N (xf T.g_Name) w_pa_nil))))
    (zf (zh (zk c_qk (hr.mono (by omega)) (zg (w_pe_fld (w_pv 0) rfl) (w_pa_N (w_pv 1) w_pa_nil)))))
    zm)
   (w_pss_cons (w_ps_if (zZ (w_pe_callB zT (by rfl) T.n_isinstance zz (w_pa_N (w_pv 0) (w_pa_N (xf T.g_Two) w_pa_nil))))
    (zf (zh (yq (zk c_qk (hr.mono (by omega)) (zg (w_pe_fld (w_pv 0) rfl) (w_pa_N (yi (v:=.ref a.t_TWO_WORDS) rfl T.g_TWO_WORDS rfl) w_pa_nil))) (yj (zk c_qm (hr.mono (by omega)) (zg (zu (zg (w_pe_fld (w_pv 0) rfl) (zg (w_pe_fld (w_pv 0) rfl) w_pa_nil))) (w_pa_N (w_pv 1) (yc (zj ye (w_pv 2) ze) w_pa_nil))))))))
    zm)
   (w_pss_cons (w_ps_if (zZ (w_pe_callB zT (by rfl) T.n_isinstance zz (w_pa_N (w_pv 0) (w_pa_N (xf T.g_Mod) w_pa_nil))))
    (zf (zh (yq (zk c_ql (hr.mono (by omega)) (zg (w_pe_fld (w_pv 0) rfl) w_pa_nil)) (yj (zk c_qn (hr.mono (by omega)) (zg (w_pe_fld (w_pv 0) rfl) (w_pa_N (w_pv 1) (yc (zj ye (w_pv 2) ze) w_pa_nil))))))))
    zm)
   (w_pss_cons (w_ps_if (zZ (w_pe_callB zT (by rfl) T.n_isinstance zz (w_pa_N (w_pv 0) (w_pa_N (xf T.g_Less) w_pa_nil))))
    (zf (zh (zk c_qm (hr.mono (by omega)) (zg (zu (zg (w_pe_fld (w_pv 0) rfl) (zg (w_pe_fld (w_pv 0) rfl) (zg (w_pe_fld (w_pv 0) rfl) (zg (w_pe_fld (w_pv 0) rfl) w_pa_nil))))) (w_pa_N (w_pv 1) (yc (zj ye (w_pv 2) ze) w_pa_nil))))))
    zm)
   (zf (zh yy)))))))) ?_
  refine⟨_,rfl,rfl,_,rfl,?_⟩
  refine ite2 (fun q=>?_) (fun q=>?_)
  ·have e:d=0:=by simpa using q
   subst e
   exact k H (Same.refl H)
  have hd:d≠0:=fun e=>q (by subst e;rfl)
  have e1:d.toNat=(d-1).toNat+1:=by omega
  rw[e1] at k
  have b0:0≤d-1:=by omega
  have b1:d-1<n:=by omega
  cases g with
  |num v =>
   obtain⟨p,dx,rfl,hp,lf⟩:=gm
   refine⟨_,rfl,_,_,_,_,_,rfl,rfl,T.ty_Num H p dx _ hp,T.k_Num_Num,_,rfl,XA ?_⟩
   exact⟨_,rfl,p,_,dx,_,_,rfl,hp,T.cl_Num,T.na_Num_value,rfl,v,rfl,lf,k H (Same.refl H)⟩
  |name v =>
   obtain⟨p,dx,rfl,hp,lf⟩:=gm
   refine⟨_,rfl,_,_,_,_,_,rfl,rfl,T.ty_Name H p dx _ hp,T.k_Name_Num,_,rfl,vL ?_⟩
   refine⟨_,rfl,_,_,_,_,_,rfl,rfl,T.ty_Name H p dx _ hp,T.k_Name_Name,_,rfl,XA ?_⟩
   exact⟨_,rfl,p,_,dx,_,_,rfl,hp,T.cl_Name,T.na_Name_word,rfl,_,rfl,v,nm,names,rfl,lf,hn H,k H (Same.refl H)⟩
  |two wd g1 g2 =>
   obtain⟨p,dx,u1,u2,rfl,hp,lf,m1,m2⟩:=gm
   refine⟨_,rfl,_,_,_,_,_,rfl,rfl,T.ty_Two H p dx _ hp,T.k_Two_Num,_,rfl,vL ?_⟩
   refine⟨_,rfl,_,_,_,_,_,rfl,rfl,T.ty_Two H p dx _ hp,T.k_Two_Name,_,rfl,vL ?_⟩
   refine⟨_,rfl,_,_,_,_,_,rfl,rfl,T.ty_Two H p dx _ hp,T.k_Two_Two,_,rfl,XA ?_⟩
   refine⟨_,rfl,p,_,dx,_,_,rfl,hp,T.cl_Two,T.na_Two_word,rfl,wd,_,twoWs,rfl,lf,T.s_TWO_WORDS H,_,rfl,?_⟩
   have k':∀ H',Same H H'→Q (.bl (wg twoWs wd&&([g1,g2].all (Gx.sound names (d-1).toNat)))) H':=k
   by_cases qw:wg twoWs wd=true
   ·rw[qw] at k'
    refine iteB qw ?_
    refine⟨_,rfl,p,_,dx,_,_,rfl,hp,T.cl_Two,T.na_Two_one,rfl,_,rfl,p,_,dx,_,_,rfl,hp,T.cl_Two,T.na_Two_other,rfl,(by show 2≤sizeLine;decide),fun lp hlp=>?_⟩
    have s1:=Same.new (o:=HO.lst [u1,u2]) hlp
    exact⟨_,rfl,_,rfl,_,_,rfl,rfl,lp,_,_,nm,names,d-1,rfl,zd,zwz (m1.same s1) (m2.same s1),hn,b0,b1,fun H2 s2=>k' H2 (s1.trans s2)⟩
   ·have qw:=Bool.eq_false_iff.mpr qw
    rw[qw] at k'
    exact yn qw (k' H (Same.refl H))
  |mod g1 v =>
   obtain⟨p,dx,u1,rfl,hp,lf,m1⟩:=gm
   refine⟨_,rfl,_,_,_,_,_,rfl,rfl,T.ty_Mod H p dx _ hp,T.k_Mod_Num,_,rfl,vL ?_⟩
   refine⟨_,rfl,_,_,_,_,_,rfl,rfl,T.ty_Mod H p dx _ hp,T.k_Mod_Name,_,rfl,vL ?_⟩
   refine⟨_,rfl,_,_,_,_,_,rfl,rfl,T.ty_Mod H p dx _ hp,T.k_Mod_Two,_,rfl,vL ?_⟩
   refine⟨_,rfl,_,_,_,_,_,rfl,rfl,T.ty_Mod H p dx _ hp,T.k_Mod_Mod,_,rfl,XA ?_⟩
   refine⟨_,rfl,p,_,dx,_,_,rfl,hp,T.cl_Mod,T.na_Mod_number,rfl,v,rfl,lf,_,rfl,?_⟩
   have k':∀ H',Same H H'→Q (.bl (zat v&&g1.sound names (d-1).toNat)) H':=k
   by_cases qw:zat v=true
   ·rw[qw] at k'
    refine iteB qw ?_
    exact⟨_,rfl,p,_,dx,_,_,rfl,hp,T.cl_Mod,T.na_Mod_inner,rfl,_,rfl,_,rfl,_,_,rfl,rfl,g1,u1,nm,names,d-1,rfl,m1,hn,b0,b1,k'⟩
   ·have qw:=Bool.eq_false_iff.mpr qw
    rw[qw] at k'
    exact yn qw (k' H (Same.refl H))
  |less g1 g2 g3 g4 =>
   obtain⟨p,dx,u1,u2,u3,u4,rfl,hp,m1,m2,m3,m4⟩:=gm
   refine⟨_,rfl,_,_,_,_,_,rfl,rfl,T.ty_Less H p dx _ hp,T.k_Less_Num,_,rfl,vL ?_⟩
   refine⟨_,rfl,_,_,_,_,_,rfl,rfl,T.ty_Less H p dx _ hp,T.k_Less_Name,_,rfl,vL ?_⟩
   refine⟨_,rfl,_,_,_,_,_,rfl,rfl,T.ty_Less H p dx _ hp,T.k_Less_Two,_,rfl,vL ?_⟩
   refine⟨_,rfl,_,_,_,_,_,rfl,rfl,T.ty_Less H p dx _ hp,T.k_Less_Mod,_,rfl,vL ?_⟩
   refine⟨_,rfl,_,_,_,_,_,rfl,rfl,T.ty_Less H p dx _ hp,T.k_Less_Less,_,rfl,XA ?_⟩
   refine⟨_,rfl,p,_,dx,_,_,rfl,hp,T.cl_Less,T.na_Less_one,rfl,_,rfl,p,_,dx,_,_,rfl,hp,T.cl_Less,T.na_Less_other,rfl,_,rfl,p,_,dx,_,_,rfl,hp,T.cl_Less,T.na_Less_third,rfl,_,rfl,p,_,dx,_,_,rfl,hp,T.cl_Less,T.na_Less_fourth,rfl,(by show 4≤sizeLine;decide),fun lp hlp=>?_⟩
   have s1:=Same.new (o:=HO.lst [u1,u2,u3,u4]) hlp
   exact⟨_,rfl,_,rfl,_,_,rfl,rfl,lp,_,_,nm,names,d-1,rfl,zd,zxD (m1.same s1) (m2.same s1) (m3.same s1) (m4.same s1),hn,b0,b1,fun H2 s2=>k H2 (s1.trans s2)⟩
  |oth v =>
   obtain⟨rfl,t,ty,n1,n2,n3,n4,n5⟩:=gm
   refine⟨_,rfl,_,_,_,_,_,rfl,rfl,ty,n1,_,rfl,vL ?_⟩
   refine⟨_,rfl,_,_,_,_,_,rfl,rfl,ty,n2,_,rfl,vL ?_⟩
   refine⟨_,rfl,_,_,_,_,_,rfl,rfl,ty,n3,_,rfl,vL ?_⟩
   refine⟨_,rfl,_,_,_,_,_,rfl,rfl,ty,n4,_,rfl,vL ?_⟩
   refine⟨_,rfl,_,_,_,_,_,rfl,rfl,ty,n5,_,rfl,vL ?_⟩
   exact k H (Same.refl H)
theorem zfS {k:Nat}:FnOk P w K mg base CX0 k a.f_qn a.d_qn ["expr", "names", "deep"] (yD K a 0) :=
 ⟨fun vs H Q E h=>by
  obtain⟨g,r,nm,names,d,rfl,_⟩:=h
  rfl,fun A outer s H args us vs Q E _ _ _ _ h=>by
  obtain⟨g,r,nm,names,d,_,_,_,d0,d1,_⟩:=h
  exact absurd d1 (by simp;omega)⟩
theorem Yo (T:Txt w K mg a):∀ n,FnOk P w K mg base CX0 (2*n+1) a.f_qn a.d_qn ["expr", "names", "deep"] (yD K a n)
 |0=>zfS
 |n+1=>vV T (Yo T n)
end
end K04

namespace K04
open PySem L2
theorem Y0 {i:Int}(h : -100000000000000000000<i∧i<100000000000000000000):i.natAbs.log2<1920:=by
 by_cases h0:i.natAbs=0
 ·rw[h0];decide
 ·have:=(Nat.log2_lt h0 (k:=67)).mpr (Nat.lt_of_le_of_lt (show i.natAbs≤100000000000000000000 by omega) (by decide))
  omega
section
variable {P:Program}{w:World}{K:PySem.W.Frag}{mg:Str→Option Value}{base:Heap}{a:Ad}
def ym (a:Ad) (n:Nat) (Kd:Ex→Prop):Sp:=fun vs H Q _=>∃ (e:Ex) (r:V) (names:List Str),vs=[r]∧Kd e∧Made a H e r∧e.ok names∧e.dep≤n∧e.size≤sizeLine∧∀ p H',H' p=some (.lst (e.words.map V.str))→Same H H'→Q (.ref p) H'
structure Wordss (P:Program) (w:World) (K:PySem.W.Frag) (mg:Str→Option Value) (base:Heap) (a:Ad) (n:Nat):Prop where
 num:FnOk P w K mg base CX0 (n+1) a.f_qK a.d_qK ["self"] (ym a n Wu)
 name:FnOk P w K mg base CX0 (n+1) a.f_qN a.d_qN ["self"] (ym a n uB)
 two:FnOk P w K mg base CX0 (n+1) a.f_qQ a.d_qQ ["self"] (ym a n Ws)
 mod:FnOk P w K mg base CX0 (n+1) a.f_qT a.d_qT ["self"] (ym a n Wv)
 less:FnOk P w K mg base CX0 (n+1) a.f_qW a.d_qW ["self"] (ym a n uC)
theorem Wordss.call {n:Nat}(R:Wordss P w K mg base a n) (T:Txt w K mg a){A:Around}(hr:Room (n+1) A){H:Hp}{e:Ex}{x:V}{names:List Str}(hM:Made a H e x) (ho:e.ok names) (hd:e.dep≤n) (hs:e.size≤sizeLine) :
  ∃ (p C dx:Addr) (fs:List (Str×V)) (f:Addr) (fd:FuncData) (ps:List Str) (k:Nat) (sp:Sp),x=.ref p∧H p=some (.ins C dx fs)∧fs.lookup ("words" : Str)=none∧Cls K C∧Meth K C "words" f∧FnOk P w K mg base CX0 k f fd ps sp∧Room k A∧Binds K fd ps [] ∧
   ∀ Q:VK,(∀ p H',H' p=some (.lst (e.words.map V.str))→Same H H'→Q (.ref p) H')→sp (x::([]++[])) H Q E0:=by
 cases e with
 |num i =>
  obtain⟨p,dx,rfl,hp⟩:=id hM
  exact⟨p,_,dx,_,_,_,_,_,_,rfl,hp,rfl,T.cl_Num,T.mt_qK,R.num,hr,T.b_qK,fun Q q=>⟨_,_,names,rfl,⟨_,rfl⟩,hM,ho,hd,hs,q⟩⟩
 |name i =>
  obtain⟨p,dx,rfl,hp⟩:=id hM
  exact⟨p,_,dx,_,_,_,_,_,_,rfl,hp,rfl,T.cl_Name,T.mt_qN,R.name,hr,T.b_qN,fun Q q=>⟨_,_,names,rfl,⟨_,rfl⟩,hM,ho,hd,hs,q⟩⟩
 |two i e1 e2 =>
  obtain⟨p,dx,u1,u2,rfl,hp,_⟩:=id hM
  exact⟨p,_,dx,_,_,_,_,_,_,rfl,hp,rfl,T.cl_Two,T.mt_qQ,R.two,hr,T.b_qQ,fun Q q=>⟨_,_,names,rfl,⟨_,_,_,rfl⟩,hM,ho,hd,hs,q⟩⟩
 |mod e1 i =>
  obtain⟨p,dx,u1,rfl,hp,_⟩:=id hM
  exact⟨p,_,dx,_,_,_,_,_,_,rfl,hp,rfl,T.cl_Mod,T.mt_qT,R.mod,hr,T.b_qT,fun Q q=>⟨_,_,names,rfl,⟨_,_,rfl⟩,hM,ho,hd,hs,q⟩⟩
 |less e1 e2 e3 e4 =>
  obtain⟨p,dx,u1,u2,u3,u4,rfl,hp,_⟩:=id hM
  exact⟨p,_,dx,_,_,_,_,_,_,rfl,hp,rfl,T.cl_Less,T.mt_qW,R.less,hr,T.b_qW,fun Q q=>⟨_,_,names,rfl,⟨_,_,_,_,rfl⟩,hM,ho,hd,hs,q⟩⟩
theorem vq (T:Txt w K mg a) (n:Nat):FnOk P w K mg base CX0 (n+1) a.f_qK a.d_qK ["self"] (ym a n Wu):=by
 refine T.F_qK.ok zmI (fun vs H Q E h=>?_) (fun cdv A outer s H vs Q E hr h=>?_)
 ·obtain⟨e,r,names,rfl,_⟩:=h
  rfl
 ·obtain⟨e,r,names,rfl,⟨i,rfl⟩,⟨p,dx,rfl,hp⟩,ho,_,_,k⟩:=h
  refine zD (zf (zh (zu (zy (zW xx (by rfl) T.n_str Xo (zg (w_pe_fld (w_pv 0) rfl) w_pa_nil)) w_pa_nil)))) ?_
  refine⟨_,rfl,p,_,dx,_,_,rfl,hp,T.cl_Num,T.na_Num_value,rfl,i,rfl,Y0 ho,(by show 1≤sizeLine;decide),fun q hq=>?_⟩
  exact k _ _ zd (Same.new hq)
theorem wM (T:Txt w K mg a) (n:Nat):FnOk P w K mg base CX0 (n+1) a.f_qN a.d_qN ["self"] (ym a n uB):=by
 refine T.F_qN.ok zmF (fun vs H Q E h=>?_) (fun cdv A outer s H vs Q E hr h=>?_)
 ·obtain⟨e,r,names,rfl,_⟩:=h
  rfl
 ·obtain⟨e,r,names,rfl,⟨i,rfl⟩,⟨p,dx,rfl,hp⟩,ho,_,_,k⟩:=h
  refine zD (zf (zh (zu (zg (w_pe_fld (w_pv 0) rfl) w_pa_nil)))) ?_
  refine⟨_,rfl,p,_,dx,_,_,rfl,hp,T.cl_Name,T.na_Name_word,rfl,(by show 1≤sizeLine;decide),fun q hq=>?_⟩
  exact k _ _ zd (Same.new hq)
theorem vp (T:Txt w K mg a){n:Nat}(R:Wordss P w K mg base a n):FnOk P w K mg base CX0 (n+2) a.f_qQ a.d_qQ ["self"] (ym a (n+1) Ws):=by
 refine T.F_qQ.ok zmD (fun vs H Q E h=>?_) (fun cdv A outer s H vs Q E hr h=>?_)
 ·obtain⟨e,r,names,rfl,_⟩:=h
  rfl
 ·obtain⟨e,r,names,rfl,⟨wd,e1,e2,rfl⟩,⟨p,dx,u1,u2,rfl,hp,m1,m2⟩,⟨_,o1,o2⟩,hdep,hz,k⟩:=h
  have hdep:max e1.dep e2.dep+1≤n+1:=hdep
  have hz:1+e1.size+e2.size≤sizeLine:=hz
  have l1:=e1.words_len
  have l2:=e2.words_len
  refine zD (zf (zh (zj yr (zj yr (zu (zg (w_pe_fld (w_pv 0) rfl) w_pa_nil)) (zE (w_pe_fld (w_pv 0) rfl))) (zE (w_pe_fld (w_pv 0) rfl))))) ?_
  refine⟨_,rfl,p,_,dx,_,_,rfl,hp,T.cl_Two,T.na_Two_word,rfl,(by show 1≤sizeLine;decide),fun q0 hq0=>?_⟩
  have s0:=Same.new (o:=HO.lst [V.str wd]) hq0
  refine⟨_,rfl,p,_,dx,_,_,rfl,s0 _ _ hp,T.cl_Two,T.na_Two_one,rfl,?_⟩
  obtain⟨p1,c1,x1,f1,f2,f3,f4,f5,f6,q1,q2,q3,q4,q5,q6,q7,q8,q9⟩:=R.call T hr (m1.same s0) o1 (by omega) (by omega)
  refine⟨p1,c1,x1,f1,f2,f3,f4,f5,f6,q1,q2,q3,q4,q5,q6,q7,q8,q9 _ fun w1 H1 t1 s1=>?_⟩
  refine⟨q0,w1,_,_,rfl,rfl,s1 _ _ zd,t1,(by simp[l1];omega),fun q2 hq2=>?_⟩
  have s2:=s0.trans (s1.trans (Same.new (o:=HO.lst ([V.str wd]++e1.words.map V.str)) hq2))
  refine⟨_,rfl,p,_,dx,_,_,rfl,s2 _ _ hp,T.cl_Two,T.na_Two_other,rfl,?_⟩
  obtain⟨p1,c1,x1,f1,f2,f3,f4,f5,f6,z1,z2,z3,z4,z5,z6,z7,z8,z9⟩:=R.call T hr (m2.same s2) o2 (by omega) (by omega)
  refine⟨p1,c1,x1,f1,f2,f3,f4,f5,f6,z1,z2,z3,z4,z5,z6,z7,z8,z9 _ fun w2 H2 t2 s3=>?_⟩
  refine⟨q2,w2,_,_,rfl,rfl,s3 _ _ zd,t2,(by simp[l1,l2];omega),fun q4 hq4=>?_⟩
  refine k _ _ ?_ (s2.trans (s3.trans (Same.new hq4)))
  rw[zd]
  simp[Ex.words]
theorem vv (T:Txt w K mg a){n:Nat}(R:Wordss P w K mg base a n):FnOk P w K mg base CX0 (n+2) a.f_qT a.d_qT ["self"] (ym a (n+1) Wv):=by
 refine T.F_qT.ok zmA (fun vs H Q E h=>?_) (fun cdv A outer s H vs Q E hr h=>?_)
 ·obtain⟨e,r,names,rfl,_⟩:=h
  rfl
 ·obtain⟨e,r,names,rfl,⟨e1,i,rfl⟩,⟨p,dx,u1,rfl,hp,m1⟩,⟨⟨i1,i2⟩,o1⟩,hdep,hz,k⟩:=h
  have hdep:e1.dep+1≤n+1:=hdep
  have hz:2+e1.size≤sizeLine:=hz
  have l1:=e1.words_len
  refine zD (zf (zh (zj yr (zj yr (zu (zn w_pe_str w_pa_nil)) (zE (w_pe_fld (w_pv 0) rfl))) (zu (zy (zW xx (by rfl) T.n_str Xo (zg (w_pe_fld (w_pv 0) rfl) w_pa_nil)) w_pa_nil))))) ?_
  refine⟨by show 1≤sizeLine;decide,fun q0 hq0=>?_⟩
  have s0:=Same.new (o:=HO.lst [V.str "mod"]) hq0
  refine⟨_,rfl,p,_,dx,_,_,rfl,s0 _ _ hp,T.cl_Mod,T.na_Mod_inner,rfl,?_⟩
  obtain⟨p1,c1,x1,f1,f2,f3,f4,f5,f6,q1,q2,q3,q4,q5,q6,q7,q8,q9⟩:=R.call T hr (m1.same s0) o1 (by omega) (by omega)
  refine⟨p1,c1,x1,f1,f2,f3,f4,f5,f6,q1,q2,q3,q4,q5,q6,q7,q8,q9 _ fun w1 H1 t1 s1=>?_⟩
  refine⟨q0,w1,_,_,rfl,rfl,s1 _ _ zd,t1,(by simp[l1];omega),fun q2 hq2=>?_⟩
  have s2:=s0.trans (s1.trans (Same.new (o:=HO.lst ([V.str "mod"]++e1.words.map V.str)) hq2))
  refine⟨_,rfl,p,_,dx,_,_,rfl,s2 _ _ hp,T.cl_Mod,T.na_Mod_number,rfl,i,rfl,Y0 (by omega),(by show 1≤sizeLine;decide),fun q3 hq3=>?_⟩
  refine⟨q2,q3,_,_,rfl,rfl,(Same.new hq3) _ _ zd,zd,(by simp[l1];omega),fun q4 hq4=>?_⟩
  refine k _ _ ?_ (s2.trans ((Same.new hq3).trans (Same.new hq4)))
  rw[zd]
  simp[Ex.words]
theorem wO (T:Txt w K mg a){n:Nat}(R:Wordss P w K mg base a n):FnOk P w K mg base CX0 (n+2) a.f_qW a.d_qW ["self"] (ym a (n+1) uC):=by
 refine T.F_qW.ok zmx (fun vs H Q E h=>?_) (fun cdv A outer s H vs Q E hr h=>?_)
 ·obtain⟨e,r,names,rfl,_⟩:=h
  rfl
 ·obtain⟨e,r,names,rfl,⟨e1,e2,e3,e4,rfl⟩,⟨p,dx,u1,u2,u3,u4,rfl,hp,m1,m2,m3,m4⟩,⟨o1,o2,o3,o4⟩,hdep,hz,k⟩:=h
  have hdep:max (max e1.dep e2.dep) (max e3.dep e4.dep)+1≤n+1:=hdep
  have hz:1+e1.size+e2.size+e3.size+e4.size≤sizeLine:=hz
  have l1:=e1.words_len
  have l2:=e2.words_len
  have l3:=e3.words_len
  have l4:=e4.words_len
  refine zD (zf (zh (zj yr (zj yr (zj yr (zj yr (zu (zn w_pe_str w_pa_nil)) (zE (w_pe_fld (w_pv 0) rfl))) (zE (w_pe_fld (w_pv 0) rfl))) (zE (w_pe_fld (w_pv 0) rfl))) (zE (w_pe_fld (w_pv 0) rfl))))) ?_
  refine⟨by show 1≤sizeLine;decide,fun q0 hq0=>?_⟩
  have s0:=Same.new (o:=HO.lst [V.str "less"]) hq0
  refine⟨_,rfl,p,_,dx,_,_,rfl,s0 _ _ hp,T.cl_Less,T.na_Less_one,rfl,?_⟩
  obtain⟨p1,c1,x1,f1,f2,f3,f4,f5,f6,z1,z2,z3,z4,z5,z6,z7,z8,z9⟩:=R.call T hr (m1.same s0) o1 (by omega) (by omega)
  refine⟨p1,c1,x1,f1,f2,f3,f4,f5,f6,z1,z2,z3,z4,z5,z6,z7,z8,z9 _ fun w1 H1 t1 y1=>?_⟩
  refine⟨q0,w1,_,_,rfl,rfl,y1 _ _ zd,t1,(by simp[l1,l2,l3,l4];omega),fun q1 hq1=>?_⟩
  have s1:=s0.trans (y1.trans (Same.new (o:=HO.lst ([V.str "less"]++e1.words.map V.str)) hq1))
  refine⟨_,rfl,p,_,dx,_,_,rfl,s1 _ _ hp,T.cl_Less,T.na_Less_other,rfl,?_⟩
  obtain⟨p1,c1,x1,f1,f2,f3,f4,f5,f6,z1,z2,z3,z4,z5,z6,z7,z8,z9⟩:=R.call T hr (m2.same s1) o2 (by omega) (by omega)
  refine⟨p1,c1,x1,f1,f2,f3,f4,f5,f6,z1,z2,z3,z4,z5,z6,z7,z8,z9 _ fun w2 H2 t2 y2=>?_⟩
  refine⟨q1,w2,_,_,rfl,rfl,y2 _ _ zd,t2,(by simp[l1,l2,l3,l4];omega),fun q2 hq2=>?_⟩
  have s2:=s1.trans (y2.trans (Same.new (o:=HO.lst (([V.str "less"]++e1.words.map V.str)++e2.words.map V.str)) hq2))
  refine⟨_,rfl,p,_,dx,_,_,rfl,s2 _ _ hp,T.cl_Less,T.na_Less_third,rfl,?_⟩
  obtain⟨p1,c1,x1,f1,f2,f3,f4,f5,f6,z1,z2,z3,z4,z5,z6,z7,z8,z9⟩:=R.call T hr (m3.same s2) o3 (by omega) (by omega)
  refine⟨p1,c1,x1,f1,f2,f3,f4,f5,f6,z1,z2,z3,z4,z5,z6,z7,z8,z9 _ fun w3 H3 t3 y3=>?_⟩
  refine⟨q2,w3,_,_,rfl,rfl,y3 _ _ zd,t3,(by simp[l1,l2,l3,l4];omega),fun q3 hq3=>?_⟩
  have s3:=s2.trans (y3.trans (Same.new (o:=HO.lst ((([V.str "less"]++e1.words.map V.str)++e2.words.map V.str)++e3.words.map V.str)) hq3))
  refine⟨_,rfl,p,_,dx,_,_,rfl,s3 _ _ hp,T.cl_Less,T.na_Less_fourth,rfl,?_⟩
  obtain⟨p1,c1,x1,f1,f2,f3,f4,f5,f6,z1,z2,z3,z4,z5,z6,z7,z8,z9⟩:=R.call T hr (m4.same s3) o4 (by omega) (by omega)
  refine⟨p1,c1,x1,f1,f2,f3,f4,f5,f6,z1,z2,z3,z4,z5,z6,z7,z8,z9 _ fun w4 H4 t4 y4=>?_⟩
  refine⟨q3,w4,_,_,rfl,rfl,y4 _ _ zd,t4,(by simp[l1,l2,l3,l4];omega),fun q4 hq4=>?_⟩
  refine k _ _ ?_ (s3.trans (y4.trans (Same.new hq4)))
  rw[zd]
  simp[Ex.words]
theorem xR {f:Addr}{fd:FuncData}{ps:List Str}{Kd:Ex→Prop}{k:Nat}(hl:ps.length=1):FnOk P w K mg base CX0 k f fd ps (ym a 0 Kd) :=
 ⟨fun vs H Q E h=>by
  obtain⟨e,r,names,rfl,_⟩:=h
  exact hl.symm,fun A outer s H args us vs Q E _ _ _ _ h=>by
  obtain⟨e,r,names,_,_,_,_,hd,_⟩:=h
  have:=e.dep_pos
  omega⟩
theorem uf (T:Txt w K mg a):∀ n,Wordss P w K mg base a n
 |0=>⟨xR rfl,xR rfl,xR rfl,xR rfl,xR rfl⟩
 |n+1=>⟨vq T (n+1),wM T (n+1),vp T (uf T n),vv T (uf T n),wO T (uf T n)⟩
end
end K04

namespace K04
open PySem L2
section
variable {P:Program}{w:World}{K:PySem.W.Frag}{mg:Str→Option Value}{base:Heap}{a:Ad}
def zao (a:Ad) (H:Hp) (n:Nat) (rs:List V) (es:List Ex):Prop:=rs.length=es.length∧∀ (i:Nat) r,rs[i]?=some r→∃ e names,es[i]?=some e∧Made a H e r∧e.ok names∧e.dep≤n∧e.size≤sizeLine
def wb (es:List Ex):List Int:=es.map fun e=>(e.size:Int)
def Ym (a:Ad) (n:Nat):Sp:=fun vs H Q _=>∃ (l:Addr) (rs:List V) (es:List Ex),vs=[.ref l]∧H l=some (.lst rs)∧rs.length≤1000∧zao a H n rs es∧∀ H',Same H H'→Q (.int (wb es).sum) H'
theorem X6 (T:Txt w K mg a) (n:Nat):FnOk P w K mg base CX0 (n+2) a.f_qo a.d_qo ["exprs"] (Ym a n):=by
 have WW:Wordss P w K mg base a n:=uf T n
 refine T.F_qo.ok zml (fun vs H Q E h=>?_) (fun cdv A outer s H vs Q E hr h=>?_)
 ·obtain⟨l,rs,es,rfl,_⟩:=h
  rfl
 ·obtain⟨l,rs,es,rfl,hl,hz,⟨hlen,hm⟩,k⟩:=h
  refine zD (zf (zh (w_pe_callB (call_sumI rfl) (by rfl) T.n_sum Ve (zg (yC rfl (N':=["expr"]) (t:=1) (caps:=[]) ⟨rfl,rfl,rfl⟩ (zL (w_pv 0)) (fun _=>(zq (i:=0) (show(["expr"]:List Str).Nodup by decide +kernel) rfl (Or.inl rfl))) (fun _=>yk) (fun _=>(w_pe_callB zo (by rfl) T.n_len zY (zy (zE (w_pv 0)) w_pa_nil)))) w_pa_nil)))) ?_
  refine⟨_,rfl,l,rfl,⟨_,SqL.of hl⟩,fun D hD _=>?_⟩
  refine yp (K:=K) (a:=l) (xs:=rs) (fun i zs τ H'=>∃ o,τ=[o]∧i≤rs.length∧zs=((wb es).take i).map V.int∧H' D=some (.lst zs)∧Same H H') ?_ ?_ ?_ ?_
  ·exact⟨none,rfl,Nat.zero_le _,by simp,zd,Same.new hD⟩
  ·rintro i zs τ H' ⟨o,_,_,_,_,sm⟩
   exact SqL.of (sm _ _ hl)
  ·rintro i x zs τ H' hi ⟨o,rfl,_,rfl,hD',sm⟩
   obtain⟨e,names,he,m,ok,dd,sz⟩:=hm i x hi
   have hi':i<rs.length:=(List.getElem?_eq_some_iff.mp hi).1
   refine gn_if ?_
   refine⟨_,rfl,?_⟩
   obtain⟨p1,c1,x1,f1,f2,f3,f4,f5,f6,z1,z2,z3,z4,z5,z6,z7,z8,z9⟩:=WW.call T (A:=A.deeper (PyProof.Rows.envOfC "count_words" (defScope uM) s.heap.objs.size a.f_qo cdv)) hr (m.same sm) ok dd sz
   refine⟨p1,c1,x1,f1,f2,f3,f4,f5,f6,z1,z2,z3,z4,z5,z6,z7,z8,z9 _ fun p H1 t1 s1=>?_⟩
   have ez:(wb es)[i]?=some ((e.size:Nat):Int):=by unfold wb;rw[List.getElem?_map,he];rfl
   refine⟨p,_,rfl,.inl (SqL.of t1),s1 _ _ hD',?_,some x,rfl,hi',?_,zd,?_⟩
   ·rw[List.length_map]
    exact zr (Nat.le_trans (List.length_take_le _ _) (by omega))
   ·rw[List.take_add_one,ez,List.map_append,List.length_map,e.words_len]
    rfl
   ·have s2:=sm.trans s1
    intro b o e
    have hb:b≠D:=ne_of_none e hD
    rw[upd_ne hb]
    exact s2 b o e
  ·rintro zs τ H' ⟨o,rfl,_,rfl,hD',sm⟩
   have el:(wb es).take rs.length=wb es:=List.take_of_length_le (by unfold wb;rw[List.length_map,hlen];exact Nat.le_refl _)
   rw[el] at hD'
   exact⟨D,wb es,rfl,SqL.of hD',k H' sm⟩
abbrev xn:List Str:=["me", "lines"]
abbrev yR:List Str:=["worth", "me", "round", "lines", "to"]
abbrev xo:List Str:=["worth", "me", "round", "lines", "sum", "least", "most", "count"]
noncomputable def zwB (a:Ad) (H:Hp) (e1 e2 e3 e4:Ex) (r1 r2 r3 r4:V):Prop :=
 (Made a H e1 r1∧e1.ok xn∧e1.dep≤8)∧(Made a H e2 r2∧e2.ok yR∧e2.dep≤8)∧(Made a H e3 r3∧e3.ok yR∧e3.dep≤8)∧(Made a H e4 r4∧e4.ok xo∧e4.dep≤8)∧e1.size+e2.size+e3.size+e4.size≤60
def WP (a:Ad):Sp:=fun vs H Q _=>∃ (p dx:Addr) (r1 r2 r3 r4:V) (e1 e2 e3 e4:Ex),vs=[.ref p,r1,r2,r3,r4]∧H p=some (.ins a.c_Program dx [])∧zwB a H e1 e2 e3 e4 r1 r2 r3 r4 ∧
 ∀ H',Same H H'→Q .non (upd H' p (.ins a.c_Program dx [("start",r1),("send",r2),("when",r3),("renew",r4)]))
theorem VQ (T:Txt w K mg a):FnOk P w K mg base CX0 22 a.f_qX a.d_qX ["self", "start", "send", "when", "renew"] (WP a):=by
 have c_qn:Callee P w K mg base "is_sound" a.f_qn a.d_qn ["expr", "names", "deep"] 19 (yD K a 9):=⟨Yo T 9,T.g_qn,T.F_qn.kp,T.b_qn⟩
 have c_qm:Callee P w K mg base "are_sound" a.f_qm a.d_qm ["parts", "names", "deep"] 20 (Vo K a 9):=⟨W6 T (Yo T 9),T.g_qm,T.F_qm.kp,T.b_qm⟩
 have c_qo:Callee P w K mg base "count_words" a.f_qo a.d_qo ["exprs"] 10 (Ym a 8):=⟨X6 T 8,T.g_qo,T.F_qo.kp,T.b_qo⟩
 refine T.F_qX.ok zmw (fun vs H Q E h=>?_) (fun cdv A outer s H vs Q E hr h=>?_)
 ·obtain⟨p,dx,r1,r2,r3,r4,e1,e2,e3,e4,rfl,_⟩:=h
  rfl
 ·obtain⟨p,dx,r1,r2,r3,r4,e1,e2,e3,e4,rfl,hp,⟨⟨m1,o1,d1⟩,⟨m2,o2,d2⟩,⟨m3,o3,d3⟩,⟨m4,o4,d4⟩,hz⟩,k⟩:=h
  have q1:e1.gx.sound xn (8:Int).toNat=true:=Ex.sound o1 d1
  have q2:e2.gx.sound yR (8:Int).toNat=true:=Ex.sound o2 d2
  have q3:e3.gx.sound yR (8:Int).toNat=true:=Ex.sound o3 d3
  have q4:e4.gx.sound xo (8:Int).toNat=true:=Ex.sound o4 d4
  refine zD (w_pss_cons (w_ps_if (xc (zZ (zk c_qn (hr.mono (by omega)) (w_pa_N (w_pv 1) (w_pa_N (yi (v:=.ref a.t_START_NAMES) rfl T.g_START_NAMES rfl) (w_pa_N (yi (v:=.int 8) rfl T.g_MOST_DEEP ⟨_,rfl⟩) w_pa_nil))))))
    (zf yu)
    zm)
   (w_pss_cons (w_ps_if (xc (zZ (zk c_qm (hr.mono (by omega)) (zg (zu (w_pa_N (w_pv 2) (w_pa_N (w_pv 3) w_pa_nil))) (w_pa_N (yi (v:=.ref a.t_SEND_NAMES) rfl T.g_SEND_NAMES rfl) (w_pa_N (yi (v:=.int 8) rfl T.g_MOST_DEEP ⟨_,rfl⟩) w_pa_nil))))))
    (zf yu)
    zm)
   (w_pss_cons (w_ps_if (xc (zZ (zk c_qn (hr.mono (by omega)) (w_pa_N (w_pv 4) (w_pa_N (yi (v:=.ref a.t_RENEW_NAMES) rfl T.g_RENEW_NAMES rfl) (w_pa_N (yi (v:=.int 8) rfl T.g_MOST_DEEP ⟨_,rfl⟩) w_pa_nil))))))
    (zf yu)
    zm)
   (w_pss_cons (w_ps_if (w_pt_cmpR op_gt (zk c_qo (hr.mono (by omega)) (zg (zu (w_pa_N (w_pv 1) (w_pa_N (w_pv 2) (w_pa_N (w_pv 3) (w_pa_N (w_pv 4) w_pa_nil))))) w_pa_nil)) (yi (v:=.int 60) rfl T.g_MOST_WORDS ⟨_,rfl⟩) (zx _))
    (zf yu)
    zm)
   (w_pss_cons (zO (w_pv 0) (w_pv 1) rfl)
   (w_pss_cons (zO (w_pv 0) (w_pv 2) rfl)
   (w_pss_cons (zO (w_pv 0) (w_pv 3) rfl)
   (zf (zO (w_pv 0) (w_pv 4) rfl))))))))) ?_
  refine⟨_,rfl,e1.gx,r1,_,xn,8,rfl,m1.gx T,T.s_START_NAMES,by decide,by decide,fun H1 s1=>⟨_,rfl,yn (by rw[q1];rfl) ?_⟩⟩
  refine⟨_,rfl,_,rfl,(by show 2≤sizeLine;decide),fun lp hlp=>?_⟩
  have s2:=s1.trans (Same.new (o:=HO.lst [r2,r3]) hlp)
  refine⟨lp,_,_,_,yR,8,rfl,zd,zwz ((m2.same s2).gx T) ((m3.same s2).gx T),T.s_SEND_NAMES,by decide,by decide,fun H3 s3=>⟨_,rfl,yn (by rw[List.all_cons,List.all_cons,q2,q3];rfl) ?_⟩⟩
  have s3:=s2.trans s3
  refine⟨_,rfl,e4.gx,r4,_,xo,8,rfl,(m4.same s3).gx T,T.s_RENEW_NAMES,by decide,by decide,fun H4 s4=>⟨_,rfl,yn (by rw[q4];rfl) ?_⟩⟩
  have s4:=s3.trans s4
  refine⟨_,rfl,_,rfl,_,rfl,_,rfl,(by show 4≤sizeLine;decide),fun lq hlq=>?_⟩
  have s5:=s4.trans (Same.new (o:=HO.lst [r1,r2,r3,r4]) hlq)
  have big:60≤sizeLine:=by decide
  refine⟨lq,_,[e1,e2,e3,e4],rfl,zd,by simp,⟨rfl,fun i r hi=>?_⟩,fun H6 s6=>⟨_,_,rfl,rfl,_,rfl,yn ?_ ?_⟩⟩
  ·match i,hi with
   |0,hi=>cases hi;exact⟨e1,_,rfl,m1.same s5,o1,d1,by omega⟩
   |1,hi=>cases hi;exact⟨e2,_,rfl,m2.same s5,o2,d2,by omega⟩
   |2,hi=>cases hi;exact⟨e3,_,rfl,m3.same s5,o3,d3,by omega⟩
   |3,hi=>cases hi;exact⟨e4,_,rfl,m4.same s5,o4,d4,by omega⟩
   |_+4,hi=>simp at hi
  ·refine decide_eq_false ?_
   show ¬ ((wb [e1,e2,e3,e4]).sum>60)
   simp[wb]
   omega
  ·have s6:=s5.trans s6
   refine⟨_,rfl,_,rfl,p,a.c_Program,dx,_,rfl,s6 _ _ hp,T.cl_Program,T.na_Program_start,(by show 0<1000;decide),?_⟩
   refine⟨_,rfl,_,rfl,p,a.c_Program,dx,_,rfl,zd,T.cl_Program,T.na_Program_send,(by show 1<1000;decide),?_⟩
   refine⟨_,rfl,_,rfl,p,a.c_Program,dx,_,rfl,zd,T.cl_Program,T.na_Program_when,(by show 2<1000;decide),?_⟩
   refine⟨_,rfl,_,rfl,p,a.c_Program,dx,_,rfl,zd,T.cl_Program,T.na_Program_renew,(by show 3<1000;decide),?_⟩
   rw[yt,yt,yt]
   exact k H6 s6
end
end K04

namespace K04
open PySem L2
section
variable {P:Program}{w:World}{K:PySem.W.Frag}{mg:Str→Option Value}{base:Heap}{a:Ad}
def Yi (a:Ad) (n:Nat):Sp:=fun vs H Q _=>∃ (e:Ex) (v:V) (names:List Str),vs=[v]∧Told H e v∧e.dep≤n∧e.ok names∧∀ r H',Made a H' e r→Same H H'→Q r H'
theorem YB (T:Txt w K mg a):∀ n,FnOk P w K mg base CX0 (n+2) a.f_qB a.d_qB ["_law_told"] (Yi a n)
 |0=>⟨fun vs H Q E h=>by
   obtain⟨e,v,names,rfl,_⟩:=h
   rfl,fun A outer s H args us vs Q E _ _ _ _ h=>by
   obtain⟨e,v,names,_,_,hd,_⟩:=h
   have:=e.dep_pos
   omega⟩
 |n+1=>by
  have c_qB:Callee P w K mg base "_law_made" a.f_qB a.d_qB ["_law_told"] (n+2) (Yi a n):=⟨YB T n,T.g_qB,T.F_qB.kp,T.b_qB⟩
  have m_Num:Maker P w K mg base "Num" a.c_Num a.f_qI a.d_qI ["self", "value"] 1 (ziC a.c_Num "value"):=⟨vY T,T.g_Num,T.mk_Num,T.b_qI⟩
  have m_Name:Maker P w K mg base "Name" a.c_Name a.f_qL a.d_qL ["self", "word"] 1 (ziC a.c_Name "word"):=⟨vt T,T.g_Name,T.mk_Name,T.b_qL⟩
  have m_Two:Maker P w K mg base "Two" a.c_Two a.f_qO a.d_qO ["self", "word", "one", "other"] 1 (zuT a.c_Two "word" "one" "other"):=⟨vX T,T.g_Two,T.mk_Two,T.b_qO⟩
  have m_Mod:Maker P w K mg base "Mod" a.c_Mod a.f_qR a.d_qR ["self", "inner", "number"] 1 (zuU a.c_Mod "inner" "number"):=⟨vZ T,T.g_Mod,T.mk_Mod,T.b_qR⟩
  have m_Less:Maker P w K mg base "Less" a.c_Less a.f_qU a.d_qU ["self", "one", "other", "third", "fourth"] 1 (zuS a.c_Less "one" "other" "third" "fourth"):=⟨vw T,T.g_Less,T.mk_Less,T.b_qU⟩
  refine T.F_qB.ok zmN (fun vs H Q E h=>?_) (fun cdv A outer s H vs Q E hr h=>?_)
  ·obtain⟨e,v,names,rfl,_⟩:=h
   rfl
  ·obtain⟨e,v,names,rfl,ht,hdep,ho,k⟩:=h
   refine zD (w_pss_cons (w_ps_if (w_pt_cmpR yG (zw zN (w_pv 0) ze (fun _ _=>rfl)) w_pe_str (zx _))
    (zf (zh (xK m_Num (hr.mono (by omega)) (zg (zw zN (w_pv 0) ze (fun _ _=>rfl)) w_pa_nil))))
    zm)
   (w_pss_cons (w_ps_if (w_pt_cmpR yG (zw zN (w_pv 0) ze (fun _ _=>rfl)) w_pe_str (zx _))
    (zf (zh (xK m_Name (hr.mono (by omega)) (zg (zw zN (w_pv 0) ze (fun _ _=>rfl)) w_pa_nil))))
    zm)
   (w_pss_cons (w_ps_if (w_pt_cmpR yG (zw zN (w_pv 0) ze (fun _ _=>rfl)) w_pe_str (zx _))
    (zf (zh (xK m_Mod (hr.mono (by omega)) (zy (zk c_qB (hr.mono (by omega)) (zg (zw zN (w_pv 0) ze (fun _ _=>rfl)) w_pa_nil)) (zg (zw zN (w_pv 0) ze (fun _ _=>rfl)) w_pa_nil)))))
    zm)
   (w_pss_cons (w_ps_if (w_pt_cmpR yG (zw zN (w_pv 0) ze (fun _ _=>rfl)) w_pe_str (zx _))
    (zf (zh (xK m_Less (hr.mono (by omega)) (zy (zk c_qB (hr.mono (by omega)) (zg (zw zN (w_pv 0) ze (fun _ _=>rfl)) w_pa_nil)) (zy (zk c_qB (hr.mono (by omega)) (zg (zw zN (w_pv 0) ze (fun _ _=>rfl)) w_pa_nil)) (zy (zk c_qB (hr.mono (by omega)) (zg (zw zN (w_pv 0) ze (fun _ _=>rfl)) w_pa_nil)) (zy (zk c_qB (hr.mono (by omega)) (zg (zw zN (w_pv 0) ze (fun _ _=>rfl)) w_pa_nil)) w_pa_nil)))))))
    zm)
   (zf (zh (xK m_Two (hr.mono (by omega)) (zg (zw zN (w_pv 0) ze (fun _ _=>rfl)) (zy (zk c_qB (hr.mono (by omega)) (zg (zw zN (w_pv 0) ze (fun _ _=>rfl)) w_pa_nil)) (zy (zk c_qB (hr.mono (by omega)) (zg (zw zN (w_pv 0) ze (fun _ _=>rfl)) w_pa_nil)) w_pa_nil)))))))))) ?_
   cases e with
   |num i =>
    obtain⟨p,rfl,hp⟩:=ht
    refine⟨_,rfl,p,_,0,_,rfl,rfl,SqT.of hp,rfl,rfl,_,rfl,iteB (by decide +kernel) ?_⟩
    refine⟨_,rfl,p,_,1,_,rfl,rfl,SqT.of hp,rfl,fun x dx nx ndx nex=>⟨x,dx,_,rfl,zd,rfl,?_⟩⟩
    exact k _ _ ⟨x,dx,rfl,zd⟩ (Same.made nx ndx)
   |name i =>
    obtain⟨p,rfl,hp⟩:=ht
    refine⟨_,rfl,p,_,0,_,rfl,rfl,SqT.of hp,rfl,rfl,_,rfl,yn (by decide +kernel) ?_⟩
    refine⟨_,rfl,p,_,0,_,rfl,rfl,SqT.of hp,rfl,rfl,_,rfl,iteB (by decide +kernel) ?_⟩
    refine⟨_,rfl,p,_,1,_,rfl,rfl,SqT.of hp,rfl,fun x dx nx ndx nex=>⟨x,dx,_,rfl,zd,rfl,?_⟩⟩
    exact k _ _ ⟨x,dx,rfl,zd⟩ (Same.made nx ndx)
   |mod e1 i =>
    obtain⟨p,u1,rfl,hp,t1⟩:=ht
    obtain⟨_,o1⟩:=ho
    have hdep:e1.dep+1≤n+1:=hdep
    refine⟨_,rfl,p,_,0,_,rfl,rfl,SqT.of hp,rfl,rfl,_,rfl,yn (by decide +kernel) ?_⟩
    refine⟨_,rfl,p,_,0,_,rfl,rfl,SqT.of hp,rfl,rfl,_,rfl,yn (by decide +kernel) ?_⟩
    refine⟨_,rfl,p,_,0,_,rfl,rfl,SqT.of hp,rfl,rfl,_,rfl,iteB (by decide +kernel) ?_⟩
    refine⟨_,rfl,p,_,1,_,rfl,rfl,SqT.of hp,rfl,e1,_,names,rfl,t1,by omega,o1,fun r1 H1 m1 s1=>?_⟩
    refine⟨_,rfl,p,_,2,_,rfl,rfl,SqT.of (s1 _ _ hp),rfl,fun x dx nx ndx nex=>⟨x,dx,_,_,rfl,zd,rfl,?_⟩⟩
    exact k _ _ ⟨x,dx,r1,rfl,zd,m1.same (Same.made nx ndx)⟩ (s1.trans (Same.made nx ndx))
   |less e1 e2 e3 e4 =>
    obtain⟨p,u1,u2,u3,u4,rfl,hp,t1,t2,t3,t4⟩:=ht
    obtain⟨o1,o2,o3,o4⟩:=ho
    have hdep:max (max e1.dep e2.dep) (max e3.dep e4.dep)+1≤n+1:=hdep
    refine⟨_,rfl,p,_,0,_,rfl,rfl,SqT.of hp,rfl,rfl,_,rfl,yn (by decide +kernel) ?_⟩
    refine⟨_,rfl,p,_,0,_,rfl,rfl,SqT.of hp,rfl,rfl,_,rfl,yn (by decide +kernel) ?_⟩
    refine⟨_,rfl,p,_,0,_,rfl,rfl,SqT.of hp,rfl,rfl,_,rfl,yn (by decide +kernel) ?_⟩
    refine⟨_,rfl,p,_,0,_,rfl,rfl,SqT.of hp,rfl,rfl,_,rfl,iteB (by decide +kernel) ?_⟩
    refine⟨_,rfl,p,_,1,_,rfl,rfl,SqT.of hp,rfl,e1,_,names,rfl,t1,by omega,o1,fun r1 H1 m1 s1=>?_⟩
    refine⟨_,rfl,p,_,2,_,rfl,rfl,SqT.of (s1 _ _ hp),rfl,e2,_,names,rfl,t2.same s1,by omega,o2,fun r2 H2 m2 s2=>?_⟩
    have s12:=s1.trans s2
    refine⟨_,rfl,p,_,3,_,rfl,rfl,SqT.of (s12 _ _ hp),rfl,e3,_,names,rfl,t3.same s12,by omega,o3,fun r3 H3 m3 s3=>?_⟩
    have s123:=s12.trans s3
    refine⟨_,rfl,p,_,4,_,rfl,rfl,SqT.of (s123 _ _ hp),rfl,e4,_,names,rfl,t4.same s123,by omega,o4,fun r4 H4 m4 s4=>?_⟩
    refine fun x dx nx ndx nex=>⟨x,dx,_,_,_,_,rfl,zd,rfl,?_⟩
    have s5:Same H4 _:=Same.made (C:=a.c_Less) (fs:=[("one",r1),("other",r2),("third",r3),("fourth",r4)]) (fs':=[]) nx ndx
    exact k _ _ ⟨x,dx,r1,r2,r3,r4,rfl,zd,m1.same (s2.trans (s3.trans (s4.trans s5))),m2.same (s3.trans (s4.trans s5)),m3.same (s4.trans s5),m4.same s5⟩ (s123.trans (s4.trans s5))
   |two wd e1 e2 =>
    obtain⟨p,u1,u2,rfl,hp,t1,t2⟩:=ht
    obtain⟨hw,o1,o2⟩:=ho
    have hdep:max e1.dep e2.dep+1≤n+1:=hdep
    obtain⟨w1,w2,w3,w4⟩:=zaA hw
    refine⟨_,rfl,p,_,0,_,rfl,rfl,SqT.of hp,rfl,rfl,_,rfl,yn w1 ?_⟩
    refine⟨_,rfl,p,_,0,_,rfl,rfl,SqT.of hp,rfl,rfl,_,rfl,yn w2 ?_⟩
    refine⟨_,rfl,p,_,0,_,rfl,rfl,SqT.of hp,rfl,rfl,_,rfl,yn w3 ?_⟩
    refine⟨_,rfl,p,_,0,_,rfl,rfl,SqT.of hp,rfl,rfl,_,rfl,yn w4 ?_⟩
    refine⟨_,rfl,p,_,0,_,rfl,rfl,SqT.of hp,rfl,?_⟩
    refine⟨_,rfl,p,_,1,_,rfl,rfl,SqT.of hp,rfl,e1,_,names,rfl,t1,by omega,o1,fun r1 H1 m1 s1=>?_⟩
    refine⟨_,rfl,p,_,2,_,rfl,rfl,SqT.of (s1 _ _ hp),rfl,e2,_,names,rfl,t2.same s1,by omega,o2,fun r2 H2 m2 s2=>?_⟩
    refine fun x dx nx ndx nex=>⟨x,dx,_,_,_,rfl,zd,rfl,?_⟩
    have s5:Same H2 _:=Same.made (C:=a.c_Two) (fs:=[("word",V.str wd),("one",r1),("other",r2)]) (fs':=[]) nx ndx
    exact k _ _ ⟨x,dx,r1,r2,rfl,zd,m1.same (s2.trans s5),m2.same s5⟩ ((s1.trans s2).trans s5)
end
end K04

namespace K04
open PySem L2
abbrev ky (x:Str):Key:=Sum.inr x
abbrev kvF (hand lines:Int):List (Key×V):=[(ky "me",.int hand),(ky "lines",.int lines)]
abbrev kvS (worth hand turn lines other:Int):List (Key×V):=[(ky "worth",.int worth),(ky "me",.int hand),(ky "round",.int turn),(ky "lines",.int lines),(ky "to",.int other)]
abbrev kvR (worth hand turn lines sum mn mx ct:Int):List (Key×V):=[(ky "worth",.int worth),(ky "me",.int hand),(ky "round",.int turn),(ky "lines",.int lines),(ky "sum",.int sum),(ky "least",.int mn),(ky "most",.int mx),(ky "count",.int ct)]
theorem zxC {h l:Int}:Has xn (kvF h l):=fun x hx=>by
 simp only[List.mem_cons,List.not_mem_nil,or_false] at hx
 rcases hx with rfl | rfl
 ·exact⟨h,rfl⟩
 ·exact⟨l,rfl⟩
theorem zwy {q h t l o:Int}:Has yR (kvS q h t l o):=fun x hx=>by
 simp only[List.mem_cons,List.not_mem_nil,or_false] at hx
 rcases hx with rfl | rfl | rfl | rfl | rfl
 ·exact⟨q,rfl⟩
 ·exact⟨h,rfl⟩
 ·exact⟨t,rfl⟩
 ·exact⟨l,rfl⟩
 ·exact⟨o,rfl⟩
theorem zxB {q h t l s mn mx c:Int}:Has xo (kvR q h t l s mn mx c):=fun x hx=>by
 simp only[List.mem_cons,List.not_mem_nil,or_false] at hx
 rcases hx with rfl | rfl | rfl | rfl | rfl | rfl | rfl | rfl
 ·exact⟨q,rfl⟩
 ·exact⟨h,rfl⟩
 ·exact⟨t,rfl⟩
 ·exact⟨l,rfl⟩
 ·exact⟨s,rfl⟩
 ·exact⟨mn,rfl⟩
 ·exact⟨mx,rfl⟩
 ·exact⟨c,rfl⟩
def LstN (ns:List Int) (m:Int):Prop:=(ns=[]∧m=0)∨(m∈ns∧∀ y∈ns,m≤y)
def MstN (ns:List Int) (m:Int):Prop:=(ns=[]∧m=0)∨(m∈ns∧∀ y∈ns,y≤m)
section
variable {P:Program}{w:World}{K:PySem.W.Frag}{mg:Str→Option Value}{base:Heap}{a:Ad}
theorem Reckons.call2 {n:Nat}(R:Reckons P w K mg base a n) (T:Txt w K mg a){A:Around}(hr:Room (n+1) A){H:Hp}{e:Ex}{x:V}{names:List Str}(hM:Made a H e x) (hd:e.dep≤n) (ho:e.ok names) :
  ∃ (p C dx:Addr) (fs:List (Str×V)) (f:Addr) (fd:FuncData) (ps:List Str) (k:Nat) (sp:Sp),x=.ref p∧H p=some (.ins C dx fs)∧fs.lookup ("reckon" : Str)=none∧Cls K C∧Meth K C "reckon" f∧FnOk P w K mg base CX0 k f fd ps sp∧Room k A∧Binds K fd ps [] ∧
   ∀ (H1:Hp) (d:Addr) (kvs:List (Key×V)),Same H H1→H1 d=some (.dK kvs)→Has names kvs→∀ Q:VK,Q (.int (e.val (rho kvs))) H1→sp (x::([.ref d]++[])) H1 Q E0:=by
 cases e with
 |num i =>
  obtain⟨p,dx,rfl,hp⟩:=id hM
  exact⟨p,_,dx,_,_,_,_,_,_,rfl,hp,rfl,T.cl_Num,T.mt_qJ,R.num,hr,T.b_qJ,fun H1 d kvs sm h1 h2 Q q=>⟨_,_,_,_,_,rfl,⟨_,rfl⟩,hM.same sm,hd,ho,h1,h2,q⟩⟩
 |name i =>
  obtain⟨p,dx,rfl,hp⟩:=id hM
  exact⟨p,_,dx,_,_,_,_,_,_,rfl,hp,rfl,T.cl_Name,T.mt_qM,R.name,hr,T.b_qM,fun H1 d kvs sm h1 h2 Q q=>⟨_,_,_,_,_,rfl,⟨_,rfl⟩,hM.same sm,hd,ho,h1,h2,q⟩⟩
 |two i e1 e2 =>
  obtain⟨p,dx,u1,u2,rfl,hp,_⟩:=id hM
  exact⟨p,_,dx,_,_,_,_,_,_,rfl,hp,rfl,T.cl_Two,T.mt_qP,R.two,hr,T.b_qP,fun H1 d kvs sm h1 h2 Q q=>⟨_,_,_,_,_,rfl,⟨_,_,_,rfl⟩,hM.same sm,hd,ho,h1,h2,q⟩⟩
 |mod e1 i =>
  obtain⟨p,dx,u1,rfl,hp,_⟩:=id hM
  exact⟨p,_,dx,_,_,_,_,_,_,rfl,hp,rfl,T.cl_Mod,T.mt_qS,R.mod,hr,T.b_qS,fun H1 d kvs sm h1 h2 Q q=>⟨_,_,_,_,_,rfl,⟨_,_,rfl⟩,hM.same sm,hd,ho,h1,h2,q⟩⟩
 |less e1 e2 e3 e4 =>
  obtain⟨p,dx,u1,u2,u3,u4,rfl,hp,_⟩:=id hM
  exact⟨p,_,dx,_,_,_,_,_,_,rfl,hp,rfl,T.cl_Less,T.mt_qV,R.less,hr,T.b_qV,fun H1 d kvs sm h1 h2 Q q=>⟨_,_,_,_,_,rfl,⟨_,_,_,_,rfl⟩,hM.same sm,hd,ho,h1,h2,q⟩⟩
def ProgAt (a:Ad) (H:Hp) (e1 e2 e3 e4:Ex) (r:V):Prop:=∃ (p dx:Addr) (r1 r2 r3 r4:V),r=.ref p∧H p=some (.ins a.c_Program dx [("start",r1),("send",r2),("when",r3),("renew",r4)])∧zwB a H e1 e2 e3 e4 r1 r2 r3 r4
def Vn (a:Ad):Sp:=fun vs H Q _=>∃ (r:V) (e1 e2 e3 e4:Ex) (hand lines:Int),vs=[r,.int hand,.int lines]∧ProgAt a H e1 e2 e3 e4 r∧∀ H',Same H H'→Q (.int (e1.val (rho (kvF hand lines)))) H'
def XJ (a:Ad):Sp:=fun vs H Q _=>∃ (r:V) (e1 e2 e3 e4:Ex) (worth hand turn lines other:Int),vs=[r,.int worth,.int hand,.int turn,.int lines,.int other]∧ProgAt a H e1 e2 e3 e4 r ∧
 ∀ H',Same H H'→Q (if e3.val (rho (kvS worth hand turn lines other))>0 then .int (e2.val (rho (kvS worth hand turn lines other))) else .non) H'
def zfR (a:Ad):Sp:=fun vs H Q _=>∃ (r:V) (e1 e2 e3 e4:Ex) (worth hand turn lines:Int) (hl:Addr) (ns:List Int),vs=[r,.int worth,.int hand,.int turn,.int lines,.ref hl]∧ProgAt a H e1 e2 e3 e4 r∧H hl=some (.lst (ns.map V.int)) ∧
 ∀ H' mn mx,Same H H'→LstN ns mn→MstN ns mx→Q (.int (e4.val (rho (kvR worth hand turn lines ns.sum mn mx ns.length)))) H'
theorem X1 (T:Txt w K mg a):FnOk P w K mg base CX0 10 a.f_qY a.d_qY ["self", "hand", "lines"] (Vn a):=by
 have RR:Reckons P w K mg base a 8:=xq T 8
 refine T.F_qY.ok zmv (fun vs H Q E h=>?_) (fun cdv A outer s H vs Q E hr h=>?_)
 ·obtain⟨r,e1,e2,e3,e4,hand,lines,rfl,_⟩:=h
  rfl
 ·obtain⟨r,e1,e2,e3,e4,hand,lines,rfl,⟨p,dx,r1,r2,r3,r4,rfl,hp,⟨m1,o1,d1⟩,_⟩,k⟩:=h
  refine zD (zf (zh (w_pe_methD (w_pe_fld (w_pv 0) rfl) (zg (xL (zK w_pe_str (w_pv 1) (zK w_pe_str (w_pv 2) xI)) rfl rfl (by intro z;cases z) (by decide)) w_pa_nil)))) ?_
  refine⟨_,rfl,p,_,dx,_,_,rfl,hp,T.cl_Program,T.na_Program_start,rfl,?_⟩
  obtain⟨p1,c1,x1,f1,f2,f3,f4,f5,f6,q1,q2,q3,q4,q5,q6,q7,q8,q9⟩:=RR.call2 T (A:=A.deeper (PyProof.Rows.envOfC "Program.first_worth" (defScope uN) s.heap.objs.size a.f_qY cdv)) hr m1 d1 o1
  refine⟨p1,c1,x1,f1,f2,f3,f4,f5,f6,q1,q2,q3,q4,q5,q6,q7,q8,fun pd hpd=>⟨_,rfl,_,rfl,zd,kvF hand lines,rfl,(by show 2≤15;decide),?_⟩⟩
  have sm:Same H (upd (upd H pd (.dK [])) pd (.dK (mergeK [] (kvF hand lines)))):=fun b o e=>by
   have hb:=ne_of_none e hpd
   rw[upd_ne hb,upd_ne hb]
   exact e
  exact q9 _ pd (kvF hand lines) sm zd zxC _ (k _ sm)
theorem uV (T:Txt w K mg a):FnOk P w K mg base CX0 10 a.f_qZ a.d_qZ ["self", "worth", "hand", "turn", "lines", "other"] (XJ a):=by
 have RR:Reckons P w K mg base a 8:=xq T 8
 refine T.F_qZ.ok sc_qZ (fun vs H Q E h=>?_) (fun cdv A outer s H vs Q E hr h=>?_)
 ·obtain⟨r,e1,e2,e3,e4,worth,hand,turn,lines,other,rfl,_⟩:=h
  rfl
 ·obtain⟨r,e1,e2,e3,e4,worth,hand,turn,lines,other,rfl,⟨p,dx,r1,r2,r3,r4,rfl,hp,_,⟨m2,o2,d2⟩,⟨m3,o3,d3⟩,_⟩,k⟩:=h
  refine zD (w_pss_cons (zl (i:=6) sc_qZ.nd rfl (Or.inl rfl) (xL (zK w_pe_str (w_pv 1) (zK w_pe_str (w_pv 2) (zK w_pe_str (w_pv 3) (zK w_pe_str (w_pv 4) (zK w_pe_str (w_pv 5) xI))))) rfl rfl (by intro z;cases z) (by decide)))
   (w_pss_cons (w_ps_if (w_pt_cmpR op_gt (w_pe_methD (w_pe_fld (w_pv 0) rfl) (w_pa_N (w_pv 6) w_pa_nil)) ze (zx _))
    (zf (zh (w_pe_methD (w_pe_fld (w_pv 0) rfl) (w_pa_N (w_pv 6) w_pa_nil))))
    zm)
   (zf (zh ug)))) ?_
  refine fun pd hpd=>⟨_,rfl,_,rfl,_,rfl,_,rfl,_,rfl,zd,kvS worth hand turn lines other,rfl,(by show 5≤15;decide),?_⟩
  have sm:Same H (upd (upd H pd (.dK [])) pd (.dK (mergeK [] (kvS worth hand turn lines other)))):=fun b o e=>by
   have hb:=ne_of_none e hpd
   rw[upd_ne hb,upd_ne hb]
   exact e
  have hdd:upd (upd H pd (.dK [])) pd (.dK (mergeK [] (kvS worth hand turn lines other))) pd=some (.dK (kvS worth hand turn lines other)):=zd
  generalize upd (upd H pd (.dK [])) pd (.dK (mergeK [] (kvS worth hand turn lines other)))=H1 at sm hdd ⊢
  refine⟨_,rfl,p,_,dx,_,_,rfl,sm _ _ hp,T.cl_Program,T.na_Program_when,rfl,?_⟩
  obtain⟨p1,c1,x1,f1,f2,f3,f4,f5,f6,q1,q2,q3,q4,q5,q6,q7,q8,q9⟩:=RR.call2 T (A:=A.deeper (PyProof.Rows.envOfC "Program.word_to" (defScope vQ) s.heap.objs.size a.f_qZ cdv)) hr (m3.same sm) d3 o3
  refine⟨p1,c1,x1,f1,f2,f3,f4,f5,f6,q1,q2,q3,q4,q5,q6,q7,q8,_,rfl,q9 H1 pd _ (Same.refl H1) hdd zwy _ ?_⟩
  refine⟨_,_,rfl,rfl,_,rfl,?_⟩
  have k':=k H1 sm
  refine ite2 (fun q=>?_) (fun q=>?_)
  ·have q':e3.val (rho (kvS worth hand turn lines other))>0:=of_decide_eq_true q
   rw[if_pos q'] at k'
   refine⟨_,rfl,p,_,dx,_,_,rfl,sm _ _ hp,T.cl_Program,T.na_Program_send,rfl,?_⟩
   obtain⟨p1,c1,x1,f1,f2,f3,f4,f5,f6,q1,q2,q3,q4,q5,q6,q7,q8,q9⟩:=RR.call2 T (A:=A.deeper (PyProof.Rows.envOfC "Program.word_to" (defScope vQ) s.heap.objs.size a.f_qZ cdv)) hr (m2.same sm) d2 o2
   exact⟨p1,c1,x1,f1,f2,f3,f4,f5,f6,q1,q2,q3,q4,q5,q6,q7,q8,_,rfl,q9 H1 pd _ (Same.refl H1) hdd zwy _ k'⟩
  ·have q':¬ e3.val (rho (kvS worth hand turn lines other))>0:=fun z=>q (decide_eq_true z)
   rw[if_neg q'] at k'
   exact k'
theorem VS (T:Txt w K mg a):FnOk P w K mg base CX0 10 a.f_qa0 a.d_qa0 ["self", "worth", "hand", "turn", "lines", "heard"] (zfR a):=by
 have RR:Reckons P w K mg base a 8:=xq T 8
 refine T.F_qa0.ok sc_qa0 (fun vs H Q E h=>?_) (fun cdv A outer s H vs Q E hr h=>?_)
 ·obtain⟨r,e1,e2,e3,e4,worth,hand,turn,lines,hl,ns,rfl,_⟩:=h
  rfl
 ·obtain⟨r,e1,e2,e3,e4,worth,hand,turn,lines,hl,ns,rfl,⟨p,dx,r1,r2,r3,r4,rfl,hp,_,_,_,⟨m4,o4,d4⟩,_⟩,hh,k⟩:=h
  have hu:=xX hr
  refine zD (w_pss_cons (zl (i:=6) sc_qa0.nd rfl (Or.inl rfl) (xL (zK w_pe_str (w_pv 1) (zK w_pe_str (w_pv 2) (zK w_pe_str (w_pv 3) (zK w_pe_str (w_pv 4) xI)))) rfl rfl (by intro z;cases z) (by decide)))
   (w_pss_cons (w_ps_dput hu (w_pv 6) w_pe_str (w_pe_callB (call_sumI rfl) (by rfl) T.n_sum Ve (w_pa_N (w_pv 5) w_pa_nil)) rfl)
   (w_pss_cons (w_ps_dput hu (w_pv 6) w_pe_str (Zi rfl (by rfl) T.n_min (w_pa_N (w_pv 5) w_pa_nil) ze) rfl)
   (w_pss_cons (w_ps_dput hu (w_pv 6) w_pe_str (Zj rfl (by rfl) T.n_max (w_pa_N (w_pv 5) w_pa_nil) ze) rfl)
   (w_pss_cons (w_ps_dput hu (w_pv 6) w_pe_str (w_pe_callB zo (by rfl) T.n_len zY (w_pa_N (w_pv 5) w_pa_nil)) rfl)
   (zf (zh (w_pe_methD (w_pe_fld (w_pv 0) rfl) (w_pa_N (w_pv 6) w_pa_nil))))))))) ?_
  refine fun pd hpd=>⟨_,rfl,_,rfl,_,rfl,_,rfl,zd,[(ky "worth",.int worth),(ky "me",.int hand),(ky "round",.int turn),(ky "lines",.int lines)],rfl,(by show 4≤15;decide),?_⟩
  have hne:hl≠pd:=ne_of_none hh hpd
  have up:∀ {Hx:Hp}{o:HO},Hx hl=some (.lst (ns.map V.int))→upd Hx pd o hl=some (.lst (ns.map V.int)):=fun h=>by rw[upd_ne hne];exact h
  have h1:=up (o:=.dK (mergeK [] [(ky "worth",.int worth),(ky "me",.int hand),(ky "round",.int turn),(ky "lines",.int lines)])) (up (o:=.dK []) hh)
  refine⟨_,rfl,hl,ns,rfl,SqL.of h1,_,rfl,pd,_,rfl,DPut.k (k:=ky "sum") zd (zr (by show 4≤1000;decide)),?_⟩
  refine⟨_,rfl,hl,ns,0,rfl,rfl,SqL.of (up h1),fun mn hmn=>⟨_,rfl,pd,_,rfl,DPut.k (k:=ky "least") zd (zr (by show 5≤1000;decide)),?_⟩⟩
  refine⟨_,rfl,hl,ns,0,rfl,rfl,SqL.of (up (up h1)),fun mx hmx=>⟨_,rfl,pd,_,rfl,DPut.k (k:=ky "most") zd (zr (by show 6≤1000;decide)),?_⟩⟩
  refine⟨_,rfl,hl,_,rfl,.inl (SqL.of (up (up (up h1)))),_,rfl,pd,_,rfl,DPut.k (k:=ky "count") zd (zr (by show 7≤1000;decide)),?_⟩
  rw[List.length_map]
  simp only[yt]
  have hdd:upd H pd (.dK (putK (putK (putK (putK (mergeK [] [(ky "worth",.int worth),(ky "me",.int hand),(ky "round",.int turn),(ky "lines",.int lines)]) (ky "sum") (.int ns.sum)) (ky "least") (.int mn)) (ky "most") (.int mx)) (ky "count") (.int ns.length))) pd=some (.dK (kvR worth hand turn lines ns.sum mn mx ns.length)):=zd
  have sm:=Same.new (o:=.dK (putK (putK (putK (putK (mergeK [] [(ky "worth",.int worth),(ky "me",.int hand),(ky "round",.int turn),(ky "lines",.int lines)]) (ky "sum") (.int ns.sum)) (ky "least") (.int mn)) (ky "most") (.int mx)) (ky "count") (.int ns.length))) hpd
  generalize upd H pd (.dK (putK (putK (putK (putK (mergeK [] [(ky "worth",.int worth),(ky "me",.int hand),(ky "round",.int turn),(ky "lines",.int lines)]) (ky "sum") (.int ns.sum)) (ky "least") (.int mn)) (ky "most") (.int mx)) (ky "count") (.int ns.length)))=H1 at sm hdd ⊢
  refine⟨_,rfl,p,_,dx,_,_,rfl,sm _ _ hp,T.cl_Program,T.na_Program_renew,rfl,?_⟩
  obtain⟨p1,c1,x1,f1,f2,f3,f4,f5,f6,q1,q2,q3,q4,q5,q6,q7,q8,q9⟩:=RR.call2 T (A:=A.deeper (PyProof.Rows.envOfC "Program.next_worth" (defScope wk) s.heap.objs.size a.f_qa0 cdv)) hr (m4.same sm) d4 o4
  exact⟨p1,c1,x1,f1,f2,f3,f4,f5,f6,q1,q2,q3,q4,q5,q6,q7,q8,_,rfl,q9 H1 pd _ (Same.refl H1) hdd zxB _ (k H1 mn mx sm hmn hmx)⟩
end
end K04

namespace K04
open PySem L2
def LnAt (H:Hp) (rs:List V) (ls:List (Int×Int)):Prop:=rs.length=ls.length∧∀ (i:Nat) r p,rs[i]?=some r→ls[i]?=some p→∃ q,r=.ref q∧H q=some (.tup [.int p.1,.int p.2])
theorem LnAt.same {H H':Hp}{rs:List V}{ls:List (Int×Int)}(h:LnAt H rs ls) (s:Same H H'):LnAt H' rs ls:=⟨h.1,fun i r p h1 h2=>by
 obtain⟨q,e,t⟩:=h.2 i r p h1 h2
 exact⟨q,e,s _ _ t⟩⟩
theorem LnAt.get {H:Hp}{rs:List V}{ls:List (Int×Int)}(h:LnAt H rs ls){i:Nat}{r:V}(e:rs[i]?=some r):∃ p q,ls[i]?=some p∧r=.ref q∧H q=some (.tup [.int p.1,.int p.2]):=by
 have hi:i<ls.length:=by rw[← h.1];exact(List.getElem?_eq_some_iff.mp e).1
 have hp:ls[i]?=some ls[i]:=by simp[hi]
 obtain⟨q,e1,e2⟩:=h.2 i r _ e hp
 exact⟨_,q,hp,e1,e2⟩
theorem v9 {x:Int}:∀ {ns:List Int},inV (.int x) (ns.map V.int)=decide (x∈ns)
 |[]=>by simp[inV]
 |n::ns=>by
  have ih:=v9 (x:=x) (ns:=ns)
  unfold inV at ih ⊢
  rw[List.map_cons,List.any_cons,ih]
  show((n == x)||decide (x∈ns))=decide (x∈n::ns)
  by_cases e:n=x
  ·simp[e]
  ·have e':¬ x=n:=fun z=>e z.symm
   simp[e,e']
theorem vC (ns:List Int):(ns.map V.int).all yZ=true:=by
 rw[List.all_eq_true]
 intro v hv
 obtain⟨x,_,rfl⟩:=List.mem_map.mp hv
 rfl
section
variable {P:Program}{w:World}{K:PySem.W.Frag}{mg:Str→Option Value}{base:Heap}{a:Ad}
def wz:Sp:=fun vs H Q _=>∃ i:Int,vs=[.int i]∧Q (.bl true) H
theorem wH (T:Txt w K mg a):FnOk P w K mg base CX0 1 a.f_qi a.d_qi ["value"] wz:=by
 refine T.F_qi.ok zfT (fun vs H Q E h=>?_) (fun cdv A outer s H vs Q E hr h=>?_)
 ·obtain⟨i,rfl,_⟩:=h
  rfl
 ·obtain⟨i,rfl,k⟩:=h
  refine⟨_,(zP (yA (uv (yf zT (by rfl) T.n_isinstance zz (xw (pv 0) (xw (wn T.n_int Vf) zU))) (Yw (WV (yf zT (by rfl) T.n_isinstance zz (xw (pv 0) (xw (wn T.n_bool Xp) zU)))))))),?_⟩
  refine⟨_,rfl,_,_,_,_,_,rfl,rfl,.int i,T.k_tint_tint,_,rfl,XA ?_⟩
  exact⟨_,rfl,_,_,_,_,_,rfl,rfl,.int i,T.k_tint_tbool,_,rfl,k⟩
def Yk:Sp:=fun vs H Q _=>∃ (h:Addr) (hs:List Int),vs=[.ref h]∧H h=some (.lst (hs.map V.int))∧Hs hs∧Q (.bl true) H
theorem X0 (T:Txt w K mg a):FnOk P w K mg base CX0 2 a.f_qp a.d_qp ["hands"] Yk:=by
 have c_qi:Callee P w K mg base "is_whole" a.f_qi a.d_qi ["value"] 1 wz:=⟨wH T,T.g_qi,T.F_qi.kp,T.b_qi⟩
 refine T.F_qp.ok sc_qp (fun vs H Q E h=>?_) (fun cdv A outer s H vs Q E hr h=>?_)
 ·obtain⟨h,hs,rfl,_⟩:=h
  rfl
 ·obtain⟨h,hs,rfl,hh,W,k⟩:=h
  have w1:=W.l1
  have w12:=W.l12
  refine⟨_,(zG (wD (PW.pt (vj (yT (yS (yf zT (by rfl) T.n_isinstance zz (xw (pv 0) (xw (wn T.n_list wV) zU))))) (vj (xt xO (yf zo (by rfl) T.n_len zY (xw (pv 0) zU)) yU (zx _)) (wm (xt op_gt (yf zo (by rfl) T.n_len zY (xw (pv 0) zU)) (wF (v:=.int 12) rfl T.g_MOST_HANDS ⟨_,rfl⟩) (zx _))))))
    (zP (yA wc))
    yz)
   (zG (vk (i:=1) sc_qp.nd rfl (Or.inl rfl) (zgc wj yU))
   (zG (vm PassesOwn.never rfl (xN (pv 0)) (xu (i:=2) sc_qp.nd rfl (Or.inl rfl))
    (zG (wD (PW.pt (vj (yT (yS (WY c_qi (hr.mono (by omega)) (xw (pv 2) zU)))) (vj (xt zgj (pv 2) (pv 1) (zx _)) (wm (xt op_gt (pv 2) (wF (v:=.int 99) rfl T.g_LAST_HAND ⟨_,rfl⟩) (zx _))))))
     (zP (yA wc))
     yz)
    (zP (vk (i:=1) sc_qp.nd rfl (Or.inl rfl) (pv 2)))))
   (zP (yA wc))))),?_⟩
  refine⟨_,rfl,_,_,_,_,_,rfl,rfl,.lst hh,T.k_tlist_tlist,_,rfl,yn rfl ?_⟩
  refine⟨_,rfl,h,_,rfl,.inl (SqL.of hh),_,_,rfl,rfl,_,rfl,yn (decide_eq_false (by rw[List.length_map];omega)) ?_⟩
  refine⟨_,rfl,h,_,rfl,.inl (SqL.of hh),_,_,rfl,rfl,_,rfl,yn (decide_eq_false (by rw[List.length_map];omega)) ?_⟩
  refine⟨1,rfl,_,rfl,h,rfl,⟨_,SqL.of hh⟩,?_⟩
  refine yg (K:=K) (a:=h) (xs:=hs.map V.int) (fun i σ H'=>H'=H∧∃ (m:Int) (o:Option V),σ=[some (.ref h),some (.int m),o]∧-1≤m∧∀ j x,i≤j→hs[j]?=some x→m<x) ?_ ?_ ?_ ?_
  ·refine⟨rfl,-1,none,rfl,Int.le_refl _,fun j x _ hx=>?_⟩
   have:=W.lo x (List.mem_of_getElem? hx)
   omega
  ·rintro i σ H' _ ⟨rfl,_⟩
   exact SqL.of hh
  ·rintro i x σ H' hi ⟨rfl,m,o,rfl,hm,hall⟩
   rw[List.getElem?_map] at hi
   obtain⟨y,hy,rfl⟩:=Option.map_eq_some_iff.mp hi
   have y1:=hall i y (Nat.le_refl _) hy
   have y2:=W.hi y (List.mem_of_getElem? hy)
   refine⟨_,rfl,y,rfl,_,rfl,yn rfl ?_⟩
   refine⟨_,rfl,_,rfl,_,_,rfl,rfl,_,rfl,yn (decide_eq_false (by omega)) ?_⟩
   refine⟨_,rfl,_,_,rfl,rfl,_,rfl,yn (decide_eq_false (by omega)) ?_⟩
   refine⟨_,rfl,rfl,y,_,rfl,by omega,fun j z hj hz=>?_⟩
   have hlt:i<j:=by omega
   obtain⟨b1,e1⟩:=List.getElem?_eq_some_iff.mp hy
   obtain⟨b2,e2⟩:=List.getElem?_eq_some_iff.mp hz
   rw[← e1,← e2]
   exact List.pairwise_iff_getElem.mp W.up i j b1 b2 hlt
  ·rintro σ H' ⟨rfl,_⟩
   exact k
def spLine:Sp:=fun vs H Q _=>∃ (q h:Addr) (hs:List Int) (p:Int×Int),vs=[.ref q,.ref h]∧H q=some (.tup [.int p.1,.int p.2])∧H h=some (.lst (hs.map V.int))∧(p.1∈hs∧p.2∈hs∧p.1<p.2)∧Q (.bl true) H
theorem VW (T:Txt w K mg a):FnOk P w K mg base CX0 2 a.f_qq a.d_qq ["line", "hands"] spLine:=by
 have c_qi:Callee P w K mg base "is_whole" a.f_qi a.d_qi ["value"] 1 wz:=⟨wH T,T.g_qi,T.F_qi.kp,T.b_qi⟩
 refine T.F_qq.ok zmk (fun vs H Q E h=>?_) (fun cdv A outer s H vs Q E hr h=>?_)
 ·obtain⟨q,h,hs,p,rfl,_⟩:=h
  rfl
 ·obtain⟨q,h,hs,⟨x,y⟩,rfl,hq,hh,⟨h1,h2,h3⟩,k⟩:=h
  dsimp only at hq h1 h2 h3
  refine⟨_,(zG (wD (PW.pt (vj (yT (yS (yf zT (by rfl) T.n_isinstance zz (xw (pv 0) (xw (wn T.n_tuple uG) zU))))) (wm (xt zmX (yf zo (by rfl) T.n_len zY (xw (pv 0) zU)) yU (zx _)))))
    (zP (yA wc))
    yz)
   (zG (wD (PW.pt (vj (yT (yS (WY c_qi (hr.mono (by omega)) (yF (vT zN (pv 0) yU (fun _ _=>rfl)) zU)))) (wm (yT (yS (WY c_qi (hr.mono (by omega)) (yF (vT zN (pv 0) yU (fun _ _=>rfl)) zU)))))))
    (zP (yA wc))
    yz)
   (zP (yA (uv (wG xP (vT zN (pv 0) yU (fun _ _=>rfl)) (pv 1) (by with_unfolding_all rfl)) (uv (wG xP (vT zN (pv 0) yU (fun _ _=>rfl)) (pv 1) (by with_unfolding_all rfl)) (Yw (wG xO (vT zN (pv 0) yU (fun _ _=>rfl)) (vT zN (pv 0) yU (fun _ _=>rfl)) (zx _))))))))),?_⟩
  refine⟨_,rfl,_,_,_,_,_,rfl,rfl,.tup hq,T.k_ttuple_ttuple,_,rfl,yn rfl ?_⟩
  refine⟨_,rfl,q,_,rfl,.inr (SqT.of hq),rfl,_,rfl,yn rfl ?_⟩
  refine⟨_,rfl,q,_,0,_,rfl,rfl,SqT.of hq,rfl,x,rfl,_,rfl,yn rfl ?_⟩
  refine⟨_,rfl,q,_,1,_,rfl,rfl,SqT.of hq,rfl,y,rfl,_,rfl,yn rfl ?_⟩
  refine⟨_,rfl,q,_,0,_,rfl,rfl,SqT.of hq,rfl,_,rfl,h,_,rfl,.inl (SqL.of hh),rfl,vC hs,_,rfl,iteB (by show inV (.int x) _=true;rw[v9];exact decide_eq_true h1) ?_⟩
  refine⟨_,rfl,q,_,1,_,rfl,rfl,SqT.of hq,rfl,_,rfl,h,_,rfl,.inl (SqL.of hh),rfl,vC hs,_,rfl,iteB (by show inV (.int y) _=true;rw[v9];exact decide_eq_true h2) ?_⟩
  refine⟨_,rfl,q,_,0,_,rfl,rfl,SqT.of hq,rfl,_,rfl,q,_,1,_,rfl,rfl,SqT.of hq,rfl,_,_,rfl,rfl,?_⟩
  show Q (.bl (decide (x<y))) H
  rw[decide_eq_true h3]
  exact k
end
end K04

namespace K04
open PySem L2
section
variable {κ:Type} [DecidableEq κ]
theorem w6 {kvs:List (κ×V)}{k:κ}:(xE kvs k).isSome=decide (k∈kvs.map (·.1)):=by
 rw[← xD]
 by_cases h:k∈kvs.map (·.1)
 ·rw[decide_eq_true h,List.any_eq_true]
  obtain⟨p,hp,rfl⟩:=List.mem_map.mp h
  exact⟨p,hp,decide_eq_true rfl⟩
 ·rw[decide_eq_false h,List.any_eq_false]
  intro p hp e
  exact h (List.mem_map.mpr ⟨p,hp,of_decide_eq_true e⟩)
theorem valV_no {kvs:List (κ×V)}{k:κ}(h:k∉kvs.map (·.1)):(xE kvs k).isSome=false:=by rw[w6];exact decide_eq_false h
theorem putK_new {kvs:List (κ×V)}{k:κ}{v:V}(h:k∉kvs.map (·.1)):putK kvs k v=kvs++[(k,v)]:=by
 unfold putK
 rw[if_neg]
 rw[xD,w6,decide_eq_true_iff]
 exact h
end
theorem _root_.L2.Same.updF {p:Addr}{H H':Hp}{o:HO}(x:Same H H') (h:H p=none):Same H (L2.upd H' p o):=fun b u e=>by
 rw[upd_ne (ne_of_none e h)];exact x b u e
abbrev zah (p:Int×Int):List Key:=[Sum.inl p.1,Sum.inl p.2]
theorem Wr {p q:Int×Int}(h:zah p=zah q):p=q:=by
 obtain⟨a,b⟩:=p
 obtain⟨c,d⟩:=q
 simp[zah] at h
 rw[h.1,h.2]
theorem xS {α:Type}{xs:List α}{i:Nat}{x:α}(h:xs.Nodup) (e:xs[i]?=some x):x∉xs.take i:=by
 intro m
 obtain⟨j,hj,ej⟩:=List.getElem_of_mem m
 obtain⟨hi,ei⟩:=List.getElem?_eq_some_iff.mp e
 rw[List.getElem_take] at ej
 rw[List.length_take] at hj
 have:=(List.nodup_iff_pairwise_ne.mp h)
 exact List.pairwise_iff_getElem.mp this j i (by omega) hi (by omega) (ej.trans ei.symm)
section
variable {P:Program}{w:World}{K:PySem.W.Frag}{mg:Str→Option Value}{base:Heap}{a:Ad}
def Yj:Sp:=fun vs H Q _=>∃ (l h:Addr) (rs:List V) (hs:List Int) (ls:List (Int×Int)),vs=[.ref l,.ref h]∧H l=some (.lst rs)∧LnAt H rs ls∧H h=some (.lst (hs.map V.int))∧Ls hs ls∧∀ H',Same H H'→Q (.bl true) H'
theorem XZ (T:Txt w K mg a):FnOk P w K mg base CX0 3 a.f_qr a.d_qr ["lines", "hands"] Yj:=by
 have c_qq:Callee P w K mg base "is_line" a.f_qq a.d_qq ["line", "hands"] 2 spLine:=⟨VW T,T.g_qq,T.F_qq.kp,T.b_qq⟩
 refine T.F_qr.ok sc_qr (fun vs H Q E h=>?_) (fun cdv A outer s H vs Q E hr h=>?_)
 ·obtain⟨l,h,rs,hs,ls,rfl,_⟩:=h
  rfl
 ·obtain⟨l,h,rs,hs,ls,rfl,hl,hrs,hh,L,k⟩:=h
  have l66:=L.le
  have hu:=xX hr
  refine⟨_,(zG (wD (yT (yS (yf zT (by rfl) T.n_isinstance zz (xw (pv 0) (xw (wn T.n_list wV) zU)))))
    (zP (yA wc))
    yz)
   (zG (vk (i:=2) sc_qr.nd rfl (Or.inl rfl) XX)
   (zG (vm PassesOwn.never rfl (xN (pv 0)) (xu (i:=3) sc_qr.nd rfl (Or.inl rfl))
    (zG (wD (PW.pt (vj (yT (yS (WY c_qq (hr.mono (by omega)) (xw (pv 3) (xw (pv 1) zU))))) (wm (zf7 (WZ hu (pv 3) (pv 2))))))
     (zP (yA wc))
     yz)
    (zP (vS hu (pv 2) (pv 3) wc rfl))))
   (zP (yA wc))))),?_⟩
  refine⟨_,rfl,_,_,_,_,_,rfl,rfl,.lst hl,T.k_tlist_tlist,_,rfl,yn rfl ?_⟩
  refine fun d hd=>?_
  refine⟨_,rfl,l,rfl,⟨_,SqL.of (Same.new hd _ _ hl)⟩,?_⟩
  refine yg (K:=K) (a:=l) (xs:=rs) (fun i σ H'=>∃ (kvs:List (List Key×V)) (o:Option V),σ=[some (.ref l),some (.ref h),some (.ref d),o]∧H' d=some (.dT kvs)∧kvs.map (·.1)=(ls.take i).map zah∧Same H H') ?_ ?_ ?_ ?_
  ·exact⟨[],none,rfl,zd,by simp,Same.new hd⟩
  ·rintro i σ H' _ ⟨kvs,o,_,_,_,sm⟩
   exact SqL.of (sm _ _ hl)
  ·rintro i x σ H' hi ⟨kvs,o,rfl,hd',hk,sm⟩
   obtain⟨p,q,hp,rfl,hq⟩:=(hrs.same sm).get hi
   have hm:p∈ls:=List.mem_of_getElem? hp
   refine⟨_,rfl,_,rfl,q,h,hs,p,rfl,hq,sm _ _ hh,L.ok p hm,_,rfl,yn rfl ?_⟩
   have hnew:zah p∉kvs.map (·.1):=by
    rw[hk]
    intro z
    obtain⟨p',m',e'⟩:=List.mem_map.mp z
    rw[Wr e'] at m'
    exact xS L.nd hp m'
   have hz:kvs.length≤1000:=by
    have:=congrArg List.length hk
    rw[List.length_map,List.length_map,List.length_take] at this
    omega
   refine⟨_,rfl,_,rfl,d,_,rfl,DGet.t (k:=zah p) hd' hq,_,rfl,yn ?_ ?_⟩
   ·exact valV_no hnew
   ·refine⟨_,rfl,_,rfl,d,_,rfl,DPut.t (k:=zah p) hd' hq (zr hz),?_⟩
    refine⟨_,_,rfl,zd,?_,sm.updF hd⟩
    rw[putK_new hnew,List.map_append,hk,List.take_add_one,hp,List.map_append]
    rfl
  ·rintro σ H' ⟨kvs,o,_,_,_,sm⟩
   exact k H' sm
end
end K04

namespace K04
open PySem L2
noncomputable def tab (ad:Int→Addr) (us:List Int):List (Key×V):=us.map fun h=>(Sum.inl h,V.ref (ad h))
theorem ui {ad:Int→Addr}{us:List Int}:(tab ad us).map (·.1)=us.map Sum.inl:=by
 unfold tab;rw[List.map_map];rfl
theorem Zo {ad:Int→Addr}{x:Int}:∀ {us:List Int},x∈us→xE (tab ad us) (Sum.inl x:Key)=some (V.ref (ad x))
 |u::us,h=>by
  show xE ((Sum.inl u,V.ref (ad u))::tab ad us) _=_
  by_cases e:u=x
  ·subst e;rw[xB rfl]
  ·rw[xC (fun z=>e (by injection z)),Zo]
   rcases List.mem_cons.mp h with z | z
   ·exact absurd z.symm e
   ·exact z
theorem xm {H:Hp}{d:Addr}{ad:Int→Addr}{us:List Int}{x:Int}(e:H d=some (.dK (tab ad us))) (h:x∈us):DGet H d (V.int x) (some (V.ref (ad x))):=by
 have:=DGet.k (k:=Sum.inl x) e
 rw[Zo h] at this
 exact this
theorem Y9 {x:Int}{us:List Int}:(Sum.inl x:Key)∈us.map (Sum.inl:Int→Key)↔x∈us:=by
 rw[List.mem_map]
 exact⟨fun⟨y,h,e⟩=>by injection e with e;exact e ▸ h,fun h=>⟨x,h,rfl⟩⟩
noncomputable def zf6 (ad:Int→Addr) (y:Int) (p:Addr):Int→Addr:=fun x=>if x=y then p else ad x
theorem putA_at {ad:Int→Addr}{x y:Int}{p:Addr}(e:x=y):zf6 ad y p x=p:=if_pos e
theorem putA_ne {ad:Int→Addr}{x y:Int}{p:Addr}(e:¬ x=y):zf6 ad y p x=ad x:=if_neg e
structure Near (H:Hp) (d:Addr) (hs:List Int) (ls:List (Int×Int)) (ad:Int→Addr):Prop where
 d:H d=some (.dK (tab ad hs))
 nb:∀ h∈hs,H (ad h)=some (.lst ((nbs ls h).map V.int))
theorem Near.same {H H':Hp}{d:Addr}{hs:List Int}{ls:List (Int×Int)}{ad:Int→Addr}(n:Near H d hs ls ad) (s:Same H H'):Near H' d hs ls ad:=⟨s _ _ n.d,fun h m=>s _ _ (n.nb h m)⟩
section
variable {P:Program}{w:World}{K:PySem.W.Frag}{mg:Str→Option Value}{base:Heap}{a:Ad}
def WR:Sp:=fun vs H Q _=>∃ (h l:Addr) (rs:List V) (hs:List Int) (ls:List (Int×Int)),vs=[.ref h,.ref l]∧H h=some (.lst (hs.map V.int))∧H l=some (.lst rs)∧LnAt H rs ls∧Hs hs∧Ls hs ls ∧
 ∀ (d:Addr) (ad:Int→Addr) H',Same H H'→H d=none→(∀ x∈hs,H (ad x)=none)→Near H' d hs ls ad→Q (.ref d) H'
theorem VT (T:Txt w K mg a):FnOk P w K mg base CX0 1 a.f_qs a.d_qs ["hands", "lines"] WR:=by
 refine T.F_qs.ok sc_qs (fun vs H Q E h=>?_) (fun cdv A outer s H vs Q E hr h=>?_)
 ·obtain⟨h,l,rs,hs,ls,rfl,_⟩:=h
  rfl
 ·obtain⟨h,l,rs,hs,ls,rfl,hh,hl,hrs,W,L,k⟩:=h
  have l66:=L.le
  have l12:=W.l12
  have hu:=xX hr
  refine⟨_,(zG (vk (i:=2) sc_qs.nd rfl (Or.inl rfl) uu)
   (zG (vm PassesOwn.never rfl (xN (pv 0)) (xu (i:=3) sc_qs.nd rfl (Or.inl rfl))
    (zP (vS hu (pv 2) (pv 3) (WX zU) rfl)))
   (zG (vm PassesOwn.never rfl (xN (pv 1)) (WU rfl (wE (xu (i:=4) sc_qs.nd rfl (Or.inl rfl)) (wE (xu (i:=5) sc_qs.nd rfl (Or.inl rfl)) Yv)))
    (zG (vR (VM PySem.F.plainAttrs_list PySem.F.slot_list_append PySem.F.type_list_append zS (vU hu (pv 2) (pv 4) (fun _ _=>rfl)) (xw (pv 5) zU)))
    (zP (vR (VM PySem.F.plainAttrs_list PySem.F.slot_list_append PySem.F.type_list_append zS (vU hu (pv 2) (pv 5) (fun _ _=>rfl)) (xw (pv 4) zU))))))
   (zP (yA (pv 2)))))),?_⟩
  refine fun d hd=>?_
  refine⟨_,rfl,h,rfl,⟨_,SqL.of (Same.new hd _ _ hh)⟩,?_⟩
  refine yg (K:=K) (a:=h) (xs:=hs.map V.int) (fun i σ H'=>∃ (ad:Int→Addr) (o:Option V),σ=[some (.ref h),some (.ref l),some (.ref d),o,none,none]∧H' d=some (.dK (tab ad (hs.take i))) ∧
   (∀ x∈hs.take i,H' (ad x)=some (.lst [])∧H (ad x)=none)∧(∀ x∈hs.take i,∀ y∈hs.take i,ad x=ad y→x=y)∧Same H H') ?_ ?_ ?_ ?_
  ·exact⟨fun _=>0,none,rfl,zd,fun x hx=>by simp at hx,fun x hx=>by simp at hx,Same.new hd⟩
  ·rintro i σ H' _ ⟨ad,o,_,_,_,_,sm⟩
   exact SqL.of (sm _ _ hh)
  ·rintro i x σ H' hi ⟨ad,o,rfl,hd',hat,hinj,sm⟩
   rw[List.getElem?_map] at hi
   obtain⟨y,hy,rfl⟩:=Option.map_eq_some_iff.mp hi
   have hnew:y∉hs.take i:=xS (XH W.up) hy
   refine⟨(by show 0≤sizeLine;decide),fun p hp=>?_⟩
   have hpd:p≠d:=fun z=>by rw[z,hd'] at hp;cases hp
   have hd2:(upd H' p (.lst [])) d=some (.dK (tab ad (hs.take i))):=by rw[upd_ne hpd.symm];exact hd'
   refine⟨_,rfl,_,rfl,d,_,rfl,DPut.k (k:=Sum.inl y) hd2 (zr ?_),?_⟩
   ·unfold tab
    rw[List.length_map,List.length_take];omega
   ·have et:hs.take (i+1)=hs.take i++[y]:=by rw[List.take_add_one,hy];rfl
    have hp0:H p=none:=sm.free hp
    have hne:∀ x∈hs.take i,ad x≠p:=fun x hx z=>by
     have:=(hat x hx).1
     rw[z,hp] at this;cases this
    have had:∀ x∈hs.take i,ad x≠d:=fun x hx z=>by
     have:=(hat x hx).1
     rw[z,hd'] at this;cases this
    refine⟨zf6 ad y p,_,rfl,?_,?_,?_,(sm.updF hp0).updF hd⟩
    ·rw[zd,K04.putK_new (by rw[ui,Y9];exact hnew),et]
     unfold tab
     rw[List.map_append]
     congr 3
     ·refine List.map_congr_left fun x hx=>?_
      rw[putA_ne (fun z=>hnew (by rw[← z];exact hx))]
     ·show _=[(Sum.inl y,V.ref (zf6 ad y p y))]
      rw[putA_at rfl]
    ·intro x hx
     rw[et,List.mem_append,List.mem_singleton] at hx
     by_cases e:x=y
     ·rw[putA_at e,upd_ne hpd,zd]
      exact⟨rfl,hp0⟩
     ·rw[putA_ne e]
      have hx:=hx.resolve_right e
      rw[upd_ne (had x hx),upd_ne (hne x hx)]
      exact hat x hx
    ·intro x hx z hz
     rw[et,List.mem_append,List.mem_singleton] at hx hz
     by_cases e1:x=y
     ·by_cases e2:z=y
      ·intro _;rw[e1,e2]
      ·rw[putA_at e1,putA_ne e2]
       intro q;exact absurd q.symm (hne z (hz.resolve_right e2))
     ·by_cases e2:z=y
      ·rw[putA_ne e1,putA_at e2]
       intro q;exact absurd q (hne x (hx.resolve_right e1))
      ·rw[putA_ne e1,putA_ne e2]
       exact hinj x (hx.resolve_right e1) z (hz.resolve_right e2)
  ·rintro σ H1 ⟨ad,o,rfl,hd',hat,hinj,sm⟩
   rw[List.length_map,List.take_length] at hd' hat hinj
   refine⟨_,rfl,l,rfl,⟨_,SqL.of (sm _ _ hl)⟩,?_⟩
   refine yg (K:=K) (a:=l) (xs:=rs) (fun i σ H'=>∃ (o1 o2:Option V),σ=[some (.ref h),some (.ref l),some (.ref d),o,o1,o2]∧Near H' d hs (ls.take i) ad∧Same H H') ?_ ?_ ?_ ?_
   ·exact⟨none,none,rfl,⟨hd',fun x hx=>by rw[List.take_zero];exact(hat x hx).1⟩,sm⟩
   ·rintro i σ H' _ ⟨o1,o2,_,_,sm'⟩
    exact SqL.of (sm' _ _ hl)
   ·rintro i x σ H' hi ⟨o1,o2,rfl,N,sm'⟩
    obtain⟨⟨x,y⟩,q,hp,rfl,hq⟩:=(hrs.same sm').get hi
    obtain⟨hx,hy,hxy⟩:=L.ok _ (List.mem_of_getElem? hp)
    dsimp only at hq hx hy hxy
    refine⟨q,_,rfl,SqT.of hq,rfl,_,_,rfl,_,_,rfl,rfl,?_⟩
    have len:∀ z,((nbs (ls.take i) z).map V.int).length<sizeLine:=fun z=>by
     rw[List.length_map]
     have:=YX (h:=z) (ls:=ls.take i)
     rw[List.length_take] at this
     exact zr (by omega)
    have hdx:ad x≠d:=fun z=>by
     have:=N.nb x hx
     rw[z,N.d] at this;cases this
    have hdy:ad y≠d:=fun z=>by
     have:=N.nb y hy
     rw[z,N.d] at this;cases this
    have hne:ad y≠ad x:=fun z=>by have:=hinj y hy x hx z;omega
    refine⟨_,rfl,_,rfl,d,V.ref (ad x),rfl,xm N.d hx,.inl ⟨rfl,_,SqL.of (N.nb x hx)⟩,_,rfl,_,_,_,rfl,rfl,N.nb x hx,len x,?_⟩
    have nd2:(upd H' (ad x) (.lst ((nbs (ls.take i) x).map V.int++[V.int y]))) d=some (.dK (tab ad hs)):=by rw[upd_ne hdx.symm];exact N.d
    have ny2:(upd H' (ad x) (.lst ((nbs (ls.take i) x).map V.int++[V.int y]))) (ad y)=some (.lst ((nbs (ls.take i) y).map V.int)):=by rw[upd_ne hne];exact N.nb y hy
    refine⟨_,rfl,_,rfl,d,V.ref (ad y),rfl,xm nd2 hy,.inl ⟨rfl,_,SqL.of ny2⟩,_,rfl,_,_,_,rfl,rfl,ny2,len y,?_⟩
    refine⟨_,_,rfl,⟨?_,fun z hz=>?_⟩,(sm'.updF (hat x hx).2).updF (hat y hy).2⟩
    ·rw[upd_ne hdy.symm];exact nd2
    ·rw[Wf hp]
     by_cases e2:z=y
     ·subst e2
      rw[zd,if_neg (by show ¬ x=z;omega),if_pos rfl,List.map_append]
      rfl
     ·rw[upd_ne (fun q=>e2 (hinj z hz y hy q))]
      by_cases e1:z=x
      ·subst e1
       rw[zd,if_pos rfl,if_neg (by show ¬ y=z;omega),List.map_append]
       rfl
      ·rw[upd_ne (fun q=>e1 (hinj z hz x hx q)),if_neg (fun q=>e1 q.symm),if_neg (fun q=>e2 q.symm),List.append_nil,List.append_nil]
       exact N.nb z hz
   ·rintro σ H' ⟨o1,o2,rfl,N,sm'⟩
    rw[hrs.1,List.take_length] at N
    exact⟨_,rfl,k d ad H' sm' hd (fun x hx=>(hat x hx).2) N⟩
end
end K04

namespace K04
open PySem L2
open L2.Srt (wu)
theorem Near.ext {H H':Hp}{d p dx C:Addr}{fs:List (Str×V)}{hs:List Int}{ls:List (Int×Int)}{ad:Int→Addr}(n:Near H d hs ls ad) (hp:H p=some (.ins C dx fs)) (s:Ext p H H'):Near H' d hs ls ad :=
 ⟨s _ _ n.d (fun z=>by rw[← z,n.d] at hp;cases hp),fun h m=>s _ _ (n.nb h m) (fun z=>by rw[← z,n.nb h m] at hp;cases hp)⟩
theorem LnAt.ext {H H':Hp}{p dx C:Addr}{fs:List (Str×V)}{rs:List V}{ls:List (Int×Int)}(h:LnAt H rs ls) (hp:H p=some (.ins C dx fs)) (s:Ext p H H'):LnAt H' rs ls:=⟨h.1,fun i r q h1 h2=>by
 obtain⟨t,e,ht⟩:=h.2 i r q h1 h2
 exact⟨t,e,s _ _ ht fun z=>by rw[← z,ht] at hp;cases hp⟩⟩
theorem LnAt.mem {H:Hp}{rs:List V}{ls:List (Int×Int)}(h:LnAt H rs ls){y:V}(hy:y∈rs):∃ q i j,y=.ref q∧H q=some (.tup [.int i,.int j]):=by
 obtain⟨i,hi,e⟩:=List.getElem_of_mem hy
 obtain⟨p,q,_,e1,e2⟩:=h.get (i:=i) (r:=y) (by rw[List.getElem?_eq_getElem hi,e])
 exact⟨q,_,_,e1,e2⟩
theorem Ext.free {l p:Addr}{H H':Hp}(k:Ext l H H') (n:p≠l) (h:H' p=none):H p=none:=by
 cases e:H p with
 |none=>rfl
 |some o=>have:=k _ _ e n;rw[h] at this;cases this
section
variable {P:Program}{w:World}{K:PySem.W.Frag}{mg:Str→Option Value}{base:Heap}{a:Ad}
structure WebAt (a:Ad) (H:Hp) (p:Addr) (hs:List Int) (ls:List (Int×Int)) (dx oh ol d:Addr) (ad:Int→Addr):Prop where
 p:H p=some (.ins a.c_Web dx [("own_hands",.ref oh),("own_lines",.ref ol),("near",.ref d)])
 oh:H oh=some (.lst (hs.map V.int))
 nr:Near H d hs ls ad
theorem WebAt.same {H H':Hp}{p dx oh ol d:Addr}{hs:List Int}{ls:List (Int×Int)}{ad:Int→Addr}(w:WebAt a H p hs ls dx oh ol d ad) (s:Same H H'):WebAt a H' p hs ls dx oh ol d ad:=⟨s _ _ w.p,s _ _ w.oh,w.nr.same s⟩
def zfQ (a:Ad):Sp:=fun vs H Q _=>∃ (p dx h l:Addr) (rs:List V) (hs:List Int) (ls:List (Int×Int)),vs=[.ref p,.ref h,.ref l]∧H p=some (.ins a.c_Web dx [])∧H h=some (.lst (hs.map V.int))∧H l=some (.lst rs)∧LnAt H rs ls∧Hs hs∧Ls hs ls ∧
 ∀ (oh ol d:Addr) (ad:Int→Addr) H',H oh=none→H d=none→(∀ x∈hs,H (ad x)=none)→Ext p H H'→WebAt a H' p hs ls dx oh ol d ad→Q .non H'
theorem zgm (T:Txt w K mg a):FnOk P w K mg base CX0 4 a.f_qa1 a.d_qa1 ["self", "hands", "lines"] (zfQ a):=by
 have c_qp:Callee P w K mg base "are_hands" a.f_qp a.d_qp ["hands"] 2 Yk:=⟨X0 T,T.g_qp,T.F_qp.kp,T.b_qp⟩
 have c_qr:Callee P w K mg base "are_lines" a.f_qr a.d_qr ["lines", "hands"] 3 Yj:=⟨XZ T,T.g_qr,T.F_qr.kp,T.b_qr⟩
 have c_qs:Callee P w K mg base "near_by_hand" a.f_qs a.d_qs ["hands", "lines"] 1 WR:=⟨VT T,T.g_qs,T.F_qs.kp,T.b_qs⟩
 refine T.F_qa1.ok zfX (fun vs H Q E h=>?_) (fun cdv A outer s H vs Q E hr h=>?_)
 ·obtain⟨p,dx,h,l,rs,hs,ls,rfl,_⟩:=h
  rfl
 ·obtain⟨p,dx,h,l,rs,hs,ls,rfl,hp,hh,hl,hrs,W,L,k⟩:=h
  have l66:=L.le
  have np:∀ {b:Addr}{xs:List V},H b=some (.lst xs)→b≠p:=fun e z=>by rw[z,hp] at e;cases e
  refine⟨_,(zG (wD (yT (yS (WY c_qp (hr.mono (by omega)) (xw (pv 1) zU))))
    (zP wC)
    yz)
   (zG (wD (yT (yS (WY c_qr (hr.mono (by omega)) (xw (pv 2) (xw (pv 1) zU)))))
    (zP wC)
    yz)
   (zG (ur (pv 0) (vo xy (by rfl) T.n_list wV (xw (pv 1) zU)) rfl)
   (zG (ur (pv 0) (yf wu (by rfl) T.n_sorted vG (xw (pv 2) zU)) rfl)
   (zP (ur (pv 0) (WY c_qs (hr.mono (by omega)) (xw (pv 1) (xw (pv 2) zU))) rfl)))))),?_⟩
  refine⟨_,rfl,h,hs,rfl,hh,W,_,rfl,yn rfl ?_⟩
  refine⟨_,rfl,_,rfl,l,h,rs,hs,ls,rfl,hl,hrs,hh,L,fun H1 s1=>⟨_,rfl,yn rfl ?_⟩⟩
  refine⟨_,rfl,h,_,rfl,.inl (SqL.of (s1 _ _ hh)),fun oh hoh=>?_⟩
  have ohp:oh≠p:=fun z=>by rw[z,s1 _ _ hp] at hoh;cases hoh
  refine⟨_,rfl,p,a.c_Web,dx,_,rfl,(upd_ne ohp.symm).trans (s1 _ _ hp),T.cl_Web,T.na_Web_own_hands,(by show 0<1000;decide),?_⟩
  have x3:=((Ext.same (l:=p) s1).trans (Ext.new (l:=p) (o:=.lst (hs.map V.int)) hoh)).trans (Ext.at (l:=p) (o:=.ins a.c_Web dx [("own_hands",.ref oh)]))
  refine⟨_,rfl,l,rs,rfl,SqL.of (x3 _ _ hl (np hl)),by rw[hrs.1];exact l66,fun y hy=>(hrs.ext hp x3).mem hy,fun ol zs hol z1 z2=>?_⟩
  have olp:ol≠p:=fun z=>by rw[z,zd] at hol;cases hol
  refine⟨_,rfl,p,a.c_Web,dx,_,rfl,(upd_ne olp.symm).trans zd,T.cl_Web,T.na_Web_own_lines,(by show 1<1000;decide),?_⟩
  have x35:=(Ext.new (l:=p) (o:=.lst zs) hol).trans (Ext.at (l:=p) (o:=.ins a.c_Web dx [("own_hands",.ref oh),("own_lines",.ref ol)]))
  have x5:=x3.trans x35
  refine⟨_,rfl,_,rfl,h,l,rs,hs,ls,rfl,x5 _ _ hh (np hh),x5 _ _ hl (np hl),hrs.ext hp x5,W,L,fun d ad H6 s6 hd had N=>?_⟩
  have hp6:=s6 _ _ (zd (a:=p))
  refine⟨_,rfl,p,a.c_Web,dx,_,rfl,hp6,T.cl_Web,T.na_Web_near,(by show 2<1000;decide),?_⟩
  have nfr:∀ b,(upd (upd (upd (upd H1 oh (.lst (hs.map V.int))) p (.ins a.c_Web dx [("own_hands",.ref oh)])) ol (.lst zs)) p (.ins a.c_Web dx [("own_hands",.ref oh),("own_lines",.ref ol)])) b=none→H b=none:=fun b e=>x5.free (fun z=>by rw[z,zd] at e;cases e) e
  refine k oh ol d ad _ (s1.free hoh) (nfr d hd) (fun x hx=>nfr _ (had x hx)) ((x5.trans (Ext.same s6)).trans Ext.at) ⟨zd,?_,N.ext hp6 Ext.at⟩
  rw[upd_ne ohp]
  exact s6 _ _ (x35 _ _ ((upd_ne ohp).trans zd) ohp)
end
end K04

namespace K04
open PySem L2
theorem YW {x:Int}:∀ {ls:List (Int×Int)},ls.Nodup→(∀ p∈ls,p.1<p.2)→(nbs ls x).Nodup
 |[],_,_=>List.nodup_nil
 |p::ls,nd,ok=>by
  obtain⟨n1,n2⟩:=List.nodup_cons.mp nd
  have ih:=YW (x:=x) n2 fun q hq=>ok q (List.mem_cons_of_mem _ hq)
  have lt:=ok p (List.mem_cons_self ..)
  have e:nbs (p::ls) x=((if p.1=x then[p.2] else[])++if p.2=x then[p.1] else[])++nbs ls x:=by unfold nbs;rw[List.flatMap_cons]
  have no:∀ y,Adj ls x y→y∉((if p.1=x then[p.2] else[])++if p.2=x then[p.1] else[]):=by
   intro y hy hm
   have key:∀ q∈ls,q≠p:=fun q hq z=>n1 (z ▸ hq)
   rcases List.mem_append.mp hm with h | h
   ·by_cases c:p.1=x
    ·rw[if_pos c] at h
     have ey:y=p.2:=List.mem_singleton.mp h
     rcases hy with z | z
     ·exact key _ z (by rw[ey,← c])
     ·have:=ok _ (List.mem_cons_of_mem _ z)
      simp at this
      omega
    ·rw[if_neg c] at h;cases h
   ·by_cases c:p.2=x
    ·rw[if_pos c] at h
     have ey:y=p.1:=List.mem_singleton.mp h
     rcases hy with z | z
     ·have:=ok _ (List.mem_cons_of_mem _ z)
      simp at this
      omega
     ·exact key _ z (by rw[ey,← c])
    ·rw[if_neg c] at h;cases h
  rw[e,List.nodup_append]
  refine⟨?_,ih,fun a ha b hb z=>no b (mem_nbs.mp hb) (z ▸ ha)⟩
  by_cases c1:p.1=x
  ·have c2:¬ p.2=x:=by omega
   rw[if_pos c1,if_neg c2]
   simp
  ·rw[if_neg c1]
   by_cases c2:p.2=x
   ·rw[if_pos c2];simp
   ·rw[if_neg c2];simp
theorem zab {hs:List Int}{ls:List (Int×Int)}{x:Int}(W:Hs hs) (L:Ls hs ls):(nbs ls x).length≤12:=by
 have nd:=YW (x:=x) L.nd fun p hp=>(L.ok p hp).2.2
 have sub:∀ y∈nbs ls x,y∈hs:=fun y hy=>by
  rcases mem_nbs.mp hy with z | z
  ·exact(L.ok _ z).2.1
  ·exact(L.ok _ z).1
 have:=zid nd sub
 have:=W.l12
 omega
theorem WJ:∀ {as bs:List Int},as.Pairwise (· < ·)→bs.Pairwise (· < ·)→(∀ x,x∈as↔x∈bs)→as=bs
 |[],[],_,_,_=>rfl
 |[],b::bs,_,_,h=>by have:=(h b).mpr (List.mem_cons_self ..);cases this
 |a::as,[],_,_,h=>by have:=(h a).mp (List.mem_cons_self ..);cases this
 |a::as,b::bs,ha,hb,h=>by
  obtain⟨a1,a2⟩:=List.pairwise_cons.mp ha
  obtain⟨b1,b2⟩:=List.pairwise_cons.mp hb
  have e:a=b:=by
   rcases List.mem_cons.mp ((h a).mp (List.mem_cons_self ..)) with e | e
   ·exact e
   ·rcases List.mem_cons.mp ((h b).mpr (List.mem_cons_self ..)) with e' | e'
    ·exact e'.symm
    ·have:=b1 a e
     have:=a1 b e'
     omega
  subst e
  rw[WJ a2 b2 fun x=>⟨fun hx=>by
   rcases List.mem_cons.mp ((h x).mp (List.mem_cons_of_mem _ hx)) with e | e
   ·have:=a1 x hx;omega
   ·exact e,fun hx=>by
   rcases List.mem_cons.mp ((h x).mpr (List.mem_cons_of_mem _ hx)) with e | e
   ·have:=b1 x hx;omega
   ·exact e⟩]
noncomputable def adB (ls:List (Int×Int)) (x y:Int):Bool:=decide ((x,y)∈ls)||decide ((y,x)∈ls)
theorem zan {ls:List (Int×Int)}{x y:Int}:decide (y∈nbs ls x)=adB ls x y:=by
 unfold adB
 rw[Bool.eq_iff_iff,Bool.or_eq_true,decide_eq_true_eq,decide_eq_true_eq,decide_eq_true_eq]
 exact mem_nbs
theorem XN {hs:List Int}{ls:List (Int×Int)}{x:Int}{ms:List Int}(W:Hs hs) (L:Ls hs ls) (pm:ms.Perm (nbs ls x)) (sd:ms.Pairwise (· ≤ ·)):ms=hs.filter (adB ls x):=by
 have nd:ms.Nodup:=pm.nodup_iff.mpr (YW L.nd fun p hp=>(L.ok p hp).2.2)
 have up:ms.Pairwise (· < ·):=(sd.and (List.nodup_iff_pairwise_ne.mp nd)).imp fun h=>by
  have h1:=h.1
  have h2:=h.2
  omega
 refine WJ up (W.up.filter _) fun y=>?_
 rw[pm.mem_iff,List.mem_filter,← zan,decide_eq_true_eq]
 refine⟨fun h=>⟨?_,h⟩,fun h=>h.2⟩
 rcases mem_nbs.mp h with z | z
 ·exact(L.ok _ z).2.1
 ·exact(L.ok _ z).1
section
variable {P:Program}{w:World}{K:PySem.W.Frag}{mg:Str→Option Value}{base:Heap}{a:Ad}
def zmh (a:Ad):Sp:=fun vs H Q _=>∃ (p:Addr) (x:Int) (hs:List Int) (ls:List (Int×Int)) (dx oh ol d:Addr) (ad:Int→Addr),vs=[.ref p,.int x]∧WebAt a H p hs ls dx oh ol d ad∧x∈hs∧Q (.bl true) H
theorem zgo (T:Txt w K mg a):FnOk P w K mg base CX0 2 a.f_qa4 a.d_qa4 ["self", "hand"] (zmh a):=by
 have c_qi:Callee P w K mg base "is_whole" a.f_qi a.d_qi ["value"] 1 wz:=⟨wH T,T.g_qi,T.F_qi.kp,T.b_qi⟩
 refine T.F_qa4.ok zfV (fun vs H Q E h=>?_) (fun cdv A outer s H vs Q E hr h=>?_)
 ·obtain⟨p,x,hs,ls,dx,oh,ol,d,ad,rfl,_⟩:=h
  rfl
 ·obtain⟨p,x,hs,ls,dx,oh,ol,d,ad,rfl,W,hx,k⟩:=h
  have hu:=xX hr
  refine zD (zf (zh (yq (zk c_qi (hr.mono (by omega)) (w_pa_N (w_pv 1) w_pa_nil)) (yj (XF (XG hu (w_pv 1) (w_pe_fld (w_pv 0) rfl))))))) ?_
  refine⟨_,rfl,x,rfl,_,rfl,XA ?_⟩
  exact⟨_,rfl,_,rfl,p,_,dx,_,_,rfl,W.p,T.cl_Web,T.na_Web_near,rfl,d,some (V.ref (ad x)),rfl,xm W.nr.d hx,k⟩
def XM (a:Ad):Sp:=fun vs H Q _=>∃ (p:Addr) (hs:List Int) (ls:List (Int×Int)) (dx oh ol d:Addr) (ad:Int→Addr),vs=[.ref p]∧WebAt a H p hs ls dx oh ol d ad∧∀ q,H q=none→Q (.ref q) (upd H q (.lst (hs.map V.int)))
theorem xi (T:Txt w K mg a):FnOk P w K mg base CX0 1 a.f_qa2 a.d_qa2 ["self"] (XM a):=by
 refine T.F_qa2.ok zfW (fun vs H Q E h=>?_) (fun cdv A outer s H vs Q E hr h=>?_)
 ·obtain⟨p,hs,ls,dx,oh,ol,d,ad,rfl,_⟩:=h
  rfl
 ·obtain⟨p,hs,ls,dx,oh,ol,d,ad,rfl,W,k⟩:=h
  refine zD (zf (zh (zW xy (by rfl) T.n_list wV (zg (w_pe_fld (w_pv 0) rfl) w_pa_nil)))) ?_
  exact⟨_,rfl,p,_,dx,_,_,rfl,W.p,T.cl_Web,T.na_Web_own_hands,rfl,oh,_,rfl,.inl (SqL.of W.oh),k⟩
def zw1 (a:Ad):Sp:=fun vs H Q _=>∃ (p:Addr) (x:Int) (hs:List Int) (ls:List (Int×Int)) (dx oh ol d:Addr) (ad:Int→Addr),vs=[.ref p,.int x]∧WebAt a H p hs ls dx oh ol d ad∧Hs hs∧Ls hs ls∧x∈hs ∧
 ∀ (q:Addr),H q=none→Q (.ref q) (upd H q (.lst ((hs.filter (adB ls x)).map V.int)))
theorem VU (T:Txt w K mg a):FnOk P w K mg base CX0 3 a.f_qa5 a.d_qa5 ["self", "hand"] (zw1 a):=by
 refine T.F_qa5.ok zfU (fun vs H Q E h=>?_) (fun cdv A outer s H vs Q E hr h=>?_)
 ·obtain⟨p,x,hs,ls,dx,oh,ol,d,ad,rfl,_⟩:=h
  rfl
 ·obtain⟨p,x,hs,ls,dx,oh,ol,d,ad,rfl,W,wh,wl,hx,k⟩:=h
  have hu:=xX hr
  refine zD (w_pss_cons (w_ps_if (xc (zZ (w_pe_methD (w_pv 0) (w_pa_N (w_pv 1) w_pa_nil))))
    (zf yu)
    zm)
   (zf (zh (w_pe_callB Zc (by rfl) T.n_sorted vG (zg (yw hu (w_pe_fld (w_pv 0) rfl) (w_pv 1) (fun _ _=>rfl)) w_pa_nil))))) ?_
  refine⟨_,rfl,p,_,dx,_,_,_,_,_,_,rfl,W.p,rfl,T.cl_Web,T.mt_qa4,zgo (P:=P) (w:=w) T,hr.mono (by omega),T.b_qa4,_,rfl,p,x,hs,ls,dx,oh,ol,d,ad,rfl,W,hx,_,rfl,yn rfl ?_⟩
  have few:=zab (x:=x) wh wl
  exact⟨_,rfl,p,_,dx,_,_,rfl,W.p,T.cl_Web,T.na_Web_near,rfl,_,rfl,d,V.ref (ad x),rfl,xm W.nr.d hx,ad x,_,rfl,SqL.of (W.nr.nb x hx),by omega,fun q ms hq pm sd=>by rw[XN wh wl pm sd];exact k q hq⟩
end
end K04

namespace K04
open PySem L2
theorem merge_app:∀ {kvs acc:List (Key×V)},((acc++kvs).map (·.1)).Nodup→mergeK acc kvs=acc++kvs
 |[],acc,_=>by simp[mergeK]
 |kv::kvs,acc,h=>by
  have hn:kv.1∉acc.map (·.1):=by
   rw[List.map_append,List.nodup_append] at h
   intro z
   exact h.2.2 _ z _ (by simp) rfl
  show mergeK (putK acc kv.1 kv.2) kvs=_
  rw[putK_new hn,merge_app (by simpa using h)]
  simp
theorem uy {kvs:List (Key×V)}(h:(kvs.map (·.1)).Nodup):mergeK [] kvs=kvs:=by
 have:=merge_app (kvs:=kvs) (acc:=[]) (by simpa using h)
 simpa using this
noncomputable def tabI (f:Int→Int) (us:List Int):List (Key×V):=us.map fun h=>(Sum.inl h,V.int (f h))
theorem w8 {f:Int→Int}{us:List Int}:(tabI f us).map (·.1)=us.map Sum.inl:=by
 unfold tabI
 rw[List.map_map]
 rfl
theorem Vb {us:List Int}(h:us.Nodup):(us.map (Sum.inl:Int→Key)).Nodup:=by
 rw[List.nodup_iff_pairwise_ne,List.pairwise_map]
 exact(List.nodup_iff_pairwise_ne.mp h).imp fun {a b} n z=>n (by injection z)
theorem vP {f:Int→Int}{x:Int}:∀ {us:List Int},x∈us→xE (tabI f us) (Sum.inl x:Key)=some (V.int (f x))
 |u::us,h=>by
  unfold tabI xE
  rw[List.map_cons,List.find?_cons]
  by_cases e:u=x
  ·subst e;simp
  ·have:¬ ((Sum.inl u:Key)=Sum.inl x):=fun z=>e (by injection z)
   simp only[decide_eq_false this]
   have:=vP (f:=f) ((List.mem_cons.mp h).resolve_left fun z=>e z.symm)
   unfold tabI xE at this
   exact this
theorem uj {H:Hp}{d:Addr}{f:Int→Int}{us:List Int}{x:Int}(e:H d=some (.dK (tabI f us))) (h:x∈us):DGet H d (V.int x) (some (V.int (f x))):=by
 have:=DGet.k (k:=.inl x) e
 rw[vP h] at this
 exact this
theorem u0 {hs:List Int}(W:Hs hs):hs.Nodup:=List.nodup_iff_pairwise_ne.mpr (W.up.imp fun {a b} h=>by omega)
theorem ProgAt.same {a:Ad}{H H':Hp}{e1 e2 e3 e4:Ex}{r:V}(s:Same H H') (h:ProgAt a H e1 e2 e3 e4 r):ProgAt a H' e1 e2 e3 e4 r:=by
 obtain⟨p,dx,r1,r2,r3,r4,e,hp,⟨⟨a1,b1⟩,⟨a2,b2⟩,⟨a3,b3⟩,⟨a4,b4⟩,z⟩⟩:=h
 exact⟨p,dx,r1,r2,r3,r4,e,s _ _ hp,⟨⟨a1.same s,b1⟩,⟨a2.same s,b2⟩,⟨a3.same s,b3⟩,⟨a4.same s,b4⟩,z⟩⟩
noncomputable def deg (hs:List Int) (ls:List (Int×Int)) (x:Int):Int:=(((hs.filter (adB ls x)).map V.int).length:Int)
noncomputable def w0 (hs:List Int) (ls:List (Int×Int)) (e1:Ex) (x:Int):Int:=e1.val (rho (kvF x (deg hs ls x)))
section
variable {P:Program}{w:World}{K:PySem.W.Frag}{mg:Str→Option Value}{base:Heap}{a:Ad}
structure WbP (a:Ad) (H:Hp) (p:Addr) (hs:List Int) (ls:List (Int×Int)):Prop where
 wh:Hs hs
 wl:Ls hs ls
 at_:∃ dx oh ol d ad,WebAt a H p hs ls dx oh ol d ad
theorem WbP.same {H H':Hp}{p:Addr}{hs:List Int}{ls:List (Int×Int)}(h:WbP a H p hs ls) (s:Same H H'):WbP a H' p hs ls:=⟨h.wh,h.wl,let ⟨dx,oh,ol,d,ad,W⟩:=h.at_;⟨dx,oh,ol,d,ad,W.same s⟩⟩
def zuX (a:Ad):Sp:=fun vs H Q _=>∃ (p:Addr) (hs:List Int) (ls:List (Int×Int)) (r:V) (e1 e2 e3 e4:Ex),vs=[.ref p,r]∧WbP a H p hs ls∧ProgAt a H e1 e2 e3 e4 r ∧
 ∀ q H',H q=none→Same H H'→H' q=some (.dK (tabI (w0 hs ls e1) hs))→Q (.ref q) H'
theorem zm8 (T:Txt w K mg a):FnOk P w K mg base CX0 11 a.f_qa a.d_qa ["web", "program"] (zuX a):=by
 refine T.F_qa.ok zmu (fun vs H Q E h=>?_) (fun cdv A outer s H vs Q E hr h=>?_)
 ·obtain⟨p,hs,ls,r,e1,e2,e3,e4,rfl,_⟩:=h
  rfl
 ·obtain⟨p,hs,ls,r,e1,e2,e3,e4,rfl,W,hP,k⟩:=h
  have hu:=xX hr
  refine zD (zf (zh (zW (wv rfl) (by rfl) T.n_dict ud (zg (yC rfl (N':=["hand", "program", "web"]) (t:=1) (caps:=[1,0]) ⟨rfl,rfl,rfl⟩ (zL (zE (w_pv 0))) (fun _=>(zq (i:=0) (show(["hand", "program", "web"]:List Str).Nodup by decide +kernel) rfl (Or.inl rfl))) (fun _=>yk) (fun _=>(zA (w_pa_N (w_pv 0) (zy (w_pe_methD (w_pv 1) (w_pa_N (w_pv 0) (zy (w_pe_callB zo (by rfl) T.n_len zY (zy (w_pe_methD (w_pv 2) (w_pa_N (w_pv 0) w_pa_nil)) w_pa_nil)) w_pa_nil))) w_pa_nil))))) w_pa_nil)))) ?_
  obtain⟨dx,oh,ol,d,ad,Wb⟩:=W.at_
  refine⟨_,rfl,p,_,dx,_,_,_,_,_,_,rfl,Wb.p,rfl,T.cl_Web,T.mt_qa2,xi (P:=P) (w:=w) T,hr.mono (by omega),T.b_qa2,p,hs,ls,dx,oh,ol,d,ad,rfl,Wb,fun ph hph=>?_⟩
  have s1:=Same.new (o:=HO.lst (hs.map V.int)) hph
  refine⟨ph,rfl,⟨_,SqL.of zd⟩,fun D hD _=>?_⟩
  generalize hH1:upd H ph (HO.lst (hs.map V.int))=H1 at *
  have hph1:H1 ph=some (.lst (hs.map V.int)):=by rw[← hH1];exact zd
  have l12:=W.wh.l12
  refine yp (K:=K) (a:=ph) (xs:=hs.map V.int) (fun i zs τ H'=>∃ (o:Option V) (qs:List Addr),τ=[o,some r,some (.ref p)]∧zs=qs.map V.ref∧qs.length=i∧(∀ (j:Nat) (q:Addr) (x:Int),qs[j]?=some q→hs[j]?=some x→H' q=some (.tup [.int x,.int (w0 hs ls e1 x)]))∧H' D=some (.lst zs)∧Same H1 H') ?_ ?_ ?_ ?_
  ·exact⟨none,[],rfl,rfl,rfl,fun j q x h=>by simp at h,zd,Same.new hD⟩
  ·rintro i zs τ H' ⟨o,qs,_,_,_,_,_,sm⟩
   exact SqL.of (sm _ _ hph1)
  ·rintro i v zs τ H' hi ⟨o,qs,rfl,rfl,lq,hq,hD',sm⟩
   obtain⟨x,hx,rfl⟩:∃ x,hs[i]?=some x∧v=.int x:=by
    rw[List.getElem?_map] at hi
    obtain⟨x,h1,h2⟩:=Option.map_eq_some_iff.mp hi
    exact⟨x,h1,h2.symm⟩
   have hxm:=List.mem_of_getElem? hx
   have hil:i<hs.length:=(List.getElem?_eq_some_iff.mp hx).1
   have sH:=s1.trans sm
   have Wb':=Wb.same sH
   have hP':=ProgAt.same sH hP
   obtain⟨pp,pdx,r1,r2,r3,r4,hre,hpp,hF⟩:=id hP'
   refine gn_if ?_
   refine⟨_,rfl,_,rfl,pp,_,pdx,_,_,_,_,_,_,hre,hpp,rfl,T.cl_Program,T.mt_qY,X1 (P:=P) (w:=w) T,hr.mono (by omega),T.b_qY,_,rfl,_,rfl,p,_,dx,_,_,_,_,_,_,rfl,Wb'.p,rfl,T.cl_Web,T.mt_qa5,VU (P:=P) (w:=w) T,hr.mono (by omega),T.b_qa5,_,rfl,p,x,hs,ls,dx,oh,ol,d,ad,rfl,Wb',W.wh,W.wl,hxm,fun q1 hq1=>?_⟩
   have n1:=Same.new (o:=HO.lst ((hs.filter (adB ls x)).map V.int)) hq1
   refine⟨q1,_,rfl,.inl (SqL.of zd),r,e1,e2,e3,e4,x,_,rfl,ProgAt.same n1 hP',fun H2 s2=>⟨(by show 2≤sizeLine;decide),fun pt hpt=>?_⟩⟩
   have n2:=n1.trans (s2.trans (Same.new (o:=HO.tup [V.int x,V.int (w0 hs ls e1 x)]) hpt))
   refine⟨n2 _ _ hD',by rw[List.length_map,lq];exact zr (by omega),some (.int x),qs++[pt],rfl,by simp,by simp[lq],fun j q y hj hy=>?_,zd,Same.updF (sm.trans n2) hD⟩
   have old:∀ b o,H' b=some o→b≠D→upd (upd H2 pt (HO.tup [V.int x,V.int (w0 hs ls e1 x)])) D (HO.lst (qs.map V.ref++[V.ref pt])) b=some o:=fun b o e nb=>by
    rw[upd_ne nb]
    exact n2 _ _ e
   by_cases hji:j<i
   ·rw[List.getElem?_append_left (by omega)] at hj
    have h1:=hq j q y hj hy
    exact old q _ h1 (fun z=>by rw[z,hD'] at h1;cases h1)
   ·rw[List.getElem?_append_right (by omega)] at hj
    have:j=i:=by
     have:=(List.getElem?_eq_some_iff.mp hj).1
     simp at this
     omega
    subst this
    rw[lq,Nat.sub_self] at hj
    cases hj
    rw[hx] at hy
    cases hy
    rw[upd_ne (fun z=>by rw[z] at hpt;rw[s2 _ _ (n1 _ _ hD')] at hpt;cases hpt)]
    exact zd
  ·rintro zs τ H2 ⟨o,qs,rfl,rfl,lq,hq,hD2,sm⟩
   rw[List.length_map] at lq
   refine⟨D,qs,tabI (w0 hs ls e1) hs,rfl,hD2,by rw[lq];unfold tabI;rw[List.length_map],by unfold tabI;rw[List.length_map];omega,fun i q kv h1 h2=>?_,fun pd hpd=>?_⟩
   ·unfold tabI at h2
    rw[List.getElem?_map] at h2
    obtain⟨x,h3,h4⟩:=Option.map_eq_some_iff.mp h2
    subst h4
    exact hq i q x h1 h3
   ·rw[uy (by rw[w8];exact Vb (u0 W.wh))]
    have sE:=s1.trans sm
    exact k pd _ (sE.free hpd) (sE.trans (Same.new hpd)) zd
end
end K04

namespace K04
open PySem L2
structure HrAt (H:Hp) (q:Addr) (ad:Int→Addr) (hs:List Int) (g:Int→List (Int×Int)):Prop where
 q:H q=some (.dK (tab ad hs))
 inj:∀ x∈hs,∀ y∈hs,ad x=ad y→x=y
 at_:∀ x∈hs,∃ rs,H (ad x)=some (.lst rs)∧LnAt H rs (g x)∧rs.length≤100
theorem LnAt.mono {H H':Hp}{rs:List V}{ls:List (Int×Int)}(k:∀ b xs,H b=some (.tup xs)→H' b=some (.tup xs)) (h:LnAt H rs ls):LnAt H' rs ls:=⟨h.1,fun i r p h1 h2=>by
 obtain⟨q,e,hq⟩:=h.2 i r p h1 h2
 exact⟨q,e,k _ _ hq⟩⟩
theorem LnAt.snoc {H:Hp}{rs:List V}{ls:List (Int×Int)}{q:Addr}{p:Int×Int}(h:LnAt H rs ls) (hq:H q=some (.tup [.int p.1,.int p.2])):LnAt H (rs++[.ref q]) (ls++[p]):=by
 refine⟨by simp[h.1],fun i r p' h1 h2=>?_⟩
 have l:=h.1
 by_cases hi:i<rs.length
 ·rw[List.getElem?_append_left hi] at h1
  rw[List.getElem?_append_left (by omega)] at h2
  exact h.2 i r p' h1 h2
 ·rw[List.getElem?_append_right (by omega)] at h1
  rw[List.getElem?_append_right (by omega),← l] at h2
  obtain⟨n,hn⟩:∃ n,n=i-rs.length:=⟨_,rfl⟩
  rw[← hn] at h1 h2
  cases n with
  |zero=>cases h1;cases h2;exact⟨q,rfl,hq⟩
  |succ n=>simp at h1
theorem HrAt.same {H H':Hp}{q:Addr}{ad:Int→Addr}{hs:List Int}{g:Int→List (Int×Int)}(h:HrAt H q ad hs g) (s:Same H H'):HrAt H' q ad hs g:=⟨s _ _ h.q,h.inj,fun x hx=>by
 obtain⟨rs,h1,h2,h3⟩:=h.at_ x hx
 exact⟨rs,s _ _ h1,h2.same s,h3⟩⟩
theorem HrAt.app {H:Hp}{q pt:Addr}{ad:Int→Addr}{hs:List Int}{g g':Int→List (Int×Int)}{x:Int}{rs:List V}{p:Int×Int}(h:HrAt H q ad hs g) (hx:x∈hs) (hr:H (ad x)=some (.lst rs)) (hl:LnAt H rs (g x)) (h3:rs.length<100) (hp:H pt=some (.tup [.int p.1,.int p.2]))
  (e1:g' x=g x++[p]) (e2:∀ y∈hs,y≠x→g' y=g y):HrAt (upd H (ad x) (.lst (rs++[.ref pt]))) q ad hs g':=by
 have mt:∀ b xs,H b=some (.tup xs)→upd H (ad x) (.lst (rs++[.ref pt])) b=some (.tup xs):=fun b xs e=>by
  rw[upd_ne (ne_of e hr (by intro z;cases z))]
  exact e
 refine⟨by rw[upd_ne (ne_of h.q hr (by intro z;cases z))];exact h.q,h.inj,fun y hy=>?_⟩
 by_cases e:y=x
 ·subst e
  refine⟨_,zd,?_,by simp;omega⟩
  rw[e1]
  exact(hl.mono mt).snoc (mt _ _ hp)
 ·obtain⟨rs',h1,h2,h4⟩:=h.at_ y hy
  refine⟨rs',?_,?_,h4⟩
  ·rw[upd_ne (fun z=>e (h.inj y hy x hx z))]
   exact h1
  ·rw[e2 y hy e]
   exact h2.mono mt
noncomputable def msg (hs:List Int) (ls:List (Int×Int)) (e2 e3:Ex) (f:Int→Int) (t:Int) (s x:Int):Option (Int×Int) :=
 if e3.val (rho (kvS (f s) s t (deg hs ls s) x))>0 then some (s,e2.val (rho (kvS (f s) s t (deg hs ls s) x))) else none
noncomputable def XB (hs:List Int) (ls:List (Int×Int)) (e2 e3:Ex) (f:Int→Int) (t:Int) (S:List Int) (x:Int):List (Int×Int):=S.filterMap fun s=>if adB ls s x=true then msg hs ls e2 e3 f t s x else none
theorem Wy {hs:List Int}{ls:List (Int×Int)}{e2 e3:Ex}{f:Int→Int}{t:Int}{S:List Int}{x:Int}:(XB hs ls e2 e3 f t S x).length≤S.length:=List.length_filterMap_le _ _
theorem Xb {hs:List Int}{ls:List (Int×Int)}{e2 e3:Ex}{f:Int→Int}{t:Int}{S:List Int}{s x:Int}:XB hs ls e2 e3 f t (S++[s]) x=XB hs ls e2 e3 f t S x++(if adB ls s x=true then(msg hs ls e2 e3 f t s x).toList else[]):=by
 unfold XB
 rw[List.filterMap_append]
 congr 1
 by_cases h:adB ls s x=true
 ·rw[if_pos h]
  simp only[List.filterMap_cons,if_pos h,List.filterMap_nil]
  cases msg hs ls e2 e3 f t s x<;>rfl
 ·rw[if_neg h]
  simp only[List.filterMap_cons,if_neg h,List.filterMap_nil]
theorem HrAt.congr {H:Hp}{q:Addr}{ad:Int→Addr}{hs:List Int}{g g':Int→List (Int×Int)}(h:HrAt H q ad hs g) (e:∀ x∈hs,g' x=g x):HrAt H q ad hs g':=⟨h.q,h.inj,fun x hx=>by rw[e x hx];exact h.at_ x hx⟩
section
variable {P:Program}{w:World}{K:PySem.W.Frag}{mg:Str→Option Value}{base:Heap}{a:Ad}
def zuW (a:Ad):Sp:=fun vs H Q _=>∃ (p:Addr) (hs:List Int) (ls:List (Int×Int)) (r:V) (e1 e2 e3 e4:Ex) (dw:Addr) (us:List Int) (f:Int→Int) (t:Int),vs=[.ref p,r,.ref dw,.int t]∧WbP a H p hs ls∧ProgAt a H e1 e2 e3 e4 r∧H dw=some (.dK (tabI f us))∧(∀ x∈hs,x∈us) ∧
 ∀ q ad H',H q=none→(∀ x∈hs,H (ad x)=none)→Same H H'→HrAt H' q ad hs (XB hs ls e2 e3 f t hs)→Q (.ref q) H'
theorem zm7 (T:Txt w K mg a):FnOk P w K mg base CX0 11 a.f_qb a.d_qb ["web", "program", "worths", "turn"] (zuW a):=by
 refine T.F_qb.ok sc_qb (fun vs H Q E h=>?_) (fun cdv A outer s H vs Q E hr h=>?_)
 ·obtain⟨p,hs,ls,r,e1,e2,e3,e4,dw,us,f,t,rfl,_⟩:=h
  rfl
 ·obtain⟨p,hs,ls,r,e1,e2,e3,e4,dw,us,f,t,rfl,W,hP,hdw,hus,k⟩:=h
  have hu:=xX hr
  refine zD (w_pss_cons (zl (i:=4) sc_qb.nd rfl (Or.inl rfl) (zW (wv rfl) (by rfl) T.n_dict ud (zg (yC rfl (N':=["hand"]) (t:=1) (caps:=[]) ⟨rfl,rfl,rfl⟩ (zL (zE (w_pv 0))) (fun _=>(zq (i:=0) (show(["hand"]:List Str).Nodup by decide +kernel) rfl (Or.inl rfl))) (fun _=>yk) (fun _=>(zA (w_pa_N (w_pv 0) (zg (zu w_pa_nil) w_pa_nil))))) w_pa_nil)))
   (w_pss_cons (ya PassesOwn.never rfl (zL (zE (w_pv 0))) (zq (i:=5) sc_qb.nd rfl (Or.inl rfl))
    (w_pss_cons (zl (i:=6) sc_qb.nd rfl (Or.inl rfl) (w_pe_methD (w_pv 0) (w_pa_N (w_pv 5) w_pa_nil)))
    (zf (ya PassesOwn.never rfl (zL (w_pv 6)) (zq (i:=7) sc_qb.nd rfl (Or.inl rfl))
     (w_pss_cons (zl (i:=8) sc_qb.nd rfl (Or.inl rfl) (w_pe_methD (w_pv 1) (zg (yw hu (w_pv 2) (w_pv 5) (fun _ _=>rfl)) (w_pa_N (w_pv 5) (w_pa_N (w_pv 3) (zy (w_pe_callB zo (by rfl) T.n_len zY (w_pa_N (w_pv 6) w_pa_nil)) (w_pa_N (w_pv 7) w_pa_nil)))))))
     (zf (w_ps_if (w_pt_cmpR VO (w_pv 8) ug (zx _))
      (zf (yb (yx PySem.F.plainAttrs_list PySem.F.slot_list_append PySem.F.type_list_append zS (yw hu (w_pv 4) (w_pv 7) (fun _ _=>rfl)) (yQ (zA (w_pa_N (w_pv 5) (w_pa_N (w_pv 8) w_pa_nil))) w_pa_nil))))
      zm)))))))
   (zf (zh (w_pv 4))))) ?_
  obtain⟨dx,oh,ol,d,ad0,Wb⟩:=W.at_
  have l12:=W.wh.l12
  have nd:=u0 W.wh
  refine⟨_,rfl,p,_,dx,_,_,_,_,_,_,rfl,Wb.p,rfl,T.cl_Web,T.mt_qa2,xi (P:=P) (w:=w) T,hr.mono (by omega),T.b_qa2,p,hs,ls,dx,oh,ol,d,ad0,rfl,Wb,fun ph hph=>?_⟩
  have s1:=Same.new (o:=HO.lst (hs.map V.int)) hph
  refine⟨ph,rfl,⟨_,SqL.of zd⟩,fun D hD _=>?_⟩
  generalize hH1:upd H ph (HO.lst (hs.map V.int))=H1 at *
  have hph1:H1 ph=some (.lst (hs.map V.int)):=by rw[← hH1];exact zd
  refine yp (K:=K) (a:=ph) (xs:=hs.map V.int) (fun i zs τ H'=>∃ (o:Option V) (qs:List Addr) (ad:Int→Addr),τ=[o]∧zs=qs.map V.ref∧qs.length=i∧(∀ (j:Nat) (q:Addr) (x:Int),qs[j]?=some q→hs[j]?=some x→H' q=some (.tup [.int x,.ref (ad x)]))∧(∀ x∈hs.take i,H1 (ad x)=none∧ad x≠D∧H' (ad x)=some (.lst []))∧(∀ x∈hs.take i,∀ y∈hs.take i,ad x=ad y→x=y)∧H' D=some (.lst zs)∧Same H1 H') ?_ ?_ ?_ ?_
  ·exact⟨none,[],fun _=>0,rfl,rfl,rfl,fun j q x h=>by simp at h,fun x hx=>by simp at hx,fun x hx=>by simp at hx,zd,Same.new hD⟩
  ·rintro i zs τ H' ⟨o,qs,ad,_,_,_,_,_,_,_,sm⟩
   exact SqL.of (sm _ _ hph1)
  ·rintro i v zs τ H' hi ⟨o,qs,ad,rfl,rfl,lq,hq,had,hinj,hD',sm⟩
   obtain⟨x,hx,rfl⟩:∃ x,hs[i]?=some x∧v=.int x:=by
    rw[List.getElem?_map] at hi
    obtain⟨x,h1,h2⟩:=Option.map_eq_some_iff.mp hi
    exact⟨x,h1,h2.symm⟩
   have hil:i<hs.length:=(List.getElem?_eq_some_iff.mp hx).1
   have hnx:x∉hs.take i:=xS nd hx
   refine gn_if ?_
   refine⟨_,rfl,(by show 0≤sizeLine;decide),fun pe hpe=>?_⟩
   have n1:=Same.new (o:=HO.lst []) hpe
   refine⟨(by show 2≤sizeLine;decide),fun pt hpt=>?_⟩
   have n2:=Same.new (o:=HO.tup [V.int x,V.ref pe]) hpt
   have n12:=n1.trans n2
   have npe:pe≠D:=fun z=>by rw[z,hD'] at hpe;cases hpe
   have npt:pt≠D:=fun z=>by rw[z,n1 _ _ hD'] at hpt;cases hpt
   have old:∀ b o,H' b=some o→b≠D→upd (upd (upd H' pe (HO.lst [])) pt (HO.tup [V.int x,V.ref pe])) D (HO.lst (qs.map V.ref++[V.ref pt])) b=some o:=fun b o e nb=>by
    rw[upd_ne nb]
    exact n12 _ _ e
   have hpe2:upd (upd (upd H' pe (HO.lst [])) pt (HO.tup [V.int x,V.ref pe])) D (HO.lst (qs.map V.ref++[V.ref pt])) pe=some (.lst []):=by
    rw[upd_ne npe]
    exact n2 _ _ zd
   have tk:hs.take (i+1)=hs.take i++[x]:=by rw[List.take_add_one,hx];rfl
   refine⟨n12 _ _ hD',by rw[List.length_map,lq];exact zr (by omega),some (.int x),qs++[pt],zf6 ad x pe,rfl,by simp,by simp[lq],fun j q y hj hy=>?_,fun y hy=>?_,fun y hy z hz e=>?_,zd,Same.updF (sm.trans n12) hD⟩
   ·by_cases hji:j<i
    ·rw[List.getElem?_append_left (by omega)] at hj
     have h1:=hq j q y hj hy
     have hyx:¬ y=x:=fun e=>hnx (by rw[← e];exact List.mem_of_getElem? (by rw[List.getElem?_take_of_lt hji];exact hy))
     rw[putA_ne hyx]
     exact old q _ h1 (fun z=>by rw[z,hD'] at h1;cases h1)
    ·rw[List.getElem?_append_right (by omega)] at hj
     have:j=i:=by
      have:=(List.getElem?_eq_some_iff.mp hj).1
      simp at this
      omega
     subst this
     rw[lq,Nat.sub_self] at hj
     cases hj
     rw[hx] at hy
     cases hy
     rw[putA_at rfl,upd_ne npt]
     exact zd
   ·rw[tk] at hy
    by_cases e:y=x
    ·rw[putA_at e]
     exact⟨sm.free hpe,npe,hpe2⟩
    ·rw[putA_ne e]
     obtain⟨a1,a2,a3⟩:=had y ((List.mem_append.mp hy).resolve_right fun z=>e (List.mem_singleton.mp z))
     exact⟨a1,a2,old _ _ a3 a2⟩
   ·rw[tk] at hy hz
    have fr:∀ u∈hs.take i,ad u≠pe:=fun u hu z=>by rw[← z,(had u hu).2.2] at hpe;cases hpe
    by_cases ey:y=x
    ·by_cases ez:z=x
     ·rw[ey,ez]
     ·rw[putA_at ey,putA_ne ez] at e
      exact absurd e.symm (fr z ((List.mem_append.mp hz).resolve_right fun w=>ez (List.mem_singleton.mp w)))
    ·have hy':=(List.mem_append.mp hy).resolve_right fun w=>ey (List.mem_singleton.mp w)
     by_cases ez:z=x
     ·rw[putA_ne ey,putA_at ez] at e
      exact absurd e (fr y hy')
     ·rw[putA_ne ey,putA_ne ez] at e
      exact hinj y hy' z ((List.mem_append.mp hz).resolve_right fun w=>ez (List.mem_singleton.mp w)) e
  ·rintro zs τ H2 ⟨o,qs,ad,rfl,rfl,lq,hq,had,hinj,hD2,sm⟩
   rw[List.length_map] at lq
   have had:∀ x∈hs,H1 (ad x)=none∧ad x≠D∧H2 (ad x)=some (.lst []):=fun x hx=>had x (by rw[List.length_map,List.take_length];exact hx)
   have hinj:∀ x∈hs,∀ y∈hs,ad x=ad y→x=y:=fun x hx y hy=>hinj x (by rw[List.length_map,List.take_length];exact hx) y (by rw[List.length_map,List.take_length];exact hy)
   refine⟨D,qs,tab ad hs,rfl,hD2,by rw[lq];unfold tab;rw[List.length_map],by unfold tab;rw[List.length_map];omega,fun i q kv h1 h2=>?_,fun pd hpd=>?_⟩
   ·unfold tab at h2
    rw[List.getElem?_map] at h2
    obtain⟨x,h3,h4⟩:=Option.map_eq_some_iff.mp h2
    subst h4
    exact hq i q x h1 h3
   rw[uy (by rw[ui];exact Vb nd)]
   have sE:=s1.trans sm
   have n3:=Same.new (o:=HO.dK (tab ad hs)) hpd
   have hpd0:H pd=none:=sE.free hpd
   have had0:∀ x∈hs,H (ad x)=none:=fun x hx=>s1.free (had x hx).1
   have h0:HrAt (upd H2 pd (HO.dK (tab ad hs))) pd ad hs (XB hs ls e2 e3 f t []):=⟨zd,hinj,fun x hx=>⟨[],n3 _ _ (had x hx).2.2,⟨rfl,fun i r p h=>by simp at h⟩,by simp⟩⟩
   have s3:=sE.trans n3
   generalize hH3:upd H2 pd (HO.dK (tab ad hs))=H3 at *
   have Wb3:=Wb.same s3
   refine⟨_,rfl,p,_,dx,_,_,_,_,_,_,rfl,Wb3.p,rfl,T.cl_Web,T.mt_qa2,xi (P:=P) (w:=w) T,hr.mono (by omega),T.b_qa2,p,hs,ls,dx,oh,ol,d,ad0,rfl,Wb3,fun ph2 hph2=>?_⟩
   have n4:=Same.new (o:=HO.lst (hs.map V.int)) hph2
   have h04:=h0.same n4
   have s4:=s3.trans n4
   have nph:∀ x∈hs,ph2≠ad x:=fun x hx z=>by
    obtain⟨rs,h1,_⟩:=h0.at_ x hx
    rw[← z,hph2] at h1
    cases h1
   refine⟨ph2,rfl,⟨_,SqL.of zd⟩,?_⟩
   have hph2':(upd H3 ph2 (HO.lst (hs.map V.int))) ph2=some (.lst (hs.map V.int)):=zd
   generalize hH4:upd H3 ph2 (HO.lst (hs.map V.int))=H4 at *
   refine yg (xs:=hs.map V.int) (fun i σ H'=>∃ o5 o6 o7 o8,σ=[some (.ref p),some r,some (.ref dw),some (.int t),some (.ref pd),o5,o6,o7,o8]∧HrAt H' pd ad hs (XB hs ls e2 e3 f t (hs.take i))∧Same H H'∧H' ph2=some (.lst (hs.map V.int))) ?_ ?_ ?_ ?_
   ·exact⟨_,_,_,_,rfl,h04,s4,hph2'⟩
   ·rintro i σ H' hi ⟨o5,o6,o7,o8,_,_,_,hp⟩
    exact SqL.of hp
   ·rintro i v σ H5 hi ⟨o5,o6,o7,o8,rfl,hr5,s5,hp5⟩
    obtain⟨sd,hsd,rfl⟩:∃ x,hs[i]?=some x∧v=.int x:=by
     rw[List.getElem?_map] at hi
     obtain⟨x,h1,h2⟩:=Option.map_eq_some_iff.mp hi
     exact⟨x,h1,h2.symm⟩
    have hsm:=List.mem_of_getElem? hsd
    have hil:i<hs.length:=(List.getElem?_eq_some_iff.mp hsd).1
    have Wb5:=Wb.same s5
    refine⟨_,rfl,p,_,dx,_,_,_,_,_,_,rfl,Wb5.p,rfl,T.cl_Web,T.mt_qa5,VU (P:=P) (w:=w) T,hr.mono (by omega),T.b_qa5,_,rfl,p,sd,hs,ls,dx,oh,ol,d,ad0,rfl,Wb5,W.wh,W.wl,hsm,fun pn hpn=>?_⟩
    have n5:=Same.new (o:=HO.lst ((hs.filter (adB ls sd)).map V.int)) hpn
    have npn:∀ x∈hs,pn≠ad x:=fun x hx z=>by
     obtain⟨rs,h1,_⟩:=hr5.at_ x hx
     rw[← z,hpn] at h1
     cases h1
    have hpn6:(upd H5 pn (HO.lst ((hs.filter (adB ls sd)).map V.int))) pn=some (.lst ((hs.filter (adB ls sd)).map V.int)):=zd
    refine⟨_,rfl,pn,rfl,⟨_,SqL.of zd⟩,?_⟩
    have hr6:=hr5.same n5
    have s6:=s5.trans n5
    have hp6:=n5 _ _ hp5
    generalize hH6:upd H5 pn (HO.lst ((hs.filter (adB ls sd)).map V.int))=H6 at *
    have near_nd:(hs.filter (adB ls sd)).Nodup:=nd.filter _
    refine yg (xs:=(hs.filter (adB ls sd)).map V.int) (fun j σ H'=>∃ o7 o8,σ=[some (.ref p),some r,some (.ref dw),some (.int t),some (.ref pd),some (.int sd),some (.ref pn),o7,o8]∧HrAt H' pd ad hs (fun x=>XB hs ls e2 e3 f t (hs.take i) x++(if x∈(hs.filter (adB ls sd)).take j then(msg hs ls e2 e3 f t sd x).toList else[]))∧Same H H'∧H' ph2=some (.lst (hs.map V.int))∧H' pn=some (.lst ((hs.filter (adB ls sd)).map V.int))) ?_ ?_ ?_ ?_
    ·exact⟨_,_,rfl,hr6.congr fun x _=>by simp,s6,hp6,hpn6⟩
    ·rintro j σ H' hj ⟨o7,o8,_,_,_,_,hp⟩
     exact SqL.of hp
    ·rintro j v σ H7 hj ⟨o7,o8,rfl,hr7,s7,hp7,hpn7⟩
     obtain⟨y,hy,rfl⟩:∃ x,(hs.filter (adB ls sd))[j]?=some x∧v=.int x:=by
      rw[List.getElem?_map] at hj
      obtain⟨x,h1,h2⟩:=Option.map_eq_some_iff.mp hj
      exact⟨x,h1,h2.symm⟩
     have hym:=(List.mem_filter.mp (List.mem_of_getElem? hy)).1
     have hyn:y∉(hs.filter (adB ls sd)).take j:=xS near_nd hy
     have tk:(hs.filter (adB ls sd)).take (j+1)=(hs.filter (adB ls sd)).take j++[y]:=by rw[List.take_add_one,hy];rfl
     have hP7:=ProgAt.same s7 hP
     obtain⟨pp,pdx,r1,r2,r3,r4,hre,hpp,hF⟩:=id hP7
     refine⟨_,rfl,pp,_,pdx,_,_,_,_,_,_,hre,hpp,rfl,T.cl_Program,T.mt_qZ,uV (P:=P) (w:=w) T,hr.mono (by omega),T.b_qZ,_,rfl,_,rfl,dw,_,rfl,uj (s7 _ _ hdw) (hus _ hsm),_,rfl,_,rfl,_,rfl,pn,_,rfl,.inl (SqL.of hpn7),_,rfl,r,e1,e2,e3,e4,f sd,sd,t,_,y,rfl,hP7,fun H8 s8=>?_⟩
     have hr8:=hr7.same s8
     have mdef:msg hs ls e2 e3 f t sd y=if e3.val (rho (kvS (f sd) sd t (deg hs ls sd) y))>0 then some (sd,e2.val (rho (kvS (f sd) sd t (deg hs ls sd) y))) else none:=rfl
     by_cases c:e3.val (rho (kvS (f sd) sd t (deg hs ls sd) y))>0
     ·rw[if_pos c] at mdef
      have cc:e3.val (rho (kvS (f sd) sd t (((hs.filter (adB ls sd)).map V.int).length:Int) y))>0:=c
      rw[if_pos cc]
      refine⟨_,rfl,rfl,_,rfl,iteB rfl ?_⟩
      obtain⟨rs,hrs,hln,hlen⟩:=hr8.at_ y hym
      have lg:=hln.1
      have lh:=Wy (hs:=hs) (ls:=ls) (e2:=e2) (e3:=e3) (f:=f) (t:=t) (S:=hs.take i) (x:=y)
      rw[if_neg hyn,List.append_nil] at lg hln
      rw[List.length_take] at lh
      refine⟨_,rfl,_,rfl,pd,V.ref (ad y),rfl,xm hr8.q hym,.inl ⟨rfl,_,SqL.of hrs⟩,_,rfl,_,rfl,(by show 2≤sizeLine;decide),fun pt hpt=>?_⟩
      have n9:=Same.new (o:=HO.tup [V.int sd,V.int (e2.val (rho (kvS (f sd) sd t (deg hs ls sd) y)))]) hpt
      refine⟨ad y,rs,_,rfl,rfl,n9 _ _ hrs,(by exact zr (by omega)),?_⟩
      refine⟨_,_,rfl,(hr8.same n9).app (p:=(sd,e2.val (rho (kvS (f sd) sd t (deg hs ls sd) y)))) hym (n9 _ _ hrs) (by rw[if_neg hyn,List.append_nil];exact hln.same n9) (by omega) zd ?_ ?_,fun b o e=>?_,?_,?_⟩
      ·rw[if_neg hyn,List.append_nil,tk,if_pos (by simp),mdef]
       rfl
      ·intro x hx hne
       rw[tk]
       have:x∈(hs.filter (adB ls sd)).take j++[y]↔x∈(hs.filter (adB ls sd)).take j:=by simp[hne]
       simp only[this]
      ·rw[upd_ne (ne_of_none e (had0 y hym))]
       exact n9 _ _ (s8 _ _ (s7 _ _ e))
      ·rw[upd_ne (nph y hym)]
       exact n9 _ _ (s8 _ _ hp7)
      ·rw[upd_ne (npn y hym)]
       exact n9 _ _ (s8 _ _ hpn7)
     ·rw[if_neg c] at mdef
      have cc:¬ e3.val (rho (kvS (f sd) sd t (((hs.filter (adB ls sd)).map V.int).length:Int) y))>0:=c
      rw[if_neg cc]
      refine⟨_,rfl,rfl,_,rfl,yn rfl ?_⟩
      refine⟨_,_,rfl,hr8.congr fun x hx=>?_,s7.trans s8,s8 _ _ hp7,s8 _ _ hpn7⟩
      rw[tk]
      by_cases hxy:x=y
      ·subst hxy
       rw[if_pos (by simp),if_neg hyn,mdef]
       rfl
      ·have:x∈(hs.filter (adB ls sd)).take j++[y]↔x∈(hs.filter (adB ls sd)).take j:=by simp[hxy]
       simp only[this]
    ·rintro σ H7 ⟨o7,o8,rfl,hr7,s7,hp7,hpn7⟩
     refine⟨_,_,_,_,rfl,hr7.congr fun x hx=>?_,s7,hp7⟩
     rw[List.length_map,List.take_length,List.take_add_one,hsd]
     show XB hs ls e2 e3 f t (hs.take i++[sd]) x=_
     rw[Xb]
     congr 1
     by_cases h:adB ls sd x=true
     ·rw[if_pos h,if_pos (List.mem_filter.mpr ⟨hx,h⟩)]
     ·rw[if_neg h,if_neg (fun z=>h (List.mem_filter.mp z).2)]
   ·rintro σ H5 ⟨o5,o6,o7,o8,rfl,hr5,s5,hp5⟩
    rw[List.length_map,List.take_length] at hr5
    exact⟨_,rfl,k pd ad H5 hpd0 had0 s5 hr5⟩
end
end K04

namespace K04
open PySem L2
theorem LstN.uniq {ns:List Int}{m m':Int}(h:LstN ns m) (h':LstN ns m'):m=m':=by
 rcases h with⟨e,rfl⟩ | ⟨h1,h2⟩
 ·rcases h' with⟨_,rfl⟩ | ⟨h1,_⟩
  ·rfl
  ·rw[e] at h1;cases h1
 ·rcases h' with⟨e,_⟩ | ⟨h1',h2'⟩
  ·rw[e] at h1;cases h1
  ·have:=h2 _ h1'
   have:=h2' _ h1
   omega
theorem MstN.uniq {ns:List Int}{m m':Int}(h:MstN ns m) (h':MstN ns m'):m=m':=by
 rcases h with⟨e,rfl⟩ | ⟨h1,h2⟩
 ·rcases h' with⟨_,rfl⟩ | ⟨h1,_⟩
  ·rfl
  ·rw[e] at h1;cases h1
 ·rcases h' with⟨e,_⟩ | ⟨h1',h2'⟩
  ·rw[e] at h1;cases h1
  ·have:=h2 _ h1'
   have:=h2' _ h1
   omega
def zn0 (ns:List Int):Int:=(ns.min?).getD 0
def znZ (ns:List Int):Int:=(ns.max?).getD 0
theorem zag {ns:List Int}{m:Int}(h:LstN ns m):m=zn0 ns:=by
 refine LstN.uniq h ?_
 unfold zn0
 cases e:ns.min? with
 |none=>exact .inl ⟨List.min?_eq_none_iff.mp e,rfl⟩
 |some x =>
  obtain⟨h1,h2⟩:=(List.min?_eq_some_iff).mp e
  exact .inr ⟨h1,h2⟩
theorem zac {ns:List Int}{m:Int}(h:MstN ns m):m=znZ ns:=by
 refine MstN.uniq h ?_
 unfold znZ
 cases e:ns.max? with
 |none=>exact .inl ⟨List.max?_eq_none_iff.mp e,rfl⟩
 |some x =>
  obtain⟨h1,h2⟩:=(List.max?_eq_some_iff).mp e
  exact .inr ⟨h1,h2⟩
noncomputable def nxt (hs:List Int) (ls:List (Int×Int)) (e4:Ex) (f:Int→Int) (t:Int) (g:Int→List (Int×Int)) (x:Int):Int :=
 e4.val (rho (kvR (f x) x t (deg hs ls x) ((g x).map (·.2)).sum (zn0 ((g x).map (·.2))) (znZ ((g x).map (·.2))) ((g x).map (·.2)).length))
section
variable {P:Program}{w:World}{K:PySem.W.Frag}{mg:Str→Option Value}{base:Heap}{a:Ad}
def zuK (a:Ad):Sp:=fun vs H Q _=>∃ (p:Addr) (hs:List Int) (ls:List (Int×Int)) (r:V) (e1 e2 e3 e4:Ex) (dw hd:Addr) (us:List Int) (f:Int→Int) (t:Int) (ad:Int→Addr) (g:Int→List (Int×Int)),vs=[.ref p,r,.ref dw,.int t,.ref hd]∧WbP a H p hs ls∧ProgAt a H e1 e2 e3 e4 r∧H dw=some (.dK (tabI f us))∧(∀ x∈hs,x∈us)∧HrAt H hd ad hs g ∧
 ∀ q H',H q=none→Same H H'→H' q=some (.dK (tabI (nxt hs ls e4 f t g) hs))→Q (.ref q) H'
theorem zmY (T:Txt w K mg a):FnOk P w K mg base CX0 11 a.f_qc a.d_qc ["web", "program", "worths", "turn", "heard"] (zuK a):=by
 refine T.F_qc.ok sc_qc (fun vs H Q E h=>?_) (fun cdv A outer s H vs Q E hr h=>?_)
 ·obtain⟨p,hs,ls,r,e1,e2,e3,e4,dw,hd,us,f,t,ad,g,rfl,_⟩:=h
  rfl
 ·obtain⟨p,hs,ls,r,e1,e2,e3,e4,dw,hd,us,f,t,ad,g,rfl,W,hP,hdw,hus,hH,k⟩:=h
  have hu:=xX hr
  refine zD (w_pss_cons (zl (i:=5) sc_qc.nd rfl (Or.inl rfl) uI)
   (w_pss_cons (ya PassesOwn.never rfl (zL (zE (w_pv 0))) (zq (i:=6) sc_qc.nd rfl (Or.inl rfl))
    (w_pss_cons (zl (i:=7) sc_qc.nd rfl (Or.inl rfl) (w_pe_callB zo (by rfl) T.n_len zY (zy (w_pe_methD (w_pv 0) (w_pa_N (w_pv 6) w_pa_nil)) w_pa_nil)))
    (w_pss_cons (yB (i:=8) rfl sc_qc.nd rfl (Or.inl rfl) (N':=["pair"]) (t:=1) (caps:=[]) ⟨rfl,rfl,rfl⟩ (zL (yw hu (w_pv 4) (w_pv 6) (fun _ _=>rfl))) (fun _=>(zq (i:=0) (show(["pair"]:List Str).Nodup by decide +kernel) rfl (Or.inl rfl))) (fun _=>yk) (fun _=>(zw zN (w_pv 0) ze (fun _ _=>rfl))))
    (zf (w_ps_dput hu (w_pv 5) (w_pv 6) (w_pe_methD (w_pv 1) (zg (yw hu (w_pv 2) (w_pv 6) (fun _ _=>rfl)) (w_pa_N (w_pv 6) (w_pa_N (w_pv 3) (w_pa_N (w_pv 7) (w_pa_N (w_pv 8) w_pa_nil)))))) rfl)))))
   (zf (zh (w_pv 5))))) ?_
  obtain⟨dx,oh,ol,d,ad0,Wb⟩:=W.at_
  have l12:=W.wh.l12
  have nd:=u0 W.wh
  refine fun pd hpd=>?_
  have s1:=Same.new (o:=HO.dK []) hpd
  have Wb1:=Wb.same s1
  refine⟨_,rfl,p,_,dx,_,_,_,_,_,_,rfl,Wb1.p,rfl,T.cl_Web,T.mt_qa2,xi (P:=P) (w:=w) T,hr.mono (by omega),T.b_qa2,p,hs,ls,dx,oh,ol,d,ad0,rfl,Wb1,fun ph hph=>?_⟩
  have n2:=Same.new (o:=HO.lst (hs.map V.int)) hph
  have s2:=s1.trans n2
  refine⟨ph,rfl,⟨_,SqL.of zd⟩,?_⟩
  have hph2:(upd (upd H pd (HO.dK [])) ph (HO.lst (hs.map V.int))) ph=some (.lst (hs.map V.int)):=zd
  have hpd2:=n2 _ _ (zd (H:=H) (a:=pd) (o:=HO.dK []))
  have npp:ph≠pd:=fun z=>by rw[z,zd] at hph;cases hph
  generalize hH2:upd (upd H pd (HO.dK [])) ph (HO.lst (hs.map V.int))=H2 at *
  refine yg (xs:=hs.map V.int) (fun i σ H'=>∃ o6 o7 o8,σ=[some (.ref p),some r,some (.ref dw),some (.int t),some (.ref hd),some (.ref pd),o6,o7,o8]∧H' pd=some (.dK (tabI (nxt hs ls e4 f t g) (hs.take i)))∧Same H H'∧H' ph=some (.lst (hs.map V.int))) ?_ ?_ ?_ ?_
  ·exact⟨_,_,_,rfl,hpd2,s2,hph2⟩
  ·rintro i σ H' hi ⟨o6,o7,o8,_,_,_,hp⟩
   exact SqL.of hp
  ·rintro i v σ H3 hi ⟨o6,o7,o8,rfl,hpd3,s3,hp3⟩
   obtain⟨x,hx,rfl⟩:∃ x,hs[i]?=some x∧v=.int x:=by
    rw[List.getElem?_map] at hi
    obtain⟨x,h1,h2⟩:=Option.map_eq_some_iff.mp hi
    exact⟨x,h1,h2.symm⟩
   have hxm:=List.mem_of_getElem? hx
   have hil:i<hs.length:=(List.getElem?_eq_some_iff.mp hx).1
   have Wb3:=Wb.same s3
   refine⟨_,rfl,p,_,dx,_,_,_,_,_,_,rfl,Wb3.p,rfl,T.cl_Web,T.mt_qa5,VU (P:=P) (w:=w) T,hr.mono (by omega),T.b_qa5,_,rfl,p,x,hs,ls,dx,oh,ol,d,ad0,rfl,Wb3,W.wh,W.wl,hxm,fun pn hpn=>?_⟩
   have n4:=Same.new (o:=HO.lst ((hs.filter (adB ls x)).map V.int)) hpn
   refine⟨pn,_,rfl,.inl (SqL.of zd),?_⟩
   have s4:=s3.trans n4
   have hpd4:=n4 _ _ hpd3
   have hp4:=n4 _ _ hp3
   generalize hH4:upd H3 pn (HO.lst ((hs.filter (adB ls x)).map V.int))=H4 at *
   have hH4':=hH.same s4
   obtain⟨rs,hrs,hln,hlen⟩:=hH4'.at_ x hxm
   refine⟨_,rfl,_,rfl,hd,V.ref (ad x),rfl,xm hH4'.q hxm,ad x,rfl,⟨_,SqL.of hrs⟩,fun D hD _=>?_⟩
   refine yp (K:=K) (a:=ad x) (xs:=rs) (fun j zs τ H'=>∃ o,τ=[o]∧zs=(((g x).take j).map (·.2)).map V.int∧H' D=some (.lst zs)∧Same H4 H') ?_ ?_ ?_ ?_
   ·exact⟨none,rfl,by simp,zd,Same.new hD⟩
   ·rintro j zs τ H' ⟨o,_,_,_,sm⟩
    exact SqL.of (sm _ _ hrs)
   ·rintro j v zs τ H' hj ⟨o,rfl,rfl,hD',sm⟩
    obtain⟨pr,q,hpr,rfl,hq⟩:=hln.get hj
    have hjl:j<(g x).length:=(List.getElem?_eq_some_iff.mp hpr).1
    have lg:=hln.1
    refine gn_if ?_
    refine⟨_,rfl,q,_,1,_,rfl,rfl,SqT.of (sm _ _ hq),rfl,hD',by simp;exact zr (by omega),some (.ref q),rfl,?_,zd,Same.updF sm hD⟩
    rw[List.take_add_one,hpr]
    simp
   ·rintro zs τ H5 ⟨o,rfl,rfl,hD5,sm⟩
    rw[hln.1,List.take_length] at hD5
    have s5:=s4.trans sm
    have hpd5:=sm _ _ hpd4
    have hP5:=ProgAt.same s5 hP
    obtain⟨pp,pdx,r1,r2,r3,r4,hre,hpp,hF⟩:=id hP5
    refine⟨_,rfl,pp,_,pdx,_,_,_,_,_,_,hre,hpp,rfl,T.cl_Program,T.mt_qa0,VS (P:=P) (w:=w) T,hr.mono (by omega),T.b_qa0,_,rfl,_,rfl,dw,_,rfl,uj (s5 _ _ hdw) (hus _ hxm),_,rfl,_,rfl,_,rfl,_,rfl,r,e1,e2,e3,e4,f x,x,t,_,D,(g x).map (·.2),rfl,hP5,hD5,fun H6 mn mx s6 hmn hmx=>?_⟩
    rw[zag hmn,zac hmx]
    have hpd6:=s6 _ _ hpd5
    refine⟨_,rfl,_,rfl,pd,_,rfl,DPut.k (k:=.inl x) hpd6 (by unfold tabI;rw[List.length_map,List.length_take];exact zr (by omega)),?_⟩
    have s56:=s5.trans s6
    refine⟨_,_,_,rfl,?_,Same.updF s56 hpd,by rw[upd_ne npp];exact s6 _ _ (sm _ _ hp4)⟩
    rw[zd,putK_new (by rw[w8,Y9];exact xS nd hx),List.take_add_one,hx]
    unfold tabI
    rw[List.map_append]
    rfl
  ·rintro σ H3 ⟨o6,o7,o8,rfl,hpd3,s3,hp3⟩
   rw[List.length_map,List.take_length] at hpd3
   exact⟨_,rfl,k pd H3 hpd s3 hpd3⟩
end
end K04

namespace K04
open PySem L2
theorem at0 {x:V}{xs:List V}:atI (x::xs) 0=some x:=by
 unfold atI ixN
 simp
noncomputable def hide (st:List Addr) (H:Hp):Hp:=fun b=>if b∈st then none else H b
theorem yo {st:List Addr}{b:Addr}{H:Hp}{o:HO}(n:b∉st) (h:H b=some o):hide st H b=some o:=by unfold hide;rw[if_neg n];exact h
theorem wR {st:List Addr}{b:Addr}{H:Hp}{o:HO}(e:hide st H b=some o):b∉st∧H b=some o:=by
 unfold hide at e
 split at e
 ·cases e
 ·exact⟨‹_›,e⟩
theorem hide_sub {st:List Addr}{H:Hp}:Same (hide st H) H:=fun b o e=>(wR e).2
theorem yI {st:List Addr}{H H':Hp}(x:Same H H'):Same (hide st H) (hide st H'):=fun b o e=>by
 obtain⟨n,e'⟩:=wR e
 exact yo n (x b o e')
theorem xk {st:List Addr}{p:Addr}{H:Hp}{o:HO}(m:p∈st):Same (hide st H) (hide st (upd H p o)):=fun b o' e=>by
 obtain⟨n,e'⟩:=wR e
 exact yo n (by rw[upd_ne (fun z=>n (by rw[z];exact m))];exact e')
theorem HrAt.hide {st:List Addr}{H:Hp}{q:Addr}{ad:Int→Addr}{hs:List Int}{g:Int→List (Int×Int)}(h:HrAt H q ad hs g) (nq:q∉st) (na:∀ x∈hs,ad x∉st) (nt:∀ b∈st,∀ xs,H b≠some (.tup xs)):HrAt (hide st H) q ad hs g :=
 ⟨yo nq h.q,h.inj,fun x hx=>by
  obtain⟨rs,h1,h2,h3⟩:=h.at_ x hx
  exact⟨rs,yo (na x hx) h1,h2.mono fun b xs e=>yo (fun z=>nt b z xs e) e,h3⟩⟩
theorem XS {f:Int→Int}{us:List Int}{x v:Int}(hx:x∈us):putK (tabI f us) (.inl x) (.int v)=tabI (fun y=>if y=x then v else f y) us:=by
 unfold putK
 rw[if_pos]
 ·unfold tabI
  rw[List.map_map]
  refine List.map_congr_left fun y _=>?_
  by_cases e:y=x
  ·subst e;simp
  ·have:¬ ((Sum.inl y:Key)=Sum.inl x):=fun z=>e (by injection z)
   simp[e]
 ·rw[List.any_eq_true]
  exact⟨(.inl x,.int (f x)),List.mem_map.mpr ⟨x,hx,rfl⟩,by simp⟩
theorem vy {us:List Int}{f':Int→Int}:∀ {vs:List Int}{f:Int→Int},(∀ x∈vs,x∈us)→vs.Nodup→mergeK (tabI f us) (tabI f' vs)=tabI (fun y=>if y∈vs then f' y else f y) us
 |[],f,_,_=>by
  show tabI f us=_
  congr 1
 |x::vs,f,h,nd=>by
  show mergeK (putK (tabI f us) (.inl x) (.int (f' x))) (tabI f' vs)=_
  obtain⟨n1,n2⟩:=List.nodup_cons.mp nd
  rw[XS (h x (by simp)),vy (fun y hy=>h y (by simp[hy])) n2]
  congr 1
  funext y
  by_cases e:y=x
  ·subst e
   simp[n1]
  ·simp[e]
abbrev Rd:=List Int×List (Int×Int)
section
variable (e2 e3 e4:Ex)
noncomputable def hrd (r:Rd) (f:Int→Int) (t:Nat):Int→List (Int×Int):=XB r.1 r.2 e2 e3 f (t:Int) r.1
noncomputable def wrd (r:Rd) (f:Int→Int) (t:Nat):Int→Int:=nxt r.1 r.2 e4 f (t:Int) (hrd e2 e3 r f t)
noncomputable def stp (r:Rd) (f:Int→Int) (t:Nat):Int→Int:=fun y=>if y∈r.1 then wrd e2 e3 e4 r f t y else f y
noncomputable def La (f0:Int→Int) (rds:List Rd):Nat→Int→Int
 |0=>f0
 |k+1=>match rds[k]? with
  |some r=>stp e2 e3 e4 r (La f0 rds k) (k+1)
  |none=>La f0 rds k
end
theorem WI {e2 e3 e4:Ex}{f0:Int→Int}{rds rds':List Rd}:∀ k,(∀ i,i<k→rds[i]?=rds'[i]?)→La e2 e3 e4 f0 rds k=La e2 e3 e4 f0 rds' k
 |0,_=>rfl
 |k+1,h=>by
  unfold La
  rw[h k (by omega),WI k fun i hi=>h i (by omega)]
theorem zn9 {e2 e3 e4:Ex}{f0:Int→Int}{rds:List Rd}{k:Nat}{r:Rd}(h:rds[k]?=some r):La e2 e3 e4 f0 rds (k+1)=stp e2 e3 e4 r (La e2 e3 e4 f0 rds k) (k+1):=by
 show(match rds[k]? with | some r=>_ | none=>_)=_
 rw[h]
theorem vJ {e2 e3 e4:Ex}{f0:Int→Int}{rds:List Rd}{r:Rd}{k:Nat}(h:k≤rds.length):La e2 e3 e4 f0 (rds++[r]) k=La e2 e3 e4 f0 rds k:=WI k fun i hi=>List.getElem?_append_left (by omega)
structure RnP (H:Hp) (e2 e3 e4:Ex) (f0:Int→Int) (hs0:List Int) (rds:List Rd) (ws gs:List Addr):Prop where
 lw:ws.length=rds.length+1
 lg:gs.length=rds.length
 z:∀ q,ws[0]?=some q→H q=some (.dK (tabI f0 hs0))
 w:∀ (k:Nat) (q:Addr) (r:Rd),ws[k+1]?=some q→rds[k]?=some r→H q=some (.dK (tabI (wrd e2 e3 e4 r (La e2 e3 e4 f0 rds k) (k+1)) r.1))
 g:∀ (k:Nat) (q:Addr) (r:Rd),gs[k]?=some q→rds[k]?=some r→∃ ad,HrAt H q ad r.1 (hrd e2 e3 r (La e2 e3 e4 f0 rds k) (k+1))
theorem RnP.same {H H':Hp}{e2 e3 e4:Ex}{f0:Int→Int}{hs0:List Int}{rds:List Rd}{ws gs:List Addr}(h:RnP H e2 e3 e4 f0 hs0 rds ws gs) (s:Same H H'):RnP H' e2 e3 e4 f0 hs0 rds ws gs :=
 ⟨h.lw,h.lg,fun q e=>s _ _ (h.z q e),fun k q r e e'=>s _ _ (h.w k q r e e'),fun k q r e e'=>by
  obtain⟨ad,x⟩:=h.g k q r e e'
  exact⟨ad,x.same s⟩⟩
theorem RnP.snoc {H:Hp}{e2 e3 e4:Ex}{f0:Int→Int}{hs0:List Int}{rds:List Rd}{ws gs:List Addr}{r:Rd}{q g:Addr}{ad:Int→Addr}(h:RnP H e2 e3 e4 f0 hs0 rds ws gs)
  (hg:HrAt H g ad r.1 (hrd e2 e3 r (La e2 e3 e4 f0 rds rds.length) (rds.length+1))) (hq:H q=some (.dK (tabI (wrd e2 e3 e4 r (La e2 e3 e4 f0 rds rds.length) (rds.length+1)) r.1))):RnP H e2 e3 e4 f0 hs0 (rds++[r]) (ws++[q]) (gs++[g]):=by
 have lw:=h.lw
 have lg:=h.lg
 have one:∀ {k:Nat}{r':Rd},(rds++[r])[k]?=some r'→¬ k<rds.length→k=rds.length∧r'=r:=fun {k r'} e n=>by
  rw[List.getElem?_append_right (by omega)] at e
  have:=(List.getElem?_eq_some_iff.mp e).1
  rw[List.length_singleton] at this
  have e0:k-rds.length=0:=by omega
  rw[e0] at e
  cases e
  exact⟨by omega,rfl⟩
 refine⟨by simp[lw],by simp[lg],fun b hb=>h.z b ?_,fun k b r' hb hr=>?_,fun k b r' hb hr=>?_⟩
 ·rw[List.getElem?_append_left (by omega)] at hb
  exact hb
 ·by_cases c:k<rds.length
  ·rw[List.getElem?_append_left (by omega)] at hb hr
   rw[vJ (by omega)]
   exact h.w k b r' hb hr
  ·obtain⟨rfl,rfl⟩:=one hr c
   rw[List.getElem?_append_right (by omega),lw,Nat.sub_self] at hb
   cases hb
   rw[vJ (Nat.le_refl _)]
   exact hq
 ·by_cases c:k<rds.length
  ·rw[List.getElem?_append_left (by omega)] at hb hr
   rw[vJ (by omega)]
   exact h.g k b r' hb hr
  ·obtain⟨rfl,rfl⟩:=one hr c
   rw[List.getElem?_append_right (by omega),lg,Nat.sub_self] at hb
   cases hb
   rw[vJ (Nat.le_refl _)]
   exact⟨ad,hg⟩
theorem wW {xs:List V}{v:V}:atI (xs++[v]) (-1)=some v:=by
 unfold atI ixN
 rw[if_neg (by decide),if_pos (by simp;omega)]
 simp
 have:((-1:Int)+((xs.length:Int)+1)).toNat=xs.length:=by omega
 rw[this]
 simp
structure RnS (H H':Hp) (e2 e3 e4:Ex) (f0:Int→Int) (hs0:List Int) (dl pw pg:Addr) (rds:List Rd) (ws gs:List Addr):Prop where
 hdl:H' dl=some (.dK (tabI (La e2 e3 e4 f0 rds rds.length) hs0))
 hpw:H' pw=some (.lst (ws.map V.ref))
 hpg:H' pg=some (.lst (gs.map V.ref))
 rn:RnP (hide [dl,pw,pg] H') e2 e3 e4 f0 hs0 rds ws gs
 sm:Same H H'
structure Pc where
 hs:List Int
 ls:List (Int×Int)
 m:Nat
noncomputable def rdsOf (ps:List Pc):List Rd:=ps.flatMap fun pc=>List.replicate pc.m (pc.hs,pc.ls)
def PcAt (a:Ad) (H:Hp) (vs:List V) (ps:List Pc):Prop:=vs.length=ps.length∧∀ (i:Nat) v pc,vs[i]?=some v→ps[i]?=some pc→∃ pt p,v=.ref pt∧H pt=some (.tup [.ref p,.int (pc.m:Int)])∧WbP a H p pc.hs pc.ls
theorem PcAt.same {a:Ad}{H H':Hp}{vs:List V}{ps:List Pc}(h:PcAt a H vs ps) (s:Same H H'):PcAt a H' vs ps:=⟨h.1,fun i v pc e1 e2=>by
 obtain⟨pt,p,e,h1,h2⟩:=h.2 i v pc e1 e2
 exact⟨pt,p,e,s _ _ h1,h2.same s⟩⟩
theorem XQ {ps:List Pc}{i:Nat}{pc:Pc}(h:ps[i]?=some pc):rdsOf (ps.take (i+1))=rdsOf (ps.take i)++List.replicate pc.m (pc.hs,pc.ls):=by
 unfold rdsOf
 rw[List.take_add_one,h,List.flatMap_append]
 simp
theorem zfZ {ps:List Pc}{i:Nat}:(rdsOf (ps.take i)).length≤(rdsOf ps).length:=by
 have:rdsOf ps=rdsOf (ps.take i)++rdsOf (ps.drop i):=by
  unfold rdsOf
  rw[← List.flatMap_append,List.take_append_drop]
 rw[this,List.length_append]
 omega
section
variable {P:Program}{w:World}{K:PySem.W.Frag}{mg:Str→Option Value}{base:Heap}{a:Ad}
def zmg (a:Ad):Sp:=fun vs H Q _=>∃ (lp:Addr) (pvs:List V) (pc:Pc) (ps:List Pc) (r:V) (e1 e2 e3 e4:Ex),vs=[.ref lp,r]∧H lp=some (.lst pvs)∧PcAt a H pvs (pc::ps)∧ProgAt a H e1 e2 e3 e4 r∧(∀ c∈pc::ps,∀ x∈c.hs,x∈pc.hs)∧(rdsOf (pc::ps)).length≤100 ∧
 ∀ q pw pg ws gs H',H q=none→Same H H'→H' q=some (.tup [.ref pw,.ref pg])→H' pw=some (.lst (ws.map V.ref))→H' pg=some (.lst (gs.map V.ref))→RnP H' e2 e3 e4 (w0 pc.hs pc.ls e1) pc.hs (rdsOf (pc::ps)) ws gs→Q (.ref q) H'
theorem zgn (T:Txt w K mg a):FnOk P w K mg base CX0 12 a.f_qd a.d_qd ["pieces", "program"] (zmg a):=by
 have c_qa:Callee P w K mg base "first_worths" a.f_qa a.d_qa ["web", "program"] 11 (zuX a):=⟨zm8 T,T.g_qa,T.F_qa.kp,T.b_qa⟩
 have c_qb:Callee P w K mg base "heard_in" a.f_qb a.d_qb ["web", "program", "worths", "turn"] 11 (zuW a):=⟨zm7 T,T.g_qb,T.F_qb.kp,T.b_qb⟩
 have c_qc:Callee P w K mg base "worths_behind" a.f_qc a.d_qc ["web", "program", "worths", "turn", "heard"] 11 (zuK a):=⟨zmY T,T.g_qc,T.F_qc.kp,T.b_qc⟩
 refine T.F_qd.ok sc_qd (fun vs H Q E h=>?_) (fun cdv A outer s H vs Q E hr h=>?_)
 ·obtain⟨lp,pvs,pc,ps,r,e1,e2,e3,e4,rfl,_⟩:=h
  rfl
 ·obtain⟨lp,pvs,pc,ps,r,e1,e2,e3,e4,rfl,hlp,hPc,hP,hsub,hn,k⟩:=h
  have hu:=xX hr
  refine zD (w_pss_cons (zl (i:=2) sc_qd.nd rfl (Or.inl rfl) (zk c_qa (hr.mono (by omega)) (zg (zw zN (zw zM (w_pv 0) ze (fun _ _=>rfl)) ze (fun _ _=>rfl)) (w_pa_N (w_pv 1) w_pa_nil))))
   (w_pss_cons (zl (i:=3) sc_qd.nd rfl (Or.inl rfl) (zu (zy (zW Zd (by rfl) T.n_dict ud (w_pa_N (w_pv 2) w_pa_nil)) w_pa_nil)))
   (w_pss_cons (zl (i:=4) sc_qd.nd rfl (Or.inl rfl) (zu w_pa_nil))
   (w_pss_cons (ya PassesOwn.never rfl (zL (w_pv 0)) (yL rfl (zH (zq (i:=5) sc_qd.nd rfl (Or.inl rfl)) (zH (zq (i:=6) sc_qd.nd rfl (Or.inl rfl)) yv)))
    (w_pss_cons (zl (i:=7) sc_qd.nd rfl (Or.inl rfl) (w_pe_callB zo (by rfl) T.n_len zY (w_pa_N (w_pv 3) w_pa_nil)))
    (zf (ya PassesOwn.never rfl (vN rfl T.n_range (w_pa_N (w_pv 7) (yc (zj zV (w_pv 7) (w_pv 6)) w_pa_nil))) (zq (i:=8) sc_qd.nd rfl (Or.inl rfl))
     (w_pss_cons (yb (yx PySem.F.plainAttrs_list PySem.F.slot_list_append PySem.F.type_list_append zS (w_pv 4) (zy (zk c_qb (hr.mono (by omega)) (w_pa_N (w_pv 5) (w_pa_N (w_pv 1) (w_pa_N (w_pv 2) (w_pa_N (w_pv 8) w_pa_nil))))) w_pa_nil)))
     (w_pss_cons (yb (yx PySem.F.plainAttrs_list PySem.F.slot_list_append PySem.F.type_list_append zS (w_pv 3) (zy (zk c_qc (hr.mono (by omega)) (w_pa_N (w_pv 5) (w_pa_N (w_pv 1) (w_pa_N (w_pv 2) (w_pa_N (w_pv 8) (zg (zw zM (w_pv 4) (xJ wj ze) (fun _ _=>rfl)) w_pa_nil)))))) w_pa_nil)))
     (zf (yb (Zk (w_pv 2) (zw zM (w_pv 3) (xJ wj ze) (fun _ _=>rfl)) ⟨rfl,rfl,rfl,rfl⟩)))))))))
   (zf (zh (zA (w_pa_N (w_pv 3) (w_pa_N (w_pv 4) w_pa_nil))))))))) ?_
  have lpv:0<pvs.length:=by rw[hPc.1];exact Nat.zero_lt_succ _
  have gp0:=List.getElem?_eq_getElem lpv
  obtain⟨pt,p,ept,hpt,W⟩:=hPc.2 0 _ pc gp0 rfl
  rw[ept] at gp0
  have l12:=W.wh.l12
  have nd:=u0 W.wh
  refine⟨_,rfl,lp,_,0,_,rfl,rfl,SqL.of hlp,xb (j:=0) gp0,pt,_,0,_,rfl,rfl,SqT.of hpt,at0,_,rfl,p,pc.hs,pc.ls,r,e1,e2,e3,e4,rfl,W,hP,fun dl H1 hdl0 s1 hdl1=>?_⟩
  generalize hf0:w0 pc.hs pc.ls e1=f0 at *
  refine⟨_,rfl,dl,_,rfl,hdl1,fun q0 hq0=>⟨(by show 1≤sizeLine;decide),fun pw hpw=>?_⟩⟩
  have n2:=Same.new (o:=HO.dK (tabI f0 pc.hs)) hq0
  have n3:=Same.new (o:=HO.lst [V.ref q0]) hpw
  refine⟨(by show 0≤sizeLine;decide),fun pg hpg=>?_⟩
  have n4:=Same.new (o:=HO.lst []) hpg
  have n34:=n3.trans n4
  have n24:=n2.trans n34
  have hdl2:=n24 _ _ hdl1
  have hq2:=n34 _ _ (zd (H:=H1) (a:=q0) (o:=HO.dK (tabI f0 pc.hs)))
  have hpw2:=n4 _ _ (zd (H:=upd H1 q0 (HO.dK (tabI f0 pc.hs))) (a:=pw) (o:=HO.lst [V.ref q0]))
  have hpg2:(upd (upd (upd H1 q0 (HO.dK (tabI f0 pc.hs))) pw (HO.lst [V.ref q0])) pg (HO.lst [])) pg=some (.lst []):=zd
  have s2:=s1.trans n24
  have ndw:dl≠pw:=fun z=>by rw[← z,n2 _ _ hdl1] at hpw;cases hpw
  have ndg:dl≠pg:=fun z=>by rw[← z,n3 _ _ (n2 _ _ hdl1)] at hpg;cases hpg
  have nwg:pw≠pg:=fun z=>by rw[← z,zd] at hpg;cases hpg
  have fpw:H pw=none:=(s1.trans n2).free hpw
  have fpg:H pg=none:=(s1.trans (n2.trans n3)).free hpg
  have nq0:q0∉[dl,pw,pg]:=fun z=>by
   simp only[List.mem_cons,List.not_mem_nil,or_false] at z
   rcases z with z | z | z
   ·rw[z,hdl1] at hq0;cases hq0
   ·rw[← z,zd] at hpw;cases hpw
   ·rw[← z,n3 _ _ zd] at hpg;cases hpg
  generalize hH2:upd (upd (upd H1 q0 (HO.dK (tabI f0 pc.hs))) pw (HO.lst [V.ref q0])) pg (HO.lst [])=H2 at *
  have R0:RnS H H2 e2 e3 e4 f0 pc.hs dl pw pg [] [q0] []:=⟨hdl2,hpw2,hpg2,⟨rfl,rfl,fun q h=>by cases h;exact yo nq0 hq2,fun k q r h=>by simp at h,fun k q r h=>by simp at h⟩,s2⟩
  refine⟨_,rfl,lp,rfl,⟨_,SqL.of (s2 _ _ hlp)⟩,?_⟩
  refine yg (xs:=pvs) (fun i σ H'=>∃ o5 o6 o7 o8 ws gs,σ=[some (.ref lp),some r,some (.ref dl),some (.ref pw),some (.ref pg),o5,o6,o7,o8]∧RnS H H' e2 e3 e4 f0 pc.hs dl pw pg (rdsOf ((pc::ps).take i)) ws gs) ?_ ?_ ?_ ?_
  ·exact⟨_,_,_,_,[q0],[],rfl,R0⟩
  ·rintro i σ H' hi ⟨o5,o6,o7,o8,ws,gs,_,R⟩
   exact SqL.of (R.sm _ _ hlp)
  ·rintro i v σ H' hi ⟨o5,o6,o7,o8,ws,gs,rfl,R⟩
   have hil:i<(pc::ps).length:=by rw[← hPc.1];exact(List.getElem?_eq_some_iff.mp hi).1
   have gpi:=List.getElem?_eq_getElem hil
   generalize (pc::ps)[i]=ci at gpi
   obtain⟨pt,p,rfl,hpt,W⟩:=hPc.2 i v ci hi gpi
   have hci:=hsub ci (List.mem_of_getElem? gpi)
   have rt:=XQ gpi
   have rle:=zfZ (ps:=pc::ps) (i:=i+1)
   rw[rt,List.length_append,List.length_replicate] at rle
   generalize rdsOf ((pc::ps).take i)=rds at *
   have lw:=R.rn.lw
   refine⟨pt,_,rfl,SqT.of (R.sm _ _ hpt),rfl,_,_,rfl,_,_,rfl,rfl,?_⟩
   refine⟨_,rfl,pw,_,rfl,.inl (SqL.of R.hpw),?_⟩
   rw[List.length_map,lw]
   refine⟨_,rfl,_,rfl,_,rfl,_,_,rfl,rfl,((rds.length+1:Nat):Int),((rds.length+1:Nat):Int)+(ci.m:Int),rfl,⟨by omega,by omega,by omega,by omega⟩,?_⟩
   rw[show(((rds.length+1:Nat):Int)+(ci.m:Int)-((rds.length+1:Nat):Int)).toNat=ci.m by omega]
   refine for_range (lo:=((rds.length+1:Nat):Int)) (fun j σ H'=>∃ o8 ws gs,σ=[some (.ref lp),some r,some (.ref dl),some (.ref pw),some (.ref pg),some (.ref p),some (.int (ci.m:Int)),some (.int ((rds.length+1:Nat):Int)),o8]∧RnS H H' e2 e3 e4 f0 pc.hs dl pw pg (rds++List.replicate j (ci.hs,ci.ls)) ws gs) ?_ ?_ ?_
   ·exact⟨_,ws,gs,rfl,by simpa using R⟩
   ·rintro j σ H3 hj ⟨o8,ws,gs,rfl,R⟩
    have er:rds++List.replicate (j+1) (ci.hs,ci.ls)=(rds++List.replicate j (ci.hs,ci.ls))++[(ci.hs,ci.ls)]:=by rw[List.replicate_succ',List.append_assoc]
    have et:(((rds.length+1:Nat):Int)+(j:Int))=(((rds++List.replicate j (ci.hs,ci.ls)).length+1:Nat):Int):=by simp;omega
    have lj:(rds++List.replicate j (ci.hs,ci.ls)).length≤100:=by simp;omega
    rw[er]
    generalize rds++List.replicate j (ci.hs,ci.ls)=rd at *
    have lw:=R.rn.lw
    have lg:=R.rn.lg
    have Fdef:∀ F:Int→Int,F=La e2 e3 e4 f0 rd rd.length→F=La e2 e3 e4 f0 rd rd.length:=fun _ h=>h
    refine⟨_,rfl,.inl ⟨rfl,_,SqL.of R.hpg⟩,_,rfl,_,rfl,_,rfl,_,rfl,p,ci.hs,ci.ls,r,e1,e2,e3,e4,dl,pc.hs,La e2 e3 e4 f0 rd rd.length,_,rfl,W.same R.sm,ProgAt.same R.sm hP,R.hdl,hci,fun g ad H4 hg0 had0 s4 hHr=>?_⟩
    rw[et] at hHr
    have hHr:HrAt H4 g ad ci.hs (hrd e2 e3 (ci.hs,ci.ls) (La e2 e3 e4 f0 rd rd.length) (rd.length+1)):=hHr
    refine⟨pg,_,_,rfl,rfl,s4 _ _ R.hpg,(by rw[List.length_map];exact zr (by omega)),?_⟩
    have occ:∀ b∈[dl,pw,pg],∃ o,H3 b=some o∧∀ xs,o≠.tup xs:=fun b hb=>by
     simp only[List.mem_cons,List.not_mem_nil,or_false] at hb
     rcases hb with rfl | rfl | rfl
     ·exact⟨_,R.hdl,fun xs z=>by cases z⟩
     ·exact⟨_,R.hpw,fun xs z=>by cases z⟩
     ·exact⟨_,R.hpg,fun xs z=>by cases z⟩
    have out:∀ b,H3 b=none→b∉[dl,pw,pg]:=fun b e hb=>by
     obtain⟨o,h1,_⟩:=occ b hb
     rw[h1] at e
     cases e
    have hHr4:=HrAt.hide (st:=[dl,pw,pg]) hHr (out g hg0) (fun x hx=>out _ (had0 x hx)) fun b hb xs e=>by
     obtain⟨o,h1,h2⟩:=occ b hb
     rw[s4 _ _ h1] at e
     exact h2 xs (by injection e)
    have rn4:=R.rn.same (yI (st:=[dl,pw,pg]) s4)
    have u5:Same (hide [dl,pw,pg] H4) (hide [dl,pw,pg] (upd H4 pg (HO.lst (gs.map V.ref++[V.ref g])))):=xk (by simp)
    have s5:Same H (upd H4 pg (HO.lst (gs.map V.ref++[V.ref g]))):=Same.updF (R.sm.trans s4) fpg
    have hdl5:(upd H4 pg (HO.lst (gs.map V.ref++[V.ref g]))) dl=_:=(upd_ne ndg).trans (s4 _ _ R.hdl)
    have hpw5:(upd H4 pg (HO.lst (gs.map V.ref++[V.ref g]))) pw=_:=(upd_ne nwg).trans (s4 _ _ R.hpw)
    have hpg5:(upd H4 pg (HO.lst (gs.map V.ref++[V.ref g]))) pg=some (.lst (gs.map V.ref++[V.ref g])):=zd
    have hHr5:=hHr4.same u5
    have rn5:=rn4.same u5
    generalize hH5:upd H4 pg (HO.lst (gs.map V.ref++[V.ref g]))=H5 at *
    refine⟨_,rfl,.inl ⟨rfl,_,SqL.of hpw5⟩,_,rfl,_,rfl,_,rfl,_,rfl,_,rfl,_,rfl,pg,_,_,_,rfl,rfl,SqL.of hpg5,wW,p,ci.hs,ci.ls,r,e1,e2,e3,e4,dl,g,pc.hs,La e2 e3 e4 f0 rd rd.length,_,ad,hrd e2 e3 (ci.hs,ci.ls) (La e2 e3 e4 f0 rd rd.length) (rd.length+1),rfl,W.same s5,ProgAt.same s5 hP,hdl5,hci,hHr5.same hide_sub,fun q H6 hq0 s6 hq=>?_⟩
    rw[et] at hq
    have hq:H6 q=some (.dK (tabI (wrd e2 e3 e4 (ci.hs,ci.ls) (La e2 e3 e4 f0 rd rd.length) (rd.length+1)) ci.hs)):=hq
    refine⟨pw,_,_,rfl,rfl,s6 _ _ hpw5,(by rw[List.length_map];exact zr (by omega)),?_⟩
    have nq:q∉[dl,pw,pg]:=fun hb=>by
     simp only[List.mem_cons,List.not_mem_nil,or_false] at hb
     rcases hb with z | z | z
     ·rw[z,hdl5] at hq0;cases hq0
     ·rw[z,hpw5] at hq0;cases hq0
     ·rw[z,hpg5] at hq0;cases hq0
    have nqd:q≠dl:=fun z=>nq (by simp[z])
    have nqw:q≠pw:=fun z=>nq (by simp[z])
    have u6:=yI (st:=[dl,pw,pg]) s6
    have u7:Same (hide [dl,pw,pg] H6) (hide [dl,pw,pg] (upd H6 pw (HO.lst (ws.map V.ref++[V.ref q])))):=xk (by simp)
    have s7:Same H (upd H6 pw (HO.lst (ws.map V.ref++[V.ref q]))):=Same.updF (s5.trans s6) fpw
    have hdl7:(upd H6 pw (HO.lst (ws.map V.ref++[V.ref q]))) dl=_:=(upd_ne ndw).trans (s6 _ _ hdl5)
    have hpg7:(upd H6 pw (HO.lst (ws.map V.ref++[V.ref q]))) pg=_:=(upd_ne nwg.symm).trans (s6 _ _ hpg5)
    have hpw7:(upd H6 pw (HO.lst (ws.map V.ref++[V.ref q]))) pw=some (.lst (ws.map V.ref++[V.ref q])):=zd
    have hq7:(upd H6 pw (HO.lst (ws.map V.ref++[V.ref q]))) q=_:=(upd_ne nqw).trans hq
    have hHr7:=hHr5.same (u6.trans u7)
    have rn7:=rn5.same (u6.trans u7)
    generalize hH7:upd H6 pw (HO.lst (ws.map V.ref++[V.ref q]))=H7 at *
    have lci:=W.wh.l12
    refine⟨_,rfl,dl,rfl,.inl ⟨_,.inl hdl7⟩,_,rfl,_,rfl,pw,_,_,_,rfl,rfl,SqL.of hpw7,wW,q,_,_,rfl,nqd.symm,hdl7,hq7,(by unfold tabI;rw[List.length_map,List.length_map];omega),?_⟩
    rw[vy hci (u0 W.wh)]
    have u8:Same (hide [dl,pw,pg] H7) (hide [dl,pw,pg] (upd H7 dl (HO.dK (tabI (fun y=>if y∈ci.hs then wrd e2 e3 e4 (ci.hs,ci.ls) (La e2 e3 e4 f0 rd rd.length) (rd.length+1) y else La e2 e3 e4 f0 rd rd.length y) pc.hs)))):=xk (by simp)
    refine⟨_,ws++[q],gs++[g],rfl,?_,?_,?_,(rn7.same u8).snoc (r:=(ci.hs,ci.ls)) (hHr7.same u8) (u8 _ _ (yo nq hq7)),Same.updF s7 hdl0⟩
    ·rw[zd,List.length_append,List.length_singleton,zn9 (r:=(ci.hs,ci.ls)) (by simp),vJ (Nat.le_refl _)]
     rfl
    ·rw[upd_ne ndw.symm,hpw7,List.map_append]
     rfl
    ·rw[upd_ne ndg.symm,hpg7,List.map_append]
     rfl
   ·rintro σ H3 ⟨o8,ws,gs,rfl,R⟩
    rw[← rt] at R
    exact⟨_,_,_,_,ws,gs,rfl,R⟩
  ·rintro σ H3 ⟨o5,o6,o7,o8,ws,gs,rfl,R⟩
   rw[hPc.1,List.take_length] at R
   refine⟨_,rfl,_,rfl,(by show 2≤sizeLine;decide),fun q hq=>?_⟩
   have n9:=Same.new (o:=HO.tup [V.ref pw,V.ref pg]) hq
   exact k q pw pg ws gs _ (R.sm.free hq) (R.sm.trans n9) zd (n9 _ _ R.hpw) (n9 _ _ R.hpg) ((R.rn.same hide_sub).same n9)
end
end K04

namespace K04
open PySem L2
def XsAt (H:Hp) (l:Addr):Prop:=∃ ns:List Int,H l=some (.lst (ns.map V.int))∧(∀ n∈ns,0≤n)∧ns.length≤150
theorem XsAt.ne {H:Hp}{l p:Addr}(s:XsAt H l) (h:H p=none):p≠l:=fun z=>by
 obtain⟨ns,e,_⟩:=s
 rw[← z,h] at e
 cases e
theorem XsAt.same {H H':Hp}{l:Addr}(s:XsAt H l) (k:Same H H'):XsAt H' l:=by
 obtain⟨ns,e,h⟩:=s
 exact⟨ns,k _ _ e,h⟩
theorem XsAt.new {H:Hp}{l p:Addr}{o:HO}(s:XsAt H l) (h:H p=none):XsAt (upd H p o) l:=s.same (Same.new h)
theorem XsAt.upd {H:Hp}{l p:Addr}{o:HO}(s:XsAt H l) (h:p≠l):XsAt (upd H p o) l:=by
 obtain⟨ns,e,h'⟩:=s
 exact⟨ns,by rw[upd_ne h.symm];exact e,h'⟩
theorem Told.extX {l:Addr}{H H':Hp}(s:XsAt H l) (k:Ext l H H'){e:Ex}{v:V}(t:Told H e v):Told H' e v:=t.mono fun b xs h=>k b _ h fun z=>by
 obtain⟨ns,e,_⟩:=s
 rw[z,e] at h
 cases h
section
variable {P:Program}{w:World}{K:PySem.W.Frag}{mg:Str→Option Value}{base:Heap}{a:Ad}
def Yn (K:PySem.W.Frag):Sp:=fun vs H Q _=>∃ (l:Addr) (ns:List Int) (k:Int),vs=[.ref l,.int k]∧SqL K H l (ns.map V.int)∧0≤k∧∀ i:Int,Q (.int i) H
theorem YD (T:Txt w K mg a):FnOk P w K mg base CX0 1 a.f_qt a.d_qt ["_law_script", "_law_k"] (Yn K):=by
 refine T.F_qt.ok zmj (fun vs H Q E h=>?_) (fun cdv A outer s H vs Q E hr h=>?_)
 ·obtain⟨l,ns,k,rfl,_⟩:=h
  rfl
 ·obtain⟨l,ns,k,rfl,hl,k0,q⟩:=h
  refine zD (w_pss_cons (w_ps_if (w_pt_cmpR xO (w_pv 1) (w_pe_callB zo (by rfl) T.n_len zY (w_pa_N (w_pv 0) w_pa_nil)) (zx _))
    (zf (zh (zw zM (w_pv 0) (w_pv 1) (fun _ _=>rfl))))
    zm)
   (zf (zh ze))) ?_
  refine⟨_,rfl,_,rfl,l,_,rfl,.inl hl,_,_,rfl,rfl,_,rfl,?_⟩
  rw[List.length_map]
  refine ite2 (fun z=>?_) (fun z=>?_)
  ·have z:k<ns.length:=of_decide_eq_true z
   obtain⟨n,rfl⟩:∃ n:Nat,k=n:=⟨k.toNat,by omega⟩
   have hn:n<ns.length:=by omega
   refine⟨_,rfl,_,rfl,l,_,_,V.int ns[n],rfl,rfl,hl,xb (by simp[hn]),?_⟩
   exact q _
  ·exact q 0
def xv:Sp:=fun vs H Q _=>∃ (l:Addr) (n:Int),vs=[.ref l,.int n]∧XsAt H l∧0<n∧∀ (d:Int) (H':Hp),0≤d→d<n→XsAt H' l→Ext l H H'→Q (.int d) H'
theorem yX (T:Txt w K mg a):FnOk P w K mg base CX0 1 a.f_qv a.d_qv ["_law_xs", "_law_size"] xv:=by
 refine T.F_qv.ok zmi (fun vs H Q E h=>?_) (fun cdv A outer s H vs Q E hr h=>?_)
 ·obtain⟨l,n,rfl,_⟩:=h
  rfl
 ·obtain⟨l,n,rfl,⟨ns,hl,h0,hlen⟩,hn,k⟩:=h
  have un:∀ n:Nat,n≤3→(A.deeper (PyProof.Rows.envOfC "_law_take" (defScope uL) s.heap.objs.size a.f_qv cdv)).units+n+2<cLine:=fun n hn=>by
   have:=hr.units
   omega
  refine zD (w_pss_cons (w_ps_if (w_pt_cmpR (W3 W1 W2) (w_pv 0) (zu w_pa_nil) (zx _))
    (zf (zh ze))
    zm)
   (zf (zh (zj yV (yx PySem.F.plainAttrs_list PySem.F.slot_list_pop PySem.F.type_list_pop Wi (w_pv 0) (zn ze w_pa_nil)) (w_pv 1))))) ?_
  refine⟨_,rfl,(by show 0≤sizeLine;decide),fun q hq=>?_⟩
  have hql:q≠l:=fun z=>by rw[z,hl] at hq;cases hq
  have hl1:(L2.upd H q (.lst [])) l=_:=(upd_ne hql.symm).trans hl
  cases ns with
  |nil =>
   refine .inl ⟨l,q,_,_,fun _=>true,0,rfl,rfl,.inl ⟨SqL.of hl1,SqL.of zd⟩,rfl,?_,?_,?_⟩
   ·exact un 0 (by decide)
   ·intro j x y hx
    cases hx
   ·refine⟨_,rfl,iteB rfl ?_⟩
    exact k 0 _ (Int.le_refl _) hn ⟨[],hl1,h0,hlen⟩ (Ext.new hq)
  |cons n0 ns =>
   refine .inr ⟨l,q,_,_,rfl,rfl,SqL.of hl1,SqL.of zd,(by simp),?_,?_⟩
   ·exact Nat.lt_of_le_of_lt (Nat.le_add_right _ 2) (un 0 (by decide))
   ·refine⟨_,rfl,yn rfl ?_⟩
    refine⟨_,rfl,.inl ⟨rfl,_,SqL.of hl1⟩,l,_,0,0,_,rfl,rfl,hl1,by decide,by decide,(by simp[seqIndex?]),rfl,?_⟩
    refine⟨_,rfl,_,_,rfl,rfl,hn,?_⟩
    refine k _ _ (Int.emod_nonneg _ (Int.ne_of_gt hn)) (Int.emod_lt_of_pos _ hn) ⟨ns,zd,fun x hx=>h0 x (List.mem_cons_of_mem _ hx),?_⟩ ((Ext.new hq).trans Ext.at)
    have:ns.length+1≤150:=hlen
    omega
def wA:Sp:=fun vs H Q _=>∃ (c:Int) (m:Nat),vs=[.int c,.int (m:Int)]∧m≤150∧∀ (q:Addr) (H':Hp),H q=none→XsAt H' q→Same H H'→Q (.ref q) H'
theorem wJ (T:Txt w K mg a):FnOk P w K mg base CX0 1 a.f_qu a.d_qu ["_law_cell", "_law_many"] wA:=by
 refine T.F_qu.ok sc_qu (fun vs H Q E h=>?_) (fun cdv A outer s H vs Q E hr h=>?_)
 ·obtain⟨c,m,rfl,_⟩:=h
  rfl
 ·obtain⟨c,m,rfl,hm,k⟩:=h
  refine zD (w_pss_cons (zl (i:=2) sc_qu.nd rfl (Or.inl rfl) (zu w_pa_nil))
   (w_pss_cons (zl (i:=3) sc_qu.nd rfl (Or.inl rfl) ze)
   (yh (w_ps_if (w_pt_cmpR zgk (w_pv 0) (zj xh ze ze) (zx _))
    (zf (zl (i:=3) sc_qu.nd rfl (Or.inl rfl) (zj ye (w_pv 0) (zj xh ze ze))))
    zm)
   (w_pss_cons (uH PassesOwn.never (ziA (XD (w_pt_cmpR op_gt (w_pv 3) ze (zx _)) (Zf (w_pt_cmpR xO (w_pe_callB zo (by rfl) T.n_len zY (w_pa_N (w_pv 2) w_pa_nil)) (w_pv 1) (zx _)))))
    (w_pss_cons (yb (yx PySem.F.plainAttrs_list PySem.F.slot_list_append PySem.F.type_list_append zS (w_pv 2) (yc (zj yV (w_pv 3) (zj xh ze ze)) w_pa_nil)))
    (zf (zl (i:=3) sc_qu.nd rfl (Or.inl rfl) (zj xF (w_pv 3) (zj xh ze ze))))))
   (w_pss_cons (zl (i:=4) sc_qu.nd rfl (Or.inl rfl) (zj yV (zj wp (zj zV (zj yV (w_pv 0) ze) ze) ze) ze))
   (w_pss_cons (ya PassesOwn.never rfl (yl rfl T.n_range (yc (zj ye (w_pv 1) (w_pe_callB zo (by rfl) T.n_len zY (w_pa_N (w_pv 2) w_pa_nil))) w_pa_nil)) (zq (i:=5) sc_qu.nd rfl (Or.inl rfl))
    (w_pss_cons (zl (i:=4) sc_qu.nd rfl (Or.inl rfl) (zj yV (zj wp (zj zV (zj zV (w_pv 4) (zj wp ze (w_pv 5))) ze) ze) ze))
    (w_pss_cons (zl (i:=6) sc_qu.nd rfl (Or.inl rfl) (zj yV (zj wp (w_pv 4) (zj zV (zj xF (w_pv 4) ze) ze)) ze))
    (zf (yb (yx PySem.F.plainAttrs_list PySem.F.slot_list_append PySem.F.type_list_append zS (w_pv 2) (yc (zj yV (zj wp (w_pv 6) (zj zV (zj xF (w_pv 6) ze) ze)) ze) w_pa_nil)))))))
   (zf (zh (w_pv 2))))))))) ?_
  refine⟨(by show 0≤sizeLine;decide),fun p hp=>?_⟩
  refine⟨fun σ' H'=>∃ rest:Int,σ'=[some (.int c),some (.int m),some (.ref p),some (.int rest),none,none,none]∧H'=L2.upd H p (.lst []),?_,?_⟩
  ·refine⟨_,rfl,_,_,rfl,rfl,⟨by decide,by decide,by decide⟩,_,_,rfl,rfl,_,rfl,?_⟩
   refine ite2 (fun _=>?_) (fun _=>?_)
   ·exact⟨_,rfl,_,_,rfl,rfl,⟨by decide,by decide,by decide⟩,_,_,rfl,rfl,_,rfl,rfl⟩
   ·exact⟨_,rfl,rfl⟩
  ·rintro σ' H' ⟨rest,rfl,rfl⟩
   refine⟨fun μ σ H'=>∃ (ns:List Int) (rest:Int),μ=m-ns.length∧σ=[some (.int c),some (.int m),some (.ref p),some (.int rest),none,none,none]∧H' p=some (.lst (ns.map V.int))∧Same H H'∧(∀ n∈ns,0≤n)∧ns.length≤m,⟨_,[],rest,rfl,rfl,zd,Same.new hp,(fun n hn=>nomatch hn),Nat.zero_le _⟩,?_⟩
   rintro μ σ H1 ⟨ns,rest,rfl,rfl,hp1,s1,h0,hlen⟩
   refine⟨_,rfl,_,_,rfl,rfl,_,rfl,?_⟩
   refine ite2 (fun _=>⟨_,rfl,p,_,rfl,.inl (SqL.of hp1),_,rfl,_,_,rfl,rfl,_,rfl,?gA⟩) (fun _=>?gB)
   case' gA =>
    rw[List.length_map]
    refine ite2 (fun z=>?gC) (fun z=>?gD)
   case gC =>
    have z:(ns.length:Int)<m:=of_decide_eq_true z
    refine⟨_,fun σ' H' h=>h,?_⟩
    refine⟨_,rfl,.inl ⟨rfl,_,SqL.of hp1⟩,_,rfl,_,_,rfl,rfl,⟨by decide,by decide,by decide⟩,_,_,rfl,rfl,(by show(0:Int)<10 ^ Int.toNat 6;decide),p,_,_,rfl,rfl,hp1,(by rw[List.length_map];exact zr (by omega)),?_⟩
    refine⟨_,rfl,_,_,rfl,rfl,⟨by decide,by decide,by decide⟩,_,_,rfl,rfl,⟨(by show(0:Int)<10 ^ Int.toNat 6;decide),(by show(10 ^ Int.toNat 6:Int).natAbs.log2<9000;decide)⟩,?_⟩
    refine⟨m-(ns.length+1),by omega,ns++[rest%10 ^ Int.toNat 6],_,by simp,rfl,?_,Same.updF s1 hp,?_,by simp;omega⟩
    ·rw[zd,List.map_append]
     rfl
    ·intro n hn
     rcases List.mem_append.mp hn with h | h
     ·exact h0 n h
     ·rw[List.mem_singleton.mp h]
      exact Int.emod_nonneg _ (by decide)
   all_goals
    refine⟨_,rfl,_,_,rfl,rfl,(by show(0:Int)<2147483647;decide),_,_,rfl,rfl,_,_,rfl,rfl,.inr ⟨by decide,by decide⟩,_,_,rfl,rfl,(by show(0:Int)<2147483647;decide),?_⟩
    refine⟨_,rfl,_,rfl,p,_,rfl,.inl (SqL.of hp1),_,_,rfl,rfl,?_⟩
    rw[List.length_map]
    refine⟨(m:Int)-ns.length,rfl,by omega,by omega,?_⟩
    generalize ((c%2147483647+1)*48271%2147483647)=x0
    refine for_range (lo:=0) (fun i σ H'=>∃ (ns':List Int) (x:Int) (o5 o6:Option V),σ=[some (.int c),some (.int m),some (.ref p),some (.int rest),some (.int x),o5,o6]∧H' p=some (.lst (ns'.map V.int))∧Same H H'∧(∀ n∈ns',0≤n)∧ns'.length=ns.length+i) ?_ ?_ ?_
    ·exact⟨ns,_,none,none,rfl,hp1,s1,h0,rfl⟩
    ·rintro i σ H2 hi ⟨ns',x,o5,o6,rfl,hp2,s2,h2,hl2⟩
     refine⟨_,rfl,_,rfl,_,_,rfl,rfl,.inl ⟨by decide,by decide⟩,_,_,rfl,rfl,_,_,rfl,rfl,_,_,rfl,rfl,.inr ⟨by decide,by decide⟩,_,_,rfl,rfl,(by show(0:Int)<2147483647;decide),?_⟩
     generalize hv:(x+7919*(0+(i:Int))+1)*48271%2147483647=v
     have v1:0≤v:=by rw[← hv];exact Int.emod_nonneg _ (by decide)
     have v2:v<2147483647:=by rw[← hv];exact Int.emod_lt_of_pos _ (by decide)
     refine⟨_,rfl,_,rfl,_,_,rfl,rfl,⟨by show(0:Int)<1009;decide,log_1009⟩,_,_,rfl,rfl,_,_,rfl,rfl,.inl ⟨by omega,by omega⟩,_,_,rfl,rfl,(by show(0:Int)<2147483647;decide),?_⟩
     generalize hu:v*(v/1009+65537)%2147483647=u
     have u1:0≤u:=by rw[← hu];exact Int.emod_nonneg _ (by decide)
     have u2:u<2147483647:=by rw[← hu];exact Int.emod_lt_of_pos _ (by decide)
     refine⟨_,rfl,.inl ⟨rfl,_,SqL.of hp2⟩,_,rfl,_,rfl,_,_,rfl,rfl,⟨by show(0:Int)<2003;decide,Wp⟩,_,_,rfl,rfl,_,_,rfl,rfl,.inl ⟨by omega,by omega⟩,_,_,rfl,rfl,(by show(0:Int)<2147483399;decide),p,_,_,rfl,rfl,hp2,(by rw[List.length_map];exact zr (by omega)),?_⟩
     refine⟨ns'++[u*(u/2003+40697)%2147483399],v,some (.int (0+(i:Int))),some (.int u),(by rw[← hu,← hv];rfl),?_,Same.updF s2 hp,?_,by simp;omega⟩
     ·rw[zd,List.map_append,← hu,← hv]
      rfl
     ·intro n hn
      rcases List.mem_append.mp hn with h | h
      ·exact h2 n h
      ·rw[List.mem_singleton.mp h]
       exact Int.emod_nonneg _ (by decide)
    ·rintro σ H2 ⟨ns',x,o5,o6,rfl,hp2,s2,h2,hl2⟩
     exact⟨_,rfl,k p H2 hp ⟨ns',hp2,h2,by omega⟩ s2⟩
def Vk (a:Ad):Sp:=fun vs H Q _=>∃ (lp:Addr) (pvs:List V) (pc:Pc) (ps:List Pc) (r:V) (e1 e2 e3 e4:Ex),vs=[.ref lp,r]∧H lp=some (.lst pvs)∧PcAt a H pvs (pc::ps)∧ProgAt a H e1 e2 e3 e4 r∧(∀ c∈pc::ps,∀ x∈c.hs,x∈pc.hs)∧(rdsOf (pc::ps)).length≤100 ∧
 ∀ pw ws gs H',Same H H'→H' pw=some (.lst (ws.map V.ref))→RnP H' e2 e3 e4 (w0 pc.hs pc.ls e1) pc.hs (rdsOf (pc::ps)) ws gs→Q (.ref pw) H'
def Vm (a:Ad):Sp:=fun vs H Q _=>∃ (lp:Addr) (pvs:List V) (pc:Pc) (ps:List Pc) (r:V) (e1 e2 e3 e4:Ex),vs=[.ref lp,r]∧H lp=some (.lst pvs)∧PcAt a H pvs (pc::ps)∧ProgAt a H e1 e2 e3 e4 r∧(∀ c∈pc::ps,∀ x∈c.hs,x∈pc.hs)∧(rdsOf (pc::ps)).length≤100 ∧
 ∀ pg ws gs H',Same H H'→H' pg=some (.lst (gs.map V.ref))→RnP H' e2 e3 e4 (w0 pc.hs pc.ls e1) pc.hs (rdsOf (pc::ps)) ws gs→Q (.ref pg) H'
theorem W4 (T:Txt w K mg a):FnOk P w K mg base CX0 13 a.f_qe a.d_qe ["pieces", "program"] (Vk a):=by
 have c_qd:Callee P w K mg base "run_pieces" a.f_qd a.d_qd ["pieces", "program"] 12 (zmg a):=⟨zgn T,T.g_qd,T.F_qd.kp,T.b_qd⟩
 refine T.F_qe.ok zmt (fun vs H Q E h=>?_) (fun cdv A outer s H vs Q E hr h=>?_)
 ·obtain⟨lp,pvs,pc,ps,r,e1,e2,e3,e4,rfl,_⟩:=h
  rfl
 ·obtain⟨lp,pvs,pc,ps,r,e1,e2,e3,e4,rfl,hlp,hPc,hP,hs,hn,k⟩:=h
  refine zD (zf (zh (zw zN (zk c_qd (hr.mono (by omega)) (w_pa_N (w_pv 0) (w_pa_N (w_pv 1) w_pa_nil))) ze (fun _ _=>rfl)))) ?_
  refine⟨_,rfl,_,rfl,lp,pvs,pc,ps,r,e1,e2,e3,e4,rfl,hlp,hPc,hP,hs,hn,fun q pw pg ws gs H' hq s1 hq1 h1 h2 R=>?_⟩
  exact⟨q,_,0,_,rfl,rfl,SqT.of hq1,rfl,k pw ws gs H' s1 h1 R⟩
theorem W5 (T:Txt w K mg a):FnOk P w K mg base CX0 13 a.f_qf a.d_qf ["pieces", "program"] (Vm a):=by
 have c_qd:Callee P w K mg base "run_pieces" a.f_qd a.d_qd ["pieces", "program"] 12 (zmg a):=⟨zgn T,T.g_qd,T.F_qd.kp,T.b_qd⟩
 refine T.F_qf.ok zms (fun vs H Q E h=>?_) (fun cdv A outer s H vs Q E hr h=>?_)
 ·obtain⟨lp,pvs,pc,ps,r,e1,e2,e3,e4,rfl,_⟩:=h
  rfl
 ·obtain⟨lp,pvs,pc,ps,r,e1,e2,e3,e4,rfl,hlp,hPc,hP,hs,hn,k⟩:=h
  refine zD (zf (zh (zw zN (zk c_qd (hr.mono (by omega)) (w_pa_N (w_pv 0) (w_pa_N (w_pv 1) w_pa_nil))) ze (fun _ _=>rfl)))) ?_
  refine⟨_,rfl,_,rfl,lp,pvs,pc,ps,r,e1,e2,e3,e4,rfl,hlp,hPc,hP,hs,hn,fun q pw pg ws gs H' hq s1 hq1 h1 h2 R=>?_⟩
  exact⟨q,_,1,_,rfl,rfl,SqT.of hq1,rfl,k pg ws gs H' s1 h2 R⟩
def zuL (a:Ad):Sp:=fun vs H Q _=>∃ (p:Addr) (hs:List Int) (ls:List (Int×Int)) (r:V) (e1 e2 e3 e4:Ex) (n:Nat),vs=[.ref p,r,.int (n:Int)]∧WbP a H p hs ls∧ProgAt a H e1 e2 e3 e4 r∧n≤100 ∧
 ∀ pw ws gs H',Same H H'→H' pw=some (.lst (ws.map V.ref))→RnP H' e2 e3 e4 (w0 hs ls e1) hs (List.replicate n (hs,ls)) ws gs→Q (.ref pw) H'
def zuO (a:Ad):Sp:=fun vs H Q _=>∃ (p:Addr) (hs:List Int) (ls:List (Int×Int)) (r:V) (e1 e2 e3 e4:Ex) (n:Nat),vs=[.ref p,r,.int (n:Int)]∧WbP a H p hs ls∧ProgAt a H e1 e2 e3 e4 r∧n≤100 ∧
 ∀ pg ws gs H',Same H H'→H' pg=some (.lst (gs.map V.ref))→RnP H' e2 e3 e4 (w0 hs ls e1) hs (List.replicate n (hs,ls)) ws gs→Q (.ref pg) H'
theorem xr {hs:List Int}{ls:List (Int×Int)}{n:Nat}:rdsOf [⟨hs,ls,n⟩]=List.replicate n (hs,ls):=by
 unfold rdsOf
 simp
theorem PcAt.one {H:Hp}{pt p:Addr}{hs:List Int}{ls:List (Int×Int)}{n:Nat}(h:H pt=some (.tup [.ref p,.int (n:Int)])) (W:WbP a H p hs ls):PcAt a H [.ref pt] [⟨hs,ls,n⟩]:=⟨rfl,fun i v pc e1 e2=>by
 cases i with
 |zero=>cases e1;cases e2;exact⟨pt,p,rfl,h,W⟩
 |succ i=>cases e1⟩
theorem zmZ (T:Txt w K mg a):FnOk P w K mg base CX0 14 a.f_qg a.d_qg ["web", "program", "rounds"] (zuL a):=by
 have c_qe:Callee P w K mg base "worths_by_pieces" a.f_qe a.d_qe ["pieces", "program"] 13 (Vk a):=⟨W4 T,T.g_qe,T.F_qe.kp,T.b_qe⟩
 refine T.F_qg.ok zmr (fun vs H Q E h=>?_) (fun cdv A outer s H vs Q E hr h=>?_)
 ·obtain⟨p,hs,ls,r,e1,e2,e3,e4,n,rfl,_⟩:=h
  rfl
 ·obtain⟨p,hs,ls,r,e1,e2,e3,e4,n,rfl,W,hP,hn,k⟩:=h
  refine zD (zf (zh (zk c_qe (hr.mono (by omega)) (zg (zu (yQ (zA (w_pa_N (w_pv 0) (w_pa_N (w_pv 2) w_pa_nil))) w_pa_nil)) (w_pa_N (w_pv 1) w_pa_nil))))) ?_
  refine⟨_,rfl,_,rfl,(by show 2≤sizeLine;decide),fun pt hpt=>⟨(by show 1≤sizeLine;decide),fun lp hlp=>?_⟩⟩
  have n1:=Same.new (o:=HO.tup [V.ref p,V.int (n:Int)]) hpt
  have n2:=Same.new (o:=HO.lst [V.ref pt]) hlp
  have n12:=n1.trans n2
  refine⟨_,rfl,lp,_,⟨hs,ls,n⟩,[],r,e1,e2,e3,e4,rfl,zd,PcAt.one (n2 _ _ zd) (W.same n12),ProgAt.same n12 hP,fun c hc x hx=>?_,?_,fun pw ws gs H' s1 h1 R=>k pw ws gs H' (n12.trans s1) h1 (by rw[xr] at R;exact R)⟩
  ·rw[List.mem_singleton.mp hc] at hx;exact hx
  ·rw[xr,List.length_replicate];exact hn
theorem zm2 (T:Txt w K mg a):FnOk P w K mg base CX0 14 a.f_qh a.d_qh ["web", "program", "rounds"] (zuO a):=by
 have c_qf:Callee P w K mg base "heard_by_pieces" a.f_qf a.d_qf ["pieces", "program"] 13 (Vm a):=⟨W5 T,T.g_qf,T.F_qf.kp,T.b_qf⟩
 refine T.F_qh.ok zmq (fun vs H Q E h=>?_) (fun cdv A outer s H vs Q E hr h=>?_)
 ·obtain⟨p,hs,ls,r,e1,e2,e3,e4,n,rfl,_⟩:=h
  rfl
 ·obtain⟨p,hs,ls,r,e1,e2,e3,e4,n,rfl,W,hP,hn,k⟩:=h
  refine zD (zf (zh (zk c_qf (hr.mono (by omega)) (zg (zu (yQ (zA (w_pa_N (w_pv 0) (w_pa_N (w_pv 2) w_pa_nil))) w_pa_nil)) (w_pa_N (w_pv 1) w_pa_nil))))) ?_
  refine⟨_,rfl,_,rfl,(by show 2≤sizeLine;decide),fun pt hpt=>⟨(by show 1≤sizeLine;decide),fun lp hlp=>?_⟩⟩
  have n1:=Same.new (o:=HO.tup [V.ref p,V.int (n:Int)]) hpt
  have n2:=Same.new (o:=HO.lst [V.ref pt]) hlp
  have n12:=n1.trans n2
  refine⟨_,rfl,lp,_,⟨hs,ls,n⟩,[],r,e1,e2,e3,e4,rfl,zd,PcAt.one (n2 _ _ zd) (W.same n12),ProgAt.same n12 hP,fun c hc x hx=>?_,?_,fun pg ws gs H' s1 h1 R=>k pg ws gs H' (n12.trans s1) h1 (by rw[xr] at R;exact R)⟩
  ·rw[List.mem_singleton.mp hc] at hx;exact hx
  ·rw[xr,List.length_replicate];exact hn
end
end K04

namespace K04
open PySem L2
theorem Ex.ok_sub {ns ms:List Str}(h:∀ x∈ns,x∈ms):∀ e:Ex,e.ok ns→e.ok ms
 |.num i,o=>o
 |.name x,o=>h x o
 |.two w e1 e2,o=>⟨o.1,ok_sub h e1 o.2.1,ok_sub h e2 o.2.2⟩
 |.mod e1 i,o=>⟨o.1,ok_sub h e1 o.2⟩
 |.less e1 e2 e3 e4,o=>⟨ok_sub h e1 o.1,ok_sub h e2 o.2.1,ok_sub h e3 o.2.2.1,ok_sub h e4 o.2.2.2⟩
def szB:Nat→Nat
 |0=>1
 |d+1=>max 5 (1+2*szB d)
theorem Zx:∀ d,1≤szB d
 |0=>by decide
 |d+1=>by show 1≤max 5 (1+2*szB d);omega
theorem zn1 {α:Type}{xs:List α}(h:xs.length=4):∃ a b c d,xs=[a,b,c,d]:=by
 cases xs with
 |nil=>cases h
 |cons a xs=>cases xs with
  |nil=>cases h
  |cons b xs=>cases xs with
   |nil=>cases h
   |cons c xs=>cases xs with
    |nil=>cases h
    |cons d xs=>cases xs with
     |nil=>exact⟨a,b,c,d,rfl⟩
     |cons e xs=>simp at h
section
variable {P:Program}{w:World}{K:PySem.W.Frag}{mg:Str→Option Value}{base:Heap}{a:Ad}
def Yl (n:Nat):Sp:=fun vs H Q _=>∃ (l nm:Addr) (names:List Str) (d:Nat),vs=[.ref l,.ref nm,.int (d:Int)]∧XsAt H l∧H nm=some (.lst (names.map V.str))∧nm≠l∧0<names.length∧names.length≤100∧d<n ∧
 ∀ (e:Ex) (v:V) (H':Hp),Told H' e v→e.ok names→e.dep≤d+1→e.size≤szB d→XsAt H' l→Ext l H H'→Q v H'
theorem YC (T:Txt w K mg a):∀ n,FnOk P w K mg base CX0 (n+2) a.f_qy a.d_qy ["_law_xs", "_law_names", "_law_deep"] (Yl n)
 |0=>⟨fun vs H Q E h=>by
   obtain⟨l,nm,names,deep,rfl,_⟩:=h
   rfl,fun A outer s H args us vs Q E _ _ _ _ h=>by
   obtain⟨l,nm,names,deep,_,_,_,_,_,_,h1,_⟩:=h
   omega⟩
 |n+1=>by
  have c_qv:Callee P w K mg base "_law_take" a.f_qv a.d_qv ["_law_xs", "_law_size"] 1 xv:=⟨yX T,T.g_qv,T.F_qv.kp,T.b_qv⟩
  have c_qy:Callee P w K mg base "_law_expr" a.f_qy a.d_qy ["_law_xs", "_law_names", "_law_deep"] (n+2) (Yl n):=⟨YC T n,T.g_qy,T.F_qy.kp,T.b_qy⟩
  refine T.F_qy.ok sc_qy (fun vs H Q E h=>?_) (fun cdv A outer s H vs Q E hr h=>?_)
  ·obtain⟨l,nm,names,deep,rfl,_⟩:=h
   rfl
  ·obtain⟨l,nm,names,d,rfl,hs,hnm,hne,hn0,hn1,hd,k⟩:=h
   refine zD (w_pss_cons (zl (i:=3) sc_qy.nd rfl (Or.inl rfl) (zk c_qv (hr.mono (by omega)) (w_pa_N (w_pv 0) (zn ze w_pa_nil))))
   (w_pss_cons (w_ps_if (ziA (vM (w_pt_cmpR yG (w_pv 2) ze (zx _)) (ww (w_pt_cmpR xO (w_pv 3) ze (zx _)))))
    (w_pss_cons (w_ps_if (w_pt_cmpR yG (w_pv 3) ze (zx _))
     (zf (zh (zA (zn w_pe_str (zg (zw zM (zu (yc (zj ye (zk c_qv (hr.mono (by omega)) (w_pa_N (w_pv 0) (zn ze w_pa_nil))) ze) (yc (zj wp (zk c_qv (hr.mono (by omega)) (w_pa_N (w_pv 0) (yc (zj xh ze ze) w_pa_nil))) (zj xh ze ze)) w_pa_nil))) (zj xF (zk c_qv (hr.mono (by omega)) (w_pa_N (w_pv 0) (zn ze w_pa_nil))) ze) (fun _ _=>rfl)) w_pa_nil)))))
     zm)
    (zf (zh (zA (zn w_pe_str (zg (zw zM (w_pv 1) (zk c_qv (hr.mono (by omega)) (w_pa_N (w_pv 0) (zy (w_pe_callB zo (by rfl) T.n_len zY (w_pa_N (w_pv 1) w_pa_nil)) w_pa_nil))) (fun _ _=>rfl)) w_pa_nil))))))
    zm)
   (w_pss_cons (w_ps_if (w_pt_cmpR xO (w_pv 3) ze (zx _))
    (w_pss_cons (zl (i:=4) sc_qy.nd rfl (Or.inl rfl) (zw zM (zu (zn w_pe_str (zn w_pe_str (zn w_pe_str (zn w_pe_str w_pa_nil))))) (zj ye (w_pv 3) ze) (fun _ _=>rfl)))
    (zf (zh (zA (w_pa_N (w_pv 4) (zy (zk c_qy (hr.mono (by omega)) (w_pa_N (w_pv 0) (w_pa_N (w_pv 1) (yc (zj ye (w_pv 2) ze) w_pa_nil)))) (zy (zk c_qy (hr.mono (by omega)) (w_pa_N (w_pv 0) (w_pa_N (w_pv 1) (yc (zj ye (w_pv 2) ze) w_pa_nil)))) w_pa_nil)))))))
    zm)
   (w_pss_cons (w_ps_if (w_pt_cmpR yG (w_pv 3) ze (zx _))
    (zf (zh (zA (zn w_pe_str (zy (zk c_qy (hr.mono (by omega)) (w_pa_N (w_pv 0) (w_pa_N (w_pv 1) (yc (zj ye (w_pv 2) ze) w_pa_nil)))) (yc (zj zV ze (zk c_qv (hr.mono (by omega)) (w_pa_N (w_pv 0) (zg (zw zM (zu (zn ze (yc (zj xh ze ze) w_pa_nil))) (zk c_qv (hr.mono (by omega)) (w_pa_N (w_pv 0) (zn ze w_pa_nil))) (fun _ _=>rfl)) w_pa_nil)))) w_pa_nil))))))
    zm)
   (zf (zh (zj VP (zA (zn w_pe_str w_pa_nil)) (zW wU (by rfl) T.n_tuple uG (zg (yC rfl (N':=["_law_k", "_law_xs", "_law_names"]) (t:=1) (caps:=[0,1]) ⟨rfl,rfl,rfl⟩ (yl rfl T.n_range (zn ze w_pa_nil)) (fun _=>(zq (i:=0) (show(["_law_k", "_law_xs", "_law_names"]:List Str).Nodup by decide +kernel) rfl (Or.inl rfl))) (fun _=>yk) (fun _=>(zk c_qy (hr.mono (by omega)) (w_pa_N (w_pv 1) (w_pa_N (w_pv 2) (zn ze w_pa_nil)))))) w_pa_nil))))))))) ?_
   refine⟨_,rfl,l,8,rfl,hs,by decide,fun kd H1 k0 k1 s1 x1=>?_⟩
   have hnm1:=x1 _ _ hnm hne
   refine⟨_,rfl,rfl,_,rfl,?_⟩
   have zp:=Zx d
   refine ite2 (fun z=>XA ?gA) (fun z=>⟨_,rfl,_,_,rfl,rfl,_,rfl,ite2 (fun z2=>?gB) (fun z2=>?gC)⟩)
   case gC =>
    have hl1:¬ d=0:=fun z0=>z (by subst z0;rfl)
    have hl2:¬ kd<2:=fun z0=>z2 (decide_eq_true z0)
    obtain⟨c,rfl⟩:∃ c,d=c+1:=⟨d-1,by omega⟩
    have zc:=Zx c
    have ed:((c+1:Nat):Int)-1=(c:Int):=by omega
    refine⟨_,rfl,_,_,rfl,rfl,_,rfl,?_⟩
    refine ite2 (fun h6=>?_) (fun h6=>?_)
    ·have h6:kd<6:=of_decide_eq_true h6
     refine⟨by show 4≤sizeLine;decide,fun p1 hp1=>?_⟩
     obtain⟨wd,hw,aw⟩:=zf9 (d:=kd-2) (by omega) (by omega)
     refine⟨_,rfl,_,_,rfl,rfl,p1,_,_,_,rfl,rfl,SqL.of zd,aw,?_⟩
     have X2:Ext l H _:=x1.trans (Ext.new (l:=l) (o:=HO.lst [V.str "add",V.str "sub",V.str "min",V.str "max"]) hp1)
     refine⟨_,rfl,_,rfl,_,rfl,_,rfl,_,_,rfl,rfl,l,nm,names,c,(by rw[← ed];rfl),s1.new hp1,X2 _ _ hnm hne,hne,hn0,hn1,by omega,fun e1 v1 H3 t1 o1 de1 z1 s3 x3=>?_⟩
     refine⟨_,rfl,_,rfl,_,rfl,_,_,rfl,rfl,l,nm,names,c,(by rw[← ed];rfl),s3,(X2.trans x3) _ _ hnm hne,hne,hn0,hn1,by omega,fun e2 v2 H4 t2 o2 de2 z2 s4 x4=>?_⟩
     refine⟨by show 3≤sizeLine;decide,fun p hp=>?_⟩
     have y5:=Same.new (o:=HO.tup [V.str wd,v1,v2]) hp
     exact k (.two wd e1 e2) _ _ ⟨p,v1,v2,rfl,zd,(t1.extX s3 x4).same y5,t2.same y5⟩ ⟨hw,o1,o2⟩ (by show max e1.dep e2.dep+1≤c+1+1;omega) (by show 1+e1.size+e2.size≤max 5 (1+2*szB c);omega) (s4.new hp) (((X2.trans x3).trans x4).trans (Ext.new hp))
    refine⟨_,rfl,rfl,_,rfl,?_⟩
    refine ite2 (fun _=>?_) (fun h8=>?_)
    ·refine⟨_,rfl,_,rfl,_,rfl,_,_,rfl,rfl,l,nm,names,c,(by rw[← ed];rfl),s1,hnm1,hne,hn0,hn1,by omega,fun e1 v1 H2 t1 o1 de1 z1 s2 x2=>?_⟩
     refine⟨_,rfl,_,_,rfl,rfl,⟨by decide,by decide,by decide⟩,(by show 2≤sizeLine;decide),fun p1 hp1=>?_⟩
     have n1:=s2.ne hp1
     refine⟨_,rfl,l,2,rfl,s2.new hp1,by decide,fun d1 H3 g1 g2 s3 x3=>?_⟩
     obtain⟨v2,a2,b2⟩:=zga (x:=9) (y:=(10:Int) ^ Int.toNat 6) g1 g2
     have p6:(10:Int) ^ Int.toNat 6=1000000:=by decide
     rw[p6] at b2
     refine⟨p1,_,d1,_,rfl,rfl,SqL.of (x3 _ _ zd n1),a2,l,v2,rfl,s3,by omega,fun d2 H4 g3 g4 s4 x4=>?_⟩
     refine⟨_,_,rfl,rfl,(by show 3≤sizeLine;decide),fun p hp=>?_⟩
     exact k (.mod e1 (1+d2)) _ _ ⟨p,v1,rfl,zd,(((t1.same (Same.new hp1)).extX (s2.new hp1) x3).extX s3 x4).same (Same.new hp)⟩ ⟨⟨by omega,by omega⟩,o1⟩ (by show e1.dep+1≤c+1+1;omega) (by show 2+e1.size≤max 5 (1+2*szB c);omega) (s4.new hp) (((x1.trans x2).trans ((Ext.new hp1).trans x3)).trans (x4.trans (Ext.new hp)))
    refine⟨by show 1≤sizeLine;decide,fun p1 hp1=>?_⟩
    have hp1l:=s1.ne hp1
    have s1':=s1.new (o:=HO.tup [V.str "less"]) hp1
    have x1':Ext l H1 _:=Ext.new (l:=l) (o:=HO.tup [V.str "less"]) hp1
    have hT1:=zd (H:=H1) (a:=p1) (o:=HO.tup [V.str "less"])
    generalize L2.upd H1 p1 (HO.tup [V.str "less"])=H1' at *
    refine⟨4,rfl,by decide,by decide,fun D hD _=>?_⟩
    have hDl:=s1'.ne hD
    refine Zb (lo:=0) (n:=4) (fun i zs τ H'=>∃ o,τ=[o,some (.ref l),some (.ref nm)]∧zs.length=i∧H' D=some (.lst zs)∧XsAt H' l∧Ext l H1' H'∧∀ v∈zs,∃ e,Told H' e v∧e.ok names∧e.dep≤1∧e.size≤1) ?_ ?_ ?_
    ·exact⟨none,rfl,rfl,zd,s1'.new hD,Ext.new hD,fun v hv=>nomatch hv⟩
    ·rintro i zs τ H2 hi ⟨o,rfl,hz,hD2,s2,x2,hv⟩
     refine gn_if ?_
     refine⟨_,rfl,_,rfl,l,nm,names,0,rfl,s2,x2 _ _ (x1' _ _ hnm1 hne) hne,hne,hn0,hn1,by omega,fun e v H6 t6 o6 d6 z6 s6 x6=>⟨x6 _ _ hD2 hDl,zr (by omega),some (V.int (0+i)),rfl,by simp[hz],zd,s6.upd hDl,?_,fun v' hv'=>?_⟩⟩
     ·intro b o e nb
      rw[upd_ne (ne_of_none e hD)]
      exact(x2.trans x6) b o e nb
     ·have hD6:=x6 _ _ hD2 hDl
      rcases List.mem_append.mp hv' with h | h
      ·obtain⟨e',t',o',d',z'⟩:=hv v' h
       exact⟨e',(t'.extX s2 x6).updL hD6,o',d',z'⟩
      ·rw[List.mem_singleton.mp h]
       exact⟨e,t6.updL hD6,o6,d6,z6⟩
    ·rintro zs τ H2 ⟨o,_,hz,hD2,s2,x2,hv⟩
     obtain⟨z1,z2,z3,z4,rfl⟩:=zn1 hz
     obtain⟨e1,t1,o1,d1,y1⟩:=hv z1 (by simp)
     obtain⟨e2,t2,o2,d2,y2⟩:=hv z2 (by simp)
     obtain⟨e3,t3,o3,d3,y3⟩:=hv z3 (by simp)
     obtain⟨e4,t4,o4,d4,y4⟩:=hv z4 (by simp)
     refine⟨D,_,rfl,.inl ⟨SqL.of hD2,fun p2 hp2=>?_⟩⟩
     have y:=Same.new (o:=HO.tup [z1,z2,z3,z4]) hp2
     refine⟨p1,p2,_,_,rfl,rfl,SqT.of (y _ _ (x2 _ _ hT1 hp1l)),SqT.of zd,(fun z=>by cases z),(by show 1+4≤sizeLine;decide),(fun z=>by cases z),fun _ p hp=>?_⟩
     have y':=y.trans (Same.new (o:=HO.tup [V.str "less",z1,z2,z3,z4]) hp)
     exact k (.less e1 e2 e3 e4) _ _ ⟨p,z1,z2,z3,z4,rfl,zd,t1.same y',t2.same y',t3.same y',t4.same y'⟩ ⟨o1,o2,o3,o4⟩ (by show max (max e1.dep e2.dep) (max e3.dep e4.dep)+1≤c+1+1;omega) (by show 1+e1.size+e2.size+e3.size+e4.size≤max 5 (1+2*szB c);omega) (s2.same y') ((x1.trans x1').trans (x2.trans (Ext.same y')))
   all_goals
    refine⟨_,rfl,rfl,_,rfl,?_⟩
    refine ite2 (fun _=>?_) (fun _=>?_)
    ·refine⟨_,rfl,l,9,rfl,s1,by decide,fun d1 H2 a1 b1 s2 x2=>?_⟩
     refine⟨_,_,rfl,rfl,_,rfl,_,_,rfl,rfl,⟨by decide,by decide,by decide⟩,l,_,rfl,s2,by decide,fun d2 H3 a2 b2 s3 x3=>?_⟩
     refine⟨_,_,rfl,rfl,⟨by decide,by decide,by decide⟩,_,_,rfl,rfl,.inr ⟨by decide,by decide⟩,(by show 2≤sizeLine;decide),fun p1 hp1=>?_⟩
     have n1:=s3.ne hp1
     refine⟨_,rfl,l,4,rfl,s3.new hp1,by decide,fun d3 H4 a3 b3 s4 x4=>?_⟩
     have q3:0≤d3/3:=Int.ediv_nonneg a3 (by decide)
     have q4:d3/3<2:=by omega
     obtain⟨v1,e1,f1⟩:=zga (x:=d1-4) (y:=d2*10 ^ Int.toNat 13) q3 q4
     refine⟨_,_,rfl,rfl,⟨by show(0:Int)<3;decide,by show(3:Int).natAbs.log2<9000;decide⟩,p1,_,_,_,rfl,rfl,SqL.of (x4 _ _ zd n1),e1,(by show 2≤sizeLine;decide),fun p hp=>?_⟩
     refine k (.num v1) _ _ ⟨p,rfl,zd⟩ ?_ (Nat.le_add_left _ _) zp (s4.new hp) (((x1.trans x2).trans (x3.trans (Ext.new hp1))).trans (x4.trans (Ext.new hp)))
     have p13:(10:Int) ^ Int.toNat 13=10000000000000:=by decide
     have p6:(10:Int) ^ Int.toNat 6=1000000:=by decide
     have b2:d2<(10:Int) ^ Int.toNat 6:=b2
     rw[p6] at b2
     rw[p13] at f1
     show -100000000000000000000<v1∧v1<100000000000000000000
     omega
    ·refine⟨_,rfl,_,rfl,_,rfl,nm,_,rfl,.inl (SqL.of hnm1),l,_,rfl,s1,(by rw[List.length_map];omega),fun d2 H2 g1 g2 s2 x2=>?_⟩
     obtain⟨x,hx,ea⟩:=zmT g1 g2
     refine⟨nm,_,d2,_,rfl,rfl,SqL.of (x2 _ _ hnm1 hne),ea,(by show 2≤sizeLine;decide),fun p hp=>?_⟩
     exact k (.name x) _ _ ⟨p,rfl,zd⟩ hx (Nat.le_add_left _ _) zp (s2.new hp) ((x1.trans x2).trans (Ext.new hp))
noncomputable def heardNs:List Str:=["worth", "me", "round", "lines", "sum", "least", "most", "count", "sum", "most"]
def zuV:Sp:=fun vs H Q _=>vs=[]∧∀ p,H p=none→Q (.ref p) (L2.upd H p (.lst (heardNs.map V.str)))
theorem zm6 (T:Txt w K mg a):FnOk P w K mg base CX0 1 a.f_qA a.d_qA [] zuV:=by
 refine T.F_qA.ok zmO (fun vs H Q E h=>?_) (fun cdv A outer s H vs Q E hr h=>?_)
 ·obtain⟨rfl,_⟩:=h
  rfl
 ·obtain⟨rfl,k⟩:=h
  refine zD (zf (zh (zu (zn w_pe_str (zn w_pe_str (zn w_pe_str (zn w_pe_str (zn w_pe_str (zn w_pe_str (zn w_pe_str (zn w_pe_str (zn w_pe_str (zn w_pe_str w_pa_nil))))))))))))) ?_
  exact⟨by show 10≤sizeLine;decide,fun p hp=>k p hp⟩
def ziz (H:Hp) (e1 e2 e3 e4:Ex) (v1 v2 v3 v4:V):Prop:=(Told H e1 v1∧e1.ok xn∧e1.dep≤4∧e1.size≤15)∧(Told H e2 v2∧e2.ok yR∧e2.dep≤4∧e2.size≤15)∧(Told H e3 v3∧e3.ok yR∧e3.dep≤4∧e3.size≤15)∧(Told H e4 v4∧e4.ok xo∧e4.dep≤4∧e4.size≤15)
def zuP:Sp:=fun vs H Q _=>∃ c:Int,vs=[.int c]∧∀ (q:Addr) (v1 v2 v3 v4:V) (e1 e2 e3 e4:Ex) (H':Hp),H' q=some (.lst [v1,v2,v3,v4])→ziz H' e1 e2 e3 e4 v1 v2 v3 v4→Same H H'→Q (.ref q) H'
theorem zm3 (T:Txt w K mg a):FnOk P w K mg base CX0 6 a.f_qz a.d_qz ["_law_cell"] zuP:=by
 have c_qv:Callee P w K mg base "_law_take" a.f_qv a.d_qv ["_law_xs", "_law_size"] 1 xv:=⟨yX T,T.g_qv,T.F_qv.kp,T.b_qv⟩
 have c_qu:Callee P w K mg base "_law_draws" a.f_qu a.d_qu ["_law_cell", "_law_many"] 1 wA:=⟨wJ T,T.g_qu,T.F_qu.kp,T.b_qu⟩
 have c_qA:Callee P w K mg base "_law_heard_names" a.f_qA a.d_qA [] 1 zuV:=⟨zm6 T,T.g_qA,T.F_qA.kp,T.b_qA⟩
 have c_qy:Callee P w K mg base "_law_expr" a.f_qy a.d_qy ["_law_xs", "_law_names", "_law_deep"] 5 (Yl 3):=⟨YC T 3,T.g_qy,T.F_qy.kp,T.b_qy⟩
 refine T.F_qz.ok sc_qz (fun vs H Q E h=>?_) (fun cdv A outer s H vs Q E hr h=>?_)
 ·obtain⟨c,rfl,_⟩:=h
  rfl
 ·obtain⟨c,rfl,k⟩:=h
  refine zD (w_pss_cons (zl (i:=1) sc_qz.nd rfl (Or.inl rfl) (zk c_qu (hr.mono (by omega)) (w_pa_N (w_pv 0) (zn ze w_pa_nil))))
   (w_pss_cons (zl (i:=2) sc_qz.nd rfl (Or.inl rfl) (zk c_qy (hr.mono (by omega)) (w_pa_N (w_pv 1) (zg (zu (zn w_pe_str (zn w_pe_str (zn w_pe_str w_pa_nil)))) (zn ze w_pa_nil)))))
   (w_pss_cons (zl (i:=3) sc_qz.nd rfl (Or.inl rfl) (zk c_qy (hr.mono (by omega)) (w_pa_N (w_pv 1) (zg (zu (zn w_pe_str (zn w_pe_str (zn w_pe_str (zn w_pe_str (zn w_pe_str (zn w_pe_str w_pa_nil))))))) (zn ze w_pa_nil)))))
   (w_pss_cons (zl (i:=4) sc_qz.nd rfl (Or.inl rfl) (zk c_qy (hr.mono (by omega)) (w_pa_N (w_pv 1) (zg (zu (zn w_pe_str (zn w_pe_str (zn w_pe_str (zn w_pe_str (zn w_pe_str w_pa_nil)))))) (zn ze w_pa_nil)))))
   (yh (w_ps_if (w_pt_cmpR yG (zk c_qv (hr.mono (by omega)) (w_pa_N (w_pv 1) (zn ze w_pa_nil))) ze (zx _))
    (zf (zl (i:=4) sc_qz.nd rfl (Or.inl rfl) (zA (zn w_pe_str (zn ze w_pa_nil)))))
    zm)
   (zf (zh (zu (w_pa_N (w_pv 2) (w_pa_N (w_pv 3) (w_pa_N (w_pv 4) (zy (zk c_qy (hr.mono (by omega)) (w_pa_N (w_pv 1) (zy (uJ c_qA.ok (hr.mono (by omega)) (by rfl) c_qA.g c_qA.kp c_qA.b .nil Yy) (zn ze w_pa_nil)))) w_pa_nil)))))))))))) ?_
  refine⟨_,rfl,c,150,rfl,by decide,fun l H1 hl0 s1 y1=>?_⟩
  refine⟨_,rfl,(by show 3≤sizeLine;decide),fun n1 h1=>?_⟩
  refine⟨l,n1,["me", "lines", "me"],2,rfl,s1.new h1,zd,s1.ne h1,by decide,by decide,by decide,fun e1 v1 H2 t1 o1 d1 z1 s2 x2=>?_⟩
  refine⟨_,rfl,(by show 6≤sizeLine;decide),fun n2 h2=>?_⟩
  refine⟨l,n2,["worth", "me", "round", "lines", "to", "worth"],2,rfl,s2.new h2,zd,s2.ne h2,by decide,by decide,by decide,fun e2 v2 H3 t2 o2 d2 z2 s3 x3=>?_⟩
  refine⟨_,rfl,(by show 5≤sizeLine;decide),fun n3 h3=>?_⟩
  refine⟨l,n3,["worth", "me", "round", "lines", "to"],2,rfl,s3.new h3,zd,s3.ne h3,by decide,by decide,by decide,fun e3 v3 H4 t3 o3 d3 z3 s4 x4=>?_⟩
  have X4:Ext l H1 H4:=((Ext.new h1).trans x2).trans (((Ext.new h2).trans x3).trans ((Ext.new h3).trans x4))
  have T1:=((t1.same (Same.new (o:=HO.lst [V.str "worth",V.str "me",V.str "round",V.str "lines",V.str "to",V.str "worth"]) h2)).extX (s2.new h2) x3).same (Same.new (o:=HO.lst [V.str "worth",V.str "me",V.str "round",V.str "lines",V.str "to"]) h3) |>.extX (s3.new h3) x4
  have T2:=(t2.same (Same.new (o:=HO.lst [V.str "worth",V.str "me",V.str "round",V.str "lines",V.str "to"]) h3)).extX (s3.new h3) x4
  refine⟨fun σ' H'=>∃ (e3:Ex) (v3:V),σ'=[some (.int c),some (.ref l),some v1,some v2,some v3]∧XsAt H' l∧Ext l H1 H'∧Told H' e1 v1∧Told H' e2 v2∧Told H' e3 v3∧e3.ok yR∧e3.dep≤4∧e3.size≤15,?_,?_⟩
  ·refine⟨_,rfl,l,3,rfl,s4,by decide,fun dd H5 g1 g2 s5 x5=>?_⟩
   refine⟨rfl,_,rfl,?_⟩
   refine ite2 (fun _=>?_) (fun _=>?_)
   ·refine⟨by show 2≤sizeLine;decide,fun p hp=>?_⟩
    have y:=Same.new (o:=HO.tup [V.str "num",V.int 1]) hp
    exact⟨.num 1,_,rfl,s5.new hp,(X4.trans x5).trans (Ext.new hp),(T1.extX s4 x5).same y,(T2.extX s4 x5).same y,⟨p,rfl,zd⟩,(by show -100000000000000000000<(1:Int)∧(1:Int)<100000000000000000000;decide),(by show 1≤4;decide),(by show 1≤15;decide)⟩
   ·exact⟨e3,v3,rfl,s5,X4.trans x5,T1.extX s4 x5,T2.extX s4 x5,t3.extX s4 x5,o3,by omega,Nat.le_trans z3 (by decide)⟩
  ·rintro σ' H5 ⟨e3,v3,rfl,s5,x5,T1,T2,T3,o3,d3,z3⟩
   refine⟨_,rfl,_,rfl,_,rfl,_,rfl,rfl,fun n4 h4=>?_⟩
   have y4:=Same.new (o:=HO.lst (heardNs.map V.str)) h4
   refine⟨l,n4,heardNs,2,rfl,s5.new h4,zd,s5.ne h4,by decide,by decide,by decide,fun e4 v4 H6 t4 o4 d4 z4 s6 x6=>?_⟩
   refine⟨by show 4≤sizeLine;decide,fun q hq=>?_⟩
   have y6:=Same.new (o:=HO.lst [v1,v2,v3,v4]) hq
   have sub1:∀ x∈(["me", "lines", "me"]:List Str),x∈xn:=by decide
   have sub2:∀ x∈(["worth", "me", "round", "lines", "to", "worth"]:List Str),x∈yR:=by decide
   have sub4:∀ x∈heardNs,x∈xo:=by decide
   refine k q v1 v2 v3 v4 e1 e2 e3 e4 _ zd ⟨⟨((T1.same y4).extX (s5.new h4) x6).same y6,Ex.ok_sub sub1 e1 o1,by omega,Nat.le_trans z1 (by decide)⟩,⟨((T2.same y4).extX (s5.new h4) x6).same y6,Ex.ok_sub sub2 e2 o2,by omega,Nat.le_trans z2 (by decide)⟩,⟨((T3.same y4).extX (s5.new h4) x6).same y6,o3,d3,z3⟩,⟨t4.same y6,Ex.ok_sub sub4 e4 o4,by omega,Nat.le_trans z4 (by decide)⟩⟩ ?_
   have X:=(x5.trans (Ext.same y4)).trans (x6.trans (Ext.same y6))
   exact fun b o e=>X b o (y1 b o e) fun z=>by rw[z,hl0] at e;cases e
def zuN (a:Ad):Sp:=fun vs H Q _=>∃ (q:Addr) (v1 v2 v3 v4:V) (e1 e2 e3 e4:Ex),vs=[.ref q]∧H q=some (.lst [v1,v2,v3,v4])∧ziz H e1 e2 e3 e4 v1 v2 v3 v4∧∀ r H',ProgAt a H' e1 e2 e3 e4 r→Same H H'→Q r H'
theorem zm1 (T:Txt w K mg a):FnOk P w K mg base CX0 24 a.f_qC a.d_qC ["_law_program_here"] (zuN a):=by
 have c_qB:Callee P w K mg base "_law_made" a.f_qB a.d_qB ["_law_told"] 6 (Yi a 4):=⟨YB T 4,T.g_qB,T.F_qB.kp,T.b_qB⟩
 have m_Program:Maker P w K mg base "Program" a.c_Program a.f_qX a.d_qX ["self", "start", "send", "when", "renew"] 22 (WP a):=⟨VQ T,T.g_Program,T.mk_Program,T.b_qX⟩
 refine T.F_qC.ok zmM (fun vs H Q E h=>?_) (fun cdv A outer s H vs Q E hr h=>?_)
 ·obtain⟨q,v1,v2,v3,v4,e1,e2,e3,e4,rfl,_⟩:=h
  rfl
 ·obtain⟨q,v1,v2,v3,v4,e1,e2,e3,e4,rfl,hq,⟨⟨t1,o1,d1,z1⟩,⟨t2,o2,d2,z2⟩,⟨t3,o3,d3,z3⟩,⟨t4,o4,d4,z4⟩⟩,k⟩:=h
  refine zD (zf (zh (xK m_Program (hr.mono (by omega)) (zy (zk c_qB (hr.mono (by omega)) (zg (zw zM (w_pv 0) ze (fun _ _=>rfl)) w_pa_nil)) (zy (zk c_qB (hr.mono (by omega)) (zg (zw zM (w_pv 0) ze (fun _ _=>rfl)) w_pa_nil)) (zy (zk c_qB (hr.mono (by omega)) (zg (zw zM (w_pv 0) ze (fun _ _=>rfl)) w_pa_nil)) (zy (zk c_qB (hr.mono (by omega)) (zg (zw zM (w_pv 0) ze (fun _ _=>rfl)) w_pa_nil)) w_pa_nil))))))) ?_
  refine⟨_,rfl,q,_,0,_,rfl,rfl,SqL.of hq,rfl,e1,_,_,rfl,t1,d1,o1,fun r1 H1 m1 s1=>?_⟩
  refine⟨_,rfl,q,_,1,_,rfl,rfl,SqL.of (s1 _ _ hq),rfl,e2,_,_,rfl,t2.same s1,d2,o2,fun r2 H2 m2 s2=>?_⟩
  have s12:=s1.trans s2
  refine⟨_,rfl,q,_,2,_,rfl,rfl,SqL.of (s12 _ _ hq),rfl,e3,_,_,rfl,t3.same s12,d3,o3,fun r3 H3 m3 s3=>?_⟩
  have s123:=s12.trans s3
  refine⟨_,rfl,q,_,3,_,rfl,rfl,SqL.of (s123 _ _ hq),rfl,e4,_,_,rfl,t4.same s123,d4,o4,fun r4 H4 m4 s4=>?_⟩
  refine fun x dx nx ndx nex=>?_
  have sN:Same H4 (L2.upd (L2.upd H4 dx (.own x)) x (.ins a.c_Program dx [])):=fun b o e=>by
   rw[upd_ne (ne_of_none e nx),upd_ne (ne_of_none e ndx)]
   exact e
  have m1:=m1.same ((s2.trans s3).trans s4)
  have m2:=m2.same (s3.trans s4)
  have m3:=m3.same s4
  refine⟨x,dx,r1,r2,r3,r4,e1,e2,e3,e4,rfl,zd,⟨⟨m1.same sN,o1,by omega⟩,⟨m2.same sN,o2,by omega⟩,⟨m3.same sN,o3,by omega⟩,⟨m4.same sN,o4,by omega⟩,by omega⟩,fun H5 s5=>⟨rfl,?_⟩⟩
  have s45:Same H4 (L2.upd H5 x (.ins a.c_Program dx [("start",r1),("send",r2),("when",r3),("renew",r4)])):=Same.updF (sN.trans s5) nx
  exact k _ _ ⟨x,dx,r1,r2,r3,r4,rfl,zd,⟨m1.same s45,o1,by omega⟩,⟨m2.same s45,o2,by omega⟩,⟨m3.same s45,o3,by omega⟩,⟨m4.same s45,o4,by omega⟩,by omega⟩ ((s123.trans s4).trans s45)
end
end K04

namespace K04
open PySem L2
section
variable {P:Program}{w:World}{K:PySem.W.Frag}{mg:Str→Option Value}{base:Heap}{a:Ad}
def zuR:Sp:=fun vs H Q _=>∃ (l:Addr),vs=[.ref l,.int 8]∧XsAt H l ∧
 ∀ (h:Addr) (hs:List Int) (H':Hp),H h=none→H' h=some (.lst (hs.map V.int))→Hs hs→XsAt H' l→Ext l H H'→Q (.ref h) H'
theorem zm5 (T:Txt w K mg a):FnOk P w K mg base CX0 2 a.f_qw a.d_qw ["_law_xs", "_law_most"] zuR:=by
 have c_qv:Callee P w K mg base "_law_take" a.f_qv a.d_qv ["_law_xs", "_law_size"] 1 xv:=⟨yX T,T.g_qv,T.F_qv.kp,T.b_qv⟩
 refine T.F_qw.ok sc_qw (fun vs H Q E h=>?_) (fun cdv A outer s H vs Q E hr h=>?_)
 ·obtain⟨l,rfl,_⟩:=h
  rfl
 ·obtain⟨l,rfl,hs,k⟩:=h
  refine zD (w_pss_cons (zl (i:=2) sc_qw.nd rfl (Or.inl rfl) (zk c_qv (hr.mono (by omega)) (w_pa_N (w_pv 0) (zn ze w_pa_nil))))
   (w_pss_cons (zl (i:=3) sc_qw.nd rfl (Or.inr rfl) (zu (w_pa_N (w_pv 2) w_pa_nil)))
   (w_pss_cons (ya PassesOwn.never rfl (yl rfl T.n_range (zy (zk c_qv (hr.mono (by omega)) (w_pa_N (w_pv 0) (w_pa_N (w_pv 1) w_pa_nil))) w_pa_nil)) (zq (i:=4) sc_qw.nd rfl (Or.inl rfl))
    (w_pss_cons (zl (i:=2) sc_qw.nd rfl (Or.inl rfl) (zj zV (zj zV (w_pv 2) ze) (zk c_qv (hr.mono (by omega)) (w_pa_N (w_pv 0) (zn ze w_pa_nil)))))
    (zf (yb (yx PySem.F.plainAttrs_list PySem.F.slot_list_append PySem.F.type_list_append zS (w_pv 3) (w_pa_N (w_pv 2) w_pa_nil))))))
   (yh (w_ps_if (w_pt_cmpR yG (zk c_qv (hr.mono (by omega)) (w_pa_N (w_pv 0) (zn ze w_pa_nil))) ze (zx _))
    (zf (zl (i:=3) sc_qw.nd rfl (Or.inr rfl) (yC rfl (N':=["_law_one", "_law_found"]) (t:=1) (caps:=[3]) ⟨rfl,rfl,rfl⟩ (zL (w_pv 3)) (fun _=>(zq (i:=0) (show(["_law_one", "_law_found"]:List Str).Nodup by decide +kernel) rfl (Or.inl rfl))) (fun _=>yk) (fun _=>(zj ye (zj zV (w_pv 0) ze) (zw zM (w_pv 1) (xJ wj ze) (fun _ _=>rfl)))))))
    zm)
   (zf (zh (w_pv 3))))))) ?_
  refine⟨_,rfl,l,5,rfl,hs,by decide,fun d0 H1 g1 g2 s1 x1=>?_⟩
  refine⟨_,rfl,(by show 1≤sizeLine;decide),fun p hp=>?_⟩
  have npl:=s1.ne hp
  refine⟨_,rfl,_,rfl,l,8,rfl,s1.new hp,by decide,fun m H2 g3 g4 s2 x2=>?_⟩
  refine⟨m,rfl,by omega,by omega,?_⟩
  have hp2:H2 p=some (.lst [V.int d0]):=x2 _ _ zd npl
  have X2:Ext l H1 H2:=(Ext.new hp).trans x2
  refine for_range (lo:=0) (fun i σ H'=>∃ (ns:List Int) (x:Int) (o4:Option V),σ=[some (.ref l),some (.int 8),some (.int x),some (.ref p),o4]∧H' p=some (.lst ((ns++[x]).map V.int))∧ns.length=i∧(ns++[x]).Pairwise (· < ·)∧(∀ y∈ns++[x],0≤y)∧(∀ y∈ns++[x],y≤4+8*(i:Int))∧XsAt H' l∧Ext l H1 H') ?_ ?_ ?_
  ·refine⟨[],d0,none,rfl,hp2,rfl,by simp,?_,?_,s2,X2⟩
   ·intro y hy
    rw[List.mem_singleton.mp hy];exact g1
   ·intro y hy
    rw[List.mem_singleton.mp hy];omega
  ·rintro i σ H3 hi ⟨ns,x,o4,rfl,hp3,hln,up,lo,hi',s3,x3⟩
   refine⟨_,rfl,_,_,rfl,rfl,_,rfl,l,8,rfl,s3,by decide,fun d H4 a1 a2 s4 x4=>?_⟩
   have hp4:=x4 _ _ hp3 npl
   refine⟨_,_,rfl,rfl,_,rfl,.inl ⟨rfl,_,SqL.of hp4⟩,_,rfl,p,_,_,rfl,rfl,hp4,(by rw[List.length_map,List.length_append];exact zr (by simp;omega)),?_⟩
   refine⟨ns++[x],x+1+d,_,rfl,?_,by simp[hln],?_,?_,?_,s4.upd npl,?_⟩
   ·rw[zd,List.map_append (l₂:=[x+1+d])]
    rfl
   ·rw[List.pairwise_append]
    refine⟨up,by simp,fun y hy z hz=>?_⟩
    rw[List.mem_singleton.mp hz]
    rcases List.mem_append.mp hy with h | h
    ·have:=(List.pairwise_append.mp up).2.2 y h x (by simp)
     omega
    ·rw[List.mem_singleton.mp h];omega
   ·intro y hy
    rcases List.mem_append.mp hy with h | h
    ·exact lo y h
    ·rw[List.mem_singleton.mp h]
     have:=lo x (by simp)
     omega
   ·intro y hy
    rcases List.mem_append.mp hy with h | h
    ·have:=hi' y h
     omega
    ·rw[List.mem_singleton.mp h]
     have:=hi' x (by simp)
     omega
   ·intro b o e nb
    rw[upd_ne (ne_of_none e hp)]
    exact(x3.trans x4) b o e nb
  ·rintro σ H3 ⟨ns,x,o4,rfl,hp3,hln,up,lo,hi',s3,x3⟩
   have hp0:H p=none:=by
    cases e:H p with
    |none=>rfl
    |some o=>have:=x1 _ _ e npl;rw[hp] at this;cases this
   have X3:=x1.trans x3
   refine⟨fun σ' H'=>∃ (h:Addr) (hs':List Int),σ'=[some (.ref l),some (.int 8),some (.int x),some (.ref h),o4]∧H h=none∧H' h=some (.lst (hs'.map V.int))∧Hs hs'∧XsAt H' l∧Ext l H H',?_,?_⟩
   ·refine⟨_,rfl,l,4,rfl,s3,by decide,fun d H4 a1 a2 s4 x4=>⟨rfl,_,rfl,?_⟩⟩
    have hp4:=x4 _ _ hp3 npl
    have X4:=X3.trans x4
    have hl:(ns++[x]).length=m.toNat+1:=by rw[List.length_append,hln];rfl
    refine ite2 (fun _=>?_) (fun _=>?_)
    ·refine⟨_,rfl,p,rfl,⟨_,SqL.of hp4⟩,fun D hD _=>?_⟩
     have nDl:=s4.ne hD
     have hD0:H D=none:=by
      cases e:H D with
      |none=>rfl
      |some o=>have:=X4 _ _ e nDl;rw[hD] at this;cases this
     refine yp (K:=K) (a:=p) (xs:=(ns++[x]).map V.int) (fun j zs τ H'=>∃ o,τ=[o,some (.ref p)]∧zs=(((ns++[x]).take j).map fun y=>y+99-x).map V.int∧H' D=some (.lst zs)∧Same H4 H') ?_ ?_ ?_ ?_
     ·exact⟨none,rfl,by simp,zd,Same.new hD⟩
     ·rintro j zs τ H' ⟨o,_,_,_,sm⟩
      exact SqL.of (sm _ _ hp4)
     ·rintro j v zs τ H' hj ⟨o,rfl,rfl,hD',sm⟩
      rw[List.getElem?_map] at hj
      obtain⟨y,hy,rfl⟩:=Option.map_eq_some_iff.mp hj
      have hjl:=(List.getElem?_eq_some_iff.mp hy).1
      refine gn_if ?_
      refine⟨_,rfl,_,_,rfl,rfl,_,rfl,_,rfl,p,_,_,V.int x,rfl,rfl,SqL.of (sm _ _ hp4),(by rw[List.map_append];exact wW),_,_,rfl,rfl,hD',by simp;exact zr (by omega),some (.int y),rfl,?_,zd,Same.updF sm hD⟩
      rw[List.take_add_one,hy]
      simp
     ·rintro zs τ H5 ⟨o,rfl,rfl,hD5,sm⟩
      rw[List.length_map,List.take_length] at hD5
      refine⟨D,_,rfl,hD0,hD5,⟨?_,?_,?_,?_,?_⟩,s4.same sm,X4.trans (Ext.same sm)⟩
      ·rw[List.length_map,hl];omega
      ·rw[List.length_map,hl];omega
      ·rw[List.pairwise_map]
       exact up.imp fun h=>by omega
      ·intro y hy
       obtain⟨z,hz,rfl⟩:=List.mem_map.mp hy
       have h1:=lo z hz
       have h2:=hi' x (by simp)
       omega
      ·intro y hy
       obtain⟨z,hz,rfl⟩:=List.mem_map.mp hy
       rcases List.mem_append.mp hz with h | h
       ·have:=(List.pairwise_append.mp up).2.2 z h x (by simp)
        omega
       ·rw[List.mem_singleton.mp h];omega
    ·refine⟨p,_,rfl,hp0,hp4,⟨?_,?_,up,lo,fun y hy=>?_⟩,s4,X4⟩
     ·rw[hl];omega
     ·rw[hl];omega
     ·have:=hi' y hy
      omega
   ·rintro σ' H4 ⟨h,hs',rfl,hh0,hh,wh,s4,x4⟩
    exact⟨_,rfl,k h hs' H4 hh0 hh wh s4 x4⟩
end
end K04

namespace K04
open PySem L2
def tri:Nat→Nat
 |0=>0
 |n+1=>tri n+n
theorem Vh:∀ n,n≤12→tri n≤66:=by decide
theorem zaB {n j:Nat}(h:j<n):tri j+j≤tri n:=by
 induction n with
 |zero=>omega
 |succ n ih =>
  show tri j+j≤tri n+n
  by_cases c:j=n
  ·subst c;exact Nat.le_refl _
  ·have:=ih (by omega)
   omega
theorem zmU {b1 b2 b3 b4 b5 b6:Bool}{d:Int}(h0:0≤d) (h1:d<6):∃ z,atI [V.bl b1,V.bl b2,V.bl b3,V.bl b4,V.bl b5,V.bl b6] d=some (.bl z):=by
 rcases(by omega:d=0∨d=1∨d=2∨d=3∨d=4∨d=5) with rfl | rfl | rfl | rfl | rfl | rfl
 all_goals exact⟨_,rfl⟩
theorem LnAt.updL {H:Hp}{rs zs:List V}{ls:List (Int×Int)}{p:Addr}{o:HO}(hp:H p=some (.lst zs)) (h:LnAt H rs ls):LnAt (L2.upd H p o) rs ls:=⟨h.1,fun n r pr e1 e2=>by
 obtain⟨q,e,t⟩:=h.2 n r pr e1 e2
 exact⟨q,e,by rw[upd_ne (ne_of t hp (by intro z;cases z))];exact t⟩⟩
theorem LnAt.cut {H:Hp}{rs:List V}{ls:List (Int×Int)}{n:Nat}(h:LnAt H rs ls):LnAt H (rs.drop n++rs.take n) (ls.drop n++ls.take n):=by
 refine⟨by simp[h.1],fun i r p e1 e2=>?_⟩
 by_cases c:i<(ls.drop n).length
 ·rw[List.getElem?_append_left (by simp[h.1];simpa using c)] at e1
  rw[List.getElem?_append_left c] at e2
  rw[List.getElem?_drop] at e1 e2
  exact h.2 _ r p e1 e2
 ·rw[List.getElem?_append_right (by simp[h.1];simpa using c)] at e1
  rw[List.getElem?_append_right (by omega)] at e2
  have e:(rs.drop n).length=(ls.drop n).length:=by simp[h.1]
  rw[e,List.getElem?_take] at e1
  rw[List.getElem?_take] at e2
  split at e1
  ·rw[if_pos ‹_›] at e2
   exact h.2 _ r p e1 e2
  ·cases e1
theorem zal {rs:List V}{n:Nat}(h:n≤rs.length):cutV rs (some (n:Int)) none=rs.drop n:=by
 have h1:HT.sIx rs.length 0 (some (n:Int))=n:=by
  unfold HT.sIx
  show(if (n:Int)<0 then _ else _)=n
  rw[if_neg (by omega)]
  simp
  omega
 have h2:HT.sIx rs.length rs.length none=rs.length:=rfl
 unfold cutV
 rw[h1,h2]
 exact List.take_of_length_le (by rw[List.length_drop];omega)
theorem wT {rs:List V}{n:Nat}(h:n≤rs.length):cutV rs none (some (n:Int))=rs.take n:=by
 have h1:HT.sIx rs.length rs.length (some (n:Int))=n:=by
  unfold HT.sIx
  show(if (n:Int)<0 then _ else _)=n
  rw[if_neg (by omega)]
  simp
  omega
 have h2:HT.sIx rs.length 0 none=0:=rfl
 unfold cutV
 rw[h1,h2]
 simp
theorem zie {hs:List Int}(nd:hs.Nodup){i j:Nat}{x:Int}(h1:hs[i]?=some x) (h2:hs[j]?=some x):i=j:=by
 obtain⟨a1,b1⟩:=List.getElem?_eq_some_iff.mp h1
 obtain⟨a2,b2⟩:=List.getElem?_eq_some_iff.mp h2
 exact(List.getElem?_inj a1 nd).mp (h1.trans h2.symm)
structure Lfd (hs:List Int) (ls:List (Int×Int)) (j k:Nat):Prop where
 nd:ls.Nodup
 at_:∀ p∈ls,∃ k' j',hs[k']?=some p.1∧hs[j']?=some p.2∧k'<j'∧(j'<j∨(j'=j∧k'<k))
 le:ls.length≤tri j+k
theorem Lfd.skip {hs:List Int}{ls:List (Int×Int)}{j k:Nat}(h:Lfd hs ls j k):Lfd hs ls j (k+1) :=
 ⟨h.nd,fun p hp=>by
  obtain⟨k',j',h1,h2,h3,h4⟩:=h.at_ p hp
  exact⟨k',j',h1,h2,h3,by omega⟩,by have:=h.le;omega⟩
theorem Lfd.row {hs:List Int}{ls:List (Int×Int)}{j:Nat}(h:Lfd hs ls j j):Lfd hs ls (j+1) 0 :=
 ⟨h.nd,fun p hp=>by
  obtain⟨k',j',h1,h2,h3,h4⟩:=h.at_ p hp
  exact⟨k',j',h1,h2,h3,by omega⟩,h.le⟩
theorem Lfd.add {hs:List Int}{ls:List (Int×Int)}{j k:Nat}{x y:Int}(W:Hs hs) (h:Lfd hs ls j k) (kj:k<j) (hx:hs[k]?=some x) (hy:hs[j]?=some y):Lfd hs (ls++[(x,y)]) j (k+1):=by
 have nd:=u0 W
 refine⟨?_,fun p hp=>?_,?_⟩
 ·rw[List.nodup_append]
  refine⟨h.nd,by simp,fun a ha b hb z=>?_⟩
  rw[List.mem_singleton.mp hb] at z
  obtain⟨k',j',h1,h2,h3,h4⟩:=h.at_ a ha
  rw[z] at h1 h2
  have:=zie nd h1 hx
  have:=zie nd h2 hy
  omega
 ·rcases List.mem_append.mp hp with h' | h'
  ·obtain⟨k',j',h1,h2,h3,h4⟩:=h.at_ p h'
   exact⟨k',j',h1,h2,h3,by omega⟩
  ·rw[List.mem_singleton.mp h']
   exact⟨k,j,hx,hy,kj,.inr ⟨rfl,by omega⟩⟩
 ·rw[List.length_append]
  have:=h.le
  simp
  omega
theorem Lfd.ls {hs:List Int}{ls:List (Int×Int)}{n:Nat}(W:Hs hs) (h:Lfd hs ls hs.length 0):Ls hs (ls.drop n++ls.take n):=by
 have pm:(ls.drop n++ls.take n).Perm ls:=List.perm_append_comm.trans (by rw[List.take_append_drop])
 refine⟨pm.nodup_iff.mpr h.nd,fun p hp=>?_,?_⟩
 ·obtain⟨k',j',h1,h2,h3,_⟩:=h.at_ p (pm.mem_iff.mp hp)
  obtain⟨a1,b1⟩:=List.getElem?_eq_some_iff.mp h1
  obtain⟨a2,b2⟩:=List.getElem?_eq_some_iff.mp h2
  refine⟨b1 ▸ List.getElem_mem a1,b2 ▸ List.getElem_mem a2,?_⟩
  rw[← b1,← b2]
  exact List.pairwise_iff_getElem.mp W.up _ _ a1 a2 h3
 ·rw[pm.length_eq]
  have:=h.le
  have:=Vh hs.length W.l12
  omega
section
variable {P:Program}{w:World}{K:PySem.W.Frag}{mg:Str→Option Value}{base:Heap}{a:Ad}
def zuQ:Sp:=fun vs H Q _=>∃ (l h:Addr) (hs:List Int),vs=[.ref l,.ref h]∧XsAt H l∧H h=some (.lst (hs.map V.int))∧h≠l∧Hs hs ∧
 ∀ (q:Addr) (rs:List V) (ls:List (Int×Int)) (H':Hp),H q=none→H' q=some (.lst rs)→LnAt H' rs ls→Ls hs ls→XsAt H' l→Ext l H H'→Q (.ref q) H'
theorem zm4 (T:Txt w K mg a):FnOk P w K mg base CX0 2 a.f_qx a.d_qx ["_law_xs", "_law_hands_here"] zuQ:=by
 have c_qv:Callee P w K mg base "_law_take" a.f_qv a.d_qv ["_law_xs", "_law_size"] 1 xv:=⟨yX T,T.g_qv,T.F_qv.kp,T.b_qv⟩
 refine T.F_qx.ok sc_qx (fun vs H Q E h=>?_) (fun cdv A outer s H vs Q E hr h=>?_)
 ·obtain⟨l,h,hs,rfl,_⟩:=h
  rfl
 ·obtain⟨l,h,hs,rfl,sl,hh,nhl,wh,k⟩:=h
  have l12:=wh.l12
  refine zD (w_pss_cons (zl (i:=2) sc_qx.nd rfl (Or.inl rfl) (zk c_qv (hr.mono (by omega)) (w_pa_N (w_pv 0) (zn ze w_pa_nil))))
   (w_pss_cons (zl (i:=3) sc_qx.nd rfl (Or.inl rfl) (zu w_pa_nil))
   (w_pss_cons (ya PassesOwn.never rfl (yl rfl T.n_range (zy (w_pe_callB zo (by rfl) T.n_len zY (w_pa_N (w_pv 1) w_pa_nil)) w_pa_nil)) (zq (i:=4) sc_qx.nd rfl (Or.inl rfl))
    (zf (ya PassesOwn.never rfl (yl rfl T.n_range (w_pa_N (w_pv 4) w_pa_nil)) (zq (i:=5) sc_qx.nd rfl (Or.inl rfl))
     (w_pss_cons (zl (i:=6) sc_qx.nd rfl (Or.inl rfl) (Zh (zR yG (zj ye (w_pv 4) (w_pv 5)) ze (zx _)) (yj (zR yG (zj ye (w_pv 4) (w_pv 5)) (zj ye (w_pe_callB zo (by rfl) T.n_len zY (w_pa_N (w_pv 1) w_pa_nil)) ze) (zx _)))))
     (w_pss_cons (zl (i:=7) sc_qx.nd rfl (Or.inl rfl) (zk c_qv (hr.mono (by omega)) (w_pa_N (w_pv 0) (zn ze w_pa_nil))))
     (zf (w_ps_if (zZ (zw zM (zu (w_pa_N (w_pv 6) (zg (zR xO (w_pv 7) ze (zx _)) (zg (zR xO (w_pv 7) ze (zx _)) (zg (zR xO (w_pv 7) ze (zx _)) (zn yy (zg (Zh (zR yG (w_pv 5) (zj yV (w_pv 7) (w_pv 4)) (zx _)) (yj (zR yG (w_pv 7) ze (zx _)))) w_pa_nil))))))) (w_pv 2) (fun _ _=>rfl)))
      (zf (yb (yx PySem.F.plainAttrs_list PySem.F.slot_list_append PySem.F.type_list_append zS (w_pv 3) (yQ (zA (zg (zw zM (w_pv 1) (w_pv 5) (fun _ _=>rfl)) (zg (zw zM (w_pv 1) (w_pv 4) (fun _ _=>rfl)) w_pa_nil))) w_pa_nil))))
      zm)))))))
   (w_pss_cons (zl (i:=8) sc_qx.nd rfl (Or.inl rfl) (zk c_qv (hr.mono (by omega)) (w_pa_N (w_pv 0) (yc (zj zV (w_pe_callB zo (by rfl) T.n_len zY (w_pa_N (w_pv 3) w_pa_nil)) ze) w_pa_nil))))
   (zf (zh (zj yr (zB zX (w_pv 3) (zF (w_pv 8)) zJ) (zB zX (w_pv 3) zJ (zF (w_pv 8)))))))))) ?_
  refine⟨_,rfl,l,6,rfl,sl,by decide,fun way H1 g1 g2 s1 x1=>?_⟩
  refine⟨(by show 0≤sizeLine;decide),fun p hp=>?_⟩
  have npl:=s1.ne hp
  have hh1:=x1 _ _ hh nhl
  have nhp:h≠p:=fun z=>by rw[z,hp] at hh1;cases hh1
  refine⟨_,rfl,h,_,rfl,.inl (SqL.of ((Same.new hp) _ _ hh1)),_,rfl,?_⟩
  rw[List.length_map]
  refine⟨by omega,by omega,?_⟩
  rw[show((hs.length:Int)).toNat=hs.length by omega]
  have St:∀ {rs:List V}{ls:List (Int×Int)}{H':Hp},LnAt H' rs ls→True:=fun _=>trivial
  refine for_range (lo:=0) (fun j σ H'=>∃ (o4 o5 o6 o7:Option V) (rs:List V) (ls:List (Int×Int)),σ=[some (.ref l),some (.ref h),some (.int way),some (.ref p),o4,o5,o6,o7,none]∧H' p=some (.lst rs)∧LnAt H' rs ls∧Lfd hs ls j 0∧XsAt H' l∧Ext l H1 H') ?_ ?_ ?_
  ·exact⟨none,none,none,none,[],[],rfl,zd,⟨rfl,fun i r q e=>by cases e⟩,⟨List.nodup_nil,(fun q hq=>nomatch hq),Nat.zero_le _⟩,s1.new hp,Ext.new hp⟩
  ·rintro j σ H2 hj ⟨o4,o5,o6,o7,rs,ls,rfl,hp2,L,F,s2,x2⟩
   refine⟨_,rfl,0+(j:Int),rfl,by omega,by omega,?_⟩
   rw[show(0+(j:Int)).toNat=j by omega]
   refine for_range (lo:=0) (fun i σ H'=>∃ (o5 o6 o7:Option V) (rs:List V) (ls:List (Int×Int)),σ=[some (.ref l),some (.ref h),some (.int way),some (.ref p),some (.int (0+(j:Int))),o5,o6,o7,none]∧H' p=some (.lst rs)∧LnAt H' rs ls∧Lfd hs ls j i∧XsAt H' l∧Ext l H1 H') ?_ ?_ ?_
   ·exact⟨o5,o6,o7,rs,ls,rfl,hp2,L,F,s2,x2⟩
   ·rintro i σ H3 hi ⟨o5,o6,o7,rs,ls,rfl,hp3,L,F,s3,x3⟩
    have hj2:hs[j]?=some hs[j]:=by simp[hj]
    have hi2:hs[i]?=some (hs[i]'(by omega)):=by simp
    refine⟨_,rfl,_,rfl,_,_,rfl,rfl,rfl,_,rfl,?_⟩
    have hh3:=x3 _ _ hh1 nhl
    refine ite2 (fun _=>?_) (fun _=>⟨_,rfl,_,rfl,_,_,rfl,rfl,_,rfl,h,_,rfl,.inl (SqL.of hh3),_,_,rfl,rfl,rfl,?_⟩)
    all_goals
     refine⟨_,rfl,l,6,rfl,s3,by decide,fun dr H4 a1 a2 s4 x4=>?_⟩
     refine⟨_,rfl,_,rfl,_,_,rfl,rfl,_,rfl,_,_,rfl,rfl,_,rfl,_,_,rfl,rfl,_,rfl,_,rfl,_,rfl,_,_,rfl,rfl,(by show(0:Int)<0+(j:Int);omega),rfl,_,rfl,?_⟩
     have hp4:=x4 _ _ hp3 npl
     have hh4:=x4 _ _ hh3 nhl
     have L4:LnAt H4 rs ls:=⟨L.1,fun n r pr e1 e2=>by
      obtain⟨q,e,t⟩:=L.2 n r pr e1 e2
      exact⟨q,e,x4 _ _ t fun z=>by
       obtain⟨ns,e3,_⟩:=s3
       rw[z,e3] at t
       cases t⟩⟩
     have X4:=x3.trans x4
     refine ite2 (fun _=>?_) (fun _=>⟨_,rfl,rfl,?_⟩)
     all_goals
      refine⟨by show 6≤sizeLine;decide,fun q6 hq6=>?_⟩
      have y5:∀ o,Same H4 (L2.upd H4 q6 o):=fun o=>Same.new hq6
      have u5:∀ o,L2.upd H4 q6 o q6=some o:=fun o=>zd
      generalize L2.upd H4 q6=f at *
      obtain⟨z,hz⟩:=zmU (b1:=_) (b2:=_) (b3:=_) (b4:=_) (b5:=_) (b6:=_) g1 g2
      refine⟨_,rfl,q6,_,_,_,rfl,rfl,SqL.of (u5 _),hz,_,rfl,?_⟩
      have hp5:=fun o=>y5 o _ _ hp4
      have hh5:=fun o=>y5 o _ _ hh4
      have L5:=fun o=>L4.same (y5 o)
      have s5:=fun o=>s4.same (y5 o)
      have X5:=fun o=>X4.trans (Ext.same (y5 o))
      refine ite2 (fun _=>?_) (fun _=>?_)
      ·refine⟨_,rfl,.inl ⟨rfl,_,SqL.of (hp5 _)⟩,_,rfl,_,rfl,h,_,_,V.int (hs[i]'(by omega)),rfl,rfl,SqL.of (hh5 _),(by rw[Int.zero_add];exact xb (by simp)),_,rfl,_,rfl,h,_,_,V.int hs[j],rfl,rfl,SqL.of (hh5 _),(by rw[Int.zero_add];exact xb (by simp[hj])),(by show 2≤sizeLine;decide),fun qt hqt=>?_⟩
       have y6:=Same.new (o:=HO.tup [V.int (hs[i]'(by omega)),V.int hs[j]]) hqt
       have l66:=F.le
       refine⟨p,_,_,rfl,rfl,y6 _ _ (hp5 _),(by rw[L.1];have:=Vh hs.length l12;have:=zaB hj;exact zr (by omega)),?_⟩
       refine⟨_,_,_,_,ls++[(hs[i]'(by omega),hs[j])],rfl,zd,LnAt.updL (y6 _ _ (hp5 _)) (LnAt.snoc (p:=(hs[i]'(by omega),hs[j])) ((L5 _).same y6) (q:=qt) zd),F.add wh hi hi2 hj2,((s5 _).same y6).upd npl.symm.symm,?_⟩
       intro b o e nb
       rw[upd_ne (ne_of_none e hp)]
       exact((X5 _).trans (Ext.same y6)) b o e nb
      ·exact⟨_,_,_,rs,ls,rfl,hp5 _,L5 _,F.skip,s5 _,X5 _⟩
   ·rintro σ H3 ⟨o5,o6,o7,rs,ls,rfl,hp3,L,F,s3,x3⟩
    exact⟨_,_,_,_,rs,ls,rfl,hp3,L,F.row,s3,x3⟩
  ·rintro σ H2 ⟨o4,o5,o6,o7,rs,ls,rfl,hp2,L,F,s2,x2⟩
   refine⟨_,rfl,_,rfl,p,_,rfl,.inl (SqL.of hp2),_,_,rfl,rfl,l,_,rfl,s2,by omega,fun d H3 a1 a2 s3 x3=>?_⟩
   obtain⟨n,rfl⟩:∃ n:Nat,d=n:=⟨d.toNat,by omega⟩
   have hp3:=x3 _ _ hp2 npl
   have L3:LnAt H3 rs ls:=⟨L.1,fun n r pr e1 e2=>by
      obtain⟨q,e,t⟩:=L.2 n r pr e1 e2
      exact⟨q,e,x3 _ _ t fun z=>by
       obtain⟨ns,e3,_⟩:=s2
       rw[z,e3] at t
       cases t⟩⟩
   refine⟨_,rfl,_,rfl,_,rfl,p,_,rfl,SqL.of hp3,fun q1 hq1=>?_⟩
   have y4:=Same.new (o:=HO.lst (cutV rs (some (n:Int)) none)) hq1
   refine⟨_,rfl,_,rfl,_,rfl,p,_,rfl,SqL.of (y4 _ _ hp3),fun q2 hq2=>?_⟩
   have y5:=Same.new (o:=HO.lst (cutV rs none (some (n:Int)))) hq2
   have hnl:n≤rs.length:=by omega
   have l66:=F.le
   have:=Vh hs.length l12
   have l1:=xa rs (some (n:Int)) none
   have l2:=xa rs none (some (n:Int))
   have lL:=L.1
   refine⟨q1,q2,_,_,rfl,rfl,y5 _ _ zd,zd,(Nat.le_of_lt (zr (by omega))),fun q hq=>?_⟩
   have y6:=Same.new (o:=HO.lst (cutV rs (some (n:Int)) none++cutV rs none (some (n:Int)))) hq
   have y456:=(y4.trans y5).trans y6
   refine k q (rs.drop n++rs.take n) (ls.drop n++ls.take n) _ ((((x1.trans x2).trans x3).trans (Ext.same (y4.trans y5))).free ((s3.same (y4.trans y5)).ne hq) hq) (by rw[zd,zal hnl,wT hnl]) (L3.same y456).cut (F.ls wh) (s3.same y456) ?_
   exact(x1.trans x2).trans (x3.trans (Ext.same y456))
end
end K04

namespace K04
open PySem L2
theorem LnAt.extX {l:Addr}{H H':Hp}{rs:List V}{ls:List (Int×Int)}(s:XsAt H l) (k:Ext l H H') (h:LnAt H rs ls):LnAt H' rs ls:=h.mono fun b xs e=>k b _ e fun z=>by
 obtain⟨ns,e3,_⟩:=s
 rw[z,e3] at e
 cases e
theorem Ext.fr {l:Addr}{H H' H2:Hp}(k:Ext l H' H2) (s:Same H H') (h:H l=none):Same H H2:=fun b o e=>k b o (s b o e) (ne_of_none e h)
theorem ziv {xs:List V}:cutV xs none (some 1)=xs.take 1:=by
 unfold cutV
 rw[show HT.sIx xs.length 0 none=0 from rfl,show HT.sIx xs.length xs.length (some 1)=min 1 xs.length from HT.sIx_nat _ _ 1,List.drop_zero,Nat.sub_zero]
 cases xs<;>simp
theorem Hs.sub {hs ss:List Int}(W:Hs hs) (h:ss.Sublist hs) (h1:1≤ss.length):Hs ss:=⟨h1,Nat.le_trans h.length_le W.l12,W.up.sublist h,fun x hx=>W.lo x (h.subset hx),fun x hx=>W.hi x (h.subset hx)⟩
section
variable {P:Program}{w:World}{K:PySem.W.Frag}{mg:Str→Option Value}{base:Heap}{a:Ad}
def WQ:Sp:=fun vs H Q _=>∃ (l h:Addr) (hs:List Int),vs=[.ref l,.ref h]∧XsAt H l∧H h=some (.lst (hs.map V.int))∧h≠l∧Hs hs ∧
 ∀ (p:Addr) (ss:List Int) (H':Hp),H p=none→H' p=some (.lst (ss.map V.int))→Hs ss→(∀ x∈ss,x∈hs)→XsAt H' l→Ext l H H'→Q (.ref p) H'
theorem VR (T:Txt w K mg a):FnOk P w K mg base CX0 2 a.f_qD a.d_qD ["_law_xs", "_law_hands_here"] WQ:=by
 have c_qv:Callee P w K mg base "_law_take" a.f_qv a.d_qv ["_law_xs", "_law_size"] 1 xv:=⟨yX T,T.g_qv,T.F_qv.kp,T.b_qv⟩
 refine T.F_qD.ok sc_qD (fun vs H Q E h=>?_) (fun cdv A outer s H vs Q E hr h=>?_)
 ·obtain⟨l,h,hs,rfl,_⟩:=h
  rfl
 ·obtain⟨l,h,hs,rfl,sl,hh,nhl,wh,k⟩:=h
  have l12:=wh.l12
  have un:∀ n:Nat,n≤3→(A.deeper (PyProof.Rows.envOfC "_law_part" (defScope uQ) s.heap.objs.size a.f_qD cdv)).units+n+2<cLine:=fun n hn=>by
   have:=hr.units
   omega
  refine zD (w_pss_cons (yB (i:=2) rfl sc_qD.nd rfl (Or.inl rfl) (N':=["_law_hand", "_law_xs"]) (t:=1) (caps:=[0]) ⟨rfl,rfl,rfl⟩ (zL (w_pv 1)) (fun _=>(zq (i:=0) (show(["_law_hand", "_law_xs"]:List Str).Nodup by decide +kernel) rfl (Or.inl rfl))) (fun _=>(Zg (w_pt_cmpR op_gt (zk c_qv (hr.mono (by omega)) (w_pa_N (w_pv 1) (zn ze w_pa_nil))) ze (zx _)))) (fun _=>(w_pv 0)))
   (yh (w_ps_if (w_pt_cmpR (W3 W1 W2) (w_pv 2) (zu w_pa_nil) (zx _))
    (zf (zl (i:=2) sc_qD.nd rfl (Or.inl rfl) (zB zX (w_pv 1) zJ (zF ze))))
    zm)
   (zf (zh (w_pv 2))))) ?_
  refine⟨_,rfl,h,rfl,⟨_,SqL.of hh⟩,fun D hD _=>?_⟩
  have nDl:=sl.ne hD
  refine yp (K:=K) (a:=h) (xs:=hs.map V.int) (fun j zs τ H'=>∃ (o:Option V) (ss:List Int),τ=[o,some (.ref l)]∧zs=ss.map V.int∧ss.Sublist (hs.take j)∧H' D=some (.lst zs)∧XsAt H' l∧Ext l H H') ?_ ?_ ?_ ?_
  ·exact⟨none,[],rfl,rfl,List.nil_sublist _,zd,sl.new hD,Ext.new hD⟩
  ·rintro j zs τ H' ⟨o,ss,_,_,_,_,_,x⟩
   exact SqL.of (x _ _ hh nhl)
  ·rintro j v zs τ H' hj ⟨o,ss,rfl,rfl,hss,hD',s',x'⟩
   rw[List.getElem?_map] at hj
   obtain⟨y,hy,rfl⟩:=Option.map_eq_some_iff.mp hj
   have tk:hs.take (j+1)=hs.take j++[y]:=by rw[List.take_add_one,hy];rfl
   have lss:=hss.length_le
   rw[List.length_take] at lss
   refine⟨_,rfl,l,4,rfl,s',by decide,fun d H2 d0 d1 s2 x2=>?_⟩
   have hD2:=x2 _ _ hD' nDl
   refine⟨_,_,rfl,rfl,_,rfl,?_⟩
   refine ite2 (fun _=>?_) (fun _=>?_)
   ·refine⟨_,rfl,hD2,by rw[List.length_map];exact zr (by omega),_,ss++[y],rfl,by simp,?_,zd,s2.upd nDl,?_⟩
    ·rw[tk]
     exact hss.append (List.Sublist.refl _)
    ·intro b o e nb
     rw[upd_ne (ne_of_none e hD)]
     exact(x'.trans x2) b o e nb
   ·refine⟨_,ss,rfl,rfl,?_,hD2,s2,x'.trans x2⟩
    rw[tk]
    exact hss.trans (List.sublist_append_left _ _)
  ·rintro zs τ H2 ⟨o,ss,rfl,rfl,hss,hD2,s2,x2⟩
   rw[List.length_map,List.take_length] at hss
   refine⟨fun σ' H'=>∃ (p:Addr) (ss:List Int),σ'=[some (.ref l),some (.ref h),some (.ref p)]∧H p=none∧H' p=some (.lst (ss.map V.int))∧Hs ss∧(∀ x∈ss,x∈hs)∧XsAt H' l∧Ext l H H',?_,?_⟩
   ·refine⟨_,rfl,(by show 0≤sizeLine;decide),fun e he=>?_⟩
    have se:=Same.new (o:=HO.lst []) he
    have he3:=zd (H:=H2) (a:=e) (o:=HO.lst [])
    generalize upd H2 e (HO.lst [])=H3 at *
    have x3:=x2.trans (Ext.same se)
    cases ss with
    |nil =>
     refine .inl ⟨D,e,_,_,fun _=>true,0,rfl,rfl,.inl ⟨SqL.of (se _ _ hD2),SqL.of he3⟩,rfl,un 0 (by omega),(fun j x y hx=>by cases hx),_,rfl,XA ?_⟩
     refine⟨_,rfl,_,rfl,h,_,rfl,SqL.of (x3 _ _ hh nhl),fun p hp=>?_⟩
     have l1:=wh.l1
     have sp:=Same.new (o:=HO.lst (cutV (hs.map V.int) none (some 1))) hp
     have hp0:H p=none:=by
      cases e':H p with
      |none=>rfl
      |some o=>have:=x3 _ _ e' ((s2.same se).ne hp);rw[hp] at this;cases this
     refine⟨p,hs.take 1,rfl,hp0,by rw[zd,ziv,List.map_take],wh.sub (List.take_sublist _ _) (by rw[List.length_take];omega),fun x hx=>List.mem_of_mem_take hx,(s2.same se).same sp,x3.trans (Ext.same sp)⟩
    |cons y ss =>
     refine .inr ⟨D,e,_,_,rfl,rfl,SqL.of (se _ _ hD2),SqL.of he3,(by simp),Nat.lt_of_le_of_lt (Nat.le_add_right _ 2) (un 0 (by omega)),_,rfl,yn rfl ?_⟩
     exact⟨D,y::ss,rfl,hD,se _ _ hD2,wh.sub hss (by simp),fun x hx=>hss.subset hx,s2.same se,x3⟩
   ·rintro σ' H3 ⟨p,ss,rfl,hp0,hp,ws,hsub,s3,x3⟩
    exact⟨_,rfl,k p ss H3 hp0 hp ws hsub s3 x3⟩
end
end K04

namespace K04
open PySem L2
def DrAt (H:Hp) (vs:List V) (ps:List Pc):Prop:=vs.length=ps.length∧∀ (i:Nat) v pc,vs[i]?=some v→ps[i]?=some pc→∃ pt h q rs,v=.ref pt∧H pt=some (.tup [.ref h,.ref q,.int (pc.m:Int)])∧H h=some (.lst (pc.hs.map V.int))∧H q=some (.lst rs)∧LnAt H rs pc.ls∧Hs pc.hs∧Ls pc.hs pc.ls
theorem DrAt.same {H H':Hp}{vs:List V}{ps:List Pc}(h:DrAt H vs ps) (s:Same H H'):DrAt H' vs ps:=⟨h.1,fun i v pc e1 e2=>by
 obtain⟨pt,h',q,rs,e,h1,h2,h3,h4,h5⟩:=h.2 i v pc e1 e2
 exact⟨pt,h',q,rs,e,s _ _ h1,s _ _ h2,s _ _ h3,h4.same s,h5⟩⟩
theorem DrAt.snoc {H:Hp}{vs:List V}{ps:List Pc}{pt h q:Addr}{rs:List V}{pc:Pc}(d:DrAt H vs ps) (h1:H pt=some (.tup [.ref h,.ref q,.int (pc.m:Int)])) (h2:H h=some (.lst (pc.hs.map V.int))) (h3:H q=some (.lst rs)) (h4:LnAt H rs pc.ls) (h5:Hs pc.hs) (h6:Ls pc.hs pc.ls):DrAt H (vs++[.ref pt]) (ps++[pc]):=by
 refine⟨by simp[d.1],fun i v c e1 e2=>?_⟩
 by_cases z:i<vs.length
 ·rw[List.getElem?_append_left z] at e1
  rw[List.getElem?_append_left (by rw[← d.1];exact z)] at e2
  exact d.2 i v c e1 e2
 ·have dl:=d.1
  rw[List.getElem?_append_right (by omega)] at e1
  rw[List.getElem?_append_right (by omega),← dl] at e2
  have:=(List.getElem?_eq_some_iff.mp e1).1
  rw[List.length_singleton] at this
  have z0:i-vs.length=0:=by omega
  rw[z0] at e1 e2
  cases e1;cases e2
  exact⟨pt,h,q,rs,rfl,h1,h2,h3,h4,h5,h6⟩
theorem zam {xs:List V}{lo hi:Option Int}{v:V}(h:v∈cutV xs lo hi):v∈xs:=List.mem_of_mem_drop (List.mem_of_mem_take h)
theorem WE {xs:List V}{k:Int}(h0:0≤k) (h:k<4):(cutV xs (some 2) (some (2+k))).length≤3:=by
 unfold cutV
 obtain⟨n,rfl⟩:∃ n:Nat,k=n:=⟨k.toNat,by omega⟩
 have e1:HT.sIx xs.length 0 (some 2)=min 2 xs.length:=HT.sIx_nat _ _ 2
 have e2:HT.sIx xs.length xs.length (some (2+(n:Int)))=min (2+n) xs.length:=by
  have:=HT.sIx_nat xs.length xs.length (2+n)
  rw[← this]
  congr 2
 rw[e1,e2,List.length_take]
 omega
section
variable {P:Program}{w:World}{K:PySem.W.Frag}{mg:Str→Option Value}{base:Heap}{a:Ad}
def zuM (K:PySem.W.Frag):Sp:=fun vs H Q _=>∃ (sc:Addr) (ns:List Int),vs=[.ref sc,.int 0,.int 8]∧SqL K H sc (ns.map V.int) ∧
 ∀ (q:Addr) (pvs:List V) (pc:Pc) (ps:List Pc) (H':Hp),H' q=some (.lst pvs)→DrAt H' pvs (pc::ps)→(∀ c∈pc::ps,(∀ x∈c.hs,x∈pc.hs)∧c.m≤3)→ps.length≤3→Same H H'→Q (.ref q) H'
theorem zmf {K:PySem.W.Frag}{H H':Hp}{a:Addr}{xs:List V}(h:SqL K H a xs) (s:Same H H'):SqL K H' a xs:=by
 rcases h with(h | ⟨o,h⟩) | h
 ·exact .inl (.inl (s _ _ h))
 ·exact .inl (.inr ⟨o,s _ _ h⟩)
 ·exact .inr h
theorem zm0 (T:Txt w K mg a):FnOk P w K mg base CX0 3 a.f_qE a.d_qE ["_law_script", "_law_at", "_law_most"] (zuM K):=by
 have c_qt:Callee P w K mg base "_law_cell_at" a.f_qt a.d_qt ["_law_script", "_law_k"] 1 (Yn K):=⟨YD T,T.g_qt,T.F_qt.kp,T.b_qt⟩
 have c_qu:Callee P w K mg base "_law_draws" a.f_qu a.d_qu ["_law_cell", "_law_many"] 1 wA:=⟨wJ T,T.g_qu,T.F_qu.kp,T.b_qu⟩
 have c_qw:Callee P w K mg base "_law_hands" a.f_qw a.d_qw ["_law_xs", "_law_most"] 2 zuR:=⟨zm5 T,T.g_qw,T.F_qw.kp,T.b_qw⟩
 have c_qx:Callee P w K mg base "_law_lines" a.f_qx a.d_qx ["_law_xs", "_law_hands_here"] 2 zuQ:=⟨zm4 T,T.g_qx,T.F_qx.kp,T.b_qx⟩
 have c_qv:Callee P w K mg base "_law_take" a.f_qv a.d_qv ["_law_xs", "_law_size"] 1 xv:=⟨yX T,T.g_qv,T.F_qv.kp,T.b_qv⟩
 have c_qD:Callee P w K mg base "_law_part" a.f_qD a.d_qD ["_law_xs", "_law_hands_here"] 2 WQ:=⟨VR T,T.g_qD,T.F_qD.kp,T.b_qD⟩
 refine T.F_qE.ok sc_qE (fun vs H Q E h=>?_) (fun cdv A outer s H vs Q E hr h=>?_)
 ·obtain⟨sc,ns,rfl,_⟩:=h
  rfl
 ·obtain⟨sc,ns,rfl,hS,k⟩:=h
  refine zD (w_pss_cons (zl (i:=3) sc_qE.nd rfl (Or.inl rfl) (zk c_qu (hr.mono (by omega)) (zy (zk c_qt (hr.mono (by omega)) (w_pa_N (w_pv 0) (w_pa_N (w_pv 1) w_pa_nil))) (zn ze w_pa_nil))))
   (w_pss_cons (zl (i:=4) sc_qE.nd rfl (Or.inl rfl) (zk c_qw (hr.mono (by omega)) (w_pa_N (w_pv 3) (w_pa_N (w_pv 2) w_pa_nil))))
   (w_pss_cons (zl (i:=5) sc_qE.nd rfl (Or.inl rfl) (zu (yQ (zA (w_pa_N (w_pv 4) (zy (zk c_qx (hr.mono (by omega)) (w_pa_N (w_pv 3) (w_pa_N (w_pv 4) w_pa_nil))) (zy (zk c_qv (hr.mono (by omega)) (w_pa_N (w_pv 3) (zn ze w_pa_nil))) w_pa_nil)))) w_pa_nil)))
   (w_pss_cons (ya PassesOwn.never rfl (zL (zB zX (w_pv 0) (zF (zj zV (w_pv 1) ze)) (zF (zj zV (zj zV (w_pv 1) ze) (zk c_qv (hr.mono (by omega)) (w_pa_N (w_pv 3) (zn ze w_pa_nil))))))) (zq (i:=6) sc_qE.nd rfl (Or.inl rfl))
    (w_pss_cons (zl (i:=7) sc_qE.nd rfl (Or.inl rfl) (zk c_qu (hr.mono (by omega)) (w_pa_N (w_pv 6) (zn ze w_pa_nil))))
    (w_pss_cons (zl (i:=8) sc_qE.nd rfl (Or.inl rfl) (zk c_qD (hr.mono (by omega)) (w_pa_N (w_pv 7) (w_pa_N (w_pv 4) w_pa_nil))))
    (zf (yb (yx PySem.F.plainAttrs_list PySem.F.slot_list_append PySem.F.type_list_append zS (w_pv 5) (yQ (zA (w_pa_N (w_pv 8) (zy (zk c_qx (hr.mono (by omega)) (w_pa_N (w_pv 7) (w_pa_N (w_pv 8) w_pa_nil))) (zy (zk c_qv (hr.mono (by omega)) (w_pa_N (w_pv 7) (zn ze w_pa_nil))) w_pa_nil)))) w_pa_nil)))))))
   (zf (zh (w_pv 5))))))) ?_
  refine⟨_,rfl,_,rfl,sc,ns,0,rfl,hS,by decide,fun c0=>?_⟩
  refine⟨c0,70,rfl,by decide,fun l H1 hl0 s1 y1=>?_⟩
  refine⟨_,rfl,_,rfl,l,rfl,s1,fun h hs H2 hh0 hh wh s2 x2=>?_⟩
  have hne:=s1.ne hh0
  refine⟨_,rfl,_,rfl,_,rfl,l,h,hs,rfl,s2,hh,hne,wh,fun q rs ls H3 hq0 hq L wl s3 x3=>?_⟩
  have nql:=s2.ne hq0
  refine⟨_,rfl,l,4,rfl,s3,by decide,fun m H4 m0 m1 s4 x4=>?_⟩
  have hh4:=x4 _ _ (x3 _ _ hh hne) hne
  have hq4:=x4 _ _ hq nql
  have L4:=L.extX s3 x4
  have S4:Same H H4:=(x2.trans (x3.trans x4)).fr y1 hl0
  refine⟨(by show 3≤sizeLine;decide),fun pt hpt=>⟨(by show 1≤sizeLine;decide),fun lp hlp=>?_⟩⟩
  obtain⟨m,rfl⟩:∃ j:Nat,m=j:=⟨m.toNat,by omega⟩
  have n5:=Same.new (o:=HO.tup [V.ref h,V.ref q,V.int (m:Int)]) hpt
  have n6:=Same.new (o:=HO.lst [V.ref pt]) hlp
  have n56:=n5.trans n6
  have npl:=s4.ne hpt
  have nll:=(s4.same n5).ne hlp
  have nhp:lp≠h:=fun z=>by rw[z,n5 _ _ hh4] at hlp;cases hlp
  have nqp:lp≠q:=fun z=>by rw[z,n5 _ _ hq4] at hlp;cases hlp
  have ntp:lp≠pt:=fun z=>by rw[z,zd] at hlp;cases hlp
  have hpt6:=n6 _ _ (zd (H:=H4) (a:=pt) (o:=HO.tup [V.ref h,V.ref q,V.int (m:Int)]))
  have hlp6:(upd (upd H4 pt (HO.tup [V.ref h,V.ref q,V.int (m:Int)])) lp (HO.lst [V.ref pt])) lp=some (.lst [V.ref pt]):=zd
  have flp:H lp=none:=(S4.trans n5).free hlp
  generalize upd (upd H4 pt (HO.tup [V.ref h,V.ref q,V.int (m:Int)])) lp (HO.lst [V.ref pt])=H6 at *
  have s6:=s4.same n56
  refine⟨_,rfl,_,rfl,_,_,rfl,rfl,_,rfl,_,rfl,_,_,rfl,rfl,_,rfl,l,4,rfl,s6,by decide,fun kk H7 k0 k1 s7 x7=>?_⟩
  have S7:Same H H7:=x7.fr (S4.trans n56) hl0
  refine⟨_,_,rfl,rfl,_,rfl,sc,_,rfl,zmf hS S7,fun sl hsl=>?_⟩
  rw[show(0:Int)+2=2 from rfl]
  have nsl:sl≠lp:=fun z=>by rw[z,x7 _ _ hlp6 nll] at hsl;cases hsl
  have n8:=Same.new (o:=HO.lst (cutV (ns.map V.int) (some 2) (some (2+kk)))) hsl
  refine⟨sl,rfl,⟨_,SqL.of zd⟩,?_⟩
  have hh8:=n8 _ _ (x7 _ _ (n56 _ _ hh4) hne)
  have hq8:=n8 _ _ (x7 _ _ (n56 _ _ hq4) nql)
  have hpt8:=n8 _ _ (x7 _ _ hpt6 npl)
  have hlp8:=n8 _ _ (x7 _ _ hlp6 nll)
  have L8:=((L4.same n56).extX s6 x7).same n8
  have S8:=S7.trans n8
  have hsl8:=zd (H:=H7) (a:=sl) (o:=HO.lst (cutV (ns.map V.int) (some 2) (some (2+kk))))
  have few:=WE (xs:=ns.map V.int) k0 k1
  generalize upd H7 sl (HO.lst (cutV (ns.map V.int) (some 2) (some (2+kk))))=H8 at *
  have hL:∀ {G:Hp}{zs:List V}{b:List (Int×Int)}{us:List V},G lp=some (.lst us)→LnAt G zs b→LnAt (hide [lp] G) zs b:=fun e h=>h.mono fun b xs e'=>yo (fun z=>by rw[List.mem_singleton.mp z,e] at e';cases e') e'
  have hide1:∀ {G:Hp}{b:Addr}{o:HO},lp≠b→G b=some o→hide [lp] G b=some o:=fun n e=>yo (fun z=>n (List.mem_singleton.mp z).symm) e
  refine yg (xs:=cutV (ns.map V.int) (some 2) (some (2+kk))) (fun i σ H'=>∃ (o6 o7 o8:Option V) (pvs:List V) (ps:List Pc),σ=[some (.ref sc),some (.int 0),some (.int 8),some (.ref l),some (.ref h),some (.ref lp),o6,o7,o8]∧H' lp=some (.lst pvs)∧DrAt (hide [lp] H') pvs (⟨hs,ls,m⟩::ps)∧(∀ c∈(⟨hs,ls,m⟩:Pc)::ps,(∀ x∈c.hs,x∈hs)∧c.m≤3)∧ps.length=i∧H' h=some (.lst (hs.map V.int))∧H' sl=some (.lst (cutV (ns.map V.int) (some 2) (some (2+kk))))∧Same H H') ?_ ?_ ?_ ?_
  ·refine⟨none,none,none,[.ref pt],[],rfl,hlp8,?_,fun c hc=>?_,rfl,hh8,hsl8,S8⟩
   ·exact DrAt.snoc (vs:=[]) (ps:=[]) (pc:=⟨hs,ls,m⟩) ⟨rfl,fun i v c e=>by cases e⟩ (hide1 ntp hpt8) (hide1 nhp hh8) (hide1 nqp hq8) (hL hlp8 L8) wh wl
   ·rw[List.mem_singleton.mp hc]
    exact⟨fun x hx=>hx,by show m≤3;omega⟩
  ·rintro i σ H' hi ⟨o6,o7,o8,pvs,ps,_,_,_,_,_,_,e,_⟩
   exact SqL.of e
  ·rintro i v σ H' hi ⟨o6,o7,o8,pvs,ps,rfl,hlp',D,hc,lps,hh',hsl',S'⟩
   have hil:=(List.getElem?_eq_some_iff.mp hi).1
   obtain⟨c,_,rfl⟩:=List.mem_map.mp (zam (List.mem_of_getElem? hi))
   refine⟨_,rfl,c,60,rfl,by decide,fun l2 G1 hl2 t1 y1'=>?_⟩
   have nhl2:h≠l2:=ne_of_none hh' hl2
   have nll2:lp≠l2:=ne_of_none hlp' hl2
   refine⟨_,rfl,_,rfl,l2,h,hs,rfl,t1,y1' _ _ hh',nhl2,wh,fun p ss G2 hp0 hp wss hsub t2 z2=>?_⟩
   have npl2:=t1.ne hp0
   refine⟨_,rfl,.inl ⟨rfl,_,SqL.of (z2 _ _ (y1' _ _ hlp') nll2)⟩,_,rfl,_,rfl,_,rfl,l2,p,ss,rfl,t2,hp,npl2,wss,fun q2 rs2 ls2 G3 hq20 hq2 L2' wl2 t3 z3=>?_⟩
   have nql2:=t2.ne hq20
   refine⟨_,rfl,l2,4,rfl,t3,by decide,fun m2 G4 a0 a1 t4 z4=>?_⟩
   obtain⟨m2,rfl⟩:∃ j:Nat,m2=j:=⟨m2.toNat,by omega⟩
   have SG:Same H' G4:=(z2.trans (z3.trans z4)).fr y1' hl2
   refine⟨(by show 3≤sizeLine;decide),fun pt2 hpt2=>?_⟩
   have n5':=Same.new (o:=HO.tup [V.ref p,V.ref q2,V.int (m2:Int)]) hpt2
   have S5:=SG.trans n5'
   have nlp:lp≠p:=fun z=>by rw[← z,y1' _ _ hlp'] at hp0;cases hp0
   have nlq:lp≠q2:=fun z=>by rw[← z,z2 _ _ (y1' _ _ hlp') nll2] at hq20;cases hq20
   have nlt:lp≠pt2:=fun z=>by rw[← z,SG _ _ hlp'] at hpt2;cases hpt2
   have hp5:=n5' _ _ (z4 _ _ (z3 _ _ hp npl2) npl2)
   have hq5:=n5' _ _ (z4 _ _ hq2 nql2)
   have L5:=(L2'.extX t3 z4).same n5'
   have hpt5:=zd (H:=G4) (a:=pt2) (o:=HO.tup [V.ref p,V.ref q2,V.int (m2:Int)])
   generalize upd G4 pt2 (HO.tup [V.ref p,V.ref q2,V.int (m2:Int)])=G5 at *
   have lpv:=D.1
   rw[List.length_cons] at lpv
   refine⟨lp,_,_,rfl,rfl,S5 _ _ hlp',zr (by omega),?_⟩
   have U:Same (hide [lp] G5) (hide [lp] (upd G5 lp (HO.lst (pvs++[V.ref pt2])))):=xk (by simp)
   refine⟨_,_,_,pvs++[V.ref pt2],ps++[⟨ss,ls2,m2⟩],rfl,zd,?_,fun c' hc'=>?_,by simp[lps],?_,?_,Same.updF (S'.trans S5) flp⟩
   ·exact(((D.same (yI S5)).snoc (pc:=⟨ss,ls2,m2⟩) (hide1 nlt hpt5) (hide1 nlp hp5) (hide1 nlq hq5) (hL (S5 _ _ hlp') L5) wss wl2)).same U
   ·rw[← List.cons_append] at hc'
    rcases List.mem_append.mp hc' with z | z
    ·exact hc c' z
    ·rw[List.mem_singleton.mp z]
     exact⟨hsub,by show m2≤3;omega⟩
   ·rw[upd_ne nhp.symm]
    exact S5 _ _ hh'
   ·rw[upd_ne nsl]
    exact S5 _ _ hsl'
  ·rintro σ H' ⟨o6,o7,o8,pvs,ps,rfl,hlp',D,hc,lps,hh',hsl',S'⟩
   exact⟨_,rfl,k lp pvs ⟨hs,ls,m⟩ ps H' hlp' (D.same hide_sub) hc (by omega) S'⟩
end
end K04

namespace K04
open PySem L2
theorem PcAt.app {a:Ad}{H:Hp}{vs us:List V}{ps qs:List Pc}(h1:PcAt a H vs ps) (h2:PcAt a H us qs):PcAt a H (vs++us) (ps++qs):=by
 have l1:=h1.1
 refine⟨by rw[List.length_append,List.length_append,h1.1,h2.1],fun i v c e1 e2=>?_⟩
 by_cases z:i<vs.length
 ·rw[List.getElem?_append_left z] at e1
  rw[List.getElem?_append_left (by omega)] at e2
  exact h1.2 i v c e1 e2
 ·rw[List.getElem?_append_right (by omega)] at e1
  rw[List.getElem?_append_right (by omega),← l1] at e2
  exact h2.2 _ v c e1 e2
theorem PcAt.take {a:Ad}{H:Hp}{vs:List V}{ps:List Pc}{n:Nat}(h:PcAt a H vs ps):PcAt a H (vs.take n) (ps.take n):=by
 refine⟨by rw[List.length_take,List.length_take,h.1],fun i v c e1 e2=>?_⟩
 rw[List.getElem?_take] at e1 e2
 split at e1
 ·rw[if_pos ‹_›] at e2
  exact h.2 i v c e1 e2
 ·cases e1
theorem PcAt.drop {a:Ad}{H:Hp}{vs:List V}{ps:List Pc}{n:Nat}(h:PcAt a H vs ps):PcAt a H (vs.drop n) (ps.drop n):=by
 refine⟨by rw[List.length_drop,List.length_drop,h.1],fun i v c e1 e2=>?_⟩
 rw[List.getElem?_drop] at e1 e2
 exact h.2 _ v c e1 e2
section
variable {P:Program}{w:World}{K:PySem.W.Frag}{mg:Str→Option Value}{base:Heap}{a:Ad}
def WT (a:Ad):Sp:=fun vs H Q _=>∃ (lp:Addr) (pvs:List V) (pc:Pc) (ps:List Pc) (r:V) (e1 e2 e3 e4:Ex),vs=[.ref lp,r]∧H lp=some (.lst pvs)∧PcAt a H pvs (pc::ps)∧ProgAt a H e1 e2 e3 e4 r∧(∀ c∈pc::ps,∀ x∈c.hs,x∈pc.hs)∧(rdsOf (pc::ps)).length≤100 ∧
 ∀ q pw pg ws gs ws' gs' H',Same H H'→H' q=some (.tup [.ref pw,.ref pg])→H' pw=some (.lst (ws.map V.ref))→H' pg=some (.lst (gs'.map V.ref))→RnP H' e2 e3 e4 (w0 pc.hs pc.ls e1) pc.hs (rdsOf (pc::ps)) ws gs→RnP H' e2 e3 e4 (w0 pc.hs pc.ls e1) pc.hs (rdsOf (pc::ps)) ws' gs'→Q (.ref q) H'
theorem VX (T:Txt w K mg a):FnOk P w K mg base CX0 14 a.f_qF a.d_qF ["_law_pieces_here", "_law_program_here"] (WT a):=by
 have c_qe:Callee P w K mg base "worths_by_pieces" a.f_qe a.d_qe ["pieces", "program"] 13 (Vk a):=⟨W4 T,T.g_qe,T.F_qe.kp,T.b_qe⟩
 have c_qf:Callee P w K mg base "heard_by_pieces" a.f_qf a.d_qf ["pieces", "program"] 13 (Vm a):=⟨W5 T,T.g_qf,T.F_qf.kp,T.b_qf⟩
 refine T.F_qF.ok zmL (fun vs H Q E h=>?_) (fun cdv A outer s H vs Q E hr h=>?_)
 ·obtain⟨lp,pvs,pc,ps,r,e1,e2,e3,e4,rfl,_⟩:=h
  rfl
 ·obtain⟨lp,pvs,pc,ps,r,e1,e2,e3,e4,rfl,hlp,hPc,hP,hs,hn,k⟩:=h
  refine zD (zf (zh (zA (zy (zk c_qe (hr.mono (by omega)) (w_pa_N (w_pv 0) (w_pa_N (w_pv 1) w_pa_nil))) (zy (zk c_qf (hr.mono (by omega)) (w_pa_N (w_pv 0) (w_pa_N (w_pv 1) w_pa_nil))) w_pa_nil))))) ?_
  refine⟨_,rfl,_,rfl,lp,pvs,pc,ps,r,e1,e2,e3,e4,rfl,hlp,hPc,hP,hs,hn,fun pw ws gs H1 s1 h1 R1=>?_⟩
  refine⟨_,rfl,_,rfl,lp,pvs,pc,ps,r,e1,e2,e3,e4,rfl,s1 _ _ hlp,hPc.same s1,ProgAt.same s1 hP,hs,hn,fun pg ws' gs' H2 s2 h2 R2=>?_⟩
  refine⟨(by show 2≤sizeLine;decide),fun q hq=>?_⟩
  have n3:=Same.new (o:=HO.tup [V.ref pw,V.ref pg]) hq
  have s23:=s2.trans n3
  exact k q pw pg ws gs ws' gs' _ (s1.trans s23) zd (s23 _ _ h1) (n3 _ _ h2) (R1.same s23) (R2.same n3)
def WS (a:Ad):Sp:=fun vs H Q _=>∃ (lp:Addr) (pvs:List V) (ps:List Pc) (i:Nat) (mm:Int) (c:Pc),vs=[.ref lp,.int (i:Int),.int mm]∧H lp=some (.lst pvs)∧PcAt a H pvs ps∧ps[i]?=some c∧ps.length≤100 ∧
 ∀ q pvs' (d:Nat) H',d≤c.m→H' q=some (.lst pvs')→PcAt a H' pvs' ((ps.take i++[⟨c.hs,c.ls,d⟩,⟨c.hs,c.ls,c.m-d⟩])++ps.drop (i+1))→Same H H'→Q (.ref q) H'
theorem zgp (T:Txt w K mg a):FnOk P w K mg base CX0 1 a.f_qG a.d_qG ["_law_pieces_here", "_law_at", "_law_many"] (WS a):=by
 refine T.F_qG.ok sc_qG (fun vs H Q E h=>?_) (fun cdv A outer s H vs Q E hr h=>?_)
 ·obtain⟨lp,pvs,ps,i,mm,c,rfl,_⟩:=h
  rfl
 ·obtain⟨lp,pvs,ps,i,mm,c,rfl,hlp,hPc,hc,hn,k⟩:=h
  have hil:=(List.getElem?_eq_some_iff.mp hc).1
  have lpv:=hPc.1
  have gv:=List.getElem?_eq_getElem (l:=pvs) (i:=i) (by omega)
  obtain⟨pt,p,ev,hpt,W⟩:=hPc.2 i _ c gv hc
  rw[ev] at gv
  refine zD (w_pss_cons (xA (zw zM (w_pv 0) (w_pv 1) (fun _ _=>rfl)) (yL rfl (zH (zq (i:=3) sc_qG.nd rfl (Or.inl rfl)) (zH (zq (i:=4) sc_qG.nd rfl (Or.inl rfl)) yv))))
   (w_pss_cons (zl (i:=5) sc_qG.nd rfl (Or.inl rfl) (zj yV (w_pv 2) (zj zV (w_pv 4) ze)))
   (zf (zh (zj yr (zj yr (zB zX (w_pv 0) zJ (zF (w_pv 1))) (zu (yQ (zA (w_pa_N (w_pv 3) (w_pa_N (w_pv 5) w_pa_nil))) (yQ (zA (w_pa_N (w_pv 3) (yc (zj ye (w_pv 4) (w_pv 5)) w_pa_nil))) w_pa_nil)))) (zB zX (w_pv 0) (zF (zj zV (w_pv 1) ze)) zJ)))))) ?_
  refine⟨_,rfl,_,rfl,lp,_,_,_,rfl,rfl,SqL.of hlp,xb gv,pt,_,rfl,SqT.of hpt,rfl,_,_,rfl,_,_,rfl,rfl,?_⟩
  have pos:(0:Int)<(c.m:Int)+1:=by omega
  refine⟨_,rfl,_,rfl,_,_,rfl,rfl,_,_,rfl,rfl,pos,?_⟩
  have d0:=Int.emod_nonneg mm (Int.ne_of_gt pos)
  have d1:=Int.emod_lt_of_pos mm pos
  obtain⟨d,hd⟩:∃ j:Nat,mm%((c.m:Int)+1)=j:=⟨(mm%((c.m:Int)+1)).toNat,by omega⟩
  refine⟨_,rfl,_,rfl,_,rfl,lp,_,rfl,SqL.of hlp,fun q1 hq1=>?_⟩
  have n1:=Same.new (o:=HO.lst (cutV pvs none (some (i:Int)))) hq1
  refine⟨_,rfl,_,rfl,(by show 2≤sizeLine;decide),fun t1 ht1=>?_⟩
  have n2:=Same.new (o:=HO.tup [V.ref p,V.int (mm%((c.m:Int)+1))]) ht1
  refine⟨_,rfl,_,rfl,_,rfl,_,_,rfl,rfl,(by show 2≤sizeLine;decide),fun t2 ht2=>?_⟩
  have n3:=Same.new (o:=HO.tup [V.ref p,V.int ((c.m:Int)-mm%((c.m:Int)+1))]) ht2
  refine⟨(by show 2≤sizeLine;decide),fun q2 hq2=>?_⟩
  have n4:=Same.new (o:=HO.lst [V.ref t1,V.ref t2]) hq2
  have n24:=n2.trans (n3.trans n4)
  have n14:=n1.trans n24
  have ht1':=(n3.trans n4) _ _ (zd (H:=upd H q1 (HO.lst (cutV pvs none (some (i:Int))))) (a:=t1) (o:=HO.tup [V.ref p,V.int (mm%((c.m:Int)+1))]))
  have ht2':=n4 _ _ (zd (H:=upd (upd H q1 (HO.lst (cutV pvs none (some (i:Int))))) t1 (HO.tup [V.ref p,V.int (mm%((c.m:Int)+1))])) (a:=t2) (o:=HO.tup [V.ref p,V.int ((c.m:Int)-mm%((c.m:Int)+1))]))
  have hq1':=n24 _ _ (zd (H:=H) (a:=q1) (o:=HO.lst (cutV pvs none (some (i:Int)))))
  have hq2':=zd (H:=upd (upd (upd H q1 (HO.lst (cutV pvs none (some (i:Int))))) t1 (HO.tup [V.ref p,V.int (mm%((c.m:Int)+1))])) t2 (HO.tup [V.ref p,V.int ((c.m:Int)-mm%((c.m:Int)+1))])) (a:=q2) (o:=HO.lst [V.ref t1,V.ref t2])
  generalize upd (upd (upd (upd H q1 (HO.lst (cutV pvs none (some (i:Int))))) t1 (HO.tup [V.ref p,V.int (mm%((c.m:Int)+1))])) t2 (HO.tup [V.ref p,V.int ((c.m:Int)-mm%((c.m:Int)+1))])) q2 (HO.lst [V.ref t1,V.ref t2])=H4 at *
  rw[hd] at ht1' ht2'
  have ec:cutV pvs none (some (i:Int))=pvs.take i:=wT (by omega)
  have ed:cutV pvs (some ((i:Int)+1)) none=pvs.drop (i+1):=zal (n:=i+1) (by omega)
  rw[ec] at hq1'
  refine⟨q1,q2,_,_,rfl,rfl,hq1',hq2',Nat.le_of_lt (zr (by simp;omega)),fun q3 hq3=>?_⟩
  have n5:=Same.new (o:=HO.lst (pvs.take i++[V.ref t1,V.ref t2])) hq3
  have n15:=n14.trans n5
  have hq3':=zd (H:=H4) (a:=q3) (o:=HO.lst (pvs.take i++[V.ref t1,V.ref t2]))
  generalize upd H4 q3 (HO.lst (pvs.take i++[V.ref t1,V.ref t2]))=H5 at *
  refine⟨_,rfl,_,rfl,_,_,rfl,rfl,_,rfl,lp,_,rfl,SqL.of (n15 _ _ hlp),fun q4 hq4=>?_⟩
  have n6:=Same.new (o:=HO.lst (cutV pvs (some ((i:Int)+1)) none)) hq4
  have hq4':=zd (H:=H5) (a:=q4) (o:=HO.lst (cutV pvs (some ((i:Int)+1)) none))
  generalize upd H5 q4 (HO.lst (cutV pvs (some ((i:Int)+1)) none))=H6 at *
  rw[ed] at hq4'
  refine⟨q3,q4,_,_,rfl,rfl,n6 _ _ hq3',hq4',Nat.le_of_lt (zr (by simp;omega)),fun q5 hq5=>?_⟩
  have n7:=Same.new (o:=HO.lst ((pvs.take i++[V.ref t1,V.ref t2])++pvs.drop (i+1))) hq5
  have n57:=n5.trans (n6.trans n7)
  have n17:=n14.trans n57
  have two:PcAt a (upd H6 q5 (HO.lst ((pvs.take i++[V.ref t1,V.ref t2])++pvs.drop (i+1)))) [V.ref t1,V.ref t2] [⟨c.hs,c.ls,d⟩,⟨c.hs,c.ls,c.m-d⟩]:=by
   refine⟨rfl,fun j v c' z1 z2=>?_⟩
   rcases j with _ | _ | j
   ·cases z1;cases z2
    exact⟨t1,p,rfl,n57 _ _ ht1',W.same n17⟩
   ·cases z1;cases z2
    refine⟨t2,p,rfl,?_,W.same n17⟩
    rw[n57 _ _ ht2']
    congr 5
    show(c.m:Int)-(d:Int)=((c.m-d:Nat):Int)
    omega
   ·cases z1
  exact k q5 _ d _ (by omega) zd (((hPc.same n17).take.app two).app (hPc.same n17).drop) n17
end
end K04

namespace K04
open PySem L2
theorem Zn {K:PySem.W.Frag}{H:Hp}{a b:Addr}{x y:Int}{n:Nat}(ha:H a=some (.tup [.int x,.int y])) (hb:H b=some (.tup [.int x,.int y])):EqD K H (.ref a) (.ref b) true (n+1):=by
 by_cases hne:a=b
 ·subst hne;exact .same
 ·have:=EqD.tup (K:=K) (e:=fun _=>true) (n:=n) hne (SqT.of ha) (SqT.of hb) rfl fun j u v e1 e2=>by
   rw[e1] at e2;cases e2
   have:u∈[V.int x,V.int y]:=List.mem_of_getElem? e1
   simp only[List.mem_cons,List.not_mem_nil,or_false] at this
   rcases this with rfl | rfl
   ·exact xZ rfl
   ·exact xZ rfl
  have e:((List.range [V.int x,V.int y].length).all fun _=>true)=true:=by simp
  rw[e] at this
  exact this
theorem LnAt.eqD {K:PySem.W.Frag}{H:Hp}{rs zs:List V}{ls:List (Int×Int)}{n:Nat}(h1:LnAt H rs ls) (h2:LnAt H zs ls):∀ (j:Nat) x y,rs[j]?=some x→zs[j]?=some y→EqD K H x y ((fun _=>true) j) (n+1):=fun j x y e1 e2=>by
 obtain⟨p,q,hp,rfl,hq⟩:=h1.get e1
 obtain⟨p',q',hp',rfl,hq'⟩:=h2.get e2
 rw[hp] at hp'
 cases hp'
 exact Zn hq hq'
theorem WK {ad:Int→Addr}{us:List Int}{p:Key×V}(h:p∈tab ad us):∃ x∈us,p=(Sum.inl x,V.ref (ad x)):=by
 unfold tab at h
 obtain⟨x,hx,e⟩:=List.mem_map.mp h
 exact⟨x,hx,e.symm⟩
theorem Zp {f:Int→Int}{us:List Int}{p:Key×V}(h:p∈tabI f us):∃ x∈us,p=(Sum.inl x,V.int (f x)):=by
 unfold tabI at h
 obtain⟨x,hx,e⟩:=List.mem_map.mp h
 exact⟨x,hx,e.symm⟩
section
variable {X:Cx}
theorem EqP.mono {H:Hp}{x y:V}{b:Bool}{n m:Nat}(h:EqP X H x y b n) (l:n≤m):EqP X H x y b m:=fun pins σ s I A u v hu=>h pins σ s I A u v (by omega)
theorem zit {H:Hp}{q q':Addr}{f:Int→Int}{hs:List Int}(h1:H q=some (.dK (tabI f hs))) (h2:H q'=some (.dK (tabI f hs))):EqP X H (.ref q) (.ref q') true 2:=by
 have i:∀ p∈tabI f hs,∃ i,p.1=Sum.inl i:=fun p hp=>by
  obtain⟨x,_,rfl⟩:=Zp hp
  exact⟨x,rfl⟩
 refine EqP.dct h1 h2 rfl i i fun p hp=>?_
 obtain⟨x,hx,rfl⟩:=Zp hp
 exact⟨_,vP hx,EqP.of (xZ rfl)⟩
theorem zn4 {H:Hp}{q q':Addr}{ad ad':Int→Addr}{g:Int→List (Int×Int)}{hs:List Int}(h1:HrAt H q ad hs g) (h2:HrAt H q' ad' hs g):EqP X H (.ref q) (.ref q') true 6:=by
 have i:∀ ad p,p∈tab ad hs→∃ i,p.1=Sum.inl i:=fun ad p hp=>by
  obtain⟨x,_,rfl⟩:=WK hp
  exact⟨x,rfl⟩
 refine EqP.dct h1.q h2.q (by unfold tab;rw[List.length_map,List.length_map]) (i ad) (i ad') fun p hp=>?_
 obtain⟨x,hx,rfl⟩:=WK hp
 obtain⟨rs,e1,l1,_⟩:=h1.at_ x hx
 obtain⟨zs,e2,l2,_⟩:=h2.at_ x hx
 exact⟨_,Zo hx,EqP.lst (SqL.of e1) (SqL.of e2) (l1.1.trans l2.1.symm) fun j u v z1 z2=>EqP.of (LnAt.eqD (n:=1) l1 l2 j u v z1 z2)⟩
variable {H:Hp}{e2 e3 e4:Ex}{f0:Int→Int}{hs0:List Int}{rds rds':List Rd}{ws gs ws' gs':List Addr}
theorem RnP.eqw (R:RnP H e2 e3 e4 f0 hs0 rds ws gs) (R':RnP H e2 e3 e4 f0 hs0 rds' ws' gs'){k:Nat}(hk:∀ i,i<k→rds[i]?=rds'[i]?){j:Nat}(hj:j≤k) (hl:j≤rds.length){u v:Addr}(h1:ws[j]?=some u) (h2:ws'[j]?=some v):EqP X H (.ref u) (.ref v) true 2:=by
 cases j with
 |zero=>exact zit (R.z u h1) (R'.z v h2)
 |succ j =>
  have g1:=List.getElem?_eq_getElem (l:=rds) (i:=j) (by omega)
  have g2:=(hk j (by omega)).symm.trans g1
  have a:=R.w j u _ h1 g1
  have b:=R'.w j v _ h2 g2
  rw[WI j fun i hi=>hk i (by omega)] at a
  exact zit a b
theorem RnP.eqg (R:RnP H e2 e3 e4 f0 hs0 rds ws gs) (R':RnP H e2 e3 e4 f0 hs0 rds' ws' gs'){k:Nat}(hk:∀ i,i<k→rds[i]?=rds'[i]?){j:Nat}(hj:j<k) (hl:j<rds.length){u v:Addr}(h1:gs[j]?=some u) (h2:gs'[j]?=some v):EqP X H (.ref u) (.ref v) true 6:=by
 have g1:=List.getElem?_eq_getElem (l:=rds) (i:=j) hl
 have g2:=(hk j hj).symm.trans g1
 obtain⟨a1,a⟩:=R.g j u _ h1 g1
 obtain⟨b1,b⟩:=R'.g j v _ h2 g2
 rw[WI j fun i hi=>hk i (by omega)] at a
 exact zn4 a b
theorem RnP.itw (R:RnP H e2 e3 e4 f0 hs0 rds ws gs) (R':RnP H e2 e3 e4 f0 hs0 rds' ws' gs') (h:∀ i,i<rds.length→rds[i]?=rds'[i]?):∀ (j:Nat) x y,(ws.map V.ref)[j]?=some x→((ws'.map V.ref).take (rds.length+1))[j]?=some y→EqP X H x y true 2:=fun j x y e1 e2=>by
 rw[List.getElem?_map] at e1
 obtain⟨u,h1,rfl⟩:=Option.map_eq_some_iff.mp e1
 rw[List.getElem?_take] at e2
 split at e2
 ·rw[List.getElem?_map] at e2
  obtain⟨v,h2,rfl⟩:=Option.map_eq_some_iff.mp e2
  exact R.eqw R' h (by omega) (by omega) h1 h2
 ·cases e2
theorem RnP.itg (R:RnP H e2 e3 e4 f0 hs0 rds ws gs) (R':RnP H e2 e3 e4 f0 hs0 rds' ws' gs') (h:∀ i,i<rds.length→rds[i]?=rds'[i]?):∀ (j:Nat) x y,(gs.map V.ref)[j]?=some x→((gs'.map V.ref).take rds.length)[j]?=some y→EqP X H x y true 6:=fun j x y e1 e2=>by
 rw[List.getElem?_map] at e1
 obtain⟨u,h1,rfl⟩:=Option.map_eq_some_iff.mp e1
 rw[List.getElem?_take] at e2
 split at e2
 ·rw[List.getElem?_map] at e2
  obtain⟨v,h2,rfl⟩:=Option.map_eq_some_iff.mp e2
  exact R.eqg R' h ‹_› ‹_› h1 h2
 ·cases e2
theorem RnP.lstw (R:RnP H e2 e3 e4 f0 hs0 rds ws gs) (R':RnP H e2 e3 e4 f0 hs0 rds' ws' gs') (h:∀ i,i<rds.length→rds[i]?=rds'[i]?) (hl:rds.length≤rds'.length){p q:Addr}(hp:H p=some (.lst (ws.map V.ref))) (hq:H q=some (.lst ((ws'.map V.ref).take (rds.length+1)))):EqP X H (.ref p) (.ref q) true 8 :=
 K04.EqP.mono (EqP.lst (SqL.of hp) (SqL.of hq) (by rw[List.length_take,List.length_map,List.length_map,R.lw,R'.lw];omega) (R.itw R' h)) (by decide)
theorem RnP.lstg (R:RnP H e2 e3 e4 f0 hs0 rds ws gs) (R':RnP H e2 e3 e4 f0 hs0 rds' ws' gs') (h:∀ i,i<rds.length→rds[i]?=rds'[i]?) (hl:rds.length≤rds'.length){p q:Addr}(hp:H p=some (.lst (gs.map V.ref))) (hq:H q=some (.lst ((gs'.map V.ref).take rds.length))):EqP X H (.ref p) (.ref q) true 8 :=
 EqP.lst (SqL.of hp) (SqL.of hq) (by rw[List.length_take,List.length_map,List.length_map,R.lg,R'.lg];omega) (R.itg R' h)
theorem RnP.all (R:RnP H e2 e3 e4 f0 hs0 rds ws gs):(ws.map V.ref).take (rds.length+1)=ws.map V.ref∧(gs.map V.ref).take rds.length=gs.map V.ref:=⟨List.take_of_length_le (by rw[List.length_map,R.lw];omega),List.take_of_length_le (by rw[List.length_map,R.lg];omega)⟩
end
theorem yE {ps qs:List Pc}:rdsOf (ps++qs)=rdsOf ps++rdsOf qs:=List.flatMap_append
theorem yN {p:Pc}{ps:List Pc}:rdsOf (p::ps)=List.replicate p.m (p.hs,p.ls)++rdsOf ps:=rfl
theorem Vs {ps:List Pc}{i d:Nat}{c:Pc}(h:ps[i]?=some c) (hd:d≤c.m):rdsOf ((ps.take i++[⟨c.hs,c.ls,d⟩,⟨c.hs,c.ls,c.m-d⟩])++ps.drop (i+1))=rdsOf ps:=by
 obtain⟨hi,hc⟩:=List.getElem?_eq_some_iff.mp h
 have e:ps=ps.take i++c::ps.drop (i+1):=by rw[← hc,List.getElem_cons_drop,List.take_append_drop]
 conv=>rhs;rw[e]
 rw[yE,yE,yE,yN,yN,yN,← List.append_assoc,List.append_assoc (rdsOf _),show rdsOf []=[] from rfl,List.append_nil]
 rw[List.replicate_append_replicate,show d+(c.m-d)=c.m by omega]
 simp
theorem XR {ps:List Pc}{i:Nat}{c:Pc}:rdsOf ((ps.take i++[⟨c.hs,c.ls,0⟩])++ps.drop i)=rdsOf ps:=by
 rw[yE,yE,show rdsOf [⟨c.hs,c.ls,0⟩]=[] from rfl,List.append_nil,← yE,List.take_append_drop]
theorem Vr {ps:List Pc}(h:∀ c∈ps,c.m≤3):(rdsOf ps).length≤3*ps.length:=by
 induction ps with
 |nil=>simp[rdsOf]
 |cons p ps ih =>
  rw[yN,List.length_append,List.length_replicate,List.length_cons]
  have:=ih fun c hc=>h c (List.mem_cons_of_mem _ hc)
  have:=h p List.mem_cons_self
  omega
end K04

namespace K04
open PySem L2
theorem zaw {τ:St}{H:Hp}{A B:Hp→Prop}(h:A H):ziB τ H (fun b H5=>if b=true then A H5 else B H5):=by
 show(if true=true then A H else B H)
 rw[if_pos rfl]
 exact h
theorem WebAt.hide {a:Ad}{H:Hp}{p dx oh ol d l:Addr}{hs:List Int}{ls:List (Int×Int)}{ad:Int→Addr}(w:WebAt a H p hs ls dx oh ol d ad) (n1:l≠p) (n2:l≠oh) (n3:l≠d) (n4:∀ x∈hs,l≠ad x):WebAt a (hide [l] H) p hs ls dx oh ol d ad:=by
 have h1:∀ {b:Addr}{o:HO},l≠b→H b=some o→K04.hide [l] H b=some o:=fun n e=>yo (fun z=>n (List.mem_singleton.mp z).symm) e
 exact⟨h1 n1 w.p,h1 n2 w.oh,h1 n3 w.nr.d,fun x hx=>h1 (n4 x hx) (w.nr.nb x hx)⟩
section
variable {X:Cx}{H:Hp}{e2 e3 e4:Ex}{f0:Int→Int}{hs0:List Int}{rds:List Rd}{ws gs ws' gs':List Addr}
theorem RnP.samew (R:RnP H e2 e3 e4 f0 hs0 rds ws gs) (R':RnP H e2 e3 e4 f0 hs0 rds ws' gs'){p q:Addr}(hp:H p=some (.lst (ws.map V.ref))) (hq:H q=some (.lst (ws'.map V.ref))):EqP X H (.ref p) (.ref q) true 8:=R.lstw R' (fun _ _=>rfl) (Nat.le_refl _) hp (by rw[R'.all.1];exact hq)
theorem RnP.sameg (R:RnP H e2 e3 e4 f0 hs0 rds ws gs) (R':RnP H e2 e3 e4 f0 hs0 rds ws' gs'){p q:Addr}(hp:H p=some (.lst (gs.map V.ref))) (hq:H q=some (.lst (gs'.map V.ref))):EqP X H (.ref p) (.ref q) true 8:=R.lstg R' (fun _ _=>rfl) (Nat.le_refl _) hp (by rw[R'.all.2];exact hq)
theorem Xd {x1 x2 y1 y2:V}(h1:EqP X H x1 y1 true 8) (h2:EqP X H x2 y2 true 8):∀ (j:Nat) u v,[x1,x2][j]?=some u→[y1,y2][j]?=some v→EqP X H u v true 8:=fun j u v e1 e2=>by
 rcases j with _ | _ | j
 ·cases e1;cases e2;exact h1
 ·cases e1;cases e2;exact h2
 ·cases e1
end
theorem rds_pre {pc:Pc}{ps:List Pc}{n:Nat}(h:n≤pc.m):∀ i,i<(List.replicate n (pc.hs,pc.ls)).length→(List.replicate n (pc.hs,pc.ls))[i]?=(rdsOf (pc::ps))[i]?:=fun i hi=>by
 rw[List.length_replicate] at hi
 rw[yN,List.getElem?_append_left (by rw[List.length_replicate];omega),List.getElem?_replicate,List.getElem?_replicate,if_pos hi,if_pos (by omega)]
theorem cut_m1 {xs:List V}{v:V}:cutV (xs++[v]) none (some (-1))=xs:=by
 have e:HT.sIx (xs++[v]).length (xs++[v]).length (some (-1))=xs.length:=by
  show(if (-1:Int)<0 then(-1+((xs++[v]).length:Int)).toNat else min (-1:Int).toNat (xs++[v]).length)=_
  rw[if_pos (by decide),List.length_append,List.length_singleton]
  omega
 unfold cutV
 rw[e,show HT.sIx (xs++[v]).length 0 none=0 from rfl]
 simp
theorem uS {pc cl:Pc}{ps pi:List Pc}{n:Nat}(h:pc::ps=pi++[cl]):∃ pc' ps',pi++[⟨cl.hs,cl.ls,n⟩]=pc'::ps'∧pc'.hs=pc.hs∧pc'.ls=pc.ls:=by
 cases pi with
 |nil=>cases h;exact⟨_,_,rfl,rfl,rfl⟩
 |cons x pi=>injection h with h1 h2;subst h1;exact⟨_,_,rfl,rfl,rfl⟩
theorem vi {rs:List Rd}{x:Rd}{m n:Nat}(h:n≤m):∀ i,i<(rs++List.replicate n x).length→(rs++List.replicate n x)[i]?=(rs++List.replicate m x)[i]?:=fun i hi=>by
 rw[List.length_append,List.length_replicate] at hi
 by_cases c:i<rs.length
 ·rw[List.getElem?_append_left c,List.getElem?_append_left c]
 ·rw[List.getElem?_append_right (by omega),List.getElem?_append_right (by omega),List.getElem?_replicate,List.getElem?_replicate,if_pos (by omega),if_pos (by omega)]
theorem WD {pc c:Pc}{ps:List Pc}{i d:Nat}(h:(pc::ps)[i]?=some c):∃ pc' ps',(((pc::ps).take i++[⟨c.hs,c.ls,d⟩,⟨c.hs,c.ls,c.m-d⟩])++(pc::ps).drop (i+1))=pc'::ps'∧pc'.hs=pc.hs∧pc'.ls=pc.ls:=by
 cases i with
 |zero=>cases h;exact⟨_,_,rfl,rfl,rfl⟩
 |succ i=>exact⟨_,_,rfl,rfl,rfl⟩
theorem Xk {A:Pc→Prop}{c:Pc}{ps:List Pc}{i:Nat}{xs:List Pc}(h:∀ x∈ps,A x) (hx:∀ x∈xs,A x){j:Nat}:∀ x∈(ps.take i++xs)++ps.drop j,A x:=fun x hm=>by
 rcases List.mem_append.mp hm with z | z
 ·rcases List.mem_append.mp z with z | z
  ·exact h x (List.mem_of_mem_take z)
  ·exact hx x z
 ·exact h x (List.mem_of_mem_drop z)
section
variable {P:Program}{w:World}{K:PySem.W.Frag}{mg:Str→Option Value}{base:Heap}{a:Ad}
def spLaw (K:PySem.W.Frag):Sp:=fun vs H Q _=>∃ (a:Addr) (ns:List Int),vs=[.ref a]∧SqL K H a (ns.map V.int)∧ns.length≤63∧∀ H',Q (.bl true) H'
theorem sp_law_of {K:PySem.W.Frag}{H:Hp}{a:Addr}{ns:List Int}(hl:ns.length≤63) (hO:ziy H) (hS:SqL K H a (ns.map V.int)):spLaw K [.ref a] H (fun v _=>v=.bl true) fun _ _ _=>False:=⟨a,ns,rfl,hS,hl,fun _=>rfl⟩
theorem ok_law (T:Txt w K mg a):FnOk P w K mg base CX0 26 a.f_qH a.d_qH ["_law_script"] (spLaw K):=by
 have c_qt:Callee P w K mg base "_law_cell_at" a.f_qt a.d_qt ["_law_script", "_law_k"] 1 (Yn K):=⟨YD T,T.g_qt,T.F_qt.kp,T.b_qt⟩
 have c_qu:Callee P w K mg base "_law_draws" a.f_qu a.d_qu ["_law_cell", "_law_many"] 1 wA:=⟨wJ T,T.g_qu,T.F_qu.kp,T.b_qu⟩
 have c_qv:Callee P w K mg base "_law_take" a.f_qv a.d_qv ["_law_xs", "_law_size"] 1 xv:=⟨yX T,T.g_qv,T.F_qv.kp,T.b_qv⟩
 have c_qz:Callee P w K mg base "_law_program" a.f_qz a.d_qz ["_law_cell"] 6 zuP:=⟨zm3 T,T.g_qz,T.F_qz.kp,T.b_qz⟩
 have c_qC:Callee P w K mg base "_law_program_made" a.f_qC a.d_qC ["_law_program_here"] 24 (zuN a):=⟨zm1 T,T.g_qC,T.F_qC.kp,T.b_qC⟩
 have c_qE:Callee P w K mg base "_law_pieces" a.f_qE a.d_qE ["_law_script", "_law_at", "_law_most"] 3 (zuM K):=⟨zm0 T,T.g_qE,T.F_qE.kp,T.b_qE⟩
 have c_qF:Callee P w K mg base "_law_both" a.f_qF a.d_qF ["_law_pieces_here", "_law_program_here"] 14 (WT a):=⟨VX T,T.g_qF,T.F_qF.kp,T.b_qF⟩
 have c_qG:Callee P w K mg base "_law_cut" a.f_qG a.d_qG ["_law_pieces_here", "_law_at", "_law_many"] 1 (WS a):=⟨zgp T,T.g_qG,T.F_qG.kp,T.b_qG⟩
 have c_qg:Callee P w K mg base "plain_worths" a.f_qg a.d_qg ["web", "program", "rounds"] 14 (zuL a):=⟨zmZ T,T.g_qg,T.F_qg.kp,T.b_qg⟩
 have c_qh:Callee P w K mg base "plain_heard" a.f_qh a.d_qh ["web", "program", "rounds"] 14 (zuO a):=⟨zm2 T,T.g_qh,T.F_qh.kp,T.b_qh⟩
 have m_Web:Maker P w K mg base "Web" a.c_Web a.f_qa1 a.d_qa1 ["self", "hands", "lines"] 4 (zfQ a):=⟨zgm T,T.g_Web,T.mk_Web,T.b_qa1⟩
 refine T.F_qH.ok sc_qH (fun vs H Q E h=>?_) (fun cdv A outer s H vs Q E hr h=>?_)
 ·obtain⟨x,ns,rfl,_⟩:=h
  rfl
 ·obtain⟨sc,ns,rfl,hS,hlen,k⟩:=h
  have hu:=xX hr
  have un:∀ n:Nat,n≤8→(A.deeper (PyProof.Rows.envOfC "law" (defScope uP) s.heap.objs.size a.f_qH cdv)).units+n+2<cLine:=fun n hn=>by
   have:=hr.units
   omega
  refine zD (w_pss_cons (zl (i:=1) sc_qH.nd rfl (Or.inl rfl) (zk c_qE (hr.mono (by omega)) (w_pa_N (w_pv 0) (zn ze (zn ze w_pa_nil)))))
   (w_pss_cons (zl (i:=2) sc_qH.nd rfl (Or.inl rfl) (zk c_qC (hr.mono (by omega)) (zy (zk c_qz (hr.mono (by omega)) (zy (zk c_qt (hr.mono (by omega)) (w_pa_N (w_pv 0) (zn ze w_pa_nil))) w_pa_nil)) w_pa_nil)))
   (w_pss_cons (yB (i:=3) rfl sc_qH.nd rfl (Or.inl rfl) (N':=["_law_hands_here", "_law_lines_here", "_law_many"]) (t:=3) (caps:=[]) ⟨rfl,rfl,rfl⟩ (zL (w_pv 1)) (fun _=>(yL rfl (zH (zq (i:=0) (show(["_law_hands_here", "_law_lines_here", "_law_many"]:List Str).Nodup by decide +kernel) rfl (Or.inl rfl)) (zH (zq (i:=1) (show(["_law_hands_here", "_law_lines_here", "_law_many"]:List Str).Nodup by decide +kernel) rfl (Or.inl rfl)) (zH (zq (i:=2) (show(["_law_hands_here", "_law_lines_here", "_law_many"]:List Str).Nodup by decide +kernel) rfl (Or.inl rfl)) yv))))) (fun _=>yk) (fun _=>(zA (zy (xK m_Web (hr.mono (by omega)) (w_pa_N (w_pv 0) (w_pa_N (w_pv 1) w_pa_nil))) (w_pa_N (w_pv 2) w_pa_nil)))))
   (w_pss_cons (xA (zk c_qF (hr.mono (by omega)) (w_pa_N (w_pv 3) (w_pa_N (w_pv 2) w_pa_nil))) (yL rfl (zH (zq (i:=4) sc_qH.nd rfl (Or.inl rfl)) (zH (zq (i:=5) sc_qH.nd rfl (Or.inl rfl)) yv))))
   (w_pss_cons (zl (i:=6) sc_qH.nd rfl (Or.inl rfl) (zk c_qu (hr.mono (by omega)) (zy (zk c_qt (hr.mono (by omega)) (w_pa_N (w_pv 0) (zn ze w_pa_nil))) (zn ze w_pa_nil))))
   (w_pss_cons (zl (i:=7) sc_qH.nd rfl (Or.inl rfl) (zk c_qv (hr.mono (by omega)) (w_pa_N (w_pv 6) (zy (w_pe_callB zo (by rfl) T.n_len zY (w_pa_N (w_pv 3) w_pa_nil)) w_pa_nil))))
   (yh (w_ps_if (w_pt_cmpR wo (zk c_qF (hr.mono (by omega)) (zy (zk c_qG (hr.mono (by omega)) (w_pa_N (w_pv 3) (w_pa_N (w_pv 7) (zy (zk c_qv (hr.mono (by omega)) (w_pa_N (w_pv 6) (zn ze w_pa_nil))) w_pa_nil)))) (w_pa_N (w_pv 2) w_pa_nil))) (zA (w_pa_N (w_pv 4) (w_pa_N (w_pv 5) w_pa_nil))) (zx _))
    (zf (zh yy))
    zm)
   (w_pss_cons (zl (i:=7) sc_qH.nd rfl (Or.inl rfl) (zj zV ze (zk c_qv (hr.mono (by omega)) (w_pa_N (w_pv 6) (zy (w_pe_callB zo (by rfl) T.n_len zY (w_pa_N (w_pv 3) w_pa_nil)) w_pa_nil)))))
   (w_pss_cons (zl (i:=8) sc_qH.nd rfl (Or.inl rfl) (zj yr (zj yr (zB zX (w_pv 3) zJ (zF (w_pv 7))) (zu (yQ (zA (zg (zw zN (zw zM (w_pv 3) (zk c_qv (hr.mono (by omega)) (w_pa_N (w_pv 6) (zy (w_pe_callB zo (by rfl) T.n_len zY (w_pa_N (w_pv 3) w_pa_nil)) w_pa_nil))) (fun _ _=>rfl)) ze (fun _ _=>rfl)) (zn ze w_pa_nil))) w_pa_nil))) (zB zX (w_pv 3) (zF (w_pv 7)) zJ)))
   (yh (w_ps_if (w_pt_cmpR wo (zk c_qF (hr.mono (by omega)) (w_pa_N (w_pv 8) (w_pa_N (w_pv 2) w_pa_nil))) (zA (w_pa_N (w_pv 4) (w_pa_N (w_pv 5) w_pa_nil))) (zx _))
    (zf (zh yy))
    zm)
   (w_pss_cons (xA (zw zM (w_pv 3) ze (fun _ _=>rfl)) (yL rfl (zH (zq (i:=9) sc_qH.nd rfl (Or.inl rfl)) (zH (zq (i:=10) sc_qH.nd rfl (Or.inl rfl)) yv))))
   (yh (w_ps_if (ziA (vM (w_pt_cmpR wo (zk c_qg (hr.mono (by omega)) (w_pa_N (w_pv 9) (w_pa_N (w_pv 2) (w_pa_N (w_pv 10) w_pa_nil)))) (zB zX (w_pv 4) zJ (zF (zj zV (w_pv 10) ze))) (zx _)) (ww (w_pt_cmpR wo (zk c_qh (hr.mono (by omega)) (w_pa_N (w_pv 9) (w_pa_N (w_pv 2) (w_pa_N (w_pv 10) w_pa_nil)))) (zB zX (w_pv 5) zJ (zF (w_pv 10))) (zx _)))))
    (zf (zh yy))
    zm)
   (w_pss_cons (zl (i:=11) sc_qH.nd rfl (Or.inl rfl) (zk c_qv (hr.mono (by omega)) (w_pa_N (w_pv 6) (yc (zj zV (w_pv 10) ze) w_pa_nil))))
   (yh (w_ps_if (ziA (vM (w_pt_cmpR wo (zk c_qg (hr.mono (by omega)) (w_pa_N (w_pv 9) (w_pa_N (w_pv 2) (w_pa_N (w_pv 11) w_pa_nil)))) (zB zX (w_pv 4) zJ (zF (zj zV (w_pv 11) ze))) (zx _)) (ww (w_pt_cmpR wo (zk c_qh (hr.mono (by omega)) (w_pa_N (w_pv 9) (w_pa_N (w_pv 2) (w_pa_N (w_pv 11) w_pa_nil)))) (zB zX (w_pv 5) zJ (zF (w_pv 11))) (zx _)))))
    (zf (zh yy))
    zm)
   (w_pss_cons (xA (zw zM (w_pv 3) (xJ wj ze) (fun _ _=>rfl)) (yL rfl (zH (zq (i:=9) sc_qH.nd rfl (Or.inl rfl)) (zH (zq (i:=12) sc_qH.nd rfl (Or.inl rfl)) yv))))
   (w_pss_cons (zl (i:=13) sc_qH.nd rfl (Or.inl rfl) (zj yr (zB zX (w_pv 3) zJ (zF (xJ wj ze))) (zu (yQ (zA (w_pa_N (w_pv 9) (yc (zj ye (w_pv 12) (w_pe_callB (wa rfl) (by rfl) T.n_min bt_min (w_pa_N (w_pv 12) (zn ze w_pa_nil)))) w_pa_nil))) w_pa_nil))))
   (w_pss_cons (zl (i:=14) sc_qH.nd rfl (Or.inl rfl) (zj ye (w_pe_callB zo (by rfl) T.n_len zY (w_pa_N (w_pv 4) w_pa_nil)) (w_pe_callB (wa rfl) (by rfl) T.n_min bt_min (w_pa_N (w_pv 12) (zn ze w_pa_nil)))))
   (zf (zh (zR zgl (zk c_qF (hr.mono (by omega)) (w_pa_N (w_pv 13) (w_pa_N (w_pv 2) w_pa_nil))) (zA (zg (zB zX (w_pv 4) zJ (zF (w_pv 14))) (zg (zB zX (w_pv 5) zJ (zF (zj ye (w_pv 14) ze))) w_pa_nil))) (zx _))))))))))))))))))))) ?_
  refine⟨_,rfl,sc,ns,rfl,hS,fun qd dvs pc ps H1 hqd D hc lps s1=>?_⟩
  refine⟨_,rfl,sc,ns,1,rfl,zmf hS s1,by decide,fun c1=>?_⟩
  refine⟨c1,rfl,fun q4 v1 v2 v3 v4 e1 e2 e3 e4 H2 hq4 F4 s2=>?_⟩
  refine⟨q4,v1,v2,v3,v4,e1,e2,e3,e4,rfl,hq4,F4,fun r H3 hP s3=>?_⟩
  have s13:=s2.trans s3
  have hqd3:=s13 _ _ hqd
  have D3:=D.same s13
  have S3:=s1.trans s13
  refine⟨_,rfl,qd,rfl,⟨_,SqL.of hqd3⟩,fun lp hlp0 _=>?_⟩
  refine yp (K:=K) (a:=qd) (xs:=dvs) (fun j zs τ H'=>∃ o1 o2 o3,τ=[o1,o2,o3]∧PcAt a (hide [lp] H') zs ((pc::ps).take j)∧zs.length=j∧H' lp=some (.lst zs)∧Same H3 H') ?_ ?_ ?_ ?_
  ·exact⟨none,none,none,rfl,⟨rfl,fun i v c e=>by cases e⟩,rfl,zd,Same.new hlp0⟩
  ·rintro j zs τ H' ⟨o1,o2,o3,_,_,_,_,sm⟩
   exact SqL.of (sm _ _ hqd3)
  ·rintro j v zs τ H' hj ⟨o1,o2,o3,rfl,Pz,lz,hlp',sm⟩
   have lD:=D3.1
   have hjl:=(List.getElem?_eq_some_iff.mp hj).1
   have gp:=List.getElem?_eq_getElem (l:=pc::ps) (i:=j) (by omega)
   generalize (pc::ps)[j]'(by omega)=c at gp
   obtain⟨pt,h,q,rs,rfl,hpt,hh,hq,L,wh,wl⟩:=(D3.same sm).2 j v c hj gp
   refine⟨pt,_,rfl,SqT.of hpt,rfl,_,_,rfl,_,_,rfl,_,_,rfl,rfl,?_⟩
   refine zaw ?_
   refine⟨_,rfl,_,rfl,fun x dx nx ndx nex=>?_⟩
   have m6:Same H' (upd (upd H' dx (.own x)) x (.ins a.c_Web dx [])):=(Same.new ndx).updF nx
   refine⟨x,dx,h,q,rs,c.hs,c.ls,rfl,zd,m6 _ _ hh,m6 _ _ hq,L.same m6,wh,wl,fun oh ol d ad H7 foh fd fad x7 W7=>?_⟩
   have s7:Same H' H7:=fun b o e=>x7 b o (m6 b o e) (ne_of_none e nx)
   refine⟨rfl,_,rfl,(by show 2≤sizeLine;decide),fun t2 ht2=>?_⟩
   have n8:=Same.new (o:=HO.tup [V.ref x,V.int (c.m:Int)]) ht2
   have s8:=s7.trans n8
   have nl2:lp≠t2:=fun z=>by rw[← z,s7 _ _ hlp'] at ht2;cases ht2
   refine⟨s8 _ _ hlp',zr (by have:=lps;simp at lD;omega),_,_,_,rfl,?_,by simp[lz],zd,Same.updF (sm.trans s8) hlp0⟩
   have out:∀ {b:Addr},(upd (upd H' dx (.own x)) x (.ins a.c_Web dx [])) b=none→lp≠b:=fun e z=>by rw[← z,m6 _ _ hlp'] at e;cases e
   have Wh:=W7.hide (l:=lp) (fun z=>by rw[← z,hlp'] at nx;cases nx) (out foh) (out fd) (fun x hx=>out (fad x hx))
   have hs8:=yI (st:=[lp]) s8
   have U:Same (hide [lp] (upd H7 t2 (HO.tup [V.ref x,V.int (c.m:Int)]))) (hide [lp] (upd (upd H7 t2 (HO.tup [V.ref x,V.int (c.m:Int)])) lp (HO.lst (zs++[V.ref t2])))):=xk (by simp)
   rw[List.take_add_one,gp]
   exact((Pz.same hs8).app (PcAt.one (n:=c.m) (hs:=c.hs) (ls:=c.ls) (yo (fun z=>nl2 (List.mem_singleton.mp z).symm) zd) ⟨wh,wl,dx,oh,ol,d,ad,Wh.same (yI n8)⟩)).same U
  ·rintro zs τ H4 ⟨o1,o2,o3,rfl,Pz,lz,hlp,s4⟩
   rw[D3.1,List.take_length] at Pz
   have Pz:=Pz.same hide_sub
   have S4:=S3.trans s4
   have hP4:=ProgAt.same s4 hP
   have hsub:∀ c∈pc::ps,∀ x∈c.hs,x∈pc.hs:=fun c h=>(hc c h).1
   have few:=Vr fun c h=>(hc c h).2
   rw[List.length_cons] at few
   refine⟨_,rfl,_,rfl,lp,zs,pc,ps,r,e1,e2,e3,e4,rfl,hlp,Pz,hP4,hsub,by omega,fun qb pw pg ws gs0 ws0 gs H5 s5 hqb hpw hpg R1 R2=>?_⟩
   refine⟨qb,_,rfl,SqT.of hqb,rfl,_,_,rfl,_,_,rfl,rfl,?_⟩
   have hlp5:=s5 _ _ hlp
   have P5:=Pz.same s5
   have hP5:=ProgAt.same s5 hP4
   generalize hf0:w0 pc.hs pc.ls e1=f0 at *
   refine⟨_,rfl,sc,ns,7,rfl,zmf hS (S4.trans s5),by decide,fun c7=>?_⟩
   refine⟨c7,6,rfl,by decide,fun l H6 hl0 s6 y6=>?_⟩
   have lz':=Pz.1
   rw[List.length_cons] at lz'
   refine⟨_,rfl,_,rfl,lp,_,rfl,.inl (SqL.of (y6 _ _ hlp5)),l,_,rfl,s6,by omega,fun at_ H7 a0 a1 s7 x7=>?_⟩
   have S7:Same H5 H7:=x7.fr y6 hl0
   obtain⟨i,rfl⟩:∃ j:Nat,at_=j:=⟨at_.toNat,by omega⟩
   have hci:=List.getElem?_eq_getElem (l:=pc::ps) (i:=i) (by rw[List.length_cons];omega)
   generalize (pc::ps)[i]'(by rw[List.length_cons];omega)=c at hci
   refine⟨fun σ' H'=>σ'=[some (.ref sc),some (.ref qd),some r,some (.ref lp),some (.ref pw),some (.ref pg),some (.ref l),some (.int (i:Int)),none,none,none,none,none,none,none]∧XsAt H' l∧Same H5 H',?_,?_⟩
   ·refine⟨_,rfl,_,rfl,_,rfl,l,9,rfl,s7,by decide,fun mm H8 m0 m1 s8 x8=>?_⟩
    have S8:Same H5 H8:=(x7.trans x8).fr y6 hl0
    refine⟨lp,zs,pc::ps,i,mm,c,rfl,S8 _ _ hlp5,P5.same S8,hci,by rw[List.length_cons];omega,fun q9 vs9 d H9 hd hq9 P9 s9=>?_⟩
    obtain⟨pc',ps',e9,eh,el⟩:=WD (d:=d) hci
    have er:=Vs hci hd
    have hsub9:=Xk (c:=c) (i:=i) (j:=i+1) (A:=fun x=>∀ y∈x.hs,y∈pc.hs) (xs:=[⟨c.hs,c.ls,d⟩,⟨c.hs,c.ls,c.m-d⟩]) hsub (fun x hx=>by
     have hcm:=hsub c (List.mem_of_getElem? hci)
     simp only[List.mem_cons,List.not_mem_nil,or_false] at hx
     rcases hx with rfl | rfl
     ·exact hcm
     ·exact hcm)
    rw[e9] at P9 er hsub9
    have S9:=S8.trans s9
    refine⟨_,rfl,q9,vs9,pc',ps',r,e1,e2,e3,e4,rfl,hq9,P9,ProgAt.same S9 hP5,fun x hx y hy=>(by rw[eh];exact hsub9 x hx y hy),by rw[er];omega,fun qb9 pw9 pg9 ws9 gs9 ws9' gs9' H10 s10 hqb9 hpw9 hpg9 R9 R9'=>?_⟩
    rw[er,eh,el,hf0] at R9 R9'
    refine⟨_,rfl,_,rfl,(by show 2≤sizeLine;decide),fun tq htq=>?_⟩
    have n11:=Same.new (o:=HO.tup [V.ref pw,V.ref pg]) htq
    have S10:=S9.trans s10
    have S11:=S10.trans n11
    refine⟨qb9,tq,_,_,8,rfl,rfl,.inr ⟨SqT.of (n11 _ _ hqb9),SqT.of zd⟩,rfl,un 8 (by omega),Xd ((R9.same n11).samew (R1.same S11) (n11 _ _ hpw9) (S11 _ _ hpw)) ((R9'.same n11).sameg (R2.same S11) (n11 _ _ hpg9) (S11 _ _ hpg)),_,rfl,yn rfl ?_⟩
    exact⟨rfl,((s8.same s9).same s10).same n11,S11⟩
   rintro σ' H8 ⟨rfl,s8,S8⟩
   clear S7 x7 s7 hci a0 a1
   refine⟨_,rfl,_,rfl,lp,_,rfl,.inl (SqL.of (S8 _ _ hlp5)),l,_,rfl,s8,by omega,fun j1 H9 b0 b1 s9 x9=>⟨_,_,rfl,rfl,?_⟩⟩
   have S9:Same H5 H9:=x9.fr S8 hl0
   obtain⟨j1,rfl⟩:∃ j:Nat,j1=j:=⟨j1.toNat,by omega⟩
   have ej:(1+(j1:Int))=((j1+1:Nat):Int):=by omega
   have ec:cutV zs none (some (1+(j1:Int)))=zs.take (j1+1):=by rw[ej];exact wT (by omega)
   have ed:cutV zs (some (1+(j1:Int))) none=zs.drop (j1+1):=by rw[ej];exact zal (by omega)
   refine⟨_,rfl,_,rfl,_,rfl,lp,_,rfl,SqL.of (S9 _ _ hlp5),fun q1 hq1=>?_⟩
   have n1:=Same.new (o:=HO.lst (cutV zs none (some (1+(j1:Int))))) hq1
   have nq1:=s9.ne hq1
   refine⟨_,rfl,_,rfl,_,rfl,lp,_,rfl,.inl (SqL.of ((S9.trans n1) _ _ hlp5)),l,_,rfl,s9.same n1,by omega,fun j2 H10 d0 d1 s10 x10=>?_⟩
   have S10:Same H5 H10:=x10.fr (S9.trans n1) hl0
   have hq1':=x10 _ _ zd nq1
   rw[ec] at hq1'
   obtain⟨j2,rfl⟩:∃ j:Nat,j2=j:=⟨j2.toNat,by omega⟩
   have gv:=List.getElem?_eq_getElem (l:=zs) (i:=j2) (by omega)
   have gp:=List.getElem?_eq_getElem (l:=pc::ps) (i:=j2) (by rw[List.length_cons];omega)
   generalize (pc::ps)[j2]'(by rw[List.length_cons];omega)=c2 at gp
   obtain⟨pt,p,ev,hpt,W⟩:=P5.2 j2 _ c2 gv gp
   rw[ev] at gv
   refine⟨lp,_,_,_,rfl,rfl,SqL.of (S10 _ _ hlp5),xb gv,pt,_,0,_,rfl,rfl,SqT.of (S10 _ _ hpt),rfl,(by show 2≤sizeLine;decide),fun t1 ht1=>⟨(by show 1≤sizeLine;decide),fun q2 hq2=>?_⟩⟩
   have n2:=Same.new (o:=HO.tup [V.ref p,V.int ((0:Nat):Int)]) ht1
   have n3:=Same.new (o:=HO.lst [V.ref t1]) hq2
   have n23:=n2.trans n3
   have ht1':=n3 _ _ (zd (H:=H10) (a:=t1) (o:=HO.tup [V.ref p,V.int ((0:Nat):Int)]))
   have hq2':=zd (H:=upd H10 t1 (HO.tup [V.ref p,V.int ((0:Nat):Int)])) (a:=q2) (o:=HO.lst [V.ref t1])
   have s11:=s10.same n23
   generalize upd (upd H10 t1 (HO.tup [V.ref p,V.int ((0:Nat):Int)])) q2 (HO.lst [V.ref t1])=H11 at *
   have S11:=S10.trans n23
   refine⟨q1,q2,_,_,rfl,rfl,n23 _ _ hq1',hq2',Nat.le_of_lt (zr (by simp;omega)),fun q3 hq3=>?_⟩
   have n4:=Same.new (o:=HO.lst (zs.take (j1+1)++[V.ref t1])) hq3
   have hq3':=zd (H:=H11) (a:=q3) (o:=HO.lst (zs.take (j1+1)++[V.ref t1]))
   generalize upd H11 q3 (HO.lst (zs.take (j1+1)++[V.ref t1]))=H12 at *
   have S12:=S11.trans n4
   refine⟨_,rfl,_,rfl,_,rfl,lp,_,rfl,SqL.of (S12 _ _ hlp5),fun q4 hq4=>?_⟩
   have n5:=Same.new (o:=HO.lst (cutV zs (some (1+(j1:Int))) none)) hq4
   have hq4':=zd (H:=H12) (a:=q4) (o:=HO.lst (cutV zs (some (1+(j1:Int))) none))
   generalize upd H12 q4 (HO.lst (cutV zs (some (1+(j1:Int))) none))=H13 at *
   rw[ed] at hq4'
   have S13:=S12.trans n5
   refine⟨q3,q4,_,_,rfl,rfl,n5 _ _ hq3',hq4',Nat.le_of_lt (zr (by simp;omega)),fun q5 hq5=>?_⟩
   have n6:=Same.new (o:=HO.lst ((zs.take (j1+1)++[V.ref t1])++zs.drop (j1+1))) hq5
   have n46:=n4.trans (n5.trans n6)
   have S14:=S13.trans n6
   have s14:=s11.same n46
   have PI:PcAt a (upd H13 q5 (HO.lst ((zs.take (j1+1)++[V.ref t1])++zs.drop (j1+1)))) ((zs.take (j1+1)++[V.ref t1])++zs.drop (j1+1)) (((pc::ps).take (j1+1)++[⟨c2.hs,c2.ls,0⟩])++(pc::ps).drop (j1+1)):=((P5.same S14).take.app (PcAt.one (n46 _ _ ht1') (W.same S14))).app (P5.same S14).drop
   have hq5':=zd (H:=H13) (a:=q5) (o:=HO.lst ((zs.take (j1+1)++[V.ref t1])++zs.drop (j1+1)))
   generalize upd H13 q5 (HO.lst ((zs.take (j1+1)++[V.ref t1])++zs.drop (j1+1)))=H14 at *
   refine⟨fun σ' H'=>σ'=[some (.ref sc),some (.ref qd),some r,some (.ref lp),some (.ref pw),some (.ref pg),some (.ref l),some (.int (1+(j1:Int))),some (.ref q5),none,none,none,none,none,none]∧XsAt H' l∧Same H5 H',?_,?_⟩
   ·have er:=XR (ps:=pc::ps) (i:=j1+1) (c:=c2)
    have hsub9:=Xk (c:=c2) (i:=j1+1) (j:=j1+1) (A:=fun x=>∀ y∈x.hs,y∈pc.hs) (xs:=[⟨c2.hs,c2.ls,0⟩]) hsub (fun x hx=>by
     rw[List.mem_singleton.mp hx]
     exact hsub c2 (List.mem_of_getElem? gp))
    refine⟨_,rfl,_,rfl,q5,_,pc,_,r,e1,e2,e3,e4,rfl,hq5',PI,ProgAt.same S14 hP5,hsub9,Nat.le_trans (Nat.le_of_eq (congrArg List.length er)) (by omega),fun qb9 pw9 pg9 ws9 gs9 ws9' gs9' H15 s15 hqb9 hpw9 hpg9 R9 R9'=>?_⟩
    have R9:RnP H15 e2 e3 e4 f0 pc.hs (rdsOf (pc::ps)) ws9 gs9:=by rw[← er,← hf0];exact R9
    have R9':RnP H15 e2 e3 e4 f0 pc.hs (rdsOf (pc::ps)) ws9' gs9':=by rw[← er,← hf0];exact R9'
    refine⟨_,rfl,_,rfl,(by show 2≤sizeLine;decide),fun tq htq=>?_⟩
    have n16:=Same.new (o:=HO.tup [V.ref pw,V.ref pg]) htq
    have S16:=(S14.trans s15).trans n16
    refine⟨qb9,tq,_,_,8,rfl,rfl,.inr ⟨SqT.of (n16 _ _ hqb9),SqT.of zd⟩,rfl,un 8 (by omega),Xd ((R9.same n16).samew (R1.same S16) (n16 _ _ hpw9) (S16 _ _ hpw)) ((R9'.same n16).sameg (R2.same S16) (n16 _ _ hpg9) (S16 _ _ hpg)),_,rfl,yn rfl ?_⟩
    exact⟨rfl,(s14.same s15).same n16,S16⟩
   rintro σ' H8 ⟨rfl,s8,S8⟩
   have gv0:=List.getElem?_eq_getElem (l:=zs) (i:=0) (by omega)
   obtain⟨pt0,p0,ev0,hpt0,W0⟩:=P5.2 0 _ pc gv0 rfl
   rw[ev0] at gv0
   have pm:=(hc pc List.mem_cons_self).2
   have rl:pc.m≤(rdsOf (pc::ps)).length:=by rw[yN,List.length_append,List.length_replicate];omega
   refine⟨_,rfl,lp,_,0,_,rfl,rfl,SqL.of (S8 _ _ hlp5),xb (j:=0) gv0,pt0,_,rfl,SqT.of (S8 _ _ hpt0),rfl,_,_,rfl,_,_,rfl,rfl,?_⟩
   refine⟨fun σ' H'=>σ'=[some (.ref sc),some (.ref qd),some r,some (.ref lp),some (.ref pw),some (.ref pg),some (.ref l),some (.int (1+(j1:Int))),some (.ref q5),some (.ref p0),some (.int (pc.m:Int)),none,none,none,none]∧XsAt H' l∧Same H5 H',?_,?_⟩
   ·refine⟨_,rfl,_,rfl,_,rfl,p0,pc.hs,pc.ls,r,e1,e2,e3,e4,pc.m,rfl,W0.same S8,ProgAt.same S8 hP5,by omega,fun pw9 ws9 gs9 H9 s9 hpw9 R9=>?_⟩
    have S9:=S8.trans s9
    refine⟨_,rfl,_,rfl,_,_,rfl,rfl,_,rfl,pw,_,rfl,SqL.of (S9 _ _ hpw),fun q1 hq1=>?_⟩
    rw[hf0] at R9
    have n1:=Same.new (o:=HO.lst (cutV (ws.map V.ref) none (some ((pc.m:Int)+1)))) hq1
    have l9:(List.replicate pc.m (pc.hs,pc.ls)).length=pc.m:=List.length_replicate
    have ec1:cutV (ws.map V.ref) none (some ((pc.m:Int)+1))=(ws.map V.ref).take ((List.replicate pc.m (pc.hs,pc.ls)).length+1):=by rw[l9];exact wT (n:=pc.m+1) (by rw[List.length_map,R1.lw];omega)
    have S10:=S9.trans n1
    refine⟨pw9,q1,_,_,2,rfl,rfl,.inl ⟨SqL.of (n1 _ _ hpw9),SqL.of zd⟩,?_,un 2 (by omega),?_,_,rfl,yn rfl ?_⟩
    ·rw[ec1,List.length_take,List.length_map,List.length_map,R9.lw,R1.lw,l9];omega
    ·intro j u v h1 h2
     rw[ec1] at h2
     exact(R9.same n1).itw (R1.same S10) (rds_pre (Nat.le_refl _)) j u v h1 h2
    have s10:=(s8.same s9).same n1
    generalize upd H9 q1 (HO.lst (cutV (ws.map V.ref) none (some ((pc.m:Int)+1))))=H10 at *
    refine⟨_,rfl,_,rfl,_,rfl,p0,pc.hs,pc.ls,r,e1,e2,e3,e4,pc.m,rfl,W0.same S10,ProgAt.same S10 hP5,by omega,fun pg9 ws8 gs8 H11 s11 hpg9 R8=>?_⟩
    have S11:=S10.trans s11
    refine⟨_,rfl,_,rfl,_,rfl,pg,_,rfl,SqL.of (S11 _ _ hpg),fun q2 hq2=>?_⟩
    rw[hf0] at R8
    have n2:=Same.new (o:=HO.lst (cutV (gs.map V.ref) none (some (pc.m:Int)))) hq2
    have ec2:cutV (gs.map V.ref) none (some (pc.m:Int))=(gs.map V.ref).take (List.replicate pc.m (pc.hs,pc.ls)).length:=by rw[l9];exact wT (n:=pc.m) (by rw[List.length_map,R2.lg];omega)
    have S12:=S11.trans n2
    refine⟨pg9,q2,_,_,6,rfl,rfl,.inl ⟨SqL.of (n2 _ _ hpg9),SqL.of zd⟩,?_,un 6 (by omega),?_,_,rfl,yn rfl ?_⟩
    ·rw[ec2,List.length_take,List.length_map,List.length_map,R8.lg,R2.lg,l9];omega
    ·intro j u v h1 h2
     rw[ec2] at h2
     exact(R8.same n2).itg (R2.same S12) (rds_pre (Nat.le_refl _)) j u v h1 h2
    exact⟨rfl,(s10.same s11).same n2,S12⟩
   rintro σ' H8 ⟨rfl,s8,S8⟩
   refine⟨_,rfl,_,rfl,_,_,rfl,rfl,l,_,rfl,s8,by omega,fun le H9 b0 b1 s9 x9=>?_⟩
   have S9:Same H5 H9:=x9.fr S8 hl0
   obtain⟨le,rfl⟩:∃ j:Nat,le=j:=⟨le.toNat,by omega⟩
   have lem:le≤pc.m:=by omega
   refine⟨fun σ' H'=>σ'=[some (.ref sc),some (.ref qd),some r,some (.ref lp),some (.ref pw),some (.ref pg),some (.ref l),some (.int (1+(j1:Int))),some (.ref q5),some (.ref p0),some (.int (pc.m:Int)),some (.int (le:Int)),none,none,none]∧XsAt H' l∧Same H5 H',?_,?_⟩
   ·refine⟨_,rfl,_,rfl,_,rfl,p0,pc.hs,pc.ls,r,e1,e2,e3,e4,le,rfl,W0.same S9,ProgAt.same S9 hP5,by omega,fun pw9 ws9 gs9 G9 t9 hpw9 R9=>?_⟩
    have S9:=S9.trans t9
    refine⟨_,rfl,_,rfl,_,_,rfl,rfl,_,rfl,pw,_,rfl,SqL.of (S9 _ _ hpw),fun q1 hq1=>?_⟩
    rw[hf0] at R9
    have n1:=Same.new (o:=HO.lst (cutV (ws.map V.ref) none (some ((le:Int)+1)))) hq1
    have l9:(List.replicate le (pc.hs,pc.ls)).length=le:=List.length_replicate
    have ec1:cutV (ws.map V.ref) none (some ((le:Int)+1))=(ws.map V.ref).take ((List.replicate le (pc.hs,pc.ls)).length+1):=by rw[l9];exact wT (n:=le+1) (by rw[List.length_map,R1.lw];omega)
    have S10:=S9.trans n1
    refine⟨pw9,q1,_,_,2,rfl,rfl,.inl ⟨SqL.of (n1 _ _ hpw9),SqL.of zd⟩,?_,un 2 (by omega),?_,_,rfl,yn rfl ?_⟩
    ·rw[ec1,List.length_take,List.length_map,List.length_map,R9.lw,R1.lw,l9];omega
    ·intro j u v h1 h2
     rw[ec1] at h2
     exact(R9.same n1).itw (R1.same S10) (rds_pre lem) j u v h1 h2
    have s10:=(s9.same t9).same n1
    generalize upd G9 q1 (HO.lst (cutV (ws.map V.ref) none (some ((le:Int)+1))))=H10 at *
    refine⟨_,rfl,_,rfl,_,rfl,p0,pc.hs,pc.ls,r,e1,e2,e3,e4,le,rfl,W0.same S10,ProgAt.same S10 hP5,by omega,fun pg9 ws8 gs8 H11 s11 hpg9 R8=>?_⟩
    have S11:=S10.trans s11
    refine⟨_,rfl,_,rfl,_,rfl,pg,_,rfl,SqL.of (S11 _ _ hpg),fun q2 hq2=>?_⟩
    rw[hf0] at R8
    have n2:=Same.new (o:=HO.lst (cutV (gs.map V.ref) none (some (le:Int)))) hq2
    have ec2:cutV (gs.map V.ref) none (some (le:Int))=(gs.map V.ref).take (List.replicate le (pc.hs,pc.ls)).length:=by rw[l9];exact wT (n:=le) (by rw[List.length_map,R2.lg];omega)
    have S12:=S11.trans n2
    refine⟨pg9,q2,_,_,6,rfl,rfl,.inl ⟨SqL.of (n2 _ _ hpg9),SqL.of zd⟩,?_,un 6 (by omega),?_,_,rfl,yn rfl ?_⟩
    ·rw[ec2,List.length_take,List.length_map,List.length_map,R8.lg,R2.lg,l9];omega
    ·intro j u v h1 h2
     rw[ec2] at h2
     exact(R8.same n2).itg (R2.same S12) (rds_pre lem) j u v h1 h2
    exact⟨rfl,(s10.same s11).same n2,S12⟩
   rintro σ' H8 ⟨rfl,s8,S8⟩
   obtain⟨zi,zv,rfl⟩:∃ zi zv,zs=zi++[zv]:=⟨zs.dropLast,zs.getLast (by intro z;rw[z] at lz';cases lz'),(List.dropLast_concat_getLast _).symm⟩
   obtain⟨pi,cl,epl⟩:∃ pi cl,pc::ps=pi++[cl]:=⟨(pc::ps).dropLast,(pc::ps).getLast (by simp),(List.dropLast_concat_getLast _).symm⟩
   rw[List.length_append,List.length_singleton] at lz'
   have lpi:pi.length=zi.length:=by
    have:=congrArg List.length epl
    rw[List.length_cons,List.length_append,List.length_singleton] at this
    omega
   have gcl:(pc::ps)[zi.length]?=some cl:=by rw[epl,List.getElem?_append_right (by omega),lpi];simp
   obtain⟨ptl,pl,rfl,hptl,Wl⟩:=P5.2 zi.length zv cl (by simp) gcl
   have clm:=(hc cl (List.mem_of_getElem? gcl)).2
   have er:rdsOf (pc::ps)=rdsOf pi++List.replicate cl.m (cl.hs,cl.ls):=by rw[epl,yE,xr]
   refine⟨_,rfl,_,rfl,lp,_,-1,_,rfl,rfl,SqL.of (S8 _ _ hlp5),wW,ptl,_,rfl,SqT.of (S8 _ _ hptl),rfl,_,_,rfl,_,_,rfl,rfl,?_⟩
   refine⟨_,rfl,_,rfl,_,rfl,lp,_,rfl,SqL.of (S8 _ _ hlp5),fun q1 hq1=>?_⟩
   have n1:=Same.new (o:=HO.lst (cutV (zi++[V.ref ptl]) none (some (-1)))) hq1
   have hq1':=zd (H:=H8) (a:=q1) (o:=HO.lst (cutV (zi++[V.ref ptl]) none (some (-1))))
   generalize upd H8 q1 (HO.lst (cutV (zi++[V.ref ptl]) none (some (-1))))=H9 at *
   rw[cut_m1] at hq1'
   have S9:=S8.trans n1
   refine⟨_,rfl,_,rfl,_,rfl,_,_,rfl,_,_,rfl,rfl,(by show 2≤sizeLine;decide),fun t1 ht1=>⟨(by show 1≤sizeLine;decide),fun q2 hq2=>?_⟩⟩
   have n2:=Same.new (o:=HO.tup [V.ref pl,V.int ((cl.m:Int)-(if (1:Int)<(cl.m:Int) then 1 else(cl.m:Int)))]) ht1
   have n3:=Same.new (o:=HO.lst [V.ref t1]) hq2
   have n23:=n2.trans n3
   have ht1':=n3 _ _ (zd (H:=H9) (a:=t1) (o:=HO.tup [V.ref pl,V.int ((cl.m:Int)-(if (1:Int)<(cl.m:Int) then 1 else(cl.m:Int)))]))
   have hq2':=zd (H:=upd H9 t1 (HO.tup [V.ref pl,V.int ((cl.m:Int)-(if (1:Int)<(cl.m:Int) then 1 else(cl.m:Int)))])) (a:=q2) (o:=HO.lst [V.ref t1])
   generalize upd (upd H9 t1 (HO.tup [V.ref pl,V.int ((cl.m:Int)-(if (1:Int)<(cl.m:Int) then 1 else(cl.m:Int)))])) q2 (HO.lst [V.ref t1])=H10 at *
   have S10:=S9.trans n23
   have emu:(if (1:Int)<(cl.m:Int) then(1:Int) else(cl.m:Int))=((min cl.m 1:Nat):Int):=by split<;>omega
   have ems:(cl.m:Int)-((min cl.m 1:Nat):Int)=((cl.m-min cl.m 1:Nat):Int):=by omega
   rw[emu,ems] at ht1'
   refine⟨q1,q2,_,_,rfl,rfl,n23 _ _ hq1',hq2',Nat.le_of_lt (zr (by simp;omega)),fun q3 hq3=>?_⟩
   have n4:=Same.new (o:=HO.lst (zi++[V.ref t1])) hq3
   have hq3':=zd (H:=H10) (a:=q3) (o:=HO.lst (zi++[V.ref t1]))
   generalize upd H10 q3 (HO.lst (zi++[V.ref t1]))=H11 at *
   have S11:=S10.trans n4
   have PI:PcAt a H11 (zi++[V.ref t1]) (pi++[⟨cl.hs,cl.ls,cl.m-min cl.m 1⟩]):=by
    refine PcAt.app ?_ (PcAt.one (n4 _ _ ht1') (Wl.same S11))
    have:=(P5.same S11).take (n:=zi.length)
    rw[epl,List.take_left' rfl,← lpi,List.take_left' rfl] at this
    exact this
   obtain⟨pc',ps',e9,eh,el⟩:=uS (n:=cl.m-min cl.m 1) epl
   have es:rdsOf (pi++[⟨cl.hs,cl.ls,cl.m-min cl.m 1⟩])=rdsOf pi++List.replicate (cl.m-min cl.m 1) (cl.hs,cl.ls):=by rw[yE,xr]
   have hsub9:∀ x∈pi++[⟨cl.hs,cl.ls,cl.m-min cl.m 1⟩],∀ y∈x.hs,y∈pc.hs:=fun x hx=>by
    rw[epl] at hsub
    rcases List.mem_append.mp hx with z | z
    ·exact hsub x (List.mem_append_left _ z)
    ·rw[List.mem_singleton.mp z]
     exact hsub cl (by simp)
   have lr:(rdsOf (pc::ps)).length=(rdsOf pi).length+cl.m:=by rw[er,List.length_append,List.length_replicate]
   have ls9:(rdsOf pi++List.replicate (cl.m-min cl.m 1) (cl.hs,cl.ls)).length=(rdsOf pi).length+(cl.m-min cl.m 1):=by rw[List.length_append,List.length_replicate]
   rw[e9] at PI es hsub9
   refine⟨_,rfl,pw,_,rfl,.inl (SqL.of (S11 _ _ hpw)),_,rfl,_,_,rfl,_,_,rfl,rfl,?_⟩
   refine⟨_,rfl,_,rfl,q3,_,pc',ps',r,e1,e2,e3,e4,rfl,hq3',PI,ProgAt.same S11 hP5,fun x hx y hy=>(by rw[eh];exact hsub9 x hx y hy),by rw[es,ls9];omega,fun qb9 pw9 pg9 ws9 gs9 ws9' gs9' H12 s12 hqb9 hpw9 hpg9 R9 R9'=>?_⟩
   rw[es,eh,el,hf0] at R9 R9'
   have S12:=S11.trans s12
   rw[er] at R1 R2
   have lw1:=R1.lw
   have lg2:=R2.lg
   rw[← er,lr] at lw1 lg2
   refine⟨_,rfl,_,rfl,_,rfl,pw,_,rfl,SqL.of (S12 _ _ hpw),fun q4 hq4=>?_⟩
   have n5:=Same.new (o:=HO.lst (cutV (ws.map V.ref) none (some (((ws.map V.ref).length:Int)-(if (1:Int)<(cl.m:Int) then 1 else(cl.m:Int)))))) hq4
   have hq4':=zd (H:=H12) (a:=q4) (o:=HO.lst (cutV (ws.map V.ref) none (some (((ws.map V.ref).length:Int)-(if (1:Int)<(cl.m:Int) then 1 else(cl.m:Int))))))
   generalize upd H12 q4 (HO.lst (cutV (ws.map V.ref) none (some (((ws.map V.ref).length:Int)-(if (1:Int)<(cl.m:Int) then 1 else(cl.m:Int))))))=H13 at *
   have S13:=S12.trans n5
   refine⟨_,rfl,_,rfl,_,_,rfl,rfl,_,rfl,pg,_,rfl,SqL.of (S13 _ _ hpg),fun q6 hq6=>?_⟩
   have n6:=Same.new (o:=HO.lst (cutV (gs.map V.ref) none (some (((ws.map V.ref).length:Int)-(if (1:Int)<(cl.m:Int) then 1 else(cl.m:Int))-1)))) hq6
   have hq6':=zd (H:=H13) (a:=q6) (o:=HO.lst (cutV (gs.map V.ref) none (some (((ws.map V.ref).length:Int)-(if (1:Int)<(cl.m:Int) then 1 else(cl.m:Int))-1))))
   generalize upd H13 q6 (HO.lst (cutV (gs.map V.ref) none (some (((ws.map V.ref).length:Int)-(if (1:Int)<(cl.m:Int) then 1 else(cl.m:Int))-1))))=H14 at *
   have S14:=S13.trans n6
   refine⟨(by show 2≤sizeLine;decide),fun tq htq=>?_⟩
   have n7:=Same.new (o:=HO.tup [V.ref q4,V.ref q6]) htq
   have n57:=n5.trans (n6.trans n7)
   have S15:=S14.trans n7
   have ew:cutV (ws.map V.ref) none (some (((ws.map V.ref).length:Int)-(if (1:Int)<(cl.m:Int) then 1 else(cl.m:Int))))=(ws.map V.ref).take ((rdsOf pi++List.replicate (cl.m-min cl.m 1) (cl.hs,cl.ls)).length+1):=by
    rw[emu,List.length_map,lw1,ls9,show((((rdsOf pi).length+cl.m+1:Nat):Int)-((min cl.m 1:Nat):Int))=(((rdsOf pi).length+(cl.m-min cl.m 1)+1:Nat):Int) by omega]
    exact wT (by rw[List.length_map,lw1];omega)
   have eg:cutV (gs.map V.ref) none (some (((ws.map V.ref).length:Int)-(if (1:Int)<(cl.m:Int) then 1 else(cl.m:Int))-1))=(gs.map V.ref).take (rdsOf pi++List.replicate (cl.m-min cl.m 1) (cl.hs,cl.ls)).length:=by
    rw[emu,List.length_map,lw1,ls9,show((((rdsOf pi).length+cl.m+1:Nat):Int)-((min cl.m 1:Nat):Int)-1)=(((rdsOf pi).length+(cl.m-min cl.m 1):Nat):Int) by omega]
    exact wT (by rw[List.length_map,lg2];omega)
   rw[ew] at hq4'
   rw[eg] at hq6'
   have lle:(rdsOf pi++List.replicate (cl.m-min cl.m 1) (cl.hs,cl.ls)).length≤(rdsOf pi++List.replicate cl.m (cl.hs,cl.ls)).length:=by simp
   refine⟨qb9,tq,_,_,8,rfl,rfl,.inr ⟨SqT.of (n57 _ _ hqb9),SqT.of zd⟩,rfl,un 8 (by omega),Xd ((R9.same n57).lstw (R1.same S15) (vi (by omega)) lle (n57 _ _ hpw9) ((n6.trans n7) _ _ hq4')) ((R9'.same n57).lstg (R2.same S15) (vi (by omega)) lle (n57 _ _ hpg9) (n7 _ _ hq6')),?_⟩
   exact k _
end
end K04

noncomputable section
def PySem.W.Fast.tw13945517404893706189:=0
def PySem.W.Fast.tw14633931826345236324:=0
def PySem.W.Fast.tw8856144728478018897:=0
def PySem.W.Fast.tw17062198468877432609:=0
def PySem.W.Fast.tw10598372733321371305:=0
def PySem.W.Fast.tw11616086253799572649:=0
def PySem.W.Fast.tw17758467707605542250:=0
def PySem.W.Fast.tw14338876466950056905:=0
def PySem.W.Fast.tw6496138341281078435:=0
def PySem.W.Fast.tw6216741656489410486:=0
def PySem.W.Fast.tw6123116592370679677:=0
def PySem.W.Fast.tw16627384631628985244:=0
def PySem.W.Fast.tw1688954305291010661:=0
def PySem.W.Fast.tw8697170791317315040:=0
def PySem.W.Fast.tw10579265108948214604:=0
def PySem.W.Fast.tw9532633636177338432:=0
def PySem.W.Fast.tw3299963512692046226:=0
def PySem.W.Fast.tw9316987155075272405:=0
def PySem.W.Fast.tw5518260327533038333:=0
def PySem.W.Fast.tw13793158388811680729:=0
def PySem.W.Fast.tw10330366778594210143:=0
def PySem.W.Fast.tw2679819212127310782:=0
def PySem.W.Fast.tw1689613642844212636:=0
def PySem.W.Fast.tw9031915412781655692:=0
def PySem.W.Fast.tw3858109914732617049:=0
namespace Hd
open PySem PySem.W PySem.Calls PyProof.Rows
variable (P:Params)
def tt {α:Type}(_:α):Bool:=true
noncomputable def S (i:Nat):Stmt:=PySem.Challenge.pw_beatless_k24_whole_pieces_joined.main.body.getD i (.Pass ⟨0,0,0,0⟩)
noncomputable def en (P:Params) (x:Str) (t:Tok) (v:Value):DictEntry:=⟨PyData.keyHash P x,.str x t,v⟩
noncomputable def fd (n q:Str) (s:Stmt) (g:Addr) (cl:List (Str×Addr)) (d k c m:Value) (an:Option Addr) (cd ct:Value) (b:Addr):FuncData :=
 ⟨n,q,L2.defArgs s,.stmts (L2.defBody s),L2.defScope s,g,cl,d,k,c,m,an,cd,ct,b⟩
abbrev an:Option Value:=(some (.ref 6))
noncomputable def env:Env:={ scope:=PySem.Challenge.pw_beatless_k24_whole_pieces_joined.main.scope,locals:=mainNs,globals:=mainNs,cells:=[],code:=(.ref 13),frame:=some 14 }
abbrev bE:List Stmt:=behindTheImports PySem.Challenge.pw_beatless_k24_whole_pieces_joined
abbrev cE:Code:=.body bE env
abbrev qE:Pos:=(Pos.mk 0 0 0 0)
abbrev B:List Frame:=[topFrame qE]
noncomputable def s0 (w:World) (os:OsState):Shared:=⟨boot_heap w.params,⟨[]⟩,boot_drawn,boot_toks,os⟩
noncomputable def zs:List Str:=List.map Str.ofString ["/claim/cut.py", "<module>", "__main__", "__name__", "beatless.exprs", "__doc__", "__package__", "__loader__", "__spec__", "__annotations__", "__builtins__", "__file__", "__cached__", "_wall", "first_worths", "heard_in", "worths_behind", "run_pieces", "worths_by_pieces", "heard_by_pieces", "plain_worths", "plain_heard", "Expr", "k", "beatless.plain", "pieces", "program", "last", "worths", "heard", "web", "rounds", "first", "turn", "__module__", "__qualname__", "__firstlineno__", "__static_attributes__", "__dict__", "__weakref__", "Num", "__init__", "reckon", "told", "words", "self", "value", "Num.__init__", "Num.reckon", "Num.told", "Num.words", "Name", "word", "Name.__init__", "Name.reckon", "Name.told", "Name.words", "Two", "one", "other", "Two.__init__", "Two.reckon", "Two.told", "Two.words", "Mod", "inner", "number", "Mod.__init__", "Mod.reckon", "Mod.told", "Mod.words", "beatless.errors", "Less", "BeatlessError", "third", "fourth", "Less.__init__", "Less.reckon", "Less.told", "Less.words", "NoWeb", "NoHand", "beatless.programs", "NoProgram", "is_whole", "START_NAMES", "SEND_NAMES", "RENEW_NAMES", "TWO_WORDS", "MOST_WORDS", "MOST_DEEP", "is_short_number", "is_word_of", "is_divisor", "are_sound", "is_sound", "count_words", "beatless.wholes", "me", "lines", "worth", "round", "to", "sum", "least", "most", "count", "add", "sub", "min", "max", "parts", "names", "deep", "part", "expr", "beatless.webs", "Program", "MOST_HANDS", "LAST_HAND", "are_hands", "is_line", "are_lines", "near_by_hand", "first_worth", "word_to", "next_worth", "start", "send", "when", "renew", "Program.__init__", "hand", "Program.first_worth", "Program.word_to", "Program.next_worth", "hands", "ahead", "line", "seen", "near", "law_beatless_k24_whole_pieces_joined", "Web", "_law_cell_at", "_law_draws", "_law_take", "_law_hands", "has_hand", "has_line", "neighbours", "groups", "group_of", "Web.__init__", "Web.hands", "Web.lines", "Web.has_hand", "Web.has_line", "Web.neighbours", "Web.groups", "Web.group_of", "own_hands", "own_lines", "_law_script", "_law_k", "_law_cell", "_law_many", "_law_found", "_law_rest", "_law_number", "_law_mixed", "_law_xs", "_law_size", "_law_lines", "_law_near", "_law_expr", "_law_program", "_law_heard_names", "_law_made", "_law_program_made", "_law_part", "_law_pieces", "_law_both", "_law_cut", "law", "_law_hands_here", "_law_way", "_law_j", "_law_near_here", "_law_draw", "_law_at", "_law_first", "_law_send", "_law_when", "_law_told", "_law_program_here", "_law_most", "_law_pieces_here", "_law_ys", "_law_some", "_law_web", "_law_rounds", "_law_less"]
def s (n:Nat):Str:=zs.getD n ⟨#[]⟩
def k0:Value:=.type "tuple"
def k1:Value:=.type "code"
def k2:Value:=.type "function"
def k3:Value:=.type "frame"
def k4:Value:=.type "dict"
def k5:Value:=.builtin "__main__.__loader__#opaque"
def k6:Value:=.type "builtin_function_or_method"
def k7:Value:=.builtin "type.__prepare__"
def k8:Value:=.type "type"
def k9:Value:=.type "object"
def k10:Value:=.builtin "object.__new__"
def k11:Value:=.type "getset_descriptor"
def k12:Value:=.builtin "function.__dict__"
def k13:Value:=.builtin "function.__dict__#set"
def k14:Value:=.builtin "ExceptionGroup.__weakref__"
def k15:Value:=.type "super"
def k16:Value:=.builtin "object.__init_subclass__"
def k17:Value:=.type "ValueError"
def k18:Value:=.type "Exception"
def k19:Value:=.type "BaseException"
def k20:Value:=.builtin "ValueError.__new__"
noncomputable def tO (l:Array Value):Obj:=Obj.mk k0 .none (Data.seq l 0) #[]
noncomputable def vO (l:Array Value):Obj:=Obj.mk .none .none (Data.fields l) #[]
noncomputable def cO (n q:Str) (a b c:Tok) (l m:Int) (k:Int) (r1 r2 r3 r4 r5:Addr) (x:Int) (y:Tok):Obj:=Obj.mk k1 .none (Data.fields #[(.str n a),(.str q b),(.str (s 0) c),(.int l 0),(.int m 0),(.int 0 0),(.int 0 0),(.int k 0),(.ref r1),(.bool true),(.int 181 0),(.ref r2),.none,(.ref r3),(.ref r4),(.ref r5),(.int x 0),(.int l 0),(.str (s 0) y)]) #[]
noncomputable def uO (n q:Str) (z:Stmt) (m:Str) (t:Tok) (r:Addr):Obj:=Obj.mk k2 .none (Data.func (fd n q z 3 [] .none .none .none (.str m t) .none (.ref r) .none 0)) #[]
noncomputable def gO (n q:Str) (s:Stmt):Obj:=Obj.mk .none .none (Data.func (fd n q s 0 [] .none .none .none .none .none .none .none 0)) #[]
def o0 (P:Params):=tO #[]
def o1 (P:Params):=vO #[]
noncomputable def o2 (P:Params):=Obj.mk k1 .none (Data.fields #[(.str (s 1) 182),(.str (s 1) 183),(.str (s 0) 184),(.int 1 0),(.int 0 0),(.int 0 0),(.int 0 0),(.int 0 0),(.ref 11),(.bool false),(.int 181 0),(.ref 12),.none,.none,.none,.none,(.int 185 0),(.int 1 0),(.str (s 0) 186)]) #[]
noncomputable def o3 (P:Params):=Obj.mk k3 .none Data.plain #[(some (.ref 13)),(some (.ref 3)),(some (.ref 3)),.none,(some (.str (s 2) 164)),.none,(some (.ref 0))]
abbrev N:=@BT.node
noncomputable def t14:=N (boot_o_0 P) (N (boot_o_1 P) (N (boot_o_3 P) (N (boot_o_7 P) .nil .nil) (N (o0 P) .nil .nil)) (N (boot_o_5 P) (N (boot_o_9 P) .nil .nil) (N (o2 P) .nil .nil))) (N (boot_o_2 P) (N (boot_o_4 P) (N (boot_o_8 P) .nil .nil) (N (o1 P) .nil .nil)) (N (boot_o_6 P) (N (boot_o_10 P) .nil .nil) (N (o3 P) .nil .nil)))
noncomputable def sa (w:World) (os:OsState):SharedT:=⟨(t14 w.params),15,(Life.mk [] [] [] 0 [] [] false #[] [] 0 false false false 0 [2000,10,10] false 0 true [] [] 0 false),⟨[]⟩,(Drawn.mk 0 0 0 0),187,os⟩
noncomputable def La (w:World) (os:OsState):Option (Shared×Thread):=topGo treeTable PySem.Challenge.pw_beatless_k24_whole_pieces_joined w 11 an 12 (s0 w os) (topStub PySem.Challenge.pw_beatless_k24_whole_pieces_joined)
noncomputable def Ra (w:World) (os:OsState):Option (Shared×Thread):=some ((sa w os).abs,⟨denote treeTable cE,cE,(Pos.mk 0 0 0 0),B⟩)
theorem qa:tt (Hd.La,Hd.Ra)=true:=by k_qdec
theorem ra:∀ w,Fast.tw11367235000924431832 w=Fast.tw15912052731592885781 w:=fun w=>by kernel_rfl
theorem ea (w:World) (os:OsState):Hd.La w os=Hd.Ra w os:=((congrFun (congrFun Fast.te11367235000924431832 w) os).trans (congrFun (ra w) os)).trans (congrFun (congrFun Fast.te15912052731592885781 w) os).symm
noncomputable def sb0 (w:World) (os:OsState):SharedT:=⟨(t14 w.params),15,(Life.mk [] [] [] 0 [] [] false #[] [] 0 false false false 0 [2000,10,10] false 0 true [] [] 0 false),⟨[]⟩,(Drawn.mk 0 0 0 0),187,os⟩
noncomputable def Lb (w:World) (os:OsState):Option (Flow×SharedT×Code×Pos):=segRunT treeTable PySem.Challenge.pw_beatless_k24_whole_pieces_joined w 11 an 1 1 (sa w os) (blockOf bE env cE (Pos.mk 0 0 0 0) B)
noncomputable def Rb (w:World) (os:OsState):Option (Flow×SharedT×Code×Pos):=some (.next,sb0 w os,cE,(Pos.mk 0 0 0 0))
theorem qb:tt (Hd.Lb,Hd.Rb)=true:=by k_qdec
theorem rb:∀ w,Fast.tw16430817790641568776 w=Hd.Rb w:=fun w=>by kernel_rfl
theorem eb (w:World) (os:OsState):Hd.Lb w os=Hd.Rb w os:=(congrFun (congrFun Fast.te16430817790641568776 w) os).trans (congrFun (rb w) os)
noncomputable def zuJ:List Stmt:=[S 0,S 1,S 2,S 3,S 4,S 5,S 6,S 7,S 8,S 9,S 10,S 11]
noncomputable def o4:=Obj.mk k4 .none (Data.dict #[en P (s 3) 165 (.str (s 4) 263),en P (s 5) 166 .none,en P (s 6) 167 .none,en P (s 7) 168 k5,en P (s 8) 169 .none,en P (s 9) 170 (.ref 6),en P (s 10) 171 (.ref 4),en P (s 11) 173 (.str (s 0) 172),en P (s 12) 174 .none,en P (s 13) 193 (.ref 21),en P (s 14) 201 (.ref 26),en P (s 15) 207 (.ref 31),en P (s 16) 213 (.ref 36),en P (s 17) 228 (.ref 43),en P (s 18) 236 (.ref 50),en P (s 19) 244 (.ref 57),en P (s 20) 253 (.ref 64),en P (s 21) 262 (.ref 71),en P (s 22) 284 (.ref 81)] 19) #[]
noncomputable def o5 (P:Params):=vO #[(.int 1 0),(.int 0 0),(.ref 20),(.int 5 0),(.int 0 0),(.ref 25),(.int 7 0),(.int 0 0),(.ref 30),(.int 16 0),(.int 0 0),(.ref 35),(.int 23 0),(.int 0 0),(.ref 42),(.int 34 0),(.int 0 0),(.ref 49),(.int 36 0),(.int 0 0),(.ref 56),(.int 38 0),(.int 0 0),(.ref 63),(.int 40 0),(.int 0 0),(.ref 70),(.int 43 0),(.int 0 0),(.ref 77)]
def o6 (P:Params):=tO #[]
def o7 (P:Params):=vO #[]
def o8 (P:Params):=tO #[(.str (s 23) 190)]
def o9 (P:Params):=tO #[]
def o10 (P:Params):=gO (s 13) (s 13) (S 0)
noncomputable def o11 (P:Params):=cO (s 13) (s 13) 187 188 189 1 1 3 15 16 17 18 19 191 192
def o12 (P:Params):=uO (s 13) (s 13) (S 0) (s 2) 164 20
def o13 (P:Params):=tO #[]
def o14 (P:Params):=vO #[]
def o15 (P:Params):=gO (s 14) (s 14) (S 2)
noncomputable def o16 (P:Params):=Obj.mk k1 .none (Data.fields #[(.str (s 14) 196),(.str (s 14) 197),(.str (s 0) 198),(.int 5 0),(.int 2 0),(.int 0 0),(.int 0 0),(.int 3 0),(.ref 22),(.bool true),(.int 181 0),(.ref 23),.none,.none,.none,(.ref 24),(.int 199 0),(.int 5 0),(.str (s 0) 200)]) #[]
def o17 (P:Params):=uO (s 14) (s 14) (S 2) (s 24) 194 25
def o18 (P:Params):=tO #[]
def o19 (P:Params):=vO #[]
def o20 (P:Params):=gO (s 15) (s 15) (S 3)
noncomputable def o21 (P:Params):=Obj.mk k1 .none (Data.fields #[(.str (s 15) 202),(.str (s 15) 203),(.str (s 0) 204),(.int 7 0),(.int 4 0),(.int 0 0),(.int 0 0),(.int 3 0),(.ref 27),(.bool true),(.int 181 0),(.ref 28),.none,.none,.none,(.ref 29),(.int 205 0),(.int 7 0),(.str (s 0) 206)]) #[]
def o22 (P:Params):=uO (s 15) (s 15) (S 3) (s 24) 194 30
def o23 (P:Params):=tO #[]
def o24 (P:Params):=vO #[]
def o25 (P:Params):=gO (s 16) (s 16) (S 4)
noncomputable def o26 (P:Params):=Obj.mk k1 .none (Data.fields #[(.str (s 16) 208),(.str (s 16) 209),(.str (s 0) 210),(.int 16 0),(.int 5 0),(.int 0 0),(.int 0 0),(.int 3 0),(.ref 32),(.bool true),(.int 181 0),(.ref 33),.none,.none,.none,(.ref 34),(.int 211 0),(.int 16 0),(.str (s 0) 212)]) #[]
def o27 (P:Params):=uO (s 16) (s 16) (S 4) (s 24) 194 35
def o28 (P:Params):=tO #[]
def o29 (P:Params):=vO #[]
noncomputable def o30 (P:Params):=tO #[(.str (s 25) 217),(.str (s 26) 218),(.str (s 27) 219),(.str (s 28) 220),(.str (s 29) 221),(.str (s 30) 222),(.str (s 31) 223),(.str (s 32) 224),(.str (s 33) 225)]
def o31 (P:Params):=tO #[]
def o32 (P:Params):=gO (s 17) (s 17) (S 5)
noncomputable def o33 (P:Params):=cO (s 17) (s 17) 214 215 216 23 2 3 37 38 39 40 41 226 227
def o34 (P:Params):=uO (s 17) (s 17) (S 5) (s 24) 194 42
def o35 (P:Params):=tO #[]
def o36 (P:Params):=vO #[]
def o37 (P:Params):=tO #[(.str (s 25) 232),(.str (s 26) 233)]
def o38 (P:Params):=tO #[]
def o39 (P:Params):=gO (s 18) (s 18) (S 6)
noncomputable def o40 (P:Params):=cO (s 18) (s 18) 229 230 231 34 2 3 44 45 46 47 48 234 235
def o41 (P:Params):=uO (s 18) (s 18) (S 6) (s 24) 194 49
def o42 (P:Params):=tO #[]
def o43 (P:Params):=vO #[]
def o44 (P:Params):=tO #[(.str (s 25) 240),(.str (s 26) 241)]
def o45 (P:Params):=tO #[]
def o46 (P:Params):=gO (s 19) (s 19) (S 7)
noncomputable def o47 (P:Params):=cO (s 19) (s 19) 237 238 239 36 2 3 51 52 53 54 55 242 243
def o48 (P:Params):=uO (s 19) (s 19) (S 7) (s 24) 194 56
def o49 (P:Params):=tO #[]
def o50 (P:Params):=vO #[]
noncomputable def o51 (P:Params):=tO #[(.str (s 30) 248),(.str (s 26) 249),(.str (s 31) 250)]
def o52 (P:Params):=tO #[]
def o53 (P:Params):=gO (s 20) (s 20) (S 8)
noncomputable def o54 (P:Params):=cO (s 20) (s 20) 245 246 247 38 3 3 58 59 60 61 62 251 252
def o55 (P:Params):=uO (s 20) (s 20) (S 8) (s 24) 194 63
def o56 (P:Params):=tO #[]
def o57 (P:Params):=vO #[]
noncomputable def o58 (P:Params):=tO #[(.str (s 30) 257),(.str (s 26) 258),(.str (s 31) 259)]
def o59 (P:Params):=tO #[]
def o60 (P:Params):=gO (s 21) (s 21) (S 9)
noncomputable def o61 (P:Params):=cO (s 21) (s 21) 254 255 256 40 3 3 65 66 67 68 69 260 261
def o62 (P:Params):=uO (s 21) (s 21) (S 9) (s 24) 194 70
def o63 (P:Params):=tO #[]
noncomputable def o64 (P:Params):=Obj.mk k6 .none (Data.fields #[k7,k8]) #[]
noncomputable def o65:=Obj.mk k4 .none (Data.dict #[en P (s 34) 272 (.str (s 4) 263),en P (s 35) 274 (.str (s 22) 273),en P (s 36) 276 (.int 43 275),en P (s 37) 277 (.ref 79)] 4) #[]
def o66 (P:Params):=tO #[]
def o67 (P:Params):=vO #[]
noncomputable def o68 (P:Params):=Obj.mk k1 .none (Data.fields #[(.str (s 22) 267),(.str (s 22) 268),(.str (s 0) 269),(.int 43 0),(.int 0 0),(.int 0 0),(.int 0 0),(.int 0 0),(.ref 75),(.bool false),(.int 181 0),(.ref 76),.none,.none,.none,.none,(.int 270 0),(.int 43 0),(.str (s 0) 271)]) #[]
noncomputable def o69 (P:Params):=Obj.mk k3 .none Data.plain #[(some (.ref 77)),(some (.ref 3)),(some (.ref 74)),.none,(some (.str (s 4) 263)),.none,(some (.ref 0))]
def o70 (P:Params):=tO #[]
noncomputable def o71:=Obj.mk k4 .none (Data.dict #[en P (s 34) 272 (.str (s 4) 263),en P (s 36) 276 (.int 43 275),en P (s 37) 277 (.ref 79),en P (s 38) 279 (.ref 82),en P (s 39) 281 (.ref 83),en P (s 5) 282 .none] 4) #[]
noncomputable def o72 (P:Params):=Obj.mk k8 .none (Data.cls (ClassData.mk (s 22) [k9] [(.ref 81),k9] 80 (s 22) true [] [] false .none false)) #[.none,.none,(some (.str (s 22) 265)),(some (.str (s 22) 273)),(some k10),(some (.bool true))]
noncomputable def o73 (P:Params):=Obj.mk k11 .none (Data.fields #[(.str (s 38) 278),(.ref 81),k12,k13]) #[]
noncomputable def o74 (P:Params):=Obj.mk k11 .none (Data.fields #[(.str (s 39) 280),(.ref 81),k14,.none]) #[]
noncomputable def o75 (P:Params):=Obj.mk k15 .none (Data.fields #[(.ref 81),(.ref 81),(.ref 81)]) #[]
noncomputable def o76 (P:Params):=Obj.mk k6 .none (Data.fields #[k16,(.ref 81)]) #[]
def t15:=N (o54 P) .nil .nil
def t17:=N (o70 P) .nil .nil
def t20:=N (o62 P) .nil .nil
def t25:=N (o58 P) .nil .nil
def t27:=N (o74 P) .nil .nil
def t30:=N (o66 P) .nil .nil
def t36:=N (o56 P) .nil .nil
def t41:=N (o64 P) .nil .nil
def t46:=N (o60 P) .nil .nil
def t48:=N (o76 P) .nil .nil
def t51:=N (o68 P) .nil .nil
noncomputable def t56:=N (boot_o_5 P) (N (boot_o_9 P) (N (o8 P) (N (o24 P) (t36 P) .nil) (N (o40 P) (N (o72 P) .nil .nil) .nil)) (N (o16 P) (N (o32 P) (t41 P) .nil) (N (o48 P) .nil .nil))) (N (o2 P) (N (o12 P) (N (o28 P) (t46 P) .nil) (N (o44 P) (t48 P) .nil)) (N (o20 P) (N (o36 P) (t51 P) .nil) (N (o52 P) .nil .nil)))
def t58:=N (o55 P) .nil .nil
def t60:=N (o71 P) .nil .nil
def t63:=N (o63 P) .nil .nil
def t68:=N (o59 P) .nil .nil
def t70:=N (o75 P) .nil .nil
def t73:=N (o67 P) .nil .nil
def t79:=N (o57 P) .nil .nil
def t81:=N (o73 P) .nil .nil
def t84:=N (o65 P) .nil .nil
def t89:=N (o61 P) .nil .nil
def t93:=N (o69 P) .nil .nil
noncomputable def t98:=N (boot_o_6 P) (N (boot_o_10 P) (N (o9 P) (N (o25 P) (t79 P) .nil) (N (o41 P) (t81 P) .nil)) (N (o17 P) (N (o33 P) (t84 P) .nil) (N (o49 P) .nil .nil))) (N (o3 P) (N (o13 P) (N (o29 P) (t89 P) .nil) (N (o45 P) .nil .nil)) (N (o21 P) (N (o37 P) (t93 P) .nil) (N (o53 P) .nil .nil)))
noncomputable def t99:=N (boot_o_2 P) (N (boot_o_4 P) (N (boot_o_8 P) (N (o7 P) (N (o23 P) (t58 P) .nil) (N (o39 P) (t60 P) .nil)) (N (o15 P) (N (o31 P) (t63 P) .nil) (N (o47 P) .nil .nil))) (N (o5 P) (N (o11 P) (N (o27 P) (t68 P) .nil) (N (o43 P) (t70 P) .nil)) (N (o19 P) (N (o35 P) (t73 P) .nil) (N (o51 P) .nil .nil)))) (t98 P)
noncomputable def zw0:=N (boot_o_0 P) (N (boot_o_1 P) (N (o4 P) (N (boot_o_7 P) (N (o6 P) (N (o22 P) (t15 P) .nil) (N (o38 P) (t17 P) .nil)) (N (o14 P) (N (o30 P) (t20 P) .nil) (N (o46 P) .nil .nil))) (N (o0 P) (N (o10 P) (N (o26 P) (t25 P) .nil) (N (o42 P) (t27 P) .nil)) (N (o18 P) (N (o34 P) (t30 P) .nil) (N (o50 P) .nil .nil)))) (t56 P)) (t99 P)
noncomputable def sb1 (w:World) (os:OsState):SharedT:=⟨(zw0 w.params),86,(Life.mk [] [] [] 0 [] [] false #[] [] 0 false false false 0 [2000,10,10] false 0 true [] [] 0 false),⟨[]⟩,(Drawn.mk 0 0 0 0),285,os⟩
noncomputable def L0 (w:World) (os:OsState):Option (Flow×SharedT×Code×Pos):=segRunT treeTable PySem.Challenge.pw_beatless_k24_whole_pieces_joined w 11 an 1 475 (sb0 w os) (piecesOf zuJ env cE (Pos.mk 0 0 0 0) B)
noncomputable def R0 (w:World) (os:OsState):Option (Flow×SharedT×Code×Pos):=some (.next,sb1 w os,cE,(Pos.mk 43 0 44 8))
theorem q0:tt (Hd.L0,Hd.R0)=true:=by k_qdec
theorem r0:∀ w,Fast.tw4453942571644881324 w=Hd.R0 w:=fun w=>by kernel_rfl
theorem e0 (w:World) (os:OsState):Hd.L0 w os=Hd.R0 w os:=(congrFun (congrFun Fast.te4453942571644881324 w) os).trans (congrFun (r0 w) os)
def zuI:List Stmt:=[S 12]
noncomputable def o77:=Obj.mk k4 .none (Data.dict #[en P (s 3) 165 (.str (s 4) 263),en P (s 5) 166 .none,en P (s 6) 167 .none,en P (s 7) 168 k5,en P (s 8) 169 .none,en P (s 9) 170 (.ref 6),en P (s 10) 171 (.ref 4),en P (s 11) 173 (.str (s 0) 172),en P (s 12) 174 .none,en P (s 13) 193 (.ref 21),en P (s 14) 201 (.ref 26),en P (s 15) 207 (.ref 31),en P (s 16) 213 (.ref 36),en P (s 17) 228 (.ref 43),en P (s 18) 236 (.ref 50),en P (s 19) 244 (.ref 57),en P (s 20) 253 (.ref 64),en P (s 21) 262 (.ref 71),en P (s 22) 284 (.ref 81),en P (s 40) 331 (.ref 123)] 20) #[]
noncomputable def o78 (P:Params):=vO #[(.int 1 0),(.int 0 0),(.ref 20),(.int 5 0),(.int 0 0),(.ref 25),(.int 7 0),(.int 0 0),(.ref 30),(.int 16 0),(.int 0 0),(.ref 35),(.int 23 0),(.int 0 0),(.ref 42),(.int 34 0),(.int 0 0),(.ref 49),(.int 36 0),(.int 0 0),(.ref 56),(.int 38 0),(.int 0 0),(.ref 63),(.int 40 0),(.int 0 0),(.ref 70),(.int 43 0),(.int 0 0),(.ref 77),(.int 45 0),(.int 0 0),(.ref 91)]
noncomputable def o79 (P:Params):=Obj.mk k8 .none (Data.cls (ClassData.mk (s 22) [k9] [(.ref 81),k9] 80 (s 22) true [] [(.ref 123)] false .none false)) #[.none,.none,(some (.str (s 22) 265)),(some (.str (s 22) 273)),(some k10),(some (.bool true))]
def o80 (P:Params):=tO #[(.ref 81)]
noncomputable def o81 (P:Params):=Obj.mk k6 .none (Data.fields #[k7,k8]) #[]
noncomputable def o82:=Obj.mk k4 .none (Data.dict #[en P (s 34) 292 (.str (s 4) 263),en P (s 35) 294 (.str (s 40) 293),en P (s 36) 296 (.int 45 295),en P (s 41) 304 (.ref 99),en P (s 42) 312 (.ref 106),en P (s 43) 319 (.ref 113),en P (s 44) 326 (.ref 120),en P (s 37) 328 (.ref 121)] 8) #[]
def o83 (P:Params):=tO #[]
noncomputable def o84 (P:Params):=vO #[(.int 47 0),(.int 4 0),(.ref 98),(.int 50 0),(.int 4 0),(.ref 105),(.int 53 0),(.int 4 0),(.ref 112),(.int 56 0),(.int 4 0),(.ref 119)]
noncomputable def o85 (P:Params):=Obj.mk k1 .none (Data.fields #[(.str (s 40) 287),(.str (s 40) 288),(.str (s 0) 289),(.int 45 0),(.int 0 0),(.int 0 0),(.int 0 0),(.int 0 0),(.ref 89),(.bool false),(.int 181 0),(.ref 90),.none,.none,.none,.none,(.int 290 0),(.int 45 0),(.str (s 0) 291)]) #[]
noncomputable def o86 (P:Params):=Obj.mk k3 .none Data.plain #[(some (.ref 91)),(some (.ref 3)),(some (.ref 88)),.none,(some (.str (s 4) 263)),.none,(some (.ref 0))]
def o87 (P:Params):=tO #[]
def o88 (P:Params):=vO #[]
def o89 (P:Params):=tO #[(.str (s 45) 300),(.str (s 46) 301)]
def o90 (P:Params):=tO #[]
def o91 (P:Params):=gO (s 41) (s 47) (L2.inClass (S 12) 0)
noncomputable def o92 (P:Params):=cO (s 41) (s 47) 297 298 299 47 2 3 93 94 95 96 97 302 303
noncomputable def o93 (P:Params):=uO (s 41) (s 47) (L2.inClass (S 12) 0) (s 4) 263 98
def o94 (P:Params):=tO #[]
def o95 (P:Params):=vO #[]
def o96 (P:Params):=tO #[(.str (s 45) 308),(.str (s 28) 309)]
def o97 (P:Params):=tO #[]
def o98 (P:Params):=gO (s 42) (s 48) (L2.inClass (S 12) 1)
noncomputable def o99 (P:Params):=cO (s 42) (s 48) 305 306 307 50 2 3 100 101 102 103 104 310 311
noncomputable def YV (P:Params):=uO (s 42) (s 48) (L2.inClass (S 12) 1) (s 4) 263 105
def YU (P:Params):=tO #[]
def Wd (P:Params):=vO #[]
def YT (P:Params):=tO #[(.str (s 45) 316)]
def YS (P:Params):=tO #[]
def Wc (P:Params):=gO (s 43) (s 49) (L2.inClass (S 12) 2)
noncomputable def YR (P:Params):=cO (s 43) (s 49) 313 314 315 53 1 3 107 108 109 110 111 317 318
noncomputable def YQ (P:Params):=uO (s 43) (s 49) (L2.inClass (S 12) 2) (s 4) 263 112
def YO (P:Params):=tO #[]
def Wa (P:Params):=vO #[]
def YN (P:Params):=tO #[(.str (s 45) 323)]
def YM (P:Params):=tO #[]
def X9 (P:Params):=gO (s 44) (s 50) (L2.inClass (S 12) 3)
noncomputable def YL (P:Params):=cO (s 44) (s 50) 320 321 322 56 1 3 114 115 116 117 118 324 325
noncomputable def YK (P:Params):=uO (s 44) (s 50) (L2.inClass (S 12) 3) (s 4) 263 119
def YJ (P:Params):=tO #[(.str (s 46) 327)]
noncomputable def YI:=Obj.mk k4 .none (Data.dict #[en P (s 34) 292 (.str (s 4) 263),en P (s 36) 296 (.int 45 295),en P (s 41) 304 (.ref 99),en P (s 42) 312 (.ref 106),en P (s 43) 319 (.ref 113),en P (s 44) 326 (.ref 120),en P (s 37) 328 (.ref 121),en P (s 5) 329 .none] 2) #[]
noncomputable def YH (P:Params):=Obj.mk k8 .none (Data.cls (ClassData.mk (s 40) [(.ref 81)] [(.ref 123),(.ref 81),k9] 122 (s 40) true [] [] false .none false)) #[(some (.ref 86)),.none,(some (.str (s 40) 285)),(some (.str (s 40) 293)),(some k10),(some (.bool true))]
noncomputable def X8 (P:Params):=Obj.mk k15 .none (Data.fields #[(.ref 123),(.ref 123),(.ref 123)]) #[]
noncomputable def X7 (P:Params):=Obj.mk k6 .none (Data.fields #[k16,(.ref 123)]) #[]
def zuz:=N (Wc P) .nil .nil
def zuy:=N (o97 P) .nil .nil
def zux:=N (YL P) .nil .nil
def zuw:=N (Wa P) .nil .nil
def zuv:=N (YU P) .nil .nil
def zuu:=N (YH P) .nil .nil
def zut:=N (YQ P) .nil .nil
def zus:=N (o99 P) .nil .nil
def zur:=N (YJ P) .nil .nil
def zuq:=N (YM P) .nil .nil
def zup:=N (YT P) .nil .nil
def zuo:=N (X7 P) .nil .nil
noncomputable def zwZ:=N (boot_o_5 P) (N (boot_o_9 P) (N (o8 P) (N (o24 P) (t36 P) (N (o91 P) .nil .nil)) (N (o40 P) (N (o79 P) .nil .nil) (zut P))) (N (o16 P) (N (o32 P) (t41 P) (zus P)) (N (o48 P) (N (o83 P) .nil .nil) (zur P)))) (N (o2 P) (N (o12 P) (N (o28 P) (t46 P) (N (o95 P) .nil .nil)) (N (o44 P) (t48 P) (zuq P))) (N (o20 P) (N (o36 P) (t51 P) (zup P)) (N (o52 P) (N (o87 P) .nil .nil) (zuo P))))
def zun:=N (YR P) .nil .nil
def zum:=N (o98 P) .nil .nil
def zul:=N (YK P) .nil .nil
def zuk:=N (YN P) .nil .nil
def zuj:=N (Wd P) .nil .nil
def zui:=N (X8 P) .nil .nil
def zuh:=N (YO P) .nil .nil
def zug:=N (YV P) .nil .nil
def zuf:=N (YI P) .nil .nil
def zue:=N (o96 P) .nil .nil
def zud:=N (X9 P) .nil .nil
def zuc:=N (YS P) .nil .nil
noncomputable def zwY:=N (boot_o_6 P) (N (boot_o_10 P) (N (o9 P) (N (o25 P) (t79 P) (N (o92 P) .nil .nil)) (N (o41 P) (t81 P) (zuh P))) (N (o17 P) (N (o33 P) (t84 P) (zug P)) (N (o49 P) (N (o84 P) .nil .nil) (zuf P)))) (N (o3 P) (N (o13 P) (N (o29 P) (t89 P) (zue P)) (N (o45 P) (N (o80 P) .nil .nil) (zud P))) (N (o21 P) (N (o37 P) (t93 P) (zuc P)) (N (o53 P) (N (o88 P) .nil .nil) .nil)))
noncomputable def zwX:=N (boot_o_2 P) (N (boot_o_4 P) (N (boot_o_8 P) (N (o7 P) (N (o23 P) (t58 P) (N (o90 P) .nil .nil)) (N (o39 P) (t60 P) (zun P))) (N (o15 P) (N (o31 P) (t63 P) (zum P)) (N (o47 P) (N (o82 P) .nil .nil) (zul P)))) (N (o78 P) (N (o11 P) (N (o27 P) (t68 P) (N (o94 P) .nil .nil)) (N (o43 P) (t70 P) (zuk P))) (N (o19 P) (N (o35 P) (t73 P) (zuj P)) (N (o51 P) (N (o86 P) .nil .nil) (zui P))))) (zwY P)
noncomputable def zwW:=N (boot_o_0 P) (N (boot_o_1 P) (N (o77 P) (N (boot_o_7 P) (N (o6 P) (N (o22 P) (t15 P) (N (o89 P) .nil .nil)) (N (o38 P) (t17 P) (zuz P))) (N (o14 P) (N (o30 P) (t20 P) (zuy P)) (N (o46 P) (N (o81 P) .nil .nil) (zux P)))) (N (o0 P) (N (o10 P) (N (o26 P) (t25 P) (N (o93 P) .nil .nil)) (N (o42 P) (t27 P) (zuw P))) (N (o18 P) (N (o34 P) (t30 P) (zuv P)) (N (o50 P) (N (o85 P) .nil .nil) (zuu P))))) (zwZ P)) (zwX P)
noncomputable def sb2 (w:World) (os:OsState):SharedT:=⟨(zwW w.params),126,(Life.mk [] [] [] 0 [] [] false #[] [] 0 false false false 0 [2000,10,10] false 0 true [] [] 0 false),⟨[]⟩,(Drawn.mk 0 0 0 0),332,os⟩
noncomputable def L1 (w:World) (os:OsState):Option (Flow×SharedT×Code×Pos):=segRunT treeTable PySem.Challenge.pw_beatless_k24_whole_pieces_joined w 11 an 1 340 (sb1 w os) (piecesOf zuI env cE (Pos.mk 43 0 44 8) B)
noncomputable def R1 (w:World) (os:OsState):Option (Flow×SharedT×Code×Pos):=some (.next,sb2 w os,cE,(Pos.mk 45 0 57 32))
theorem q1:tt (Hd.L1,Hd.R1)=true:=by k_qdec
theorem r1:∀ w,Fast.tw6387051279210280424 w=Hd.R1 w:=fun w=>by kernel_rfl
theorem e1 (w:World) (os:OsState):Hd.L1 w os=Hd.R1 w os:=(congrFun (congrFun Fast.te6387051279210280424 w) os).trans (congrFun (r1 w) os)
def zuH:List Stmt:=[S 13]
noncomputable def zxz:=Obj.mk k4 .none (Data.dict #[en P (s 3) 165 (.str (s 4) 263),en P (s 5) 166 .none,en P (s 6) 167 .none,en P (s 7) 168 k5,en P (s 8) 169 .none,en P (s 9) 170 (.ref 6),en P (s 10) 171 (.ref 4),en P (s 11) 173 (.str (s 0) 172),en P (s 12) 174 .none,en P (s 13) 193 (.ref 21),en P (s 14) 201 (.ref 26),en P (s 15) 207 (.ref 31),en P (s 16) 213 (.ref 36),en P (s 17) 228 (.ref 43),en P (s 18) 236 (.ref 50),en P (s 19) 244 (.ref 57),en P (s 20) 253 (.ref 64),en P (s 21) 262 (.ref 71),en P (s 22) 284 (.ref 81),en P (s 40) 331 (.ref 123),en P (s 51) 378 (.ref 163)] 21) #[]
noncomputable def zxy (P:Params):=vO #[(.int 1 0),(.int 0 0),(.ref 20),(.int 5 0),(.int 0 0),(.ref 25),(.int 7 0),(.int 0 0),(.ref 30),(.int 16 0),(.int 0 0),(.ref 35),(.int 23 0),(.int 0 0),(.ref 42),(.int 34 0),(.int 0 0),(.ref 49),(.int 36 0),(.int 0 0),(.ref 56),(.int 38 0),(.int 0 0),(.ref 63),(.int 40 0),(.int 0 0),(.ref 70),(.int 43 0),(.int 0 0),(.ref 77),(.int 45 0),(.int 0 0),(.ref 91),(.int 58 0),(.int 0 0),(.ref 131)]
noncomputable def zxx (P:Params):=Obj.mk k8 .none (Data.cls (ClassData.mk (s 22) [k9] [(.ref 81),k9] 80 (s 22) true [] [(.ref 123),(.ref 163)] false .none false)) #[.none,.none,(some (.str (s 22) 265)),(some (.str (s 22) 273)),(some k10),(some (.bool true))]
def YG (P:Params):=tO #[(.ref 81)]
noncomputable def zic (P:Params):=Obj.mk k6 .none (Data.fields #[k7,k8]) #[]
noncomputable def zib:=Obj.mk k4 .none (Data.dict #[en P (s 34) 339 (.str (s 4) 263),en P (s 35) 341 (.str (s 51) 340),en P (s 36) 343 (.int 58 342),en P (s 41) 351 (.ref 139),en P (s 42) 359 (.ref 146),en P (s 43) 366 (.ref 153),en P (s 44) 373 (.ref 160),en P (s 37) 375 (.ref 161)] 8) #[]
def zia (P:Params):=tO #[]
noncomputable def zh9 (P:Params):=vO #[(.int 60 0),(.int 4 0),(.ref 138),(.int 63 0),(.int 4 0),(.ref 145),(.int 66 0),(.int 4 0),(.ref 152),(.int 69 0),(.int 4 0),(.ref 159)]
noncomputable def zh8 (P:Params):=Obj.mk k1 .none (Data.fields #[(.str (s 51) 334),(.str (s 51) 335),(.str (s 0) 336),(.int 58 0),(.int 0 0),(.int 0 0),(.int 0 0),(.int 0 0),(.ref 129),(.bool false),(.int 181 0),(.ref 130),.none,.none,.none,.none,(.int 337 0),(.int 58 0),(.str (s 0) 338)]) #[]
noncomputable def zh7 (P:Params):=Obj.mk k3 .none Data.plain #[(some (.ref 131)),(some (.ref 3)),(some (.ref 128)),.none,(some (.str (s 4) 263)),.none,(some (.ref 0))]
def U9 (P:Params):=tO #[]
def zh6 (P:Params):=vO #[]
def U8 (P:Params):=tO #[(.str (s 45) 347),(.str (s 52) 348)]
def U7 (P:Params):=tO #[]
def zh5 (P:Params):=gO (s 41) (s 53) (L2.inClass (S 13) 0)
noncomputable def U6 (P:Params):=cO (s 41) (s 53) 344 345 346 60 2 3 133 134 135 136 137 349 350
noncomputable def U5 (P:Params):=uO (s 41) (s 53) (L2.inClass (S 13) 0) (s 4) 263 138
def U4 (P:Params):=tO #[]
def zh4 (P:Params):=vO #[]
def U3 (P:Params):=tO #[(.str (s 45) 355),(.str (s 28) 356)]
def U2 (P:Params):=tO #[]
def zh3 (P:Params):=gO (s 42) (s 54) (L2.inClass (S 13) 1)
noncomputable def U1 (P:Params):=cO (s 42) (s 54) 352 353 354 63 2 3 140 141 142 143 144 357 358
noncomputable def U0 (P:Params):=uO (s 42) (s 54) (L2.inClass (S 13) 1) (s 4) 263 145
def UZ (P:Params):=tO #[]
def zh2 (P:Params):=vO #[]
def UY (P:Params):=tO #[(.str (s 45) 363)]
def UX (P:Params):=tO #[]
def zh1 (P:Params):=gO (s 43) (s 55) (L2.inClass (S 13) 2)
noncomputable def UW (P:Params):=cO (s 43) (s 55) 360 361 362 66 1 3 147 148 149 150 151 364 365
noncomputable def UV (P:Params):=uO (s 43) (s 55) (L2.inClass (S 13) 2) (s 4) 263 152
def UU (P:Params):=tO #[]
def zh0 (P:Params):=vO #[]
def UT (P:Params):=tO #[(.str (s 45) 370)]
def US (P:Params):=tO #[]
def zhZ (P:Params):=gO (s 44) (s 56) (L2.inClass (S 13) 3)
noncomputable def UR (P:Params):=cO (s 44) (s 56) 367 368 369 69 1 3 154 155 156 157 158 371 372
noncomputable def UQ (P:Params):=uO (s 44) (s 56) (L2.inClass (S 13) 3) (s 4) 263 159
def UP (P:Params):=tO #[(.str (s 52) 374)]
noncomputable def UO:=Obj.mk k4 .none (Data.dict #[en P (s 34) 339 (.str (s 4) 263),en P (s 36) 343 (.int 58 342),en P (s 41) 351 (.ref 139),en P (s 42) 359 (.ref 146),en P (s 43) 366 (.ref 153),en P (s 44) 373 (.ref 160),en P (s 37) 375 (.ref 161),en P (s 5) 376 .none] 2) #[]
noncomputable def UN (P:Params):=Obj.mk k8 .none (Data.cls (ClassData.mk (s 51) [(.ref 81)] [(.ref 163),(.ref 81),k9] 162 (s 51) true [] [] false .none false)) #[(some (.ref 126)),.none,(some (.str (s 51) 332)),(some (.str (s 51) 340)),(some k10),(some (.bool true))]
noncomputable def zhY (P:Params):=Obj.mk k15 .none (Data.fields #[(.ref 163),(.ref 163),(.ref 163)]) #[]
noncomputable def zhX (P:Params):=Obj.mk k6 .none (Data.fields #[k16,(.ref 163)]) #[]
def zub:=N (zic P) .nil .nil
def zua:=N (UR P) .nil .nil
def zt9:=N (o89 P) (zua P) .nil
def zt8:=N (U2 P) .nil .nil
def zt7:=N (o70 P) (zt8 P) .nil
def zt6:=N (U8 P) .nil .nil
def zt5:=N (zh1 P) .nil .nil
def zt4:=N (o81 P) (zt5 P) .nil
def zt3:=N (zh8 P) .nil .nil
def zt2:=N (UN P) .nil .nil
def zt1:=N (o93 P) (zt2 P) .nil
def zt0:=N (UZ P) .nil .nil
def ztZ:=N (o74 P) (zt0 P) .nil
def ztY:=N (U5 P) .nil .nil
def ztX:=N (zh0 P) .nil .nil
def ztW:=N (o85 P) (ztX P) .nil
def ztV:=N (zia P) .nil .nil
def ztU:=N (UP P) .nil .nil
def ztT:=N (o91 P) (ztU P) .nil
def zlz:=N (U1 P) .nil .nil
def ztS:=N (zh5 P) .nil .nil
def ztR:=N (UV P) .nil .nil
def ztQ:=N (o83 P) (ztR P) .nil
def ztP:=N (U9 P) .nil .nil
def ztO:=N (zhX P) .nil .nil
def ztN:=N (o95 P) (ztO P) .nil
def ztM:=N (UY P) .nil .nil
def ztL:=N (o76 P) (ztM P) .nil
def ztK:=N (zh4 P) .nil .nil
def ztJ:=N (US P) .nil .nil
def ztI:=N (o87 P) (ztJ P) .nil
noncomputable def zwV:=N (boot_o_5 P) (N (boot_o_9 P) (N (o8 P) (N (o24 P) (N (o56 P) (ztV P) .nil) (ztT P)) (N (o40 P) (N (zxx P) (zlz P) .nil) (zut P))) (N (o16 P) (N (o32 P) (N (o64 P) (ztS P) .nil) (zus P)) (N (o48 P) (ztQ P) (zur P)))) (N (o2 P) (N (o12 P) (N (o28 P) (N (o60 P) (ztP P) .nil) (ztN P)) (N (o44 P) (ztL P) (zuq P))) (N (o20 P) (N (o36 P) (N (o68 P) (ztK P) .nil) (zup P)) (N (o52 P) (ztI P) (zuo P))))
def ztH:=N (zib P) .nil .nil
def ztG:=N (UQ P) .nil .nil
def ztF:=N (o90 P) (ztG P) .nil
def ztE:=N (zh3 P) .nil .nil
def ztD:=N (o71 P) (ztE P) .nil
def ztC:=N (U7 P) .nil .nil
def ztB:=N (UW P) .nil .nil
def ztA:=N (o82 P) (ztB P) .nil
def ztz:=N (zh7 P) .nil .nil
def zty:=N (zhY P) .nil .nil
def ztx:=N (o94 P) (zty P) .nil
def ztw:=N (zh2 P) .nil .nil
def ztv:=N (o75 P) (ztw P) .nil
def ztu:=N (U4 P) .nil .nil
def ztt:=N (UT P) .nil .nil
def zts:=N (o86 P) (ztt P) .nil
def ztr:=N (zh9 P) .nil .nil
def ztq:=N (UO P) .nil .nil
def ztp:=N (o92 P) (ztq P) .nil
def zto:=N (U0 P) .nil .nil
def ztn:=N (o73 P) (zto P) .nil
def ztm:=N (U6 P) .nil .nil
def ztl:=N (UU P) .nil .nil
def ztk:=N (o84 P) (ztl P) .nil
def ztj:=N (zh6 P) .nil .nil
def zti:=N (UX P) .nil .nil
def zth:=N (o80 P) (zti P) .nil
def ztg:=N (U3 P) .nil .nil
def ztf:=N (o69 P) (ztg P) .nil
def zte:=N (zhZ P) .nil .nil
def ztd:=N (o88 P) (zte P) .nil
noncomputable def zwU:=N (boot_o_6 P) (N (boot_o_10 P) (N (o9 P) (N (o25 P) (N (o57 P) (ztr P) .nil) (ztp P)) (N (o41 P) (ztn P) (zuh P))) (N (o17 P) (N (o33 P) (N (o65 P) (ztm P) .nil) (zug P)) (N (o49 P) (ztk P) (zuf P)))) (N (o3 P) (N (o13 P) (N (o29 P) (N (o61 P) (ztj P) .nil) (zue P)) (N (o45 P) (zth P) (zud P))) (N (o21 P) (N (o37 P) (ztf P) (zuc P)) (N (o53 P) (ztd P) (N (YG P) .nil .nil))))
noncomputable def zwT:=N (boot_o_2 P) (N (boot_o_4 P) (N (boot_o_8 P) (N (o7 P) (N (o23 P) (N (o55 P) (ztH P) .nil) (ztF P)) (N (o39 P) (ztD P) (zun P))) (N (o15 P) (N (o31 P) (N (o63 P) (ztC P) .nil) (zum P)) (N (o47 P) (ztA P) (zul P)))) (N (zxy P) (N (o11 P) (N (o27 P) (N (o59 P) (ztz P) .nil) (ztx P)) (N (o43 P) (ztv P) (zuk P))) (N (o19 P) (N (o35 P) (N (o67 P) (ztu P) .nil) (zuj P)) (N (o51 P) (zts P) (zui P))))) (zwU P)
noncomputable def zwS:=N (boot_o_0 P) (N (boot_o_1 P) (N (zxz P) (N (boot_o_7 P) (N (o6 P) (N (o22 P) (N (o54 P) (zub P) .nil) (zt9 P)) (N (o38 P) (zt7 P) (zuz P))) (N (o14 P) (N (o30 P) (N (o62 P) (zt6 P) .nil) (zuy P)) (N (o46 P) (zt4 P) (zux P)))) (N (o0 P) (N (o10 P) (N (o26 P) (N (o58 P) (zt3 P) .nil) (zt1 P)) (N (o42 P) (ztZ P) (zuw P))) (N (o18 P) (N (o34 P) (N (o66 P) (ztY P) .nil) (zuv P)) (N (o50 P) (ztW P) (zuu P))))) (zwV P)) (zwT P)
noncomputable def sb3 (w:World) (os:OsState):SharedT:=⟨(zwS w.params),166,(Life.mk [] [] [] 0 [] [] false #[] [] 0 false false false 0 [2000,10,10] false 0 true [] [] 0 false),⟨[]⟩,(Drawn.mk 0 0 0 0),379,os⟩
noncomputable def L2 (w:World) (os:OsState):Option (Flow×SharedT×Code×Pos):=segRunT treeTable PySem.Challenge.pw_beatless_k24_whole_pieces_joined w 11 an 1 340 (sb2 w os) (piecesOf zuH env cE (Pos.mk 45 0 57 32) B)
noncomputable def R2 (w:World) (os:OsState):Option (Flow×SharedT×Code×Pos):=some (.next,sb3 w os,cE,(Pos.mk 58 0 70 26))
theorem q2:tt (Hd.L2,Hd.R2)=true:=by k_qdec
theorem r2:∀ w,Fast.tw9171306275460833034 w=Hd.R2 w:=fun w=>by kernel_rfl
theorem e2 (w:World) (os:OsState):Hd.L2 w os=Hd.R2 w os:=(congrFun (congrFun Fast.te9171306275460833034 w) os).trans (congrFun (r2 w) os)
def zuG:List Stmt:=[S 14]
noncomputable def zxw:=Obj.mk k4 .none (Data.dict #[en P (s 3) 165 (.str (s 4) 263),en P (s 5) 166 .none,en P (s 6) 167 .none,en P (s 7) 168 k5,en P (s 8) 169 .none,en P (s 9) 170 (.ref 6),en P (s 10) 171 (.ref 4),en P (s 11) 173 (.str (s 0) 172),en P (s 12) 174 .none,en P (s 13) 193 (.ref 21),en P (s 14) 201 (.ref 26),en P (s 15) 207 (.ref 31),en P (s 16) 213 (.ref 36),en P (s 17) 228 (.ref 43),en P (s 18) 236 (.ref 50),en P (s 19) 244 (.ref 57),en P (s 20) 253 (.ref 64),en P (s 21) 262 (.ref 71),en P (s 22) 284 (.ref 81),en P (s 40) 331 (.ref 123),en P (s 51) 378 (.ref 163),en P (s 57) 431 (.ref 203)] 22) #[]
noncomputable def zxv (P:Params):=vO #[(.int 1 0),(.int 0 0),(.ref 20),(.int 5 0),(.int 0 0),(.ref 25),(.int 7 0),(.int 0 0),(.ref 30),(.int 16 0),(.int 0 0),(.ref 35),(.int 23 0),(.int 0 0),(.ref 42),(.int 34 0),(.int 0 0),(.ref 49),(.int 36 0),(.int 0 0),(.ref 56),(.int 38 0),(.int 0 0),(.ref 63),(.int 40 0),(.int 0 0),(.ref 70),(.int 43 0),(.int 0 0),(.ref 77),(.int 45 0),(.int 0 0),(.ref 91),(.int 58 0),(.int 0 0),(.ref 131),(.int 71 0),(.int 0 0),(.ref 171)]
noncomputable def zxu (P:Params):=Obj.mk k8 .none (Data.cls (ClassData.mk (s 22) [k9] [(.ref 81),k9] 80 (s 22) true [] [(.ref 123),(.ref 163),(.ref 203)] false .none false)) #[.none,.none,(some (.str (s 22) 265)),(some (.str (s 22) 273)),(some k10),(some (.bool true))]
def UM (P:Params):=tO #[(.ref 81)]
def UL (P:Params):=Obj.mk k6 .none (Data.fields #[k7,k8]) #[]
noncomputable def zhW:=Obj.mk k4 .none (Data.dict #[en P (s 34) 386 (.str (s 4) 263),en P (s 35) 388 (.str (s 57) 387),en P (s 36) 390 (.int 71 389),en P (s 41) 400 (.ref 179),en P (s 42) 410 (.ref 186),en P (s 43) 417 (.ref 193),en P (s 44) 424 (.ref 200),en P (s 37) 428 (.ref 201)] 8) #[]
def zhV (P:Params):=tO #[]
noncomputable def zhU (P:Params):=vO #[(.int 73 0),(.int 4 0),(.ref 178),(.int 78 0),(.int 4 0),(.ref 185),(.int 89 0),(.int 4 0),(.ref 192),(.int 92 0),(.int 4 0),(.ref 199)]
noncomputable def zhT (P:Params):=Obj.mk k1 .none (Data.fields #[(.str (s 57) 381),(.str (s 57) 382),(.str (s 0) 383),(.int 71 0),(.int 0 0),(.int 0 0),(.int 0 0),(.int 0 0),(.ref 169),(.bool false),(.int 181 0),(.ref 170),.none,.none,.none,.none,(.int 384 0),(.int 71 0),(.str (s 0) 385)]) #[]
noncomputable def zhS (P:Params):=Obj.mk k3 .none Data.plain #[(some (.ref 171)),(some (.ref 3)),(some (.ref 168)),.none,(some (.str (s 4) 263)),.none,(some (.ref 0))]
def UK (P:Params):=tO #[]
def zhR (P:Params):=vO #[]
noncomputable def UJ (P:Params):=tO #[(.str (s 45) 394),(.str (s 52) 395),(.str (s 58) 396),(.str (s 59) 397)]
def UI (P:Params):=tO #[]
def zhQ (P:Params):=gO (s 41) (s 60) (L2.inClass (S 14) 0)
noncomputable def UH (P:Params):=cO (s 41) (s 60) 391 392 393 73 4 3 173 174 175 176 177 398 399
noncomputable def UG (P:Params):=uO (s 41) (s 60) (L2.inClass (S 14) 0) (s 4) 263 178
def UF (P:Params):=tO #[]
def zhP (P:Params):=vO #[]
noncomputable def UE (P:Params):=tO #[(.str (s 45) 404),(.str (s 28) 405),(.str (s 58) 406),(.str (s 59) 407)]
def UD (P:Params):=tO #[]
def zhO (P:Params):=gO (s 42) (s 61) (L2.inClass (S 14) 1)
noncomputable def UC (P:Params):=cO (s 42) (s 61) 401 402 403 78 2 3 180 181 182 183 184 408 409
noncomputable def UB (P:Params):=uO (s 42) (s 61) (L2.inClass (S 14) 1) (s 4) 263 185
def UA (P:Params):=tO #[]
def zhN (P:Params):=vO #[]
def Uz (P:Params):=tO #[(.str (s 45) 414)]
def Uy (P:Params):=tO #[]
def zhM (P:Params):=gO (s 43) (s 62) (L2.inClass (S 14) 2)
noncomputable def Ux (P:Params):=cO (s 43) (s 62) 411 412 413 89 1 3 187 188 189 190 191 415 416
noncomputable def Uw (P:Params):=uO (s 43) (s 62) (L2.inClass (S 14) 2) (s 4) 263 192
def Uv (P:Params):=tO #[]
def zhL (P:Params):=vO #[]
def Uu (P:Params):=tO #[(.str (s 45) 421)]
def Ut (P:Params):=tO #[]
def zhK (P:Params):=gO (s 44) (s 63) (L2.inClass (S 14) 3)
noncomputable def Us (P:Params):=cO (s 44) (s 63) 418 419 420 92 1 3 194 195 196 197 198 422 423
noncomputable def Ur (P:Params):=uO (s 44) (s 63) (L2.inClass (S 14) 3) (s 4) 263 199
noncomputable def Uq (P:Params):=tO #[(.str (s 58) 425),(.str (s 59) 426),(.str (s 52) 427)]
noncomputable def Up:=Obj.mk k4 .none (Data.dict #[en P (s 34) 386 (.str (s 4) 263),en P (s 36) 390 (.int 71 389),en P (s 41) 400 (.ref 179),en P (s 42) 410 (.ref 186),en P (s 43) 417 (.ref 193),en P (s 44) 424 (.ref 200),en P (s 37) 428 (.ref 201),en P (s 5) 429 .none] 2) #[]
noncomputable def Uo (P:Params):=Obj.mk k8 .none (Data.cls (ClassData.mk (s 57) [(.ref 81)] [(.ref 203),(.ref 81),k9] 202 (s 57) true [] [] false .none false)) #[(some (.ref 166)),.none,(some (.str (s 57) 379)),(some (.str (s 57) 387)),(some k10),(some (.bool true))]
noncomputable def zhJ (P:Params):=Obj.mk k15 .none (Data.fields #[(.ref 203),(.ref 203),(.ref 203)]) #[]
noncomputable def zhI (P:Params):=Obj.mk k6 .none (Data.fields #[k16,(.ref 203)]) #[]
def ztc:=N (zhM P) .nil .nil
def ztb:=N (o54 P) (zub P) (ztc P)
def zta:=N (UJ P) .nil .nil
def zs9:=N (Us P) .nil .nil
def zs8:=N (o62 P) (zt6 P) (zs9 P)
def zs7:=N (UL P) .nil .nil
def zs6:=N (UD P) .nil .nil
def zs5:=N (YL P) (zs6 P) .nil
def zs4:=N (zhL P) .nil .nil
def zs3:=N (o58 P) (zt3 P) (zs4 P)
def zs2:=N (UG P) .nil .nil
def zs1:=N (Uo P) .nil .nil
def zs0:=N (o66 P) (ztY P) (zs1 P)
def zsZ:=N (zhT P) .nil .nil
def zsY:=N (UA P) .nil .nil
def zsX:=N (YH P) (zsY P) .nil
def zsW:=N (Uw P) .nil .nil
def zsV:=N (o56 P) (ztV P) (zsW P)
def zsU:=N (zhQ P) .nil .nil
def zsT:=N (Uq P) .nil .nil
def zsS:=N (o64 P) (ztS P) (zsT P)
def zsR:=N (zhV P) .nil .nil
def zsQ:=N (UC P) .nil .nil
def zsP:=N (YJ P) (zsQ P) .nil
def zsO:=N (Ut P) .nil .nil
def zsN:=N (o60 P) (ztP P) (zsO P)
def zsM:=N (zhP P) .nil .nil
def zsL:=N (zhI P) .nil .nil
def zsK:=N (o68 P) (ztK P) (zsL P)
def zsJ:=N (UK P) .nil .nil
def zsI:=N (Uz P) .nil .nil
def zsH:=N (X7 P) (zsI P) .nil
noncomputable def zwR:=N (boot_o_5 P) (N (boot_o_9 P) (N (o8 P) (N (o24 P) (zsV P) (ztT P)) (N (o40 P) (N (zxu P) (zlz P) .nil) (N (YQ P) (zsU P) .nil))) (N (o16 P) (N (o32 P) (zsS P) (N (o99 P) (zsR P) .nil)) (N (o48 P) (ztQ P) (zsP P)))) (N (o2 P) (N (o12 P) (N (o28 P) (zsN P) (ztN P)) (N (o44 P) (ztL P) (N (YM P) (zsM P) .nil))) (N (o20 P) (N (o36 P) (zsK P) (N (YT P) (zsJ P) .nil)) (N (o52 P) (ztI P) (zsH P))))
def zsG:=N (Ux P) .nil .nil
def zsF:=N (o55 P) (ztH P) (zsG P)
def zsE:=N (UI P) .nil .nil
def zsD:=N (Ur P) .nil .nil
def zsC:=N (o63 P) (ztC P) (zsD P)
def zsB:=N (zhW P) .nil .nil
def zsA:=N (zhO P) .nil .nil
def zsz:=N (YK P) (zsA P) .nil
def zsy:=N (Uu P) .nil .nil
def zsx:=N (o59 P) (ztz P) (zsy P)
def zsw:=N (UF P) .nil .nil
def zsv:=N (zhJ P) .nil .nil
def zsu:=N (o67 P) (ztu P) (zsv P)
def zst:=N (zhS P) .nil .nil
def zss:=N (zhN P) .nil .nil
def zsr:=N (X8 P) (zss P) .nil
def zsq:=N (Uv P) .nil .nil
def zsp:=N (o57 P) (ztr P) (zsq P)
def zso:=N (UH P) .nil .nil
def zsn:=N (Up P) .nil .nil
def zsm:=N (o65 P) (ztm P) (zsn P)
def zsl:=N (zhU P) .nil .nil
def zsk:=N (UB P) .nil .nil
def zsj:=N (YI P) (zsk P) .nil
def zsi:=N (zhK P) .nil .nil
def zsh:=N (o61 P) (ztj P) (zsi P)
def zsg:=N (UM P) .nil .nil
def zsf:=N (UE P) .nil .nil
def zse:=N (X9 P) (zsf P) .nil
def zsd:=N (zhR P) .nil .nil
def zsc:=N (Uy P) .nil .nil
def zsb:=N (YG P) (zsc P) .nil
noncomputable def zwQ:=N (boot_o_6 P) (N (boot_o_10 P) (N (o9 P) (N (o25 P) (zsp P) (ztp P)) (N (o41 P) (ztn P) (N (YO P) (zso P) .nil))) (N (o17 P) (N (o33 P) (zsm P) (N (YV P) (zsl P) .nil)) (N (o49 P) (ztk P) (zsj P)))) (N (o3 P) (N (o13 P) (N (o29 P) (zsh P) (N (o96 P) (zsg P) .nil)) (N (o45 P) (zth P) (zse P))) (N (o21 P) (N (o37 P) (ztf P) (N (YS P) (zsd P) .nil)) (N (o53 P) (ztd P) (zsb P))))
noncomputable def zwP:=N (boot_o_2 P) (N (boot_o_4 P) (N (boot_o_8 P) (N (o7 P) (N (o23 P) (zsF P) (ztF P)) (N (o39 P) (ztD P) (N (YR P) (zsE P) .nil))) (N (o15 P) (N (o31 P) (zsC P) (N (o98 P) (zsB P) .nil)) (N (o47 P) (ztA P) (zsz P)))) (N (zxv P) (N (o11 P) (N (o27 P) (zsx P) (ztx P)) (N (o43 P) (ztv P) (N (YN P) (zsw P) .nil))) (N (o19 P) (N (o35 P) (zsu P) (N (Wd P) (zst P) .nil)) (N (o51 P) (zts P) (zsr P))))) (zwQ P)
noncomputable def zwO:=N (boot_o_0 P) (N (boot_o_1 P) (N (zxw P) (N (boot_o_7 P) (N (o6 P) (N (o22 P) (ztb P) (zt9 P)) (N (o38 P) (zt7 P) (N (Wc P) (zta P) .nil))) (N (o14 P) (N (o30 P) (zs8 P) (N (o97 P) (zs7 P) .nil)) (N (o46 P) (zt4 P) (zs5 P)))) (N (o0 P) (N (o10 P) (N (o26 P) (zs3 P) (zt1 P)) (N (o42 P) (ztZ P) (N (Wa P) (zs2 P) .nil))) (N (o18 P) (N (o34 P) (zs0 P) (N (YU P) (zsZ P) .nil)) (N (o50 P) (ztW P) (zsX P))))) (zwR P)) (zwP P)
noncomputable def sb4 (w:World) (os:OsState):SharedT:=⟨(zwO w.params),206,(Life.mk [] [] [] 0 [] [] false #[] [] 0 false false false 0 [2000,10,10] false 0 true [] [] 0 false),⟨[]⟩,(Drawn.mk 0 0 0 0),432,os⟩
noncomputable def L3 (w:World) (os:OsState):Option (Flow×SharedT×Code×Pos):=segRunT treeTable PySem.Challenge.pw_beatless_k24_whole_pieces_joined w 11 an 1 346 (sb3 w os) (piecesOf zuG env cE (Pos.mk 58 0 70 26) B)
noncomputable def R3 (w:World) (os:OsState):Option (Flow×SharedT×Code×Pos):=some (.next,sb4 w os,cE,(Pos.mk 71 0 93 66))
theorem q3:tt (Hd.L3,Hd.R3)=true:=by k_qdec
theorem r3:∀ w,Fast.tw6196771281854559479 w=Hd.R3 w:=fun w=>by kernel_rfl
theorem e3 (w:World) (os:OsState):Hd.L3 w os=Hd.R3 w os:=(congrFun (congrFun Fast.te6196771281854559479 w) os).trans (congrFun (r3 w) os)
def zuF:List Stmt:=[S 15]
noncomputable def zxt:=Obj.mk k4 .none (Data.dict #[en P (s 3) 165 (.str (s 4) 263),en P (s 5) 166 .none,en P (s 6) 167 .none,en P (s 7) 168 k5,en P (s 8) 169 .none,en P (s 9) 170 (.ref 6),en P (s 10) 171 (.ref 4),en P (s 11) 173 (.str (s 0) 172),en P (s 12) 174 .none,en P (s 13) 193 (.ref 21),en P (s 14) 201 (.ref 26),en P (s 15) 207 (.ref 31),en P (s 16) 213 (.ref 36),en P (s 17) 228 (.ref 43),en P (s 18) 236 (.ref 50),en P (s 19) 244 (.ref 57),en P (s 20) 253 (.ref 64),en P (s 21) 262 (.ref 71),en P (s 22) 284 (.ref 81),en P (s 40) 331 (.ref 123),en P (s 51) 378 (.ref 163),en P (s 57) 431 (.ref 203),en P (s 64) 480 (.ref 243)] 23) #[]
noncomputable def zxs (P:Params):=vO #[(.int 1 0),(.int 0 0),(.ref 20),(.int 5 0),(.int 0 0),(.ref 25),(.int 7 0),(.int 0 0),(.ref 30),(.int 16 0),(.int 0 0),(.ref 35),(.int 23 0),(.int 0 0),(.ref 42),(.int 34 0),(.int 0 0),(.ref 49),(.int 36 0),(.int 0 0),(.ref 56),(.int 38 0),(.int 0 0),(.ref 63),(.int 40 0),(.int 0 0),(.ref 70),(.int 43 0),(.int 0 0),(.ref 77),(.int 45 0),(.int 0 0),(.ref 91),(.int 58 0),(.int 0 0),(.ref 131),(.int 71 0),(.int 0 0),(.ref 171),(.int 94 0),(.int 0 0),(.ref 211)]
noncomputable def zxr (P:Params):=Obj.mk k8 .none (Data.cls (ClassData.mk (s 22) [k9] [(.ref 81),k9] 80 (s 22) true [] [(.ref 123),(.ref 163),(.ref 203),(.ref 243)] false .none false)) #[.none,.none,(some (.str (s 22) 265)),(some (.str (s 22) 273)),(some k10),(some (.bool true))]
def Um (P:Params):=tO #[(.ref 81)]
noncomputable def zhH (P:Params):=Obj.mk k6 .none (Data.fields #[k7,k8]) #[]
noncomputable def zhG:=Obj.mk k4 .none (Data.dict #[en P (s 34) 439 (.str (s 4) 263),en P (s 35) 441 (.str (s 64) 440),en P (s 36) 443 (.int 94 442),en P (s 41) 452 (.ref 219),en P (s 42) 460 (.ref 226),en P (s 43) 467 (.ref 233),en P (s 44) 474 (.ref 240),en P (s 37) 477 (.ref 241)] 8) #[]
def zhF (P:Params):=tO #[]
noncomputable def zhE (P:Params):=vO #[(.int 96 0),(.int 4 0),(.ref 218),(.int 100 0),(.int 4 0),(.ref 225),(.int 103 0),(.int 4 0),(.ref 232),(.int 106 0),(.int 4 0),(.ref 239)]
noncomputable def zhD (P:Params):=Obj.mk k1 .none (Data.fields #[(.str (s 64) 434),(.str (s 64) 435),(.str (s 0) 436),(.int 94 0),(.int 0 0),(.int 0 0),(.int 0 0),(.int 0 0),(.ref 209),(.bool false),(.int 181 0),(.ref 210),.none,.none,.none,.none,(.int 437 0),(.int 94 0),(.str (s 0) 438)]) #[]
noncomputable def zhC (P:Params):=Obj.mk k3 .none Data.plain #[(some (.ref 211)),(some (.ref 3)),(some (.ref 208)),.none,(some (.str (s 4) 263)),.none,(some (.ref 0))]
def Ul (P:Params):=tO #[]
def zhB (P:Params):=vO #[]
noncomputable def Uk (P:Params):=tO #[(.str (s 45) 447),(.str (s 65) 448),(.str (s 66) 449)]
def Uj (P:Params):=tO #[]
def zhA (P:Params):=gO (s 41) (s 67) (L2.inClass (S 15) 0)
noncomputable def Ui (P:Params):=cO (s 41) (s 67) 444 445 446 96 3 3 213 214 215 216 217 450 451
noncomputable def Uh (P:Params):=uO (s 41) (s 67) (L2.inClass (S 15) 0) (s 4) 263 218
def Ug (P:Params):=tO #[]
def zhz (P:Params):=vO #[]
def Uf (P:Params):=tO #[(.str (s 45) 456),(.str (s 28) 457)]
def Ue (P:Params):=tO #[]
def zhy (P:Params):=gO (s 42) (s 68) (L2.inClass (S 15) 1)
noncomputable def Ud (P:Params):=cO (s 42) (s 68) 453 454 455 100 2 3 220 221 222 223 224 458 459
noncomputable def Uc (P:Params):=uO (s 42) (s 68) (L2.inClass (S 15) 1) (s 4) 263 225
def Ub (P:Params):=tO #[]
def zhx (P:Params):=vO #[]
def Ua (P:Params):=tO #[(.str (s 45) 464)]
def V9 (P:Params):=tO #[]
def zhw (P:Params):=gO (s 43) (s 69) (L2.inClass (S 15) 2)
noncomputable def V8 (P:Params):=cO (s 43) (s 69) 461 462 463 103 1 3 227 228 229 230 231 465 466
noncomputable def V7 (P:Params):=uO (s 43) (s 69) (L2.inClass (S 15) 2) (s 4) 263 232
def V6 (P:Params):=tO #[]
def zhv (P:Params):=vO #[]
def V5 (P:Params):=tO #[(.str (s 45) 471)]
def V4 (P:Params):=tO #[]
def zhu (P:Params):=gO (s 44) (s 70) (L2.inClass (S 15) 3)
noncomputable def V3 (P:Params):=cO (s 44) (s 70) 468 469 470 106 1 3 234 235 236 237 238 472 473
noncomputable def V2 (P:Params):=uO (s 44) (s 70) (L2.inClass (S 15) 3) (s 4) 263 239
def V1 (P:Params):=tO #[(.str (s 65) 475),(.str (s 66) 476)]
noncomputable def V0:=Obj.mk k4 .none (Data.dict #[en P (s 34) 439 (.str (s 4) 263),en P (s 36) 443 (.int 94 442),en P (s 41) 452 (.ref 219),en P (s 42) 460 (.ref 226),en P (s 43) 467 (.ref 233),en P (s 44) 474 (.ref 240),en P (s 37) 477 (.ref 241),en P (s 5) 478 .none] 2) #[]
noncomputable def VZ (P:Params):=Obj.mk k8 .none (Data.cls (ClassData.mk (s 64) [(.ref 81)] [(.ref 243),(.ref 81),k9] 242 (s 64) true [] [] false .none false)) #[(some (.ref 206)),.none,(some (.str (s 64) 432)),(some (.str (s 64) 440)),(some k10),(some (.bool true))]
noncomputable def zlu (P:Params):=Obj.mk k15 .none (Data.fields #[(.ref 243),(.ref 243),(.ref 243)]) #[]
noncomputable def zlt (P:Params):=Obj.mk k6 .none (Data.fields #[k16,(.ref 243)]) #[]
def zsa:=N (Ue P) .nil .nil
def zr9:=N (zhH P) .nil .nil
def zr8:=N (V3 P) .nil .nil
def zr7:=N (Wc P) (zta P) (zr8 P)
def zly:=N (zhw P) .nil .nil
def zr6:=N (Uk P) .nil .nil
def zr5:=N (Ub P) .nil .nil
def zr4:=N (zhD P) .nil .nil
def zr3:=N (VZ P) .nil .nil
def zr2:=N (Wa P) (zs2 P) (zr3 P)
def zr1:=N (zhv P) .nil .nil
def zr0:=N (YU P) (zsZ P) (zr1 P)
def zrZ:=N (Uh P) .nil .nil
def zrY:=N (Ud P) .nil .nil
def zrX:=N (zhF P) .nil .nil
def zrW:=N (V1 P) .nil .nil
def zrV:=N (YQ P) (zsU P) (zrW P)
def zrU:=N (V7 P) .nil .nil
def zrT:=N (zhA P) .nil .nil
def zrS:=N (Ua P) .nil .nil
def zrR:=N (Ul P) .nil .nil
def zrQ:=N (zlt P) .nil .nil
def zrP:=N (YM P) (zsM P) (zrQ P)
def zrO:=N (V4 P) .nil .nil
def zrN:=N (YT P) (zsJ P) (zrO P)
def zrM:=N (zhz P) .nil .nil
noncomputable def zwN:=N (boot_o_5 P) (N (boot_o_9 P) (N (o8 P) (N (o24 P) (zsV P) (N (o91 P) (ztU P) (zrY P))) (N (o40 P) (N (zxr P) (zlz P) (zrX P)) (zrV P))) (N (o16 P) (N (o32 P) (zsS P) (N (o99 P) (zsR P) (zrU P))) (N (o48 P) (N (o83 P) (ztR P) (zrT P)) (zsP P)))) (N (o2 P) (N (o12 P) (N (o28 P) (zsN P) (N (o95 P) (ztO P) (zrS P))) (N (o44 P) (N (o76 P) (ztM P) (zrR P)) (zrP P))) (N (o20 P) (N (o36 P) (zsK P) (zrN P)) (N (o52 P) (N (o87 P) (ztJ P) (zrM P)) (zsH P))))
def zrL:=N (zhy P) .nil .nil
def zrK:=N (zhG P) .nil .nil
def zrJ:=N (V2 P) .nil .nil
def zrI:=N (YR P) (zsE P) (zrJ P)
def zrH:=N (V8 P) .nil .nil
def zrG:=N (Uj P) .nil .nil
def zrF:=N (zhx P) .nil .nil
def zrE:=N (zhC P) .nil .nil
def zrD:=N (zlu P) .nil .nil
def zrC:=N (YN P) (zsw P) (zrD P)
def zrB:=N (V5 P) .nil .nil
def zrA:=N (Wd P) (zst P) (zrB P)
def zrz:=N (Ug P) .nil .nil
def zry:=N (Uc P) .nil .nil
def zrx:=N (zhE P) .nil .nil
def zrw:=N (V0 P) .nil .nil
def zrv:=N (YO P) (zso P) (zrw P)
def zru:=N (V6 P) .nil .nil
def zrt:=N (Ui P) .nil .nil
def zrs:=N (V9 P) .nil .nil
def zrr:=N (zhB P) .nil .nil
def zrq:=N (Um P) .nil .nil
def zrp:=N (zhu P) .nil .nil
def zro:=N (YS P) (zsd P) (zrp P)
def zrn:=N (Uf P) .nil .nil
noncomputable def zwM:=N (boot_o_6 P) (N (boot_o_10 P) (N (o9 P) (N (o25 P) (zsp P) (N (o92 P) (ztq P) (zry P))) (N (o41 P) (N (o73 P) (zto P) (zrx P)) (zrv P))) (N (o17 P) (N (o33 P) (zsm P) (N (YV P) (zsl P) (zru P))) (N (o49 P) (N (o84 P) (ztl P) (zrt P)) (zsj P)))) (N (o3 P) (N (o13 P) (N (o29 P) (zsh P) (N (o96 P) (zsg P) (zrs P))) (N (o45 P) (N (o80 P) (zti P) (zrr P)) (zse P))) (N (o21 P) (N (o37 P) (N (o69 P) (ztg P) (zrq P)) (zro P)) (N (o53 P) (N (o88 P) (zte P) (zrn P)) (zsb P))))
noncomputable def zwL:=N (boot_o_2 P) (N (boot_o_4 P) (N (boot_o_8 P) (N (o7 P) (N (o23 P) (zsF P) (N (o90 P) (ztG P) (zrL P))) (N (o39 P) (N (o71 P) (ztE P) (zrK P)) (zrI P))) (N (o15 P) (N (o31 P) (zsC P) (N (o98 P) (zsB P) (zrH P))) (N (o47 P) (N (o82 P) (ztB P) (zrG P)) (zsz P)))) (N (zxs P) (N (o11 P) (N (o27 P) (zsx P) (N (o94 P) (zty P) (zrF P))) (N (o43 P) (N (o75 P) (ztw P) (zrE P)) (zrC P))) (N (o19 P) (N (o35 P) (zsu P) (zrA P)) (N (o51 P) (N (o86 P) (ztt P) (zrz P)) (zsr P))))) (zwM P)
noncomputable def zwK:=N (boot_o_0 P) (N (boot_o_1 P) (N (zxt P) (N (boot_o_7 P) (N (o6 P) (N (o22 P) (ztb P) (N (o89 P) (zua P) (zsa P))) (N (o38 P) (N (o70 P) (zt8 P) (zr9 P)) (zr7 P))) (N (o14 P) (N (o30 P) (zs8 P) (N (o97 P) (zs7 P) (zly P))) (N (o46 P) (N (o81 P) (zt5 P) (zr6 P)) (zs5 P)))) (N (o0 P) (N (o10 P) (N (o26 P) (zs3 P) (N (o93 P) (zt2 P) (zr5 P))) (N (o42 P) (N (o74 P) (zt0 P) (zr4 P)) (zr2 P))) (N (o18 P) (N (o34 P) (zs0 P) (zr0 P)) (N (o50 P) (N (o85 P) (ztX P) (zrZ P)) (zsX P))))) (zwN P)) (zwL P)
noncomputable def sb5 (w:World) (os:OsState):SharedT:=⟨(zwK w.params),246,(Life.mk [] [] [] 0 [] [] false #[] [] 0 false false false 0 [2000,10,10] false 0 true [] [] 0 false),⟨[]⟩,(Drawn.mk 0 0 0 0),481,os⟩
noncomputable def L4 (w:World) (os:OsState):Option (Flow×SharedT×Code×Pos):=segRunT treeTable PySem.Challenge.pw_beatless_k24_whole_pieces_joined w 11 an 1 342 (sb4 w os) (piecesOf zuF env cE (Pos.mk 71 0 93 66) B)
noncomputable def R4 (w:World) (os:OsState):Option (Flow×SharedT×Code×Pos):=some (.next,sb5 w os,cE,(Pos.mk 94 0 107 64))
theorem q4:tt (Hd.L4,Hd.R4)=true:=by k_qdec
theorem r4:∀ w,Fast.tw18063231807419426806 w=Hd.R4 w:=fun w=>by kernel_rfl
theorem e4 (w:World) (os:OsState):Hd.L4 w os=Hd.R4 w os:=(congrFun (congrFun Fast.te18063231807419426806 w) os).trans (congrFun (r4 w) os)
def zuE:List Stmt:=[S 16,S 17,S 18]
noncomputable def zxq:=Obj.mk k4 .none (Data.dict #[en P (s 3) 165 (.str (s 71) 534),en P (s 5) 166 .none,en P (s 6) 167 .none,en P (s 7) 168 k5,en P (s 8) 169 .none,en P (s 9) 170 (.ref 6),en P (s 10) 171 (.ref 4),en P (s 11) 173 (.str (s 0) 172),en P (s 12) 174 .none,en P (s 13) 193 (.ref 21),en P (s 14) 201 (.ref 26),en P (s 15) 207 (.ref 31),en P (s 16) 213 (.ref 36),en P (s 17) 228 (.ref 43),en P (s 18) 236 (.ref 50),en P (s 19) 244 (.ref 57),en P (s 20) 253 (.ref 64),en P (s 21) 262 (.ref 71),en P (s 22) 284 (.ref 81),en P (s 40) 331 (.ref 123),en P (s 51) 378 (.ref 163),en P (s 57) 431 (.ref 203),en P (s 64) 480 (.ref 243),en P (s 72) 533 (.ref 283),en P (s 73) 553 (.ref 295)] 25) #[]
noncomputable def zxp (P:Params):=vO #[(.int 1 0),(.int 0 0),(.ref 20),(.int 5 0),(.int 0 0),(.ref 25),(.int 7 0),(.int 0 0),(.ref 30),(.int 16 0),(.int 0 0),(.ref 35),(.int 23 0),(.int 0 0),(.ref 42),(.int 34 0),(.int 0 0),(.ref 49),(.int 36 0),(.int 0 0),(.ref 56),(.int 38 0),(.int 0 0),(.ref 63),(.int 40 0),(.int 0 0),(.ref 70),(.int 43 0),(.int 0 0),(.ref 77),(.int 45 0),(.int 0 0),(.ref 91),(.int 58 0),(.int 0 0),(.ref 131),(.int 71 0),(.int 0 0),(.ref 171),(.int 94 0),(.int 0 0),(.ref 211),(.int 108 0),(.int 0 0),(.ref 251),(.int 127 0),(.int 0 0),(.ref 291)]
noncomputable def W8 (P:Params):=Obj.mk k8 .none (Data.cls (ClassData.mk (s 22) [k9] [(.ref 81),k9] 80 (s 22) true [] [(.ref 123),(.ref 163),(.ref 203),(.ref 243),(.ref 283)] false .none false)) #[.none,.none,(some (.str (s 22) 265)),(some (.str (s 22) 273)),(some k10),(some (.bool true))]
def zas (P:Params):=tO #[(.ref 81)]
noncomputable def zls (P:Params):=Obj.mk k6 .none (Data.fields #[k7,k8]) #[]
noncomputable def zlr:=Obj.mk k4 .none (Data.dict #[en P (s 34) 488 (.str (s 4) 263),en P (s 35) 490 (.str (s 72) 489),en P (s 36) 492 (.int 108 491),en P (s 41) 503 (.ref 259),en P (s 42) 511 (.ref 266),en P (s 43) 518 (.ref 273),en P (s 44) 525 (.ref 280),en P (s 37) 530 (.ref 281)] 8) #[]
def zlq (P:Params):=tO #[]
noncomputable def zlp (P:Params):=vO #[(.int 110 0),(.int 4 0),(.ref 258),(.int 116 0),(.int 4 0),(.ref 265),(.int 121 0),(.int 4 0),(.ref 272),(.int 124 0),(.int 4 0),(.ref 279)]
noncomputable def zlo (P:Params):=Obj.mk k1 .none (Data.fields #[(.str (s 72) 483),(.str (s 72) 484),(.str (s 0) 485),(.int 108 0),(.int 0 0),(.int 0 0),(.int 0 0),(.int 0 0),(.ref 249),(.bool false),(.int 181 0),(.ref 250),.none,.none,.none,.none,(.int 486 0),(.int 108 0),(.str (s 0) 487)]) #[]
noncomputable def zln (P:Params):=Obj.mk k3 .none Data.plain #[(some (.ref 251)),(some (.ref 3)),(some (.ref 248)),.none,(some (.str (s 4) 263)),.none,(some (.ref 0))]
def zar (P:Params):=tO #[]
def zlm (P:Params):=vO #[]
noncomputable def zht (P:Params):=tO #[(.str (s 45) 496),(.str (s 58) 497),(.str (s 59) 498),(.str (s 74) 499),(.str (s 75) 500)]
def zhs (P:Params):=tO #[]
def znY (P:Params):=gO (s 41) (s 76) (L2.inClass (S 16) 0)
noncomputable def zhr (P:Params):=cO (s 41) (s 76) 493 494 495 110 5 3 253 254 255 256 257 501 502
noncomputable def zhq (P:Params):=uO (s 41) (s 76) (L2.inClass (S 16) 0) (s 4) 263 258
def zhp (P:Params):=tO #[]
def znX (P:Params):=vO #[]
def zho (P:Params):=tO #[(.str (s 45) 507),(.str (s 28) 508)]
def zhn (P:Params):=tO #[]
def znW (P:Params):=gO (s 42) (s 77) (L2.inClass (S 16) 1)
noncomputable def zhm (P:Params):=cO (s 42) (s 77) 504 505 506 116 2 3 260 261 262 263 264 509 510
noncomputable def zhl (P:Params):=uO (s 42) (s 77) (L2.inClass (S 16) 1) (s 4) 263 265
def zhk (P:Params):=tO #[]
def znV (P:Params):=vO #[]
def zhj (P:Params):=tO #[(.str (s 45) 515)]
def zhi (P:Params):=tO #[]
def znU (P:Params):=gO (s 43) (s 78) (L2.inClass (S 16) 2)
noncomputable def zhh (P:Params):=cO (s 43) (s 78) 512 513 514 121 1 3 267 268 269 270 271 516 517
noncomputable def zhg (P:Params):=uO (s 43) (s 78) (L2.inClass (S 16) 2) (s 4) 263 272
def zhf (P:Params):=tO #[]
def znT (P:Params):=vO #[]
def zhe (P:Params):=tO #[(.str (s 45) 522)]
def zhd (P:Params):=tO #[]
def znS (P:Params):=gO (s 44) (s 79) (L2.inClass (S 16) 3)
noncomputable def zhc (P:Params):=cO (s 44) (s 79) 519 520 521 124 1 3 274 275 276 277 278 523 524
noncomputable def zhb (P:Params):=uO (s 44) (s 79) (L2.inClass (S 16) 3) (s 4) 263 279
noncomputable def zha (P:Params):=tO #[(.str (s 75) 526),(.str (s 58) 527),(.str (s 59) 528),(.str (s 74) 529)]
noncomputable def zg9:=Obj.mk k4 .none (Data.dict #[en P (s 34) 488 (.str (s 4) 263),en P (s 36) 492 (.int 108 491),en P (s 41) 503 (.ref 259),en P (s 42) 511 (.ref 266),en P (s 43) 518 (.ref 273),en P (s 44) 525 (.ref 280),en P (s 37) 530 (.ref 281),en P (s 5) 531 .none] 2) #[]
noncomputable def zg8 (P:Params):=Obj.mk k8 .none (Data.cls (ClassData.mk (s 72) [(.ref 81)] [(.ref 283),(.ref 81),k9] 282 (s 72) true [] [] false .none false)) #[(some (.ref 246)),.none,(some (.str (s 72) 481)),(some (.str (s 72) 489)),(some k10),(some (.bool true))]
noncomputable def znR (P:Params):=Obj.mk k15 .none (Data.fields #[(.ref 283),(.ref 283),(.ref 283)]) #[]
noncomputable def znQ (P:Params):=Obj.mk k6 .none (Data.fields #[k16,(.ref 283)]) #[]
def zg7 (P:Params):=tO #[k17]
noncomputable def znP (P:Params):=Obj.mk k6 .none (Data.fields #[k7,k8]) #[]
noncomputable def znO:=Obj.mk k4 .none (Data.dict #[en P (s 34) 543 (.str (s 71) 534),en P (s 35) 545 (.str (s 73) 544),en P (s 36) 547 (.int 127 546),en P (s 37) 548 (.ref 293)] 4) #[]
def znN (P:Params):=tO #[]
def znM (P:Params):=vO #[]
noncomputable def znL (P:Params):=Obj.mk k1 .none (Data.fields #[(.str (s 73) 538),(.str (s 73) 539),(.str (s 0) 540),(.int 127 0),(.int 0 0),(.int 0 0),(.int 0 0),(.int 0 0),(.ref 289),(.bool false),(.int 181 0),(.ref 290),.none,.none,.none,.none,(.int 541 0),(.int 127 0),(.str (s 0) 542)]) #[]
noncomputable def znK (P:Params):=Obj.mk k3 .none Data.plain #[(some (.ref 291)),(some (.ref 3)),(some (.ref 288)),.none,(some (.str (s 71) 534)),.none,(some (.ref 0))]
def zg6 (P:Params):=tO #[]
noncomputable def zg5:=Obj.mk k4 .none (Data.dict #[en P (s 34) 543 (.str (s 71) 534),en P (s 36) 547 (.int 127 546),en P (s 37) 548 (.ref 293),en P (s 39) 550 (.ref 296),en P (s 5) 551 .none] 3) #[]
noncomputable def zxo (P:Params):=Obj.mk k8 .none (Data.cls (ClassData.mk (s 73) [k17] [(.ref 295),k17,k18,k19,k9] 294 (s 73) true [] [] false .none false)) #[(some (.ref 286)),.none,(some (.str (s 73) 536)),(some (.str (s 73) 544)),(some k20),(some (.bool true))]
noncomputable def zg4 (P:Params):=Obj.mk k11 .none (Data.fields #[(.str (s 39) 549),(.ref 295),k14,.none]) #[]
noncomputable def znJ (P:Params):=Obj.mk k15 .none (Data.fields #[(.ref 295),(.ref 295),(.ref 295)]) #[]
noncomputable def znI (P:Params):=Obj.mk k6 .none (Data.fields #[k16,(.ref 295)]) #[]
def zrm:=N (zht P) .nil .nil
def zrl:=N (zic P) (zrm P) .nil
def zrk:=N (znP P) .nil .nil
def zrj:=N (UR P) (zrk P) .nil
def zri:=N (o89 P) (zrj P) (zsa P)
def zrh:=N (znU P) .nil .nil
def zrg:=N (U2 P) (zrh P) .nil
def zrf:=N (o70 P) (zrg P) (zr9 P)
def zre:=N (zhn P) .nil .nil
def zrd:=N (U8 P) (zre P) .nil
def zrc:=N (o62 P) (zrd P) (zs9 P)
def zrb:=N (zhc P) .nil .nil
def zra:=N (zh1 P) (zrb P) .nil
def zq9:=N (o81 P) (zra P) (zr6 P)
def zq8:=N (zls P) .nil .nil
def zq7:=N (zhq P) .nil .nil
def zq6:=N (zh8 P) (zq7 P) .nil
def zq5:=N (znL P) .nil .nil
def zq4:=N (UN P) (zq5 P) .nil
noncomputable def zq3:=N (o26 P) (N (o58 P) (zq6 P) (zs4 P)) (N (o93 P) (zq4 P) (zr5 P))
def zq2:=N (znT P) .nil .nil
def zq1:=N (UZ P) (zq2 P) .nil
def zq0:=N (o74 P) (zq1 P) (zr4 P)
def zqZ:=N (zhk P) .nil .nil
def zqY:=N (U5 P) (zqZ P) .nil
def zqX:=N (o66 P) (zqY P) (zs1 P)
def zqW:=N (zg8 P) .nil .nil
def zqV:=N (zh0 P) (zqW P) .nil
def zqU:=N (o85 P) (zqV P) (zrZ P)
def zqT:=N (zlo P) .nil .nil
def zqS:=N (znY P) .nil .nil
def zqR:=N (zia P) (zqS P) .nil
def zqQ:=N (znN P) .nil .nil
def zqP:=N (UP P) (zqQ P) .nil
def zqO:=N (o91 P) (zqP P) (zrY P)
def zqN:=N (zhg P) .nil .nil
def zqM:=N (U1 P) (zqN P) .nil
def zqL:=N (W8 P) (zqM P) (zrX P)
def zqK:=N (zhm P) .nil .nil
def zqJ:=N (zh5 P) (zqK P) .nil
def zqI:=N (znJ P) .nil .nil
def zqH:=N (zhV P) (zqI P) .nil
noncomputable def zqG:=N (o32 P) (N (o64 P) (zqJ P) (zsT P)) (N (o99 P) (zqH P) (zrU P))
def zqF:=N (zha P) .nil .nil
def zqE:=N (UV P) (zqF P) .nil
def zqD:=N (o83 P) (zqE P) (zrT P)
def zqC:=N (zlq P) .nil .nil
def zqB:=N (znX P) .nil .nil
def zqA:=N (U9 P) (zqB P) .nil
def zqz:=N (zg6 P) .nil .nil
def zqy:=N (zhX P) (zqz P) .nil
noncomputable def zqx:=N (o28 P) (N (o60 P) (zqA P) (zsO P)) (N (o95 P) (zqy P) (zrS P))
def zqw:=N (zhd P) .nil .nil
def zqv:=N (UY P) (zqw P) .nil
def zqu:=N (o76 P) (zqv P) (zrR P)
def zqt:=N (zhj P) .nil .nil
def zqs:=N (zh4 P) (zqt P) .nil
def zqr:=N (o68 P) (zqs P) (zsL P)
def zqq:=N (znQ P) .nil .nil
def zqp:=N (US P) (zqq P) .nil
def zqo:=N (o87 P) (zqp P) (zrM P)
def zqn:=N (zar P) .nil .nil
noncomputable def zwJ:=N (boot_o_5 P) (N (boot_o_9 P) (N (o8 P) (N (o24 P) (N (o56 P) (zqR P) (zsW P)) (zqO P)) (N (o40 P) (zqL P) (zrV P))) (N (o16 P) (zqG P) (N (o48 P) (zqD P) (N (YJ P) (zsQ P) (zqC P))))) (N (o2 P) (N (o12 P) (zqx P) (N (o44 P) (zqu P) (zrP P))) (N (o20 P) (N (o36 P) (zqr P) (zrN P)) (N (o52 P) (zqo P) (N (X7 P) (zsI P) (zqn P)))))
def zqm:=N (zhs P) .nil .nil
def zql:=N (zib P) (zqm P) .nil
def zqk:=N (znO P) .nil .nil
def zqj:=N (UQ P) (zqk P) .nil
def zqi:=N (o90 P) (zqj P) (zrL P)
def zqh:=N (zhh P) .nil .nil
def zqg:=N (zh3 P) (zqh P) .nil
def zqf:=N (o71 P) (zqg P) (zrK P)
def zqe:=N (znW P) .nil .nil
def zqd:=N (U7 P) (zqe P) .nil
def zqc:=N (zg4 P) .nil .nil
def zqb:=N (zhW P) (zqc P) .nil
noncomputable def zqa:=N (o31 P) (N (o63 P) (zqd P) (zsD P)) (N (o98 P) (zqb P) (zrH P))
def zp9:=N (zhb P) .nil .nil
def zp8:=N (UW P) (zp9 P) .nil
def zp7:=N (o82 P) (zp8 P) (zrG P)
def zp6:=N (zlr P) .nil .nil
def zp5:=N (zhp P) .nil .nil
def zp4:=N (zh7 P) (zp5 P) .nil
def zp3:=N (znK P) .nil .nil
def zp2:=N (zhY P) (zp3 P) .nil
noncomputable def zp1:=N (o27 P) (N (o59 P) (zp4 P) (zsy P)) (N (o94 P) (zp2 P) (zrF P))
def zp0:=N (zhe P) .nil .nil
def zpZ:=N (zh2 P) (zp0 P) .nil
def zpY:=N (o75 P) (zpZ P) (zrE P)
def zpX:=N (znV P) .nil .nil
def zpW:=N (U4 P) (zpX P) .nil
def zpV:=N (o67 P) (zpW P) (zsv P)
def zpU:=N (znR P) .nil .nil
def zpT:=N (UT P) (zpU P) .nil
def zpS:=N (o86 P) (zpT P) (zrz P)
def zpR:=N (zln P) .nil .nil
def zpQ:=N (zhr P) .nil .nil
def zpP:=N (zh9 P) (zpQ P) .nil
def zpO:=N (znM P) .nil .nil
def zpN:=N (UO P) (zpO P) .nil
def zpM:=N (o92 P) (zpN P) (zry P)
def zpL:=N (zhf P) .nil .nil
def zpK:=N (U0 P) (zpL P) .nil
def zpJ:=N (o73 P) (zpK P) (zrx P)
def zpI:=N (zhl P) .nil .nil
def zpH:=N (U6 P) (zpI P) .nil
def zpG:=N (znI P) .nil .nil
def zpF:=N (zhU P) (zpG P) .nil
noncomputable def zpE:=N (o33 P) (N (o65 P) (zpH P) (zsn P)) (N (YV P) (zpF P) (zru P))
def zpD:=N (zg9 P) .nil .nil
def zpC:=N (UU P) (zpD P) .nil
def zpB:=N (o84 P) (zpC P) (zrt P)
def zpA:=N (zlp P) .nil .nil
def zpz:=N (zho P) .nil .nil
def zpy:=N (zh6 P) (zpz P) .nil
def zpx:=N (zg5 P) .nil .nil
def zpw:=N (UM P) (zpx P) .nil
noncomputable def zpv:=N (o29 P) (N (o61 P) (zpy P) (zsi P)) (N (o96 P) (zpw P) (zrs P))
def zpu:=N (znS P) .nil .nil
def zpt:=N (UX P) (zpu P) .nil
def zps:=N (o80 P) (zpt P) (zrr P)
def zpr:=N (zas P) .nil .nil
def zpq:=N (zhi P) .nil .nil
def zpp:=N (U3 P) (zpq P) .nil
def zpo:=N (o69 P) (zpp P) (zrq P)
def zpn:=N (zg7 P) .nil .nil
def zpm:=N (zhZ P) (zpn P) .nil
def zpl:=N (o88 P) (zpm P) (zrn P)
def zpk:=N (zlm P) .nil .nil
noncomputable def zwI:=N (boot_o_6 P) (N (boot_o_10 P) (N (o9 P) (N (o25 P) (N (o57 P) (zpP P) (zsq P)) (zpM P)) (N (o41 P) (zpJ P) (zrv P))) (N (o17 P) (zpE P) (N (o49 P) (zpB P) (N (YI P) (zsk P) (zpA P))))) (N (o3 P) (N (o13 P) (zpv P) (N (o45 P) (zps P) (N (X9 P) (zsf P) (zpr P)))) (N (o21 P) (N (o37 P) (zpo P) (zro P)) (N (o53 P) (zpl P) (N (YG P) (zsc P) (zpk P)))))
noncomputable def zwH:=N (boot_o_2 P) (N (boot_o_4 P) (N (boot_o_8 P) (N (o7 P) (N (o23 P) (N (o55 P) (zql P) (zsG P)) (zqi P)) (N (o39 P) (zqf P) (zrI P))) (N (o15 P) (zqa P) (N (o47 P) (zp7 P) (N (YK P) (zsA P) (zp6 P))))) (N (zxp P) (N (o11 P) (zp1 P) (N (o43 P) (zpY P) (zrC P))) (N (o19 P) (N (o35 P) (zpV P) (zrA P)) (N (o51 P) (zpS P) (N (X8 P) (zss P) (zpR P)))))) (zwI P)
noncomputable def zwG:=N (boot_o_0 P) (N (boot_o_1 P) (N (zxq P) (N (boot_o_7 P) (N (o6 P) (N (o22 P) (N (o54 P) (zrl P) (ztc P)) (zri P)) (N (o38 P) (zrf P) (zr7 P))) (N (o14 P) (N (o30 P) (zrc P) (N (o97 P) (N (UL P) (N (zxo P) .nil .nil) .nil) (zly P))) (N (o46 P) (zq9 P) (N (YL P) (zs6 P) (zq8 P))))) (N (o0 P) (N (o10 P) (zq3 P) (N (o42 P) (zq0 P) (zr2 P))) (N (o18 P) (N (o34 P) (zqX P) (zr0 P)) (N (o50 P) (zqU P) (N (YH P) (zsY P) (zqT P)))))) (zwJ P)) (zwH P)
noncomputable def sb6 (w:World) (os:OsState):SharedT:=⟨(zwG w.params),299,(Life.mk [] [] [] 0 [] [] false #[] [] 0 false false false 0 [2000,10,10] false 0 true [] [] 0 false),⟨[]⟩,(Drawn.mk 0 0 0 0),554,os⟩
noncomputable def L5 (w:World) (os:OsState):Option (Flow×SharedT×Code×Pos):=segRunT treeTable PySem.Challenge.pw_beatless_k24_whole_pieces_joined w 11 an 1 541 (sb5 w os) (piecesOf zuE env cE (Pos.mk 94 0 107 64) B)
noncomputable def R5 (w:World) (os:OsState):Option (Flow×SharedT×Code×Pos):=some (.next,sb6 w os,cE,(Pos.mk 127 0 128 8))
theorem q5:tt (Hd.L5,Hd.R5)=true:=by k_qdec
theorem r5:∀ w,Fast.tw7289443652863241282 w=Hd.R5 w:=fun w=>by kernel_rfl
theorem e5 (w:World) (os:OsState):Hd.L5 w os=Hd.R5 w os:=(congrFun (congrFun Fast.te7289443652863241282 w) os).trans (congrFun (r5 w) os)
def zuD:List Stmt:=[S 19,S 20]
noncomputable def zxn:=Obj.mk k4 .none (Data.dict #[en P (s 3) 165 (.str (s 71) 534),en P (s 5) 166 .none,en P (s 6) 167 .none,en P (s 7) 168 k5,en P (s 8) 169 .none,en P (s 9) 170 (.ref 6),en P (s 10) 171 (.ref 4),en P (s 11) 173 (.str (s 0) 172),en P (s 12) 174 .none,en P (s 13) 193 (.ref 21),en P (s 14) 201 (.ref 26),en P (s 15) 207 (.ref 31),en P (s 16) 213 (.ref 36),en P (s 17) 228 (.ref 43),en P (s 18) 236 (.ref 50),en P (s 19) 244 (.ref 57),en P (s 20) 253 (.ref 64),en P (s 21) 262 (.ref 71),en P (s 22) 284 (.ref 81),en P (s 40) 331 (.ref 123),en P (s 51) 378 (.ref 163),en P (s 57) 431 (.ref 203),en P (s 64) 480 (.ref 243),en P (s 72) 533 (.ref 283),en P (s 73) 553 (.ref 295),en P (s 80) 569 (.ref 308),en P (s 81) 585 (.ref 320)] 27) #[]
noncomputable def zxm (P:Params):=vO #[(.int 1 0),(.int 0 0),(.ref 20),(.int 5 0),(.int 0 0),(.ref 25),(.int 7 0),(.int 0 0),(.ref 30),(.int 16 0),(.int 0 0),(.ref 35),(.int 23 0),(.int 0 0),(.ref 42),(.int 34 0),(.int 0 0),(.ref 49),(.int 36 0),(.int 0 0),(.ref 56),(.int 38 0),(.int 0 0),(.ref 63),(.int 40 0),(.int 0 0),(.ref 70),(.int 43 0),(.int 0 0),(.ref 77),(.int 45 0),(.int 0 0),(.ref 91),(.int 58 0),(.int 0 0),(.ref 131),(.int 71 0),(.int 0 0),(.ref 171),(.int 94 0),(.int 0 0),(.ref 211),(.int 108 0),(.int 0 0),(.ref 251),(.int 127 0),(.int 0 0),(.ref 291),(.int 129 0),(.int 0 0),(.ref 304),(.int 131 0),(.int 0 0),(.ref 316)]
noncomputable def zxl (P:Params):=Obj.mk k8 .none (Data.cls (ClassData.mk (s 73) [k17] [(.ref 295),k17,k18,k19,k9] 294 (s 73) true [] [(.ref 308),(.ref 320)] false .none false)) #[(some (.ref 286)),.none,(some (.str (s 73) 536)),(some (.str (s 73) 544)),(some k20),(some (.bool true))]
def zg3 (P:Params):=tO #[(.ref 295)]
noncomputable def znH (P:Params):=Obj.mk k6 .none (Data.fields #[k7,k8]) #[]
noncomputable def znG:=Obj.mk k4 .none (Data.dict #[en P (s 34) 561 (.str (s 71) 534),en P (s 35) 563 (.str (s 80) 562),en P (s 36) 565 (.int 129 564),en P (s 37) 566 (.ref 306)] 4) #[]
def znF (P:Params):=tO #[]
def znE (P:Params):=vO #[]
noncomputable def znD (P:Params):=Obj.mk k1 .none (Data.fields #[(.str (s 80) 556),(.str (s 80) 557),(.str (s 0) 558),(.int 129 0),(.int 0 0),(.int 0 0),(.int 0 0),(.int 0 0),(.ref 302),(.bool false),(.int 181 0),(.ref 303),.none,.none,.none,.none,(.int 559 0),(.int 129 0),(.str (s 0) 560)]) #[]
noncomputable def znC (P:Params):=Obj.mk k3 .none Data.plain #[(some (.ref 304)),(some (.ref 3)),(some (.ref 301)),.none,(some (.str (s 71) 534)),.none,(some (.ref 0))]
def zg2 (P:Params):=tO #[]
noncomputable def zg1:=Obj.mk k4 .none (Data.dict #[en P (s 34) 561 (.str (s 71) 534),en P (s 36) 565 (.int 129 564),en P (s 37) 566 (.ref 306),en P (s 5) 567 .none] 2) #[]
noncomputable def zg0 (P:Params):=Obj.mk k8 .none (Data.cls (ClassData.mk (s 80) [(.ref 295)] [(.ref 308),(.ref 295),k17,k18,k19,k9] 307 (s 80) true [] [] false .none false)) #[(some (.ref 299)),.none,(some (.str (s 80) 554)),(some (.str (s 80) 562)),(some k20),(some (.bool true))]
noncomputable def znB (P:Params):=Obj.mk k15 .none (Data.fields #[(.ref 308),(.ref 308),(.ref 308)]) #[]
noncomputable def znA (P:Params):=Obj.mk k6 .none (Data.fields #[k16,(.ref 308)]) #[]
def zgZ (P:Params):=tO #[(.ref 295)]
noncomputable def znz (P:Params):=Obj.mk k6 .none (Data.fields #[k7,k8]) #[]
noncomputable def zny:=Obj.mk k4 .none (Data.dict #[en P (s 34) 577 (.str (s 71) 534),en P (s 35) 579 (.str (s 81) 578),en P (s 36) 581 (.int 131 580),en P (s 37) 582 (.ref 318)] 4) #[]
def znx (P:Params):=tO #[]
def znw (P:Params):=vO #[]
noncomputable def znv (P:Params):=Obj.mk k1 .none (Data.fields #[(.str (s 81) 572),(.str (s 81) 573),(.str (s 0) 574),(.int 131 0),(.int 0 0),(.int 0 0),(.int 0 0),(.int 0 0),(.ref 314),(.bool false),(.int 181 0),(.ref 315),.none,.none,.none,.none,(.int 575 0),(.int 131 0),(.str (s 0) 576)]) #[]
noncomputable def znu (P:Params):=Obj.mk k3 .none Data.plain #[(some (.ref 316)),(some (.ref 3)),(some (.ref 313)),.none,(some (.str (s 71) 534)),.none,(some (.ref 0))]
def zgY (P:Params):=tO #[]
noncomputable def zgX:=Obj.mk k4 .none (Data.dict #[en P (s 34) 577 (.str (s 71) 534),en P (s 36) 581 (.int 131 580),en P (s 37) 582 (.ref 318),en P (s 5) 583 .none] 2) #[]
noncomputable def zgW (P:Params):=Obj.mk k8 .none (Data.cls (ClassData.mk (s 81) [(.ref 295)] [(.ref 320),(.ref 295),k17,k18,k19,k9] 319 (s 81) true [] [] false .none false)) #[(some (.ref 311)),.none,(some (.str (s 81) 570)),(some (.str (s 81) 578)),(some k20),(some (.bool true))]
noncomputable def znt (P:Params):=Obj.mk k15 .none (Data.fields #[(.ref 320),(.ref 320),(.ref 320)]) #[]
noncomputable def zns (P:Params):=Obj.mk k6 .none (Data.fields #[k16,(.ref 320)]) #[]
def zpj:=N (zgX P) .nil .nil
def zpi:=N (zhM P) (zpj P) .nil
def zph:=N (znE P) .nil .nil
def zpg:=N (UJ P) (zph P) .nil
def zpf:=N (zgZ P) .nil .nil
def zpe:=N (UD P) (zpf P) .nil
def zpd:=N (zg1 P) .nil .nil
def zpc:=N (UG P) (zpd P) .nil
def zpb:=N (zg3 P) .nil .nil
def zpa:=N (zhT P) (zpb P) .nil
def zo9:=N (znw P) .nil .nil
def zo8:=N (UA P) (zo9 P) .nil
def zo7:=N (znt P) .nil .nil
def zo6:=N (Uw P) (zo7 P) .nil
def zo5:=N (znC P) .nil .nil
def zo4:=N (zhQ P) (zo5 P) .nil
def zo3:=N (zny P) .nil .nil
def zo2:=N (UC P) (zo3 P) .nil
def zo1:=N (znB P) .nil .nil
def zo0:=N (zhP P) (zo1 P) .nil
def zoZ:=N (znG P) .nil .nil
def zoY:=N (UK P) (zoZ P) .nil
def zoX:=N (znu P) .nil .nil
def zoW:=N (Uz P) (zoX P) .nil
noncomputable def zwF:=N (boot_o_5 P) (N (boot_o_9 P) (N (o8 P) (N (o24 P) (N (o56 P) (zqR P) (zo6 P)) (zqO P)) (N (o40 P) (zqL P) (N (YQ P) (zo4 P) (zrW P)))) (N (o16 P) (zqG P) (N (o48 P) (zqD P) (N (YJ P) (zo2 P) (zqC P))))) (N (o2 P) (N (o12 P) (zqx P) (N (o44 P) (zqu P) (N (YM P) (zo0 P) (zrQ P)))) (N (o20 P) (N (o36 P) (zqr P) (N (YT P) (zoY P) (zrO P))) (N (o52 P) (zqo P) (N (X7 P) (zoW P) (zqn P)))))
noncomputable def zwE:=N (boot_o_1 P) (N (zxn P) (N (boot_o_7 P) (N (o6 P) (N (o22 P) (N (o54 P) (zrl P) (zpi P)) (zri P)) (N (o38 P) (zrf P) (N (Wc P) (zpg P) (zr8 P)))) (N (o14 P) (N (o30 P) (zrc P) (N (o97 P) (N (UL P) (N (zxl P) .nil .nil) .nil) (zly P))) (N (o46 P) (zq9 P) (N (YL P) (zpe P) (zq8 P))))) (N (o0 P) (N (o10 P) (zq3 P) (N (o42 P) (zq0 P) (N (Wa P) (zpc P) (zr3 P)))) (N (o18 P) (N (o34 P) (zqX P) (N (YU P) (zpa P) (zr1 P))) (N (o50 P) (zqU P) (N (YH P) (zo8 P) (zqT P)))))) (zwF P)
def zoV:=N (zgW P) .nil .nil
def zoU:=N (Ux P) (zoV P) .nil
def zoT:=N (znD P) .nil .nil
def zoS:=N (UI P) (zoT P) .nil
def zoR:=N (znz P) .nil .nil
def zoQ:=N (zhO P) (zoR P) .nil
def zoP:=N (zg0 P) .nil .nil
def zoO:=N (UF P) (zoP P) .nil
def zoN:=N (znH P) .nil .nil
def zoM:=N (zhS P) (zoN P) .nil
def zoL:=N (znv P) .nil .nil
def zoK:=N (zhN P) (zoL P) .nil
def zoJ:=N (zns P) .nil .nil
def zoI:=N (o57 P) (zpP P) (N (Uv P) (zoJ P) .nil)
def zoH:=N (zg2 P) .nil .nil
def zoG:=N (UH P) (zoH P) .nil
def zoF:=N (znx P) .nil .nil
def zoE:=N (UB P) (zoF P) .nil
def zoD:=N (znA P) .nil .nil
def zoC:=N (UE P) (zoD P) .nil
def zoB:=N (znF P) .nil .nil
def zoA:=N (zhR P) (zoB P) .nil
def zoz:=N (zgY P) .nil .nil
def zoy:=N (Uy P) (zoz P) .nil
noncomputable def zwD:=N (boot_o_6 P) (N (boot_o_10 P) (N (o9 P) (N (o25 P) (zoI P) (zpM P)) (N (o41 P) (zpJ P) (N (YO P) (zoG P) (zrw P)))) (N (o17 P) (zpE P) (N (o49 P) (zpB P) (N (YI P) (zoE P) (zpA P))))) (N (o3 P) (N (o13 P) (zpv P) (N (o45 P) (zps P) (N (X9 P) (zoC P) (zpr P)))) (N (o21 P) (N (o37 P) (zpo P) (N (YS P) (zoA P) (zrp P))) (N (o53 P) (zpl P) (N (YG P) (zoy P) (zpk P)))))
noncomputable def zwC:=N (boot_o_0 P) (zwE P) (N (boot_o_2 P) (N (boot_o_4 P) (N (boot_o_8 P) (N (o7 P) (N (o23 P) (N (o55 P) (zql P) (zoU P)) (zqi P)) (N (o39 P) (zqf P) (N (YR P) (zoS P) (zrJ P)))) (N (o15 P) (zqa P) (N (o47 P) (zp7 P) (N (YK P) (zoQ P) (zp6 P))))) (N (zxm P) (N (o11 P) (zp1 P) (N (o43 P) (zpY P) (N (YN P) (zoO P) (zrD P)))) (N (o19 P) (N (o35 P) (zpV P) (N (Wd P) (zoM P) (zrB P))) (N (o51 P) (zpS P) (N (X8 P) (zoK P) (zpR P)))))) (zwD P))
noncomputable def sb7 (w:World) (os:OsState):SharedT:=⟨(zwC w.params),323,(Life.mk [] [] [] 0 [] [] false #[] [] 0 false false false 0 [2000,10,10] false 0 true [] [] 0 false),⟨[]⟩,(Drawn.mk 0 0 0 0),586,os⟩
noncomputable def L6 (w:World) (os:OsState):Option (Flow×SharedT×Code×Pos):=segRunT treeTable PySem.Challenge.pw_beatless_k24_whole_pieces_joined w 11 an 1 427 (sb6 w os) (piecesOf zuD env cE (Pos.mk 127 0 128 8) B)
noncomputable def R6 (w:World) (os:OsState):Option (Flow×SharedT×Code×Pos):=some (.next,sb7 w os,cE,(Pos.mk 131 0 132 8))
theorem q6:tt (Hd.L6,Hd.R6)=true:=by k_qdec
theorem r6:∀ w,Fast.tw11518265509499319272 w=Hd.R6 w:=fun w=>by kernel_rfl
theorem e6 (w:World) (os:OsState):Hd.L6 w os=Hd.R6 w os:=(congrFun (congrFun Fast.te11518265509499319272 w) os).trans (congrFun (r6 w) os)
noncomputable def zuC:List Stmt:=[S 21,S 22,S 23,S 24,S 25,S 26,S 27,S 28,S 29,S 30,S 31,S 32,S 33,S 34,S 35,S 36]
noncomputable def zxk:=Obj.mk k4 .none (Data.dict #[en P (s 3) 165 (.str (s 82) 611),en P (s 5) 166 .none,en P (s 6) 167 .none,en P (s 7) 168 k5,en P (s 8) 169 .none,en P (s 9) 170 (.ref 6),en P (s 10) 171 (.ref 4),en P (s 11) 173 (.str (s 0) 172),en P (s 12) 174 .none,en P (s 13) 193 (.ref 21),en P (s 14) 201 (.ref 26),en P (s 15) 207 (.ref 31),en P (s 16) 213 (.ref 36),en P (s 17) 228 (.ref 43),en P (s 18) 236 (.ref 50),en P (s 19) 244 (.ref 57),en P (s 20) 253 (.ref 64),en P (s 21) 262 (.ref 71),en P (s 22) 284 (.ref 81),en P (s 40) 331 (.ref 123),en P (s 51) 378 (.ref 163),en P (s 57) 431 (.ref 203),en P (s 64) 480 (.ref 243),en P (s 72) 533 (.ref 283),en P (s 73) 553 (.ref 295),en P (s 80) 569 (.ref 308),en P (s 81) 585 (.ref 320),en P (s 83) 601 (.ref 332),en P (s 84) 610 (.ref 341),en P (s 85) 615 (.ref 342),en P (s 86) 621 (.ref 343),en P (s 87) 630 (.ref 344),en P (s 88) 635 (.ref 345),en P (s 89) 637 (.int 60 636),en P (s 90) 639 (.int 8 638),en P (s 91) 646 (.ref 352),en P (s 92) 654 (.ref 359),en P (s 93) 661 (.ref 366),en P (s 94) 671 (.ref 373),en P (s 95) 680 (.ref 380),en P (s 96) 686 (.ref 385)] 41) #[]
noncomputable def zxj (P:Params):=vO #[(.int 1 0),(.int 0 0),(.ref 20),(.int 5 0),(.int 0 0),(.ref 25),(.int 7 0),(.int 0 0),(.ref 30),(.int 16 0),(.int 0 0),(.ref 35),(.int 23 0),(.int 0 0),(.ref 42),(.int 34 0),(.int 0 0),(.ref 49),(.int 36 0),(.int 0 0),(.ref 56),(.int 38 0),(.int 0 0),(.ref 63),(.int 40 0),(.int 0 0),(.ref 70),(.int 43 0),(.int 0 0),(.ref 77),(.int 45 0),(.int 0 0),(.ref 91),(.int 58 0),(.int 0 0),(.ref 131),(.int 71 0),(.int 0 0),(.ref 171),(.int 94 0),(.int 0 0),(.ref 211),(.int 108 0),(.int 0 0),(.ref 251),(.int 127 0),(.int 0 0),(.ref 291),(.int 129 0),(.int 0 0),(.ref 304),(.int 131 0),(.int 0 0),(.ref 316),(.int 133 0),(.int 0 0),(.ref 328),(.int 136 0),(.int 0 0),(.ref 340),(.int 145 0),(.int 0 0),(.ref 351),(.int 147 0),(.int 0 0),(.ref 358),(.int 149 0),(.int 0 0),(.ref 365),(.int 151 0),(.int 0 0),(.ref 372),(.int 156 0),(.int 0 0),(.ref 379),(.int 170 0),(.int 0 0),(.ref 384)]
noncomputable def zgV (P:Params):=Obj.mk k8 .none (Data.cls (ClassData.mk (s 73) [k17] [(.ref 295),k17,k18,k19,k9] 294 (s 73) true [] [(.ref 308),(.ref 320),(.ref 332)] false .none false)) #[(some (.ref 286)),.none,(some (.str (s 73) 536)),(some (.str (s 73) 544)),(some k20),(some (.bool true))]
def zgU (P:Params):=tO #[(.ref 295)]
noncomputable def znr (P:Params):=Obj.mk k6 .none (Data.fields #[k7,k8]) #[]
noncomputable def znq:=Obj.mk k4 .none (Data.dict #[en P (s 34) 593 (.str (s 71) 534),en P (s 35) 595 (.str (s 83) 594),en P (s 36) 597 (.int 133 596),en P (s 37) 598 (.ref 330)] 4) #[]
def znp (P:Params):=tO #[]
def zno (P:Params):=vO #[]
noncomputable def znn (P:Params):=Obj.mk k1 .none (Data.fields #[(.str (s 83) 588),(.str (s 83) 589),(.str (s 0) 590),(.int 133 0),(.int 0 0),(.int 0 0),(.int 0 0),(.int 0 0),(.ref 326),(.bool false),(.int 181 0),(.ref 327),.none,.none,.none,.none,(.int 591 0),(.int 133 0),(.str (s 0) 592)]) #[]
noncomputable def znm (P:Params):=Obj.mk k3 .none Data.plain #[(some (.ref 328)),(some (.ref 3)),(some (.ref 325)),.none,(some (.str (s 71) 534)),.none,(some (.ref 0))]
def zgT (P:Params):=tO #[]
noncomputable def zgS:=Obj.mk k4 .none (Data.dict #[en P (s 34) 593 (.str (s 71) 534),en P (s 36) 597 (.int 133 596),en P (s 37) 598 (.ref 330),en P (s 5) 599 .none] 2) #[]
noncomputable def zgR (P:Params):=Obj.mk k8 .none (Data.cls (ClassData.mk (s 83) [(.ref 295)] [(.ref 332),(.ref 295),k17,k18,k19,k9] 331 (s 83) true [] [] false .none false)) #[(some (.ref 323)),.none,(some (.str (s 83) 586)),(some (.str (s 83) 594)),(some k20),(some (.bool true))]
noncomputable def znl (P:Params):=Obj.mk k15 .none (Data.fields #[(.ref 332),(.ref 332),(.ref 332)]) #[]
noncomputable def znk (P:Params):=Obj.mk k6 .none (Data.fields #[k16,(.ref 332)]) #[]
def zgQ (P:Params):=tO #[]
def znj (P:Params):=vO #[]
def zgP (P:Params):=tO #[(.str (s 46) 607)]
def zgO (P:Params):=tO #[]
def zni (P:Params):=gO (s 84) (s 84) (S 23)
noncomputable def zgN (P:Params):=cO (s 84) (s 84) 604 605 606 136 1 3 335 336 337 338 339 608 609
def zgM (P:Params):=uO (s 84) (s 84) (S 23) (s 97) 602 340
def zgL (P:Params):=tO #[(.str (s 98) 613),(.str (s 99) 614)]
noncomputable def zgK (P:Params):=tO #[(.str (s 100) 616),(.str (s 98) 617),(.str (s 101) 618),(.str (s 99) 619),(.str (s 102) 620)]
noncomputable def zgJ (P:Params):=tO #[(.str (s 100) 622),(.str (s 98) 623),(.str (s 101) 624),(.str (s 99) 625),(.str (s 103) 626),(.str (s 104) 627),(.str (s 105) 628),(.str (s 106) 629)]
noncomputable def zgI (P:Params):=tO #[(.str (s 107) 631),(.str (s 108) 632),(.str (s 109) 633),(.str (s 110) 634)]
def zgH (P:Params):=tO #[]
def znh (P:Params):=vO #[]
def zgG (P:Params):=tO #[(.str (s 46) 643)]
def zgF (P:Params):=tO #[]
def zng (P:Params):=gO (s 91) (s 91) (S 31)
noncomputable def zgE (P:Params):=cO (s 91) (s 91) 640 641 642 145 1 3 346 347 348 349 350 644 645
def zgD (P:Params):=uO (s 91) (s 91) (S 31) (s 82) 611 351
def zgC (P:Params):=tO #[]
def znf (P:Params):=vO #[]
def zgB (P:Params):=tO #[(.str (s 52) 650),(.str (s 44) 651)]
def zgA (P:Params):=tO #[]
def zne (P:Params):=gO (s 92) (s 92) (S 32)
noncomputable def zgz (P:Params):=cO (s 92) (s 92) 647 648 649 147 2 3 353 354 355 356 357 652 653
def zgy (P:Params):=uO (s 92) (s 92) (S 32) (s 82) 611 358
def zgx (P:Params):=tO #[]
def znd (P:Params):=vO #[]
def zgw (P:Params):=tO #[(.str (s 66) 658)]
def zgv (P:Params):=tO #[]
def znc (P:Params):=gO (s 93) (s 93) (S 33)
noncomputable def zgu (P:Params):=cO (s 93) (s 93) 655 656 657 149 1 3 360 361 362 363 364 659 660
def zgt (P:Params):=uO (s 93) (s 93) (S 33) (s 82) 611 365
def zgs (P:Params):=tO #[]
def znb (P:Params):=vO #[]
noncomputable def zgr (P:Params):=tO #[(.str (s 111) 665),(.str (s 112) 666),(.str (s 113) 667),(.str (s 114) 668)]
def zgq (P:Params):=tO #[]
def zna (P:Params):=gO (s 94) (s 94) (S 34)
noncomputable def zll (P:Params):=cO (s 94) (s 94) 662 663 664 151 3 3 367 368 369 370 371 669 670
def zlk (P:Params):=uO (s 94) (s 94) (S 34) (s 82) 611 372
def zlj (P:Params):=tO #[]
def zwv (P:Params):=vO #[]
noncomputable def zli (P:Params):=tO #[(.str (s 115) 675),(.str (s 112) 676),(.str (s 113) 677)]
def zlh (P:Params):=tO #[]
def zwu (P:Params):=gO (s 95) (s 95) (S 35)
noncomputable def zlg (P:Params):=cO (s 95) (s 95) 672 673 674 156 3 3 374 375 376 377 378 678 679
def zlf (P:Params):=uO (s 95) (s 95) (S 35) (s 82) 611 379
def zle (P:Params):=tO #[]
def zwt (P:Params):=vO #[]
def zws (P:Params):=gO (s 96) (s 96) (S 36)
noncomputable def zld (P:Params):=Obj.mk k1 .none (Data.fields #[(.str (s 96) 681),(.str (s 96) 682),(.str (s 0) 683),(.int 170 0),(.int 1 0),(.int 0 0),(.int 0 0),(.int 3 0),(.ref 381),(.bool true),(.int 181 0),(.ref 382),.none,.none,.none,(.ref 383),(.int 684 0),(.int 170 0),(.str (s 0) 685)]) #[]
def zlc (P:Params):=uO (s 96) (s 96) (S 36) (s 82) 611 384
def zox:=N (zws P) .nil .nil
def zow:=N (zic P) (zrm P) (zox P)
def zov:=N (zgE P) .nil .nil
def zou:=N (Ue P) (zov P) .nil
def zot:=N (zgQ P) .nil .nil
def zos:=N (zhH P) (zot P) .nil
def zor:=N (zgs P) .nil .nil
def zoq:=N (V3 P) (zor P) .nil
def zop:=N (zno P) .nil .nil
def zoo:=N (zgV P) .nil .nil
def zon:=N (zgy P) .nil .nil
def zom:=N (zhw P) (zon P) .nil
def zfO:=N (zgK P) .nil .nil
def zfN:=N (Uk P) (zfO P) .nil
def zfM:=N (zwv P) .nil .nil
def zfL:=N (zls P) (zfM P) .nil
def zfK:=N (zgU P) .nil .nil
def zfJ:=N (zgB P) .nil .nil
def zfI:=N (Ub P) (zfJ P) .nil
def zfH:=N (zni P) .nil .nil
def zfG:=N (zhD P) (zfH P) .nil
def zfF:=N (zna P) .nil .nil
def zfE:=N (VZ P) (zfF P) .nil
def zfD:=N (zgS P) .nil .nil
def zfC:=N (Uo P) (zfD P) .nil
def zfB:=N (zgv P) .nil .nil
def zfA:=N (zhv P) (zfB P) .nil
def zfz:=N (znh P) .nil .nil
def zfy:=N (Uh P) (zfz P) .nil
def zfx:=N (zlg P) .nil .nil
def zfw:=N (zlo P) (zfx P) .nil
noncomputable def zme:=N (o0 P) (N (o10 P) (N (o26 P) (N (o58 P) (zq6 P) (N (zhL P) (zfK P) .nil)) (N (o93 P) (zq4 P) (zfI P))) (N (o42 P) (N (o74 P) (zq1 P) (zfG P)) (N (Wa P) (zpc P) (zfE P)))) (N (o18 P) (N (o34 P) (N (o66 P) (zqY P) (zfC P)) (N (YU P) (zpa P) (zfA P))) (N (o50 P) (N (o85 P) (zqV P) (zfy P)) (N (YH P) (zo8 P) (zfw P))))
def zfv:=N (zlc P) .nil .nil
def zfu:=N (zia P) (zqS P) (zfv P)
def zft:=N (zgC P) .nil .nil
def zfs:=N (Ud P) (zft P) .nil
def zfr:=N (zgP P) .nil .nil
def zfq:=N (zhF P) (zfr P) .nil
def zfp:=N (zgr P) .nil .nil
def zfo:=N (V1 P) (zfp P) .nil
def zfn:=N (znm P) .nil .nil
def zfm:=N (Uq P) (zfn P) .nil
def zfl:=N (znd P) .nil .nil
def zfk:=N (V7 P) (zfl P) .nil
def zfj:=N (zgI P) .nil .nil
def zfi:=N (zhA P) (zfj P) .nil
def zfh:=N (zlh P) .nil .nil
def zfg:=N (zlq P) (zfh P) .nil
def zff:=N (znq P) .nil .nil
def zfe:=N (zne P) .nil .nil
def zfd:=N (Ua P) (zfe P) .nil
def zfc:=N (zgM P) .nil .nil
def zfb:=N (Ul P) (zfc P) .nil
def zfa:=N (zlk P) .nil .nil
def ze9:=N (zlt P) (zfa P) .nil
def ze8:=N (znl P) .nil .nil
def ze7:=N (zhI P) (ze8 P) .nil
def ze6:=N (zgu P) .nil .nil
def ze5:=N (V4 P) (ze6 P) .nil
def ze4:=N (zgF P) .nil .nil
def ze3:=N (zhz P) (ze4 P) .nil
def ze2:=N (zle P) .nil .nil
def ze1:=N (zar P) (ze2 P) .nil
noncomputable def zmd:=N (o2 P) (N (o12 P) (N (o28 P) (N (o60 P) (zqA P) (N (Ut P) (zff P) .nil)) (N (o95 P) (zqy P) (zfd P))) (N (o44 P) (N (o76 P) (zqv P) (zfb P)) (N (YM P) (zo0 P) (ze9 P)))) (N (o20 P) (N (o36 P) (N (o68 P) (zqs P) (ze7 P)) (N (YT P) (zoY P) (ze5 P))) (N (o52 P) (N (o87 P) (zqp P) (ze3 P)) (N (X7 P) (zoW P) (ze1 P))))
noncomputable def zmc:=N (boot_o_5 P) (N (boot_o_9 P) (N (o8 P) (N (o24 P) (N (o56 P) (zfu P) (zo6 P)) (N (o91 P) (zqP P) (zfs P))) (N (o40 P) (N (W8 P) (zqM P) (zfq P)) (N (YQ P) (zo4 P) (zfo P)))) (N (o16 P) (N (o32 P) (N (o64 P) (zqJ P) (zfm P)) (N (o99 P) (zqH P) (zfk P))) (N (o48 P) (N (o83 P) (zqE P) (zfi P)) (N (YJ P) (zo2 P) (zfg P))))) (zmd P)
def ze0:=N (zld P) .nil .nil
def zeZ:=N (zib P) (zqm P) (ze0 P)
def zeY:=N (zgD P) .nil .nil
def zeX:=N (zhy P) (zeY P) .nil
def zeW:=N (znj P) .nil .nil
def zeV:=N (zhG P) (zeW P) .nil
def zeU:=N (znb P) .nil .nil
def zeT:=N (V2 P) (zeU P) .nil
def zeS:=N (znn P) .nil .nil
def zeR:=N (Ur P) (zeS P) .nil
def zeQ:=N (zgx P) .nil .nil
def zeP:=N (V8 P) (zeQ P) .nil
def zeO:=N (zgJ P) .nil .nil
def zeN:=N (Uj P) (zeO P) .nil
def zeM:=N (zli P) .nil .nil
def zeL:=N (zlr P) (zeM P) .nil
def zeK:=N (znr P) .nil .nil
def zeJ:=N (zgA P) .nil .nil
def zeI:=N (zhx P) (zeJ P) .nil
def zeH:=N (zgN P) .nil .nil
def zeG:=N (zhC P) (zeH P) .nil
def zeF:=N (zll P) .nil .nil
def zeE:=N (zlu P) (zeF P) .nil
def zeD:=N (zgR P) .nil .nil
def zeC:=N (zhJ P) (zeD P) .nil
def zeB:=N (znc P) .nil .nil
def zeA:=N (V5 P) (zeB P) .nil
def zez:=N (zgG P) .nil .nil
def zey:=N (Ug P) (zez P) .nil
def zex:=N (zlf P) .nil .nil
def zew:=N (zln P) (zex P) .nil
noncomputable def zmb:=N (zxj P) (N (o11 P) (N (o27 P) (N (o59 P) (zp4 P) (N (Uu P) (zeK P) .nil)) (N (o94 P) (zp2 P) (zeI P))) (N (o43 P) (N (o75 P) (zpZ P) (zeG P)) (N (YN P) (zoO P) (zeE P)))) (N (o19 P) (N (o35 P) (N (o67 P) (zpW P) (zeC P)) (N (Wd P) (zoM P) (zeA P))) (N (o51 P) (N (o86 P) (zpT P) (zey P)) (N (X8 P) (zoK P) (zew P))))
def zev:=N (znf P) .nil .nil
def zeu:=N (Uc P) (zev P) .nil
def zet:=N (zgO P) .nil .nil
def zes:=N (zhE P) (zet P) .nil
def zer:=N (zgq P) .nil .nil
def zeq:=N (V0 P) (zer P) .nil
def zep:=N (zgT P) .nil .nil
def zeo:=N (Up P) (zep P) .nil
def zen:=N (zgw P) .nil .nil
def zem:=N (V6 P) (zen P) .nil
def zel:=N (zgH P) .nil .nil
def zek:=N (Ui P) (zel P) .nil
def zej:=N (zwu P) .nil .nil
def zei:=N (zlp P) (zej P) .nil
def zeh:=N (znp P) .nil .nil
def zeg:=N (zgz P) .nil .nil
def zef:=N (V9 P) (zeg P) .nil
def zee:=N (zgL P) .nil .nil
def zed:=N (zhB P) (zee P) .nil
def zec:=N (zlj P) .nil .nil
def zeb:=N (zas P) (zec P) .nil
def zea:=N (znk P) .nil .nil
def zd9:=N (Um P) (zea P) .nil
def zd8:=N (zgt P) .nil .nil
def zd7:=N (zhu P) (zd8 P) .nil
def zd6:=N (zng P) .nil .nil
def zd5:=N (Uf P) (zd6 P) .nil
def zd4:=N (zwt P) .nil .nil
def zd3:=N (zlm P) (zd4 P) .nil
noncomputable def zma:=N (o3 P) (N (o13 P) (N (o29 P) (N (o61 P) (zpy P) (N (zhK P) (zeh P) .nil)) (N (o96 P) (zpw P) (zef P))) (N (o45 P) (N (o80 P) (zpt P) (zed P)) (N (X9 P) (zoC P) (zeb P)))) (N (o21 P) (N (o37 P) (N (o69 P) (zpp P) (zd9 P)) (N (YS P) (zoA P) (zd7 P))) (N (o53 P) (N (o88 P) (zpm P) (zd5 P)) (N (YG P) (zoy P) (zd3 P))))
noncomputable def zl9:=N (boot_o_6 P) (N (boot_o_10 P) (N (o9 P) (N (o25 P) (zoI P) (N (o92 P) (zpN P) (zeu P))) (N (o41 P) (N (o73 P) (zpK P) (zes P)) (N (YO P) (zoG P) (zeq P)))) (N (o17 P) (N (o33 P) (N (o65 P) (zpH P) (zeo P)) (N (YV P) (zpF P) (zem P))) (N (o49 P) (N (o84 P) (zpC P) (zek P)) (N (YI P) (zoE P) (zei P))))) (zma P)
noncomputable def zl8:=N (boot_o_2 P) (N (boot_o_4 P) (N (boot_o_8 P) (N (o7 P) (N (o23 P) (N (o55 P) (zeZ P) (zoU P)) (N (o90 P) (zqj P) (zeX P))) (N (o39 P) (N (o71 P) (zqg P) (zeV P)) (N (YR P) (zoS P) (zeT P)))) (N (o15 P) (N (o31 P) (N (o63 P) (zqd P) (zeR P)) (N (o98 P) (zqb P) (zeP P))) (N (o47 P) (N (o82 P) (zp8 P) (zeN P)) (N (YK P) (zoQ P) (zeL P))))) (zmb P)) (zl9 P)
noncomputable def zl7:=N (boot_o_0 P) (N (boot_o_1 P) (N (zxk P) (N (boot_o_7 P) (N (o6 P) (N (o22 P) (N (o54 P) (zow P) (zpi P)) (N (o89 P) (zrj P) (zou P))) (N (o38 P) (N (o70 P) (zrg P) (zos P)) (N (Wc P) (zpg P) (zoq P)))) (N (o14 P) (N (o30 P) (N (o62 P) (zrd P) (N (Us P) (zop P) .nil)) (N (o97 P) (N (UL P) (zoo P) .nil) (zom P))) (N (o46 P) (N (o81 P) (zra P) (zfN P)) (N (YL P) (zpe P) (zfL P))))) (zme P)) (zmc P)) (zl8 P)
noncomputable def sb8 (w:World) (os:OsState):SharedT:=⟨(zl7 w.params),386,(Life.mk [] [] [] 0 [] [] false #[] [] 0 false false false 0 [2000,10,10] false 0 true [] [] 0 false),⟨[]⟩,(Drawn.mk 0 0 0 0),687,os⟩
noncomputable def L7 (w:World) (os:OsState):Option (Flow×SharedT×Code×Pos):=segRunT treeTable PySem.Challenge.pw_beatless_k24_whole_pieces_joined w 11 an 1 515 (sb7 w os) (piecesOf zuC env cE (Pos.mk 131 0 132 8) B)
noncomputable def R7 (w:World) (os:OsState):Option (Flow×SharedT×Code×Pos):=some (.next,sb8 w os,cE,(Pos.mk 170 0 171 53))
theorem q7:tt (Hd.L7,Hd.R7)=true:=by k_qdec
theorem r7:∀ w,Fast.tw9490284035958612641 w=Hd.R7 w:=fun w=>by kernel_rfl
theorem e7 (w:World) (os:OsState):Hd.L7 w os=Hd.R7 w os:=(congrFun (congrFun Fast.te9490284035958612641 w) os).trans (congrFun (r7 w) os)
def zuB:List Stmt:=[S 37,S 38,S 39,S 40,S 41,S 42,S 43,S 44]
noncomputable def zxi:=Obj.mk k4 .none (Data.dict #[en P (s 3) 165 (.str (s 116) 757),en P (s 5) 166 .none,en P (s 6) 167 .none,en P (s 7) 168 k5,en P (s 8) 169 .none,en P (s 9) 170 (.ref 6),en P (s 10) 171 (.ref 4),en P (s 11) 173 (.str (s 0) 172),en P (s 12) 174 .none,en P (s 13) 193 (.ref 21),en P (s 14) 201 (.ref 26),en P (s 15) 207 (.ref 31),en P (s 16) 213 (.ref 36),en P (s 17) 228 (.ref 43),en P (s 18) 236 (.ref 50),en P (s 19) 244 (.ref 57),en P (s 20) 253 (.ref 64),en P (s 21) 262 (.ref 71),en P (s 22) 284 (.ref 81),en P (s 40) 331 (.ref 123),en P (s 51) 378 (.ref 163),en P (s 57) 431 (.ref 203),en P (s 64) 480 (.ref 243),en P (s 72) 533 (.ref 283),en P (s 73) 553 (.ref 295),en P (s 80) 569 (.ref 308),en P (s 81) 585 (.ref 320),en P (s 83) 601 (.ref 332),en P (s 84) 610 (.ref 341),en P (s 85) 615 (.ref 342),en P (s 86) 621 (.ref 343),en P (s 87) 630 (.ref 344),en P (s 88) 635 (.ref 345),en P (s 89) 637 (.int 60 636),en P (s 90) 639 (.int 8 638),en P (s 91) 646 (.ref 352),en P (s 92) 654 (.ref 359),en P (s 93) 661 (.ref 366),en P (s 94) 671 (.ref 373),en P (s 95) 680 (.ref 380),en P (s 96) 686 (.ref 385),en P (s 117) 756 (.ref 423),en P (s 118) 760 (.int 12 759),en P (s 119) 762 (.int 99 761),en P (s 120) 771 (.ref 434),en P (s 121) 779 (.ref 441),en P (s 122) 789 (.ref 448),en P (s 123) 801 (.ref 455)] 48) #[]
noncomputable def zxh (P:Params):=vO #[(.int 1 0),(.int 0 0),(.ref 20),(.int 5 0),(.int 0 0),(.ref 25),(.int 7 0),(.int 0 0),(.ref 30),(.int 16 0),(.int 0 0),(.ref 35),(.int 23 0),(.int 0 0),(.ref 42),(.int 34 0),(.int 0 0),(.ref 49),(.int 36 0),(.int 0 0),(.ref 56),(.int 38 0),(.int 0 0),(.ref 63),(.int 40 0),(.int 0 0),(.ref 70),(.int 43 0),(.int 0 0),(.ref 77),(.int 45 0),(.int 0 0),(.ref 91),(.int 58 0),(.int 0 0),(.ref 131),(.int 71 0),(.int 0 0),(.ref 171),(.int 94 0),(.int 0 0),(.ref 211),(.int 108 0),(.int 0 0),(.ref 251),(.int 127 0),(.int 0 0),(.ref 291),(.int 129 0),(.int 0 0),(.ref 304),(.int 131 0),(.int 0 0),(.ref 316),(.int 133 0),(.int 0 0),(.ref 328),(.int 136 0),(.int 0 0),(.ref 340),(.int 145 0),(.int 0 0),(.ref 351),(.int 147 0),(.int 0 0),(.ref 358),(.int 149 0),(.int 0 0),(.ref 365),(.int 151 0),(.int 0 0),(.ref 372),(.int 156 0),(.int 0 0),(.ref 379),(.int 170 0),(.int 0 0),(.ref 384),(.int 172 0),(.int 0 0),(.ref 391),(.int 207 0),(.int 0 0),(.ref 433),(.int 216 0),(.int 0 0),(.ref 440),(.int 222 0),(.int 0 0),(.ref 447),(.int 231 0),(.int 0 0),(.ref 454)]
def zwr (P:Params):=tO #[]
noncomputable def zwq (P:Params):=Obj.mk k6 .none (Data.fields #[k7,k8]) #[]
noncomputable def zwp:=Obj.mk k4 .none (Data.dict #[en P (s 34) 694 (.str (s 82) 611),en P (s 35) 696 (.str (s 117) 695),en P (s 36) 698 (.int 172 697),en P (s 41) 709 (.ref 399),en P (s 124) 718 (.ref 406),en P (s 125) 731 (.ref 413),en P (s 126) 744 (.ref 420),en P (s 37) 749 (.ref 421)] 8) #[]
def zwo (P:Params):=tO #[]
noncomputable def zwn (P:Params):=vO #[(.int 174 0),(.int 4 0),(.ref 398),(.int 188 0),(.int 4 0),(.ref 405),(.int 191 0),(.int 4 0),(.ref 412),(.int 197 0),(.int 4 0),(.ref 419)]
noncomputable def zwm (P:Params):=Obj.mk k1 .none (Data.fields #[(.str (s 117) 689),(.str (s 117) 690),(.str (s 0) 691),(.int 172 0),(.int 0 0),(.int 0 0),(.int 0 0),(.int 0 0),(.ref 389),(.bool false),(.int 181 0),(.ref 390),.none,.none,.none,.none,(.int 692 0),(.int 172 0),(.str (s 0) 693)]) #[]
noncomputable def zwl (P:Params):=Obj.mk k3 .none Data.plain #[(some (.ref 391)),(some (.ref 3)),(some (.ref 388)),.none,(some (.str (s 82) 611)),.none,(some (.ref 0))]
def zlb (P:Params):=tO #[]
def zwk (P:Params):=vO #[]
noncomputable def zla (P:Params):=tO #[(.str (s 45) 702),(.str (s 127) 703),(.str (s 128) 704),(.str (s 129) 705),(.str (s 130) 706)]
def zk9 (P:Params):=tO #[]
def zwj (P:Params):=gO (s 41) (s 131) (L2.inClass (S 37) 0)
noncomputable def zk8 (P:Params):=cO (s 41) (s 131) 699 700 701 174 5 3 393 394 395 396 397 707 708
noncomputable def zk7 (P:Params):=uO (s 41) (s 131) (L2.inClass (S 37) 0) (s 82) 611 398
def zk6 (P:Params):=tO #[]
def zwi (P:Params):=vO #[]
noncomputable def zk5 (P:Params):=tO #[(.str (s 45) 713),(.str (s 132) 714),(.str (s 99) 715)]
def zk4 (P:Params):=tO #[]
def zwh (P:Params):=gO (s 124) (s 133) (L2.inClass (S 37) 1)
noncomputable def zk3 (P:Params):=cO (s 124) (s 133) 710 711 712 188 3 3 400 401 402 403 404 716 717
noncomputable def zk2 (P:Params):=uO (s 124) (s 133) (L2.inClass (S 37) 1) (s 82) 611 405
def zk1 (P:Params):=tO #[]
def zwg (P:Params):=vO #[]
noncomputable def zk0 (P:Params):=tO #[(.str (s 45) 722),(.str (s 100) 723),(.str (s 132) 724),(.str (s 33) 725),(.str (s 99) 726),(.str (s 59) 727),(.str (s 28) 728)]
def zkZ (P:Params):=tO #[]
def zwf (P:Params):=gO (s 125) (s 134) (L2.inClass (S 37) 2)
noncomputable def zkY (P:Params):=cO (s 125) (s 134) 719 720 721 191 6 3 407 408 409 410 411 729 730
noncomputable def zkX (P:Params):=uO (s 125) (s 134) (L2.inClass (S 37) 2) (s 82) 611 412
def zkW (P:Params):=tO #[]
def zwe (P:Params):=vO #[]
noncomputable def zkV (P:Params):=tO #[(.str (s 45) 735),(.str (s 100) 736),(.str (s 132) 737),(.str (s 33) 738),(.str (s 99) 739),(.str (s 29) 740),(.str (s 28) 741)]
def zkU (P:Params):=tO #[]
def zwd (P:Params):=gO (s 126) (s 135) (L2.inClass (S 37) 3)
noncomputable def zkT (P:Params):=cO (s 126) (s 135) 732 733 734 197 6 3 414 415 416 417 418 742 743
noncomputable def zkS (P:Params):=uO (s 126) (s 135) (L2.inClass (S 37) 3) (s 82) 611 419
noncomputable def zkR (P:Params):=tO #[(.str (s 130) 745),(.str (s 128) 746),(.str (s 127) 747),(.str (s 129) 748)]
noncomputable def zkQ:=Obj.mk k4 .none (Data.dict #[en P (s 34) 694 (.str (s 82) 611),en P (s 36) 698 (.int 172 697),en P (s 41) 709 (.ref 399),en P (s 124) 718 (.ref 406),en P (s 125) 731 (.ref 413),en P (s 126) 744 (.ref 420),en P (s 37) 749 (.ref 421),en P (s 38) 751 (.ref 424),en P (s 39) 753 (.ref 425),en P (s 5) 754 .none] 4) #[]
noncomputable def zkP (P:Params):=Obj.mk k8 .none (Data.cls (ClassData.mk (s 117) [k9] [(.ref 423),k9] 422 (s 117) true [] [] false .none false)) #[.none,.none,(some (.str (s 117) 687)),(some (.str (s 117) 695)),(some k10),(some (.bool true))]
noncomputable def zkO (P:Params):=Obj.mk k11 .none (Data.fields #[(.str (s 38) 750),(.ref 423),k12,k13]) #[]
noncomputable def zkN (P:Params):=Obj.mk k11 .none (Data.fields #[(.str (s 39) 752),(.ref 423),k14,.none]) #[]
noncomputable def zwc (P:Params):=Obj.mk k15 .none (Data.fields #[(.ref 423),(.ref 423),(.ref 423)]) #[]
noncomputable def zwb (P:Params):=Obj.mk k6 .none (Data.fields #[k16,(.ref 423)]) #[]
def zkM (P:Params):=tO #[]
def zwa (P:Params):=vO #[]
noncomputable def zkL (P:Params):=tO #[(.str (s 136) 766),(.str (s 137) 767),(.str (s 132) 768)]
def zkK (P:Params):=tO #[]
def zv9 (P:Params):=gO (s 120) (s 120) (S 41)
noncomputable def zkJ (P:Params):=cO (s 120) (s 120) 763 764 765 207 1 3 428 429 430 431 432 769 770
def zkI (P:Params):=uO (s 120) (s 120) (S 41) (s 116) 757 433
def zkH (P:Params):=tO #[]
def zv8 (P:Params):=vO #[]
noncomputable def zkG (P:Params):=tO #[(.str (s 138) 775),(.str (s 136) 776)]
def zkF (P:Params):=tO #[]
def zv7 (P:Params):=gO (s 121) (s 121) (S 42)
noncomputable def zkE (P:Params):=cO (s 121) (s 121) 772 773 774 216 2 3 435 436 437 438 439 777 778
def zkD (P:Params):=uO (s 121) (s 121) (S 42) (s 116) 757 440
def zkC (P:Params):=tO #[]
def zv6 (P:Params):=vO #[]
noncomputable def zkB (P:Params):=tO #[(.str (s 99) 783),(.str (s 136) 784),(.str (s 139) 785),(.str (s 138) 786)]
def zkA (P:Params):=tO #[]
def zv5 (P:Params):=gO (s 122) (s 122) (S 43)
noncomputable def zkz (P:Params):=cO (s 122) (s 122) 780 781 782 222 2 3 442 443 444 445 446 787 788
def zky (P:Params):=uO (s 122) (s 122) (S 43) (s 116) 757 447
def zkx (P:Params):=tO #[]
def zv4 (P:Params):=vO #[]
noncomputable def zkw (P:Params):=tO #[(.str (s 136) 793),(.str (s 99) 794),(.str (s 140) 795),(.str (s 132) 796),(.str (s 58) 797),(.str (s 59) 798)]
def zkv (P:Params):=tO #[]
def zv3 (P:Params):=gO (s 123) (s 123) (S 44)
noncomputable def zku (P:Params):=cO (s 123) (s 123) 790 791 792 231 2 3 449 450 451 452 453 799 800
def zkt (P:Params):=uO (s 123) (s 123) (S 44) (s 116) 757 454
def zd2:=N (zkz P) .nil .nil
def zd1:=N (zhM P) (zpj P) (zd2 P)
def zd0:=N (zwe P) .nil .nil
def zdZ:=N (zk7 P) .nil .nil
def zdY:=N (zkK P) .nil .nil
def zdX:=N (UJ P) (zph P) (zdY P)
def zdW:=N (zwm P) .nil .nil
def zdV:=N (zkt P) .nil .nil
def zdU:=N (Us P) (zop P) (zdV P)
def zdT:=N (zkP P) .nil .nil
def zdS:=N (zk1 P) .nil .nil
def zdR:=N (zv7 P) .nil .nil
def zdQ:=N (UD P) (zpf P) (zdR P)
def zdP:=N (zwq P) .nil .nil
def zdO:=N (zkw P) .nil .nil
def zdN:=N (zhL P) (zfK P) (zdO P)
def zdM:=N (zkT P) .nil .nil
def zdL:=N (zk4 P) .nil .nil
def zdK:=N (zkH P) .nil .nil
def zdJ:=N (UG P) (zpd P) (zdK P)
def zdI:=N (zla P) .nil .nil
def zdH:=N (zwb P) .nil .nil
def zdG:=N (zhT P) (zpb P) (zdH P)
def zdF:=N (zwf P) .nil .nil
def zdE:=N (zv6 P) .nil .nil
def zdD:=N (UA P) (zo9 P) (zdE P)
noncomputable def zl6:=N (o0 P) (N (o10 P) (N (o26 P) (N (o58 P) (N (zh8 P) (zq7 P) (zdP P)) (zdN P)) (N (o93 P) (N (UN P) (zq5 P) (zdM P)) (zfI P))) (N (o42 P) (N (o74 P) (N (UZ P) (zq2 P) (zdL P)) (zfG P)) (N (Wa P) (zdJ P) (zfE P)))) (N (o18 P) (N (o34 P) (N (o66 P) (N (U5 P) (zqZ P) (zdI P)) (zfC P)) (N (YU P) (zdG P) (zfA P))) (N (o50 P) (N (o85 P) (N (zh0 P) (zqW P) (zdF P)) (zfy P)) (N (YH P) (zdD P) (zfw P))))
def zdC:=N (zkx P) .nil .nil
def zdB:=N (Uw P) (zo7 P) (zdC P)
def zdA:=N (zkU P) .nil .nil
def zdz:=N (zwi P) .nil .nil
def zdy:=N (zkJ P) .nil .nil
def zdx:=N (zhQ P) (zo5 P) (zdy P)
def zdw:=N (zlb P) .nil .nil
def zdv:=N (zkN P) .nil .nil
def zdu:=N (zhV P) (zqI P) (zdv P)
def zdt:=N (zk0 P) .nil .nil
def zds:=N (zkD P) .nil .nil
def zdr:=N (UC P) (zo3 P) (zds P)
def zdq:=N (zwo P) .nil .nil
def zdp:=N (zv3 P) .nil .nil
def zdo:=N (Ut P) (zff P) (zdp P)
def zdn:=N (zkR P) .nil .nil
def zdm:=N (zk3 P) .nil .nil
def zdl:=N (zkG P) .nil .nil
def zdk:=N (zhP P) (zo1 P) (zdl P)
def zdj:=N (zwj P) .nil .nil
def zdi:=N (zwa P) .nil .nil
def zdh:=N (UK P) (zoZ P) (zdi P)
def zdg:=N (zkX P) .nil .nil
def zdf:=N (zkA P) .nil .nil
def zde:=N (Uz P) (zoX P) (zdf P)
noncomputable def zl5:=N (o2 P) (N (o12 P) (N (o28 P) (N (o60 P) (N (U9 P) (zqB P) (zdq P)) (zdo P)) (N (o95 P) (N (zhX P) (zqz P) (zdn P)) (zfd P))) (N (o44 P) (N (o76 P) (N (UY P) (zqw P) (zdm P)) (zfb P)) (N (YM P) (zdk P) (ze9 P)))) (N (o20 P) (N (o36 P) (N (o68 P) (N (zh4 P) (zqt P) (zdj P)) (ze7 P)) (N (YT P) (zdh P) (ze5 P))) (N (o52 P) (N (o87 P) (N (US P) (zqq P) (zdg P)) (ze3 P)) (N (X7 P) (zde P) (ze1 P))))
noncomputable def zl4:=N (boot_o_5 P) (N (boot_o_9 P) (N (o8 P) (N (o24 P) (N (o56 P) (zfu P) (zdB P)) (N (o91 P) (N (UP P) (zqQ P) (zdA P)) (zfs P))) (N (o40 P) (N (W8 P) (N (U1 P) (zqN P) (zdz P)) (zfq P)) (N (YQ P) (zdx P) (zfo P)))) (N (o16 P) (N (o32 P) (N (o64 P) (N (zh5 P) (zqK P) (zdw P)) (zfm P)) (N (o99 P) (zdu P) (zfk P))) (N (o48 P) (N (o83 P) (N (UV P) (zqF P) (zdt P)) (zfi P)) (N (YJ P) (zdr P) (zfg P))))) (zl5 P)
def zdd:=N (zky P) .nil .nil
def zdc:=N (Ux P) (zoV P) (zdd P)
def zdb:=N (zkV P) .nil .nil
def zda:=N (zk6 P) .nil .nil
def zc9:=N (zv9 P) .nil .nil
def zc8:=N (UI P) (zoT P) (zc9 P)
def zc7:=N (zwl P) .nil .nil
def zc6:=N (zkO P) .nil .nil
def zc5:=N (zhW P) (zqc P) (zc6 P)
def zc4:=N (zwg P) .nil .nil
def zc3:=N (zkE P) .nil .nil
def zc2:=N (zhO P) (zoR P) (zc3 P)
def zc1:=N (zwp P) .nil .nil
def zc0:=N (zkv P) .nil .nil
def zcZ:=N (Uu P) (zeK P) (zc0 P)
def zcY:=N (zkS P) .nil .nil
def zcX:=N (zwh P) .nil .nil
def zcW:=N (zv8 P) .nil .nil
def zcV:=N (UF P) (zoP P) (zcW P)
def zcU:=N (zk9 P) .nil .nil
def zcT:=N (zkM P) .nil .nil
def zcS:=N (zhS P) (zoN P) (zcT P)
def zcR:=N (zkY P) .nil .nil
def zcQ:=N (zkB P) .nil .nil
def zcP:=N (zhN P) (zoL P) (zcQ P)
noncomputable def zl3:=N (zxh P) (N (o11 P) (N (o27 P) (N (o59 P) (N (zh7 P) (zp5 P) (zc1 P)) (zcZ P)) (N (o94 P) (N (zhY P) (zp3 P) (zcY P)) (zeI P))) (N (o43 P) (N (o75 P) (N (zh2 P) (zp0 P) (zcX P)) (zeG P)) (N (YN P) (zcV P) (zeE P)))) (N (o19 P) (N (o35 P) (N (o67 P) (N (U4 P) (zpX P) (zcU P)) (zeC P)) (N (Wd P) (zcS P) (zeA P))) (N (o51 P) (N (o86 P) (N (UT P) (zpU P) (zcR P)) (zey P)) (N (X8 P) (zcP P) (zew P))))
def zcO:=N (zwr P) .nil .nil
def zcN:=N (zv4 P) .nil .nil
def zcM:=N (Uv P) (zoJ P) (zcN P)
def zcL:=N (zwd P) .nil .nil
def zcK:=N (zk5 P) .nil .nil
def zcJ:=N (zkI P) .nil .nil
def zcI:=N (UH P) (zoH P) (zcJ P)
def zcH:=N (zwk P) .nil .nil
def zcG:=N (zwc P) .nil .nil
def zcF:=N (zhU P) (zpG P) (zcG P)
def zcE:=N (zkZ P) .nil .nil
def zcD:=N (zkC P) .nil .nil
def zcC:=N (UB P) (zoF P) (zcD P)
def zcB:=N (zwn P) .nil .nil
def zcA:=N (zku P) .nil .nil
def zcz:=N (zhK P) (zeh P) (zcA P)
def zcy:=N (zkQ P) .nil .nil
def zcx:=N (zk2 P) .nil .nil
def zcw:=N (zkF P) .nil .nil
def zcv:=N (UE P) (zoD P) (zcw P)
def zcu:=N (zk8 P) .nil .nil
def zct:=N (zkL P) .nil .nil
def zcs:=N (zhR P) (zoB P) (zct P)
def zcr:=N (zkW P) .nil .nil
def zcq:=N (zv5 P) .nil .nil
def zcp:=N (Uy P) (zoz P) (zcq P)
noncomputable def zl2:=N (o3 P) (N (o13 P) (N (o29 P) (N (o61 P) (N (zh6 P) (zpz P) (zcB P)) (zcz P)) (N (o96 P) (N (UM P) (zpx P) (zcy P)) (zef P))) (N (o45 P) (N (o80 P) (N (UX P) (zpu P) (zcx P)) (zed P)) (N (X9 P) (zcv P) (zeb P)))) (N (o21 P) (N (o37 P) (N (o69 P) (N (U3 P) (zpq P) (zcu P)) (zd9 P)) (N (YS P) (zcs P) (zd7 P))) (N (o53 P) (N (o88 P) (N (zhZ P) (zpn P) (zcr P)) (zd5 P)) (N (YG P) (zcp P) (zd3 P))))
noncomputable def zl1:=N (boot_o_6 P) (N (boot_o_10 P) (N (o9 P) (N (o25 P) (N (o57 P) (N (zh9 P) (zpQ P) (zcO P)) (zcM P)) (N (o92 P) (N (UO P) (zpO P) (zcL P)) (zeu P))) (N (o41 P) (N (o73 P) (N (U0 P) (zpL P) (zcK P)) (zes P)) (N (YO P) (zcI P) (zeq P)))) (N (o17 P) (N (o33 P) (N (o65 P) (N (U6 P) (zpI P) (zcH P)) (zeo P)) (N (YV P) (zcF P) (zem P))) (N (o49 P) (N (o84 P) (N (UU P) (zpD P) (zcE P)) (zek P)) (N (YI P) (zcC P) (zei P))))) (zl2 P)
noncomputable def zl0:=N (boot_o_2 P) (N (boot_o_4 P) (N (boot_o_8 P) (N (o7 P) (N (o23 P) (N (o55 P) (zeZ P) (zdc P)) (N (o90 P) (N (UQ P) (zqk P) (zdb P)) (zeX P))) (N (o39 P) (N (o71 P) (N (zh3 P) (zqh P) (zda P)) (zeV P)) (N (YR P) (zc8 P) (zeT P)))) (N (o15 P) (N (o31 P) (N (o63 P) (N (U7 P) (zqe P) (zc7 P)) (zeR P)) (N (o98 P) (zc5 P) (zeP P))) (N (o47 P) (N (o82 P) (N (UW P) (zp9 P) (zc4 P)) (zeN P)) (N (YK P) (zc2 P) (zeL P))))) (zl3 P)) (zl1 P)
noncomputable def zlZ:=N (boot_o_0 P) (N (boot_o_1 P) (N (zxi P) (N (boot_o_7 P) (N (o6 P) (N (o22 P) (N (o54 P) (zow P) (zd1 P)) (N (o89 P) (N (UR P) (zrk P) (zd0 P)) (zou P))) (N (o38 P) (N (o70 P) (N (U2 P) (zrh P) (zdZ P)) (zos P)) (N (Wc P) (zdX P) (zoq P)))) (N (o14 P) (N (o30 P) (N (o62 P) (N (U8 P) (zre P) (zdW P)) (zdU P)) (N (o97 P) (N (UL P) (zoo P) (zdT P)) (zom P))) (N (o46 P) (N (o81 P) (N (zh1 P) (zrb P) (zdS P)) (zfN P)) (N (YL P) (zdQ P) (zfL P))))) (zl6 P)) (zl4 P)) (zl0 P)
noncomputable def sb9 (w:World) (os:OsState):SharedT:=⟨(zlZ w.params),456,(Life.mk [] [] [] 0 [] [] false #[] [] 0 false false false 0 [2000,10,10] false 0 true [] [] 0 false),⟨[]⟩,(Drawn.mk 0 0 0 0),802,os⟩
noncomputable def L8 (w:World) (os:OsState):Option (Flow×SharedT×Code×Pos):=segRunT treeTable PySem.Challenge.pw_beatless_k24_whole_pieces_joined w 11 an 1 490 (sb8 w os) (piecesOf zuB env cE (Pos.mk 170 0 171 53) B)
noncomputable def R8 (w:World) (os:OsState):Option (Flow×SharedT×Code×Pos):=some (.next,sb9 w os,cE,(Pos.mk 231 0 238 15))
theorem q8:tt (Hd.L8,Hd.R8)=true:=by k_qdec
theorem r8:∀ w,Fast.tw7116466485190837356 w=Hd.R8 w:=fun w=>by kernel_rfl
theorem e8 (w:World) (os:OsState):Hd.L8 w os=Hd.R8 w os:=(congrFun (congrFun Fast.te7116466485190837356 w) os).trans (congrFun (r8 w) os)
def zuA:List Stmt:=[S 45,S 46,S 47,S 48,S 49,S 50]
noncomputable def zxg:=Obj.mk k4 .none (Data.dict #[en P (s 3) 165 (.str (s 141) 888),en P (s 5) 166 .none,en P (s 6) 167 .none,en P (s 7) 168 k5,en P (s 8) 169 .none,en P (s 9) 170 (.ref 6),en P (s 10) 171 (.ref 4),en P (s 11) 173 (.str (s 0) 172),en P (s 12) 174 .none,en P (s 13) 193 (.ref 21),en P (s 14) 201 (.ref 26),en P (s 15) 207 (.ref 31),en P (s 16) 213 (.ref 36),en P (s 17) 228 (.ref 43),en P (s 18) 236 (.ref 50),en P (s 19) 244 (.ref 57),en P (s 20) 253 (.ref 64),en P (s 21) 262 (.ref 71),en P (s 22) 284 (.ref 81),en P (s 40) 331 (.ref 123),en P (s 51) 378 (.ref 163),en P (s 57) 431 (.ref 203),en P (s 64) 480 (.ref 243),en P (s 72) 533 (.ref 283),en P (s 73) 553 (.ref 295),en P (s 80) 569 (.ref 308),en P (s 81) 585 (.ref 320),en P (s 83) 601 (.ref 332),en P (s 84) 610 (.ref 341),en P (s 85) 615 (.ref 342),en P (s 86) 621 (.ref 343),en P (s 87) 630 (.ref 344),en P (s 88) 635 (.ref 345),en P (s 89) 637 (.int 60 636),en P (s 90) 639 (.int 8 638),en P (s 91) 646 (.ref 352),en P (s 92) 654 (.ref 359),en P (s 93) 661 (.ref 366),en P (s 94) 671 (.ref 373),en P (s 95) 680 (.ref 380),en P (s 96) 686 (.ref 385),en P (s 117) 756 (.ref 423),en P (s 118) 760 (.int 12 759),en P (s 119) 762 (.int 99 761),en P (s 120) 771 (.ref 434),en P (s 121) 779 (.ref 441),en P (s 122) 789 (.ref 448),en P (s 123) 801 (.ref 455),en P (s 142) 887 (.ref 521),en P (s 143) 897 (.ref 532),en P (s 144) 910 (.ref 539),en P (s 145) 918 (.ref 546),en P (s 146) 924 (.ref 551)] 53) #[]
noncomputable def zxf (P:Params):=vO #[(.int 1 0),(.int 0 0),(.ref 20),(.int 5 0),(.int 0 0),(.ref 25),(.int 7 0),(.int 0 0),(.ref 30),(.int 16 0),(.int 0 0),(.ref 35),(.int 23 0),(.int 0 0),(.ref 42),(.int 34 0),(.int 0 0),(.ref 49),(.int 36 0),(.int 0 0),(.ref 56),(.int 38 0),(.int 0 0),(.ref 63),(.int 40 0),(.int 0 0),(.ref 70),(.int 43 0),(.int 0 0),(.ref 77),(.int 45 0),(.int 0 0),(.ref 91),(.int 58 0),(.int 0 0),(.ref 131),(.int 71 0),(.int 0 0),(.ref 171),(.int 94 0),(.int 0 0),(.ref 211),(.int 108 0),(.int 0 0),(.ref 251),(.int 127 0),(.int 0 0),(.ref 291),(.int 129 0),(.int 0 0),(.ref 304),(.int 131 0),(.int 0 0),(.ref 316),(.int 133 0),(.int 0 0),(.ref 328),(.int 136 0),(.int 0 0),(.ref 340),(.int 145 0),(.int 0 0),(.ref 351),(.int 147 0),(.int 0 0),(.ref 358),(.int 149 0),(.int 0 0),(.ref 365),(.int 151 0),(.int 0 0),(.ref 372),(.int 156 0),(.int 0 0),(.ref 379),(.int 170 0),(.int 0 0),(.ref 384),(.int 172 0),(.int 0 0),(.ref 391),(.int 207 0),(.int 0 0),(.ref 433),(.int 216 0),(.int 0 0),(.ref 440),(.int 222 0),(.int 0 0),(.ref 447),(.int 231 0),(.int 0 0),(.ref 454),(.int 239 0),(.int 0 0),(.ref 461),(.int 273 0),(.int 0 0),(.ref 531),(.int 277 0),(.int 0 0),(.ref 538),(.int 291 0),(.int 0 0),(.ref 545),(.int 295 0),(.int 0 0),(.ref 550)]
def zv2 (P:Params):=tO #[]
noncomputable def zv1 (P:Params):=Obj.mk k6 .none (Data.fields #[k7,k8]) #[]
noncomputable def zv0:=Obj.mk k4 .none (Data.dict #[en P (s 34) 809 (.str (s 116) 757),en P (s 35) 811 (.str (s 142) 810),en P (s 36) 813 (.int 239 812),en P (s 41) 822 (.ref 469),en P (s 136) 829 (.ref 476),en P (s 99) 836 (.ref 483),en P (s 147) 844 (.ref 490),en P (s 148) 853 (.ref 497),en P (s 149) 861 (.ref 504),en P (s 150) 868 (.ref 511),en P (s 151) 876 (.ref 518),en P (s 37) 880 (.ref 519)] 12) #[]
def zvZ (P:Params):=tO #[]
noncomputable def zvY (P:Params):=vO #[(.int 241 0),(.int 4 0),(.ref 468),(.int 250 0),(.int 4 0),(.ref 475),(.int 253 0),(.int 4 0),(.ref 482),(.int 256 0),(.int 4 0),(.ref 489),(.int 259 0),(.int 4 0),(.ref 496),(.int 262 0),(.int 4 0),(.ref 503),(.int 267 0),(.int 4 0),(.ref 510),(.int 270 0),(.int 4 0),(.ref 517)]
noncomputable def zvX (P:Params):=Obj.mk k1 .none (Data.fields #[(.str (s 142) 804),(.str (s 142) 805),(.str (s 0) 806),(.int 239 0),(.int 0 0),(.int 0 0),(.int 0 0),(.int 0 0),(.ref 459),(.bool false),(.int 181 0),(.ref 460),.none,.none,.none,.none,(.int 807 0),(.int 239 0),(.str (s 0) 808)]) #[]
noncomputable def zvW (P:Params):=Obj.mk k3 .none Data.plain #[(some (.ref 461)),(some (.ref 3)),(some (.ref 458)),.none,(some (.str (s 116) 757)),.none,(some (.ref 0))]
def zks (P:Params):=tO #[]
def zvV (P:Params):=vO #[]
noncomputable def zkr (P:Params):=tO #[(.str (s 45) 817),(.str (s 136) 818),(.str (s 99) 819)]
def zkq (P:Params):=tO #[]
def zvU (P:Params):=gO (s 41) (s 152) (L2.inClass (S 45) 0)
noncomputable def zkp (P:Params):=cO (s 41) (s 152) 814 815 816 241 3 3 463 464 465 466 467 820 821
noncomputable def zko (P:Params):=uO (s 41) (s 152) (L2.inClass (S 45) 0) (s 116) 757 468
def zkn (P:Params):=tO #[]
def zvT (P:Params):=vO #[]
def zkm (P:Params):=tO #[(.str (s 45) 826)]
def zkl (P:Params):=tO #[]
def zvS (P:Params):=gO (s 136) (s 153) (L2.inClass (S 45) 1)
noncomputable def zkk (P:Params):=cO (s 136) (s 153) 823 824 825 250 1 3 470 471 472 473 474 827 828
noncomputable def zkj (P:Params):=uO (s 136) (s 153) (L2.inClass (S 45) 1) (s 116) 757 475
def zki (P:Params):=tO #[]
def zvR (P:Params):=vO #[]
def zkh (P:Params):=tO #[(.str (s 45) 833)]
def zkg (P:Params):=tO #[]
def zvQ (P:Params):=gO (s 99) (s 154) (L2.inClass (S 45) 2)
noncomputable def zkf (P:Params):=cO (s 99) (s 154) 830 831 832 253 1 3 477 478 479 480 481 834 835
noncomputable def zke (P:Params):=uO (s 99) (s 154) (L2.inClass (S 45) 2) (s 116) 757 482
def zkd (P:Params):=tO #[]
def zvP (P:Params):=vO #[]
noncomputable def zkc (P:Params):=tO #[(.str (s 45) 840),(.str (s 132) 841)]
def zkb (P:Params):=tO #[]
def zvO (P:Params):=gO (s 147) (s 155) (L2.inClass (S 45) 3)
noncomputable def zka (P:Params):=cO (s 147) (s 155) 837 838 839 256 2 3 484 485 486 487 488 842 843
noncomputable def zj9 (P:Params):=uO (s 147) (s 155) (L2.inClass (S 45) 3) (s 116) 757 489
def zj8 (P:Params):=tO #[]
def zvN (P:Params):=vO #[]
noncomputable def zj7 (P:Params):=tO #[(.str (s 45) 848),(.str (s 58) 849),(.str (s 59) 850)]
def zj6 (P:Params):=tO #[]
def zvM (P:Params):=gO (s 148) (s 156) (L2.inClass (S 45) 4)
noncomputable def zj5 (P:Params):=cO (s 148) (s 156) 845 846 847 259 3 3 491 492 493 494 495 851 852
noncomputable def zj4 (P:Params):=uO (s 148) (s 156) (L2.inClass (S 45) 4) (s 116) 757 496
def zj3 (P:Params):=tO #[]
def zvL (P:Params):=vO #[]
noncomputable def zj2 (P:Params):=tO #[(.str (s 45) 857),(.str (s 132) 858)]
def zj1 (P:Params):=tO #[]
def zvK (P:Params):=gO (s 149) (s 157) (L2.inClass (S 45) 5)
noncomputable def zj0 (P:Params):=cO (s 149) (s 157) 854 855 856 262 2 3 498 499 500 501 502 859 860
noncomputable def zjZ (P:Params):=uO (s 149) (s 157) (L2.inClass (S 45) 5) (s 116) 757 503
def zjY (P:Params):=tO #[]
def zvJ (P:Params):=vO #[]
def zjX (P:Params):=tO #[(.str (s 45) 865)]
def zjW (P:Params):=tO #[]
def zvI (P:Params):=gO (s 150) (s 158) (L2.inClass (S 45) 6)
noncomputable def zjV (P:Params):=cO (s 150) (s 158) 862 863 864 267 1 3 505 506 507 508 509 866 867
noncomputable def zjU (P:Params):=uO (s 150) (s 158) (L2.inClass (S 45) 6) (s 116) 757 510
def zjT (P:Params):=tO #[]
def zvH (P:Params):=vO #[]
noncomputable def zjS (P:Params):=tO #[(.str (s 45) 872),(.str (s 132) 873)]
def zjR (P:Params):=tO #[]
def zvG (P:Params):=gO (s 151) (s 159) (L2.inClass (S 45) 7)
noncomputable def zjQ (P:Params):=cO (s 151) (s 159) 869 870 871 270 2 3 512 513 514 515 516 874 875
noncomputable def zjP (P:Params):=uO (s 151) (s 159) (L2.inClass (S 45) 7) (s 116) 757 517
noncomputable def zjO (P:Params):=tO #[(.str (s 140) 877),(.str (s 160) 878),(.str (s 161) 879)]
noncomputable def zjN:=Obj.mk k4 .none (Data.dict #[en P (s 34) 809 (.str (s 116) 757),en P (s 36) 813 (.int 239 812),en P (s 41) 822 (.ref 469),en P (s 136) 829 (.ref 476),en P (s 99) 836 (.ref 483),en P (s 147) 844 (.ref 490),en P (s 148) 853 (.ref 497),en P (s 149) 861 (.ref 504),en P (s 150) 868 (.ref 511),en P (s 151) 876 (.ref 518),en P (s 37) 880 (.ref 519),en P (s 38) 882 (.ref 522),en P (s 39) 884 (.ref 523),en P (s 5) 885 .none] 4) #[]
noncomputable def zjM (P:Params):=Obj.mk k8 .none (Data.cls (ClassData.mk (s 142) [k9] [(.ref 521),k9] 520 (s 142) true [] [] false .none false)) #[.none,.none,(some (.str (s 142) 802)),(some (.str (s 142) 810)),(some k10),(some (.bool true))]
noncomputable def zjL (P:Params):=Obj.mk k11 .none (Data.fields #[(.str (s 38) 881),(.ref 521),k12,k13]) #[]
noncomputable def zjK (P:Params):=Obj.mk k11 .none (Data.fields #[(.str (s 39) 883),(.ref 521),k14,.none]) #[]
noncomputable def zvF (P:Params):=Obj.mk k15 .none (Data.fields #[(.ref 521),(.ref 521),(.ref 521)]) #[]
noncomputable def zvE (P:Params):=Obj.mk k6 .none (Data.fields #[k16,(.ref 521)]) #[]
def zjJ (P:Params):=tO #[]
def zvD (P:Params):=vO #[]
noncomputable def zjI (P:Params):=tO #[(.str (s 162) 893),(.str (s 163) 894)]
def zjH (P:Params):=tO #[]
def zvC (P:Params):=gO (s 143) (s 143) (S 47)
noncomputable def zjG (P:Params):=cO (s 143) (s 143) 890 891 892 273 2 3 526 527 528 529 530 895 896
def zjF (P:Params):=uO (s 143) (s 143) (S 47) (s 141) 888 531
def zjE (P:Params):=tO #[]
def zvB (P:Params):=vO #[]
noncomputable def zjD (P:Params):=tO #[(.str (s 164) 901),(.str (s 165) 902),(.str (s 166) 903),(.str (s 167) 904),(.str (s 168) 905),(.str (s 163) 906),(.str (s 169) 907)]
def zjC (P:Params):=tO #[]
def zvA (P:Params):=gO (s 144) (s 144) (S 48)
noncomputable def zjB (P:Params):=cO (s 144) (s 144) 898 899 900 277 2 3 533 534 535 536 537 908 909
def zjA (P:Params):=uO (s 144) (s 144) (S 48) (s 141) 888 538
def zjz (P:Params):=tO #[]
def zvz (P:Params):=vO #[]
noncomputable def zjy (P:Params):=tO #[(.str (s 170) 914),(.str (s 171) 915)]
def zjx (P:Params):=tO #[]
def zvy (P:Params):=gO (s 145) (s 145) (S 49)
noncomputable def zjw (P:Params):=cO (s 145) (s 145) 911 912 913 291 2 3 540 541 542 543 544 916 917
def zjv (P:Params):=uO (s 145) (s 145) (S 49) (s 141) 888 545
def zju (P:Params):=tO #[]
def zvx (P:Params):=vO #[]
def zvw (P:Params):=gO (s 146) (s 146) (S 50)
noncomputable def zjt (P:Params):=Obj.mk k1 .none (Data.fields #[(.str (s 146) 919),(.str (s 146) 920),(.str (s 0) 921),(.int 295 0),(.int 2 0),(.int 0 0),(.int 0 0),(.int 3 0),(.ref 547),(.bool true),(.int 181 0),(.ref 548),.none,.none,.none,(.ref 549),(.int 922 0),(.int 295 0),(.str (s 0) 923)]) #[]
def zjs (P:Params):=uO (s 146) (s 146) (S 50) (s 141) 888 550
noncomputable def zco:=N (zic P) (N (zht P) (N (zjU P) .nil .nil) .nil) (zox P)
noncomputable def zcn:=N (UR P) (N (znP P) (N (zjx P) .nil .nil) .nil) (zd0 P)
def zcm:=N (zkh P) .nil .nil
noncomputable def zcl:=N (U2 P) (N (znU P) (N (zvD P) .nil .nil) .nil) (zdZ P)
def zck:=N (zks P) .nil .nil
def zcj:=N (zvM P) .nil .nil
noncomputable def zci:=N (U8 P) (N (zhn P) (N (zjO P) .nil .nil) .nil) (zdW P)
noncomputable def zch:=N (UL P) (N (zgV P) (N (zjs P) .nil .nil) .nil) (zdT P)
def zcg:=N (zkb P) .nil .nil
noncomputable def zcf:=N (zh1 P) (N (zhc P) (N (zjD P) .nil .nil) .nil) (zdS P)
def zce:=N (zvT P) .nil .nil
def zcd:=N (zls P) (zfM P) (N (zj0 P) .nil .nil)
noncomputable def zcc:=N (zh8 P) (N (zhq P) (N (zjR P) .nil .nil) .nil) (zdP P)
noncomputable def zcb:=N (UN P) (N (znL P) (N (zju P) .nil .nil) .nil) (zdM P)
def zca:=N (zke P) .nil .nil
noncomputable def zb9:=N (UZ P) (N (znT P) (N (zjG P) .nil .nil) .nil) (zdL P)
def zb8:=N (zvU P) .nil .nil
def zb7:=N (zvL P) .nil .nil
noncomputable def zb6:=N (U5 P) (N (zhk P) (N (zjK P) .nil .nil) .nil) (zdI P)
def zb5:=N (zvZ P) .nil .nil
def zb4:=N (zj8 P) .nil .nil
noncomputable def zb3:=N (zh0 P) (N (zg8 P) (N (zjA P) .nil .nil) .nil) (zdF P)
def zb2:=N (zkk P) .nil .nil
def zb1:=N (zlo P) (zfx P) (N (zjX P) .nil .nil)
noncomputable def zlY:=N (o0 P) (N (o10 P) (N (o26 P) (N (o58 P) (zcc P) (zdN P)) (N (o93 P) (zcb P) (N (Ub P) (zfJ P) (zca P)))) (N (o42 P) (N (o74 P) (zb9 P) (N (zhD P) (zfH P) (zb8 P))) (N (Wa P) (zdJ P) (N (VZ P) (zfF P) (zb7 P))))) (N (o18 P) (N (o34 P) (N (o66 P) (zb6 P) (N (Uo P) (zfD P) (zb5 P))) (N (YU P) (zdG P) (N (zhv P) (zfB P) (zb4 P)))) (N (o50 P) (N (o85 P) (zb3 P) (N (Uh P) (zfz P) (zb2 P))) (N (YH P) (zdD P) (zb1 P))))
noncomputable def zb0:=N (zia P) (N (znY P) (N (zvH P) .nil .nil) .nil) (zfv P)
noncomputable def zbZ:=N (UP P) (N (znN P) (N (zjw P) .nil .nil) .nil) (zdA P)
def zbY:=N (zvQ P) .nil .nil
noncomputable def zbX:=N (U1 P) (N (zhg P) (N (zjH P) .nil .nil) .nil) (zdz P)
def zbW:=N (zkr P) .nil .nil
def zbV:=N (zj4 P) .nil .nil
noncomputable def zbU:=N (zh5 P) (N (zhm P) (N (zjM P) .nil .nil) .nil) (zdw P)
def zbT:=N (zv1 P) .nil .nil
def zbS:=N (zka P) .nil .nil
noncomputable def zbR:=N (UV P) (N (zha P) (N (zvA P) .nil .nil) .nil) (zdt P)
def zbQ:=N (zkl P) .nil .nil
def zbP:=N (zlq P) (zfh P) (N (zjY P) .nil .nil)
noncomputable def zbO:=N (U9 P) (N (znX P) (N (zjQ P) .nil .nil) .nil) (zdq P)
noncomputable def zbN:=N (zhX P) (N (zg6 P) (N (zvw P) .nil .nil) .nil) (zdn P)
def zbM:=N (zvP P) .nil .nil
noncomputable def zbL:=N (UY P) (N (zhd P) (N (zjE P) .nil .nil) .nil) (zdm P)
def zbK:=N (zko P) .nil .nil
def zbJ:=N (zlt P) (zfa P) (N (zj1 P) .nil .nil)
noncomputable def zbI:=N (zh4 P) (N (zhj P) (N (zvE P) .nil .nil) .nil) (zdj P)
def zbH:=N (zvX P) .nil .nil
def zbG:=N (zj7 P) .nil .nil
noncomputable def zbF:=N (US P) (N (znQ P) (N (zvz P) .nil .nil) .nil) (zdg P)
def zbE:=N (zki P) .nil .nil
def zbD:=N (zar P) (ze2 P) (N (zvI P) .nil .nil)
noncomputable def zlX:=N (o2 P) (N (o12 P) (N (o28 P) (N (o60 P) (zbO P) (zdo P)) (N (o95 P) (zbN P) (N (Ua P) (zfe P) (zbM P)))) (N (o44 P) (N (o76 P) (zbL P) (N (Ul P) (zfc P) (zbK P))) (N (YM P) (zdk P) (zbJ P)))) (N (o20 P) (N (o36 P) (N (o68 P) (zbI P) (N (zhI P) (ze8 P) (zbH P))) (N (YT P) (zdh P) (N (V4 P) (ze6 P) (zbG P)))) (N (o52 P) (N (o87 P) (zbF P) (N (zhz P) (ze4 P) (zbE P))) (N (X7 P) (zde P) (zbD P))))
noncomputable def zlW:=N (boot_o_5 P) (N (boot_o_9 P) (N (o8 P) (N (o24 P) (N (o56 P) (zb0 P) (zdB P)) (N (o91 P) (zbZ P) (N (Ud P) (zft P) (zbY P)))) (N (o40 P) (N (W8 P) (zbX P) (N (zhF P) (zfr P) (zbW P))) (N (YQ P) (zdx P) (N (V1 P) (zfp P) (zbV P))))) (N (o16 P) (N (o32 P) (N (o64 P) (zbU P) (N (Uq P) (zfn P) (zbT P))) (N (o99 P) (zdu P) (N (V7 P) (zfl P) (zbS P)))) (N (o48 P) (N (o83 P) (zbR P) (N (zhA P) (zfj P) (zbQ P))) (N (YJ P) (zdr P) (zbP P))))) (zlX P)
noncomputable def zbC:=N (zib P) (N (zhs P) (N (zjT P) .nil .nil) .nil) (ze0 P)
noncomputable def zbB:=N (UQ P) (N (znO P) (N (zvy P) .nil .nil) .nil) (zdb P)
def zbA:=N (zkg P) .nil .nil
noncomputable def zbz:=N (zh3 P) (N (zhh P) (N (zjI P) .nil .nil) .nil) (zda P)
def zby:=N (zvV P) .nil .nil
def zbx:=N (zj5 P) .nil .nil
noncomputable def zbw:=N (U7 P) (N (znW P) (N (zjN P) .nil .nil) .nil) (zc7 P)
def zbv:=N (zv2 P) .nil .nil
def zbu:=N (zvO P) .nil .nil
noncomputable def zbt:=N (UW P) (N (zhb P) (N (zjC P) .nil .nil) .nil) (zc4 P)
def zbs:=N (zkm P) .nil .nil
def zbr:=N (zlr P) (zeM P) (N (zjZ P) .nil .nil)
noncomputable def zbq:=N (zh7 P) (N (zhp P) (N (zvG P) .nil .nil) .nil) (zc1 P)
noncomputable def zbp:=N (zhY P) (N (znK P) (N (zvx P) .nil .nil) .nil) (zcY P)
def zbo:=N (zkd P) .nil .nil
noncomputable def zbn:=N (zh2 P) (N (zhe P) (N (zjF P) .nil .nil) .nil) (zcX P)
def zbm:=N (zkp P) .nil .nil
def zbl:=N (zlu P) (zeF P) (N (zj2 P) .nil .nil)
noncomputable def zbk:=N (U4 P) (N (znV P) (N (zvF P) .nil .nil) .nil) (zcU P)
def zbj:=N (zvY P) .nil .nil
def zbi:=N (zvN P) .nil .nil
noncomputable def zbh:=N (UT P) (N (znR P) (N (zjz P) .nil .nil) .nil) (zcR P)
def zbg:=N (zkj P) .nil .nil
def zbf:=N (zln P) (zex P) (N (zjW P) .nil .nil)
noncomputable def zlV:=N (zxf P) (N (o11 P) (N (o27 P) (N (o59 P) (zbq P) (zcZ P)) (N (o94 P) (zbp P) (N (zhx P) (zeJ P) (zbo P)))) (N (o43 P) (N (o75 P) (zbn P) (N (zhC P) (zeH P) (zbm P))) (N (YN P) (zcV P) (zbl P)))) (N (o19 P) (N (o35 P) (N (o67 P) (zbk P) (N (zhJ P) (zeD P) (zbj P))) (N (Wd P) (zcS P) (N (V5 P) (zeB P) (zbi P)))) (N (o51 P) (N (o86 P) (zbh P) (N (Ug P) (zez P) (zbg P))) (N (X8 P) (zcP P) (zbf P))))
noncomputable def zbe:=N (zh9 P) (N (zhr P) (N (zjS P) .nil .nil) .nil) (zcO P)
noncomputable def zbd:=N (UO P) (N (znM P) (N (zjv P) .nil .nil) .nil) (zcL P)
def zbc:=N (zkf P) .nil .nil
noncomputable def zbb:=N (U0 P) (N (zhf P) (N (zvC P) .nil .nil) .nil) (zcK P)
def zba:=N (zkq P) .nil .nil
def za9:=N (zj3 P) .nil .nil
noncomputable def za8:=N (U6 P) (N (zhl P) (N (zjL P) .nil .nil) .nil) (zcH P)
def za7:=N (zv0 P) .nil .nil
def za6:=N (zj9 P) .nil .nil
noncomputable def za5:=N (UU P) (N (zg9 P) (N (zjB P) .nil .nil) .nil) (zcE P)
def za4:=N (zvS P) .nil .nil
def za3:=N (zlp P) (zej P) (N (zvJ P) .nil .nil)
noncomputable def za2:=N (zh6 P) (N (zho P) (N (zjP P) .nil .nil) .nil) (zcB P)
noncomputable def za1:=N (UM P) (N (zg5 P) (N (zjt P) .nil .nil) .nil) (zcy P)
def za0:=N (zkc P) .nil .nil
noncomputable def zaZ:=N (UX P) (N (znS P) (N (zvB P) .nil .nil) .nil) (zcx P)
def zaY:=N (zkn P) .nil .nil
def zaX:=N (zas P) (zec P) (N (zvK P) .nil .nil)
noncomputable def zaW:=N (U3 P) (N (zhi P) (N (zjJ P) .nil .nil) .nil) (zcu P)
def zaV:=N (zvW P) .nil .nil
def zaU:=N (zj6 P) .nil .nil
noncomputable def zaT:=N (zhZ P) (N (zg7 P) (N (zjy P) .nil .nil) .nil) (zcr P)
def zaS:=N (zvR P) .nil .nil
def zaR:=N (zlm P) (zd4 P) (N (zjV P) .nil .nil)
noncomputable def zlU:=N (o3 P) (N (o13 P) (N (o29 P) (N (o61 P) (za2 P) (zcz P)) (N (o96 P) (za1 P) (N (V9 P) (zeg P) (za0 P)))) (N (o45 P) (N (o80 P) (zaZ P) (N (zhB P) (zee P) (zaY P))) (N (X9 P) (zcv P) (zaX P)))) (N (o21 P) (N (o37 P) (N (o69 P) (zaW P) (N (Um P) (zea P) (zaV P))) (N (YS P) (zcs P) (N (zhu P) (zd8 P) (zaU P)))) (N (o53 P) (N (o88 P) (zaT P) (N (Uf P) (zd6 P) (zaS P))) (N (YG P) (zcp P) (zaR P))))
noncomputable def zlT:=N (boot_o_6 P) (N (boot_o_10 P) (N (o9 P) (N (o25 P) (N (o57 P) (zbe P) (zcM P)) (N (o92 P) (zbd P) (N (Uc P) (zev P) (zbc P)))) (N (o41 P) (N (o73 P) (zbb P) (N (zhE P) (zet P) (zba P))) (N (YO P) (zcI P) (N (V0 P) (zer P) (za9 P))))) (N (o17 P) (N (o33 P) (N (o65 P) (za8 P) (N (Up P) (zep P) (za7 P))) (N (YV P) (zcF P) (N (V6 P) (zen P) (za6 P)))) (N (o49 P) (N (o84 P) (za5 P) (N (Ui P) (zel P) (za4 P))) (N (YI P) (zcC P) (za3 P))))) (zlU P)
noncomputable def zlS:=N (boot_o_2 P) (N (boot_o_4 P) (N (boot_o_8 P) (N (o7 P) (N (o23 P) (N (o55 P) (zbC P) (zdc P)) (N (o90 P) (zbB P) (N (zhy P) (zeY P) (zbA P)))) (N (o39 P) (N (o71 P) (zbz P) (N (zhG P) (zeW P) (zby P))) (N (YR P) (zc8 P) (N (V2 P) (zeU P) (zbx P))))) (N (o15 P) (N (o31 P) (N (o63 P) (zbw P) (N (Ur P) (zeS P) (zbv P))) (N (o98 P) (zc5 P) (N (V8 P) (zeQ P) (zbu P)))) (N (o47 P) (N (o82 P) (zbt P) (N (Uj P) (zeO P) (zbs P))) (N (YK P) (zc2 P) (zbr P))))) (zlV P)) (zlT P)
noncomputable def zlR:=N (boot_o_0 P) (N (boot_o_1 P) (N (zxg P) (N (boot_o_7 P) (N (o6 P) (N (o22 P) (N (o54 P) (zco P) (zd1 P)) (N (o89 P) (zcn P) (N (Ue P) (zov P) (zcm P)))) (N (o38 P) (N (o70 P) (zcl P) (N (zhH P) (zot P) (zck P))) (N (Wc P) (zdX P) (N (V3 P) (zor P) (zcj P))))) (N (o14 P) (N (o30 P) (N (o62 P) (zci P) (zdU P)) (N (o97 P) (zch P) (N (zhw P) (zon P) (zcg P)))) (N (o46 P) (N (o81 P) (zcf P) (N (Uk P) (zfO P) (zce P))) (N (YL P) (zdQ P) (zcd P))))) (zlY P)) (zlW P)) (zlS P)
noncomputable def zu0 (w:World) (os:OsState):SharedT:=⟨(zlR w.params),552,(Life.mk [] [] [] 0 [] [] false #[] [] 0 false false false 0 [2000,10,10] false 0 true [] [] 0 false),⟨[]⟩,(Drawn.mk 0 0 0 0),925,os⟩
noncomputable def L9 (w:World) (os:OsState):Option (Flow×SharedT×Code×Pos):=segRunT treeTable PySem.Challenge.pw_beatless_k24_whole_pieces_joined w 11 an 1 578 (sb9 w os) (piecesOf zuA env cE (Pos.mk 231 0 238 15) B)
noncomputable def R9 (w:World) (os:OsState):Option (Flow×SharedT×Code×Pos):=some (.next,zu0 w os,cE,(Pos.mk 295 0 303 21))
theorem q9:tt (Hd.L9,Hd.R9)=true:=by k_qdec
theorem r9:∀ w,Fast.tw16134767483146388640 w=Hd.R9 w:=fun w=>by kernel_rfl
theorem e9 (w:World) (os:OsState):Hd.L9 w os=Hd.R9 w os:=(congrFun (congrFun Fast.te16134767483146388640 w) os).trans (congrFun (r9 w) os)
noncomputable def zfP:List Stmt:=[S 51,S 52,S 53,S 54,S 55,S 56,S 57,S 58,S 59,S 60,S 61,S 62]
noncomputable def zjr:=Obj.mk k4 .none (Data.dict #[en P (s 3) 165 (.str (s 141) 888),en P (s 5) 166 .none,en P (s 6) 167 .none,en P (s 7) 168 k5,en P (s 8) 169 .none,en P (s 9) 170 (.ref 6),en P (s 10) 171 (.ref 4),en P (s 11) 173 (.str (s 0) 172),en P (s 12) 174 .none,en P (s 13) 193 (.ref 21),en P (s 14) 201 (.ref 26),en P (s 15) 207 (.ref 31),en P (s 16) 213 (.ref 36),en P (s 17) 228 (.ref 43),en P (s 18) 236 (.ref 50),en P (s 19) 244 (.ref 57),en P (s 20) 253 (.ref 64),en P (s 21) 262 (.ref 71),en P (s 22) 284 (.ref 81),en P (s 40) 331 (.ref 123),en P (s 51) 378 (.ref 163),en P (s 57) 431 (.ref 203),en P (s 64) 480 (.ref 243),en P (s 72) 533 (.ref 283),en P (s 73) 553 (.ref 295),en P (s 80) 569 (.ref 308),en P (s 81) 585 (.ref 320),en P (s 83) 601 (.ref 332),en P (s 84) 610 (.ref 341),en P (s 85) 615 (.ref 342),en P (s 86) 621 (.ref 343),en P (s 87) 630 (.ref 344),en P (s 88) 635 (.ref 345),en P (s 89) 637 (.int 60 636),en P (s 90) 639 (.int 8 638),en P (s 91) 646 (.ref 352),en P (s 92) 654 (.ref 359),en P (s 93) 661 (.ref 366),en P (s 94) 671 (.ref 373),en P (s 95) 680 (.ref 380),en P (s 96) 686 (.ref 385),en P (s 117) 756 (.ref 423),en P (s 118) 760 (.int 12 759),en P (s 119) 762 (.int 99 761),en P (s 120) 771 (.ref 434),en P (s 121) 779 (.ref 441),en P (s 122) 789 (.ref 448),en P (s 123) 801 (.ref 455),en P (s 142) 887 (.ref 521),en P (s 143) 897 (.ref 532),en P (s 144) 910 (.ref 539),en P (s 145) 918 (.ref 546),en P (s 146) 924 (.ref 551),en P (s 172) 939 (.ref 558),en P (s 173) 945 (.ref 563),en P (s 174) 951 (.ref 568),en P (s 175) 962 (.ref 575),en P (s 176) 968 (.ref 582),en P (s 177) 975 (.ref 589),en P (s 178) 982 (.ref 596),en P (s 179) 988 (.ref 601),en P (s 180) 1003 (.ref 608),en P (s 181) 1011 (.ref 615),en P (s 182) 1023 (.ref 622),en P (s 183) 1029 (.ref 627)] 65) #[]
noncomputable def zvv (P:Params):=vO #[(.int 1 0),(.int 0 0),(.ref 20),(.int 5 0),(.int 0 0),(.ref 25),(.int 7 0),(.int 0 0),(.ref 30),(.int 16 0),(.int 0 0),(.ref 35),(.int 23 0),(.int 0 0),(.ref 42),(.int 34 0),(.int 0 0),(.ref 49),(.int 36 0),(.int 0 0),(.ref 56),(.int 38 0),(.int 0 0),(.ref 63),(.int 40 0),(.int 0 0),(.ref 70),(.int 43 0),(.int 0 0),(.ref 77),(.int 45 0),(.int 0 0),(.ref 91),(.int 58 0),(.int 0 0),(.ref 131),(.int 71 0),(.int 0 0),(.ref 171),(.int 94 0),(.int 0 0),(.ref 211),(.int 108 0),(.int 0 0),(.ref 251),(.int 127 0),(.int 0 0),(.ref 291),(.int 129 0),(.int 0 0),(.ref 304),(.int 131 0),(.int 0 0),(.ref 316),(.int 133 0),(.int 0 0),(.ref 328),(.int 136 0),(.int 0 0),(.ref 340),(.int 145 0),(.int 0 0),(.ref 351),(.int 147 0),(.int 0 0),(.ref 358),(.int 149 0),(.int 0 0),(.ref 365),(.int 151 0),(.int 0 0),(.ref 372),(.int 156 0),(.int 0 0),(.ref 379),(.int 170 0),(.int 0 0),(.ref 384),(.int 172 0),(.int 0 0),(.ref 391),(.int 207 0),(.int 0 0),(.ref 433),(.int 216 0),(.int 0 0),(.ref 440),(.int 222 0),(.int 0 0),(.ref 447),(.int 231 0),(.int 0 0),(.ref 454),(.int 239 0),(.int 0 0),(.ref 461),(.int 273 0),(.int 0 0),(.ref 531),(.int 277 0),(.int 0 0),(.ref 538),(.int 291 0),(.int 0 0),(.ref 545),(.int 295 0),(.int 0 0),(.ref 550),(.int 304 0),(.int 0 0),(.ref 557),(.int 315 0),(.int 0 0),(.ref 562),(.int 318 0),(.int 0 0),(.ref 567),(.int 330 0),(.int 0 0),(.ref 574),(.int 338 0),(.int 0 0),(.ref 581),(.int 340 0),(.int 0 0),(.ref 588),(.int 350 0),(.int 0 0),(.ref 595),(.int 352 0),(.int 0 0),(.ref 600),(.int 357 0),(.int 0 0),(.ref 607),(.int 366 0),(.int 0 0),(.ref 614),(.int 368 0),(.int 0 0),(.ref 621),(.int 372 0),(.int 0 0),(.ref 626)]
def zjq (P:Params):=tO #[]
def zvu (P:Params):=vO #[]
noncomputable def zjp (P:Params):=tO #[(.str (s 170) 928),(.str (s 184) 929),(.str (s 185) 930),(.str (s 166) 931),(.str (s 186) 932),(.str (s 163) 933),(.str (s 187) 934),(.str (s 188) 935),(.str (s 189) 936)]
def zjo (P:Params):=tO #[]
def zvt (P:Params):=gO (s 172) (s 172) (S 51)
noncomputable def zjn (P:Params):=cO (s 172) (s 172) 925 926 927 304 2 3 552 553 554 555 556 937 938
def zjm (P:Params):=uO (s 172) (s 172) (S 51) (s 141) 888 557
def zvs (P:Params):=tO #[]
def zvr (P:Params):=vO #[]
def zvq (P:Params):=gO (s 173) (s 173) (S 52)
noncomputable def zvp (P:Params):=Obj.mk k1 .none (Data.fields #[(.str (s 173) 940),(.str (s 173) 941),(.str (s 0) 942),(.int 315 0),(.int 2 0),(.int 0 0),(.int 0 0),(.int 3 0),(.ref 559),(.bool true),(.int 181 0),(.ref 560),.none,.none,.none,(.ref 561),(.int 943 0),(.int 315 0),(.str (s 0) 944)]) #[]
def zvo (P:Params):=uO (s 173) (s 173) (S 52) (s 141) 888 562
def zjl (P:Params):=tO #[]
def zvn (P:Params):=vO #[]
def zvm (P:Params):=gO (s 174) (s 174) (S 53)
noncomputable def zjk (P:Params):=Obj.mk k1 .none (Data.fields #[(.str (s 174) 946),(.str (s 174) 947),(.str (s 0) 948),(.int 318 0),(.int 3 0),(.int 0 0),(.int 0 0),(.int 3 0),(.ref 564),(.bool true),(.int 181 0),(.ref 565),.none,.none,.none,(.ref 566),(.int 949 0),(.int 318 0),(.str (s 0) 950)]) #[]
def zjj (P:Params):=uO (s 174) (s 174) (S 53) (s 141) 888 567
def zji (P:Params):=tO #[]
def zvl (P:Params):=vO #[]
noncomputable def zjh (P:Params):=tO #[(.str (s 164) 955),(.str (s 170) 956),(.str (s 190) 957),(.str (s 191) 958),(.str (s 192) 959)]
def zjg (P:Params):=tO #[]
def zvk (P:Params):=gO (s 175) (s 175) (S 54)
noncomputable def zjf (P:Params):=cO (s 175) (s 175) 952 953 954 330 1 3 569 570 571 572 573 960 961
def zje (P:Params):=uO (s 175) (s 175) (S 54) (s 141) 888 574
def zjd (P:Params):=tO #[]
def zvj (P:Params):=vO #[]
def zjc (P:Params):=tO #[]
def zjb (P:Params):=tO #[]
def zvi (P:Params):=gO (s 176) (s 176) (S 55)
noncomputable def zja (P:Params):=cO (s 176) (s 176) 963 964 965 338 0 3 576 577 578 579 580 966 967
def zi9 (P:Params):=uO (s 176) (s 176) (S 55) (s 141) 888 581
def zi8 (P:Params):=tO #[]
def zvh (P:Params):=vO #[]
def zi7 (P:Params):=tO #[(.str (s 193) 972)]
def zi6 (P:Params):=tO #[]
def zvg (P:Params):=gO (s 177) (s 177) (S 56)
noncomputable def zi5 (P:Params):=cO (s 177) (s 177) 969 970 971 340 1 3 583 584 585 586 587 973 974
def zi4 (P:Params):=uO (s 177) (s 177) (S 56) (s 141) 888 588
def zi3 (P:Params):=tO #[]
def zvf (P:Params):=vO #[]
def zi2 (P:Params):=tO #[(.str (s 194) 979)]
def zi1 (P:Params):=tO #[]
def zve (P:Params):=gO (s 178) (s 178) (S 57)
noncomputable def zi0 (P:Params):=cO (s 178) (s 178) 976 977 978 350 1 3 590 591 592 593 594 980 981
def ziZ (P:Params):=uO (s 178) (s 178) (S 57) (s 141) 888 595
def ziY (P:Params):=tO #[]
def zvd (P:Params):=vO #[]
def zvc (P:Params):=gO (s 179) (s 179) (S 58)
noncomputable def ziX (P:Params):=Obj.mk k1 .none (Data.fields #[(.str (s 179) 983),(.str (s 179) 984),(.str (s 0) 985),(.int 352 0),(.int 2 0),(.int 0 0),(.int 0 0),(.int 3 0),(.ref 597),(.bool true),(.int 181 0),(.ref 598),.none,.none,.none,(.ref 599),(.int 986 0),(.int 352 0),(.str (s 0) 987)]) #[]
def ziW (P:Params):=uO (s 179) (s 179) (S 58) (s 141) 888 600
def ziV (P:Params):=tO #[]
def zvb (P:Params):=vO #[]
noncomputable def ziU (P:Params):=tO #[(.str (s 162) 992),(.str (s 189) 993),(.str (s 195) 994),(.str (s 170) 995),(.str (s 184) 996),(.str (s 196) 997),(.str (s 164) 998),(.str (s 197) 999),(.str (s 198) 1000)]
def ziT (P:Params):=tO #[]
def zva (P:Params):=gO (s 180) (s 180) (S 59)
noncomputable def ziS (P:Params):=cO (s 180) (s 180) 989 990 991 357 3 3 602 603 604 605 606 1001 1002
def ziR (P:Params):=uO (s 180) (s 180) (S 59) (s 141) 888 607
def ziQ (P:Params):=tO #[]
def zu9 (P:Params):=vO #[]
noncomputable def ziP (P:Params):=tO #[(.str (s 196) 1007),(.str (s 194) 1008)]
def ziO (P:Params):=tO #[]
def zu8 (P:Params):=gO (s 181) (s 181) (S 60)
noncomputable def ziN (P:Params):=cO (s 181) (s 181) 1004 1005 1006 366 2 3 609 610 611 612 613 1009 1010
def ziM (P:Params):=uO (s 181) (s 181) (S 60) (s 141) 888 614
def ziL (P:Params):=tO #[]
def zu7 (P:Params):=vO #[]
noncomputable def ziK (P:Params):=tO #[(.str (s 196) 1015),(.str (s 189) 1016),(.str (s 165) 1017),(.str (s 199) 1018),(.str (s 200) 1019),(.str (s 201) 1020)]
def ziJ (P:Params):=tO #[]
def zu6 (P:Params):=gO (s 182) (s 182) (S 61)
noncomputable def ziI (P:Params):=cO (s 182) (s 182) 1012 1013 1014 368 3 3 616 617 618 619 620 1021 1022
def ziH (P:Params):=uO (s 182) (s 182) (S 61) (s 141) 888 621
def ziG (P:Params):=tO #[]
def zu5 (P:Params):=vO #[]
def zu4 (P:Params):=gO (s 183) (s 183) (S 62)
noncomputable def ziF (P:Params):=Obj.mk k1 .none (Data.fields #[(.str (s 183) 1024),(.str (s 183) 1025),(.str (s 0) 1026),(.int 372 0),(.int 1 0),(.int 0 0),(.int 0 0),(.int 3 0),(.ref 623),(.bool true),(.int 181 0),(.ref 624),.none,.none,.none,(.ref 625),(.int 1027 0),(.int 372 0),(.str (s 0) 1028)]) #[]
noncomputable def ziE (P:Params):=uO (s 183) (s 183) (S 62) (s 141) 888 626
noncomputable def zlQ:=N (o14 P) (N (o30 P) (N (o62 P) (zci P) (N (Us P) (N (zno P) (N (zi8 P) .nil .nil) .nil) (zdV P))) (N (o97 P) (zch P) (N (zhw P) (N (zgy P) (N (ziM P) .nil .nil) .nil) (zcg P)))) (N (o46 P) (N (o81 P) (zcf P) (N (Uk P) (N (zgK P) (N (zvc P) .nil .nil) .nil) (zce P))) (N (YL P) (N (UD P) (N (zgZ P) (N (zjk P) .nil .nil) .nil) (zdR P)) (zcd P)))
noncomputable def zlP:=N (o18 P) (N (o34 P) (N (o66 P) (zb6 P) (N (Uo P) (N (zgS P) (N (zvg P) .nil .nil) .nil) (zb5 P))) (N (YU P) (N (zhT P) (N (zg3 P) (N (zjo P) .nil .nil) .nil) (zdH P)) (N (zhv P) (N (zgv P) (N (ziJ P) .nil .nil) .nil) (zb4 P)))) (N (o50 P) (N (o85 P) (zb3 P) (N (Uh P) (N (znh P) (N (zvb P) .nil .nil) .nil) (zb2 P))) (N (YH P) (N (UA P) (N (znw P) (N (zjh P) .nil .nil) .nil) (zdE P)) (zb1 P)))
noncomputable def zlO:=N (o0 P) (N (o10 P) (N (o26 P) (N (o58 P) (zcc P) (N (zhL P) (N (zgU P) (N (zjb P) .nil .nil) .nil) (zdO P))) (N (o93 P) (zcb P) (N (Ub P) (N (zgB P) (N (ziP P) .nil .nil) .nil) (zca P)))) (N (o42 P) (N (o74 P) (zb9 P) (N (zhD P) (N (zni P) (N (zi0 P) .nil .nil) .nil) (zb8 P))) (N (Wa P) (N (UG P) (N (zg1 P) (N (zvo P) .nil .nil) .nil) (zdK P)) (N (VZ P) (N (zna P) (N (ziE P) .nil .nil) .nil) (zb7 P))))) (zlP P)
noncomputable def zlN:=N (zjr P) (N (boot_o_7 P) (N (o6 P) (N (o22 P) (N (o54 P) (zco P) (N (zhM P) (N (zgX P) (N (zje P) .nil .nil) .nil) (zd2 P))) (N (o89 P) (zcn P) (N (Ue P) (N (zgE P) (N (ziS P) .nil .nil) .nil) (zcm P)))) (N (o38 P) (N (o70 P) (zcl P) (N (zhH P) (N (zgQ P) (N (zvf P) .nil .nil) .nil) (zck P))) (N (Wc P) (N (UJ P) (N (znE P) (N (zvs P) .nil .nil) .nil) (zdY P)) (N (V3 P) (N (zgs P) (N (ziG P) .nil .nil) .nil) (zcj P))))) (zlQ P)) (zlO P)
noncomputable def zlM:=N (o16 P) (N (o32 P) (N (o64 P) (zbU P) (N (Uq P) (N (znm P) (N (zi7 P) .nil .nil) .nil) (zbT P))) (N (o99 P) (N (zhV P) (N (znJ P) (N (zvu P) .nil .nil) .nil) (zdv P)) (N (V7 P) (N (znd P) (N (zu7 P) .nil .nil) .nil) (zbS P)))) (N (o48 P) (N (o83 P) (zbR P) (N (zhA P) (N (zgI P) (N (ziW P) .nil .nil) .nil) (zbQ P))) (N (YJ P) (N (UC P) (N (zny P) (N (zji P) .nil .nil) .nil) (zds P)) (zbP P)))
noncomputable def zlL:=N (o20 P) (N (o36 P) (N (o68 P) (zbI P) (N (zhI P) (N (znl P) (N (zi4 P) .nil .nil) .nil) (zbH P))) (N (YT P) (N (UK P) (N (znG P) (N (zjn P) .nil .nil) .nil) (zdi P)) (N (V4 P) (N (zgu P) (N (ziI P) .nil .nil) .nil) (zbG P)))) (N (o52 P) (N (o87 P) (zbF P) (N (zhz P) (N (zgF P) (N (ziT P) .nil .nil) .nil) (zbE P))) (N (X7 P) (N (Uz P) (N (znu P) (N (zvk P) .nil .nil) .nil) (zdf P)) (zbD P)))
noncomputable def zlK:=N (o2 P) (N (o12 P) (N (o28 P) (N (o60 P) (zbO P) (N (Ut P) (N (znq P) (N (zja P) .nil .nil) .nil) (zdp P))) (N (o95 P) (zbN P) (N (Ua P) (N (zne P) (N (zu8 P) .nil .nil) .nil) (zbM P)))) (N (o44 P) (N (o76 P) (zbL P) (N (Ul P) (N (zgM P) (N (ziY P) .nil .nil) .nil) (zbK P))) (N (YM P) (N (zhP P) (N (znB P) (N (zvn P) .nil .nil) .nil) (zdl P)) (zbJ P)))) (zlL P)
noncomputable def zlJ:=N (boot_o_5 P) (N (boot_o_9 P) (N (o8 P) (N (o24 P) (N (o56 P) (zb0 P) (N (Uw P) (N (znt P) (N (zvj P) .nil .nil) .nil) (zdC P))) (N (o91 P) (zbZ P) (N (Ud P) (N (zgC P) (N (ziQ P) .nil .nil) .nil) (zbY P)))) (N (o40 P) (N (W8 P) (zbX P) (N (zhF P) (N (zgP P) (N (zi1 P) .nil .nil) .nil) (zbW P))) (N (YQ P) (N (zhQ P) (N (znC P) (N (zvq P) .nil .nil) .nil) (zdy P)) (N (V1 P) (N (zgr P) (N (zu4 P) .nil .nil) .nil) (zbV P))))) (zlM P)) (zlK P)
noncomputable def zlI:=N (o15 P) (N (o31 P) (N (o63 P) (zbw P) (N (Ur P) (N (znn P) (N (zvh P) .nil .nil) .nil) (zbv P))) (N (o98 P) (N (zhW P) (N (zg4 P) (N (zjq P) .nil .nil) .nil) (zc6 P)) (N (V8 P) (N (zgx P) (N (ziL P) .nil .nil) .nil) (zbu P)))) (N (o47 P) (N (o82 P) (zbt P) (N (Uj P) (N (zgJ P) (N (ziX P) .nil .nil) .nil) (zbs P))) (N (YK P) (N (zhO P) (N (znz P) (N (zjj P) .nil .nil) .nil) (zc3 P)) (zbr P)))
noncomputable def zlH:=N (o19 P) (N (o35 P) (N (o67 P) (zbk P) (N (zhJ P) (N (zgR P) (N (zi5 P) .nil .nil) .nil) (zbj P))) (N (Wd P) (N (zhS P) (N (znH P) (N (zvt P) .nil .nil) .nil) (zcT P)) (N (V5 P) (N (znc P) (N (zu6 P) .nil .nil) .nil) (zbi P)))) (N (o51 P) (N (o86 P) (zbh P) (N (Ug P) (N (zgG P) (N (ziU P) .nil .nil) .nil) (zbg P))) (N (X8 P) (N (zhN P) (N (znv P) (N (zjg P) .nil .nil) .nil) (zcQ P)) (zbf P)))
noncomputable def zlG:=N (zvv P) (N (o11 P) (N (o27 P) (N (o59 P) (zbq P) (N (Uu P) (N (znr P) (N (zvi P) .nil .nil) .nil) (zc0 P))) (N (o94 P) (zbp P) (N (zhx P) (N (zgA P) (N (ziO P) .nil .nil) .nil) (zbo P)))) (N (o43 P) (N (o75 P) (zbn P) (N (zhC P) (N (zgN P) (N (ziZ P) .nil .nil) .nil) (zbm P))) (N (YN P) (N (UF P) (N (zg0 P) (N (zjl P) .nil .nil) .nil) (zcW P)) (zbl P)))) (zlH P)
noncomputable def zlF:=N (boot_o_4 P) (N (boot_o_8 P) (N (o7 P) (N (o23 P) (N (o55 P) (zbC P) (N (Ux P) (N (zgW P) (N (zjd P) .nil .nil) .nil) (zdd P))) (N (o90 P) (zbB P) (N (zhy P) (N (zgD P) (N (ziR P) .nil .nil) .nil) (zbA P)))) (N (o39 P) (N (o71 P) (zbz P) (N (zhG P) (N (znj P) (N (zi2 P) .nil .nil) .nil) (zby P))) (N (YR P) (N (UI P) (N (znD P) (N (zvr P) .nil .nil) .nil) (zc9 P)) (N (V2 P) (N (znb P) (N (zu5 P) .nil .nil) .nil) (zbx P))))) (zlI P)) (zlG P)
noncomputable def zlE:=N (o17 P) (N (o33 P) (N (o65 P) (za8 P) (N (Up P) (N (zgT P) (N (zi6 P) .nil .nil) .nil) (za7 P))) (N (YV P) (N (zhU P) (N (znI P) (N (zjp P) .nil .nil) .nil) (zcG P)) (N (V6 P) (N (zgw P) (N (ziK P) .nil .nil) .nil) (za6 P)))) (N (o49 P) (N (o84 P) (za5 P) (N (Ui P) (N (zgH P) (N (ziV P) .nil .nil) .nil) (za4 P))) (N (YI P) (N (UB P) (N (znx P) (N (zvl P) .nil .nil) .nil) (zcD P)) (za3 P)))
noncomputable def zlD:=N (o21 P) (N (o37 P) (N (o69 P) (zaW P) (N (Um P) (N (znk P) (N (zi3 P) .nil .nil) .nil) (zaV P))) (N (YS P) (N (zhR P) (N (znF P) (N (zjm P) .nil .nil) .nil) (zct P)) (N (zhu P) (N (zgt P) (N (ziH P) .nil .nil) .nil) (zaU P)))) (N (o53 P) (N (o88 P) (zaT P) (N (Uf P) (N (zng P) (N (zva P) .nil .nil) .nil) (zaS P))) (N (YG P) (N (Uy P) (N (zgY P) (N (zjf P) .nil .nil) .nil) (zcq P)) (zaR P)))
noncomputable def zlC:=N (o3 P) (N (o13 P) (N (o29 P) (N (o61 P) (za2 P) (N (zhK P) (N (znp P) (N (zi9 P) .nil .nil) .nil) (zcA P))) (N (o96 P) (za1 P) (N (V9 P) (N (zgz P) (N (ziN P) .nil .nil) .nil) (za0 P)))) (N (o45 P) (N (o80 P) (zaZ P) (N (zhB P) (N (zgL P) (N (zvd P) .nil .nil) .nil) (zaY P))) (N (X9 P) (N (UE P) (N (znA P) (N (zvm P) .nil .nil) .nil) (zcw P)) (zaX P)))) (zlD P)
noncomputable def zlB:=N (boot_o_6 P) (N (boot_o_10 P) (N (o9 P) (N (o25 P) (N (o57 P) (zbe P) (N (Uv P) (N (zns P) (N (zjc P) .nil .nil) .nil) (zcN P))) (N (o92 P) (zbd P) (N (Uc P) (N (znf P) (N (zu9 P) .nil .nil) .nil) (zbc P)))) (N (o41 P) (N (o73 P) (zbb P) (N (zhE P) (N (zgO P) (N (zve P) .nil .nil) .nil) (zba P))) (N (YO P) (N (UH P) (N (zg2 P) (N (zvp P) .nil .nil) .nil) (zcJ P)) (N (V0 P) (N (zgq P) (N (ziF P) .nil .nil) .nil) (za9 P))))) (zlE P)) (zlC P)
noncomputable def zlA:=N (boot_o_0 P) (N (boot_o_1 P) (zlN P) (zlJ P)) (N (boot_o_2 P) (zlF P) (zlB P))
noncomputable def zuZ (w:World) (os:OsState):SharedT:=⟨(zlA w.params),628,(Life.mk [] [] [] 0 [] [] false #[] [] 0 false false false 0 [2000,10,10] false 0 true [] [] 0 false),⟨[]⟩,(Drawn.mk 0 0 0 0),1030,os⟩
noncomputable def L10 (w:World) (os:OsState):Option (Flow×SharedT×Code×Pos):=segRunT treeTable PySem.Challenge.pw_beatless_k24_whole_pieces_joined w 11 an 1 362 (zu0 w os) (piecesOf zfP env cE (Pos.mk 295 0 303 21) B)
noncomputable def R10 (w:World) (os:OsState):Option (Flow×SharedT×Code×Pos):=some (.next,zuZ w os,cE,(Pos.mk 372 0 394 108))
theorem q10:tt (Hd.L10,Hd.R10)=true:=by k_qdec
theorem r10:∀ w,Fast.tw8817224096938630680 w=Hd.R10 w:=fun w=>by kernel_rfl
theorem e10 (w:World) (os:OsState):Hd.L10 w os=Hd.R10 w os:=(congrFun (congrFun Fast.te8817224096938630680 w) os).trans (congrFun (r10 w) os)
def h52:List Obj:=zu5 P::zu4 P::ziF P::ziE P::[]
noncomputable def h51:List Obj:=ziO P::zu8 P::ziN P::ziM P::ziL P::zu7 P::ziK P::ziJ P::zu6 P::ziI P::ziH P::ziG P::h52 P
noncomputable def h50:List Obj:=ziX P::ziW P::ziV P::zvb P::ziU P::ziT P::zva P::ziS P::ziR P::ziQ P::zu9 P::ziP P::h51 P
noncomputable def h49:List Obj:=zi5 P::zi4 P::zi3 P::zvf P::zi2 P::zi1 P::zve P::zi0 P::ziZ P::ziY P::zvd P::zvc P::h50 P
noncomputable def h48:List Obj:=zjd P::zvj P::zjc P::zjb P::zvi P::zja P::zi9 P::zi8 P::zvh P::zi7 P::zi6 P::zvg P::h49 P
noncomputable def h47:List Obj:=zjl P::zvn P::zvm P::zjk P::zjj P::zji P::zvl P::zjh P::zjg P::zvk P::zjf P::zje P::h48 P
noncomputable def h46:List Obj:=zjq P::zvu P::zjp P::zjo P::zvt P::zjn P::zjm P::zvs P::zvr P::zvq P::zvp P::zvo P::h47 P
noncomputable def h45:List Obj:=zjz P::zvz P::zjy P::zjx P::zvy P::zjw P::zjv P::zju P::zvx P::zvw P::zjt P::zjs P::h46 P
noncomputable def h44:List Obj:=zjI P::zjH P::zvC P::zjG P::zjF P::zjE P::zvB P::zjD P::zjC P::zvA P::zjB P::zjA P::h45 P
noncomputable def h43:List Obj:=zvG P::zjQ P::zjP P::zjO P::zjN P::zjM P::zjL P::zjK P::zvF P::zvE P::zjJ P::zvD P::h44 P
noncomputable def h42:List Obj:=zjZ P::zjY P::zvJ P::zjX P::zjW P::zvI P::zjV P::zjU P::zjT P::zvH P::zjS P::zjR P::h43 P
noncomputable def h41:List Obj:=zvN P::zj7 P::zj6 P::zvM P::zj5 P::zj4 P::zj3 P::zvL P::zj2 P::zj1 P::zvK P::zj0 P::h42 P
noncomputable def h40:List Obj:=zkg P::zvQ P::zkf P::zke P::zkd P::zvP P::zkc P::zkb P::zvO P::zka P::zj9 P::zj8 P::h41 P
noncomputable def h39:List Obj:=zkp P::zko P::zkn P::zvT P::zkm P::zkl P::zvS P::zkk P::zkj P::zki P::zvR P::zkh P::h40 P
noncomputable def h38:List Obj:=zv2 P::zv1 P::zv0 P::zvZ P::zvY P::zvX P::zvW P::zks P::zvV P::zkr P::zkq P::zvU P::h39 P
noncomputable def h37:List Obj:=zkB P::zkA P::zv5 P::zkz P::zky P::zkx P::zv4 P::zkw P::zkv P::zv3 P::zku P::zkt P::h38 P
noncomputable def h36:List Obj:=zv9 P::zkJ P::zkI P::zkH P::zv8 P::zkG P::zkF P::zv7 P::zkE P::zkD P::zkC P::zv6 P::h37 P
noncomputable def h35:List Obj:=zkS P::zkR P::zkQ P::zkP P::zkO P::zkN P::zwc P::zwb P::zkM P::zwa P::zkL P::zkK P::h36 P
noncomputable def h34:List Obj:=zwg P::zk0 P::zkZ P::zwf P::zkY P::zkX P::zkW P::zwe P::zkV P::zkU P::zwd P::zkT P::h35 P
noncomputable def h33:List Obj:=zk9 P::zwj P::zk8 P::zk7 P::zk6 P::zwi P::zk5 P::zk4 P::zwh P::zk3 P::zk2 P::zk1 P::h34 P
noncomputable def h32:List Obj:=zld P::zlc P::zwr P::zwq P::zwp P::zwo P::zwn P::zwm P::zwl P::zlb P::zwk P::zla P::h33 P
noncomputable def h31:List Obj:=zll P::zlk P::zlj P::zwv P::zli P::zlh P::zwu P::zlg P::zlf P::zle P::zwt P::zws P::h32 P
noncomputable def h30:List Obj:=zgx P::znd P::zgw P::zgv P::znc P::zgu P::zgt P::zgs P::znb P::zgr P::zgq P::zna P::h31 P
noncomputable def h29:List Obj:=zgG P::zgF P::zng P::zgE P::zgD P::zgC P::znf P::zgB P::zgA P::zne P::zgz P::zgy P::h30 P
noncomputable def h28:List Obj:=znj P::zgP P::zgO P::zni P::zgN P::zgM P::zgL P::zgK P::zgJ P::zgI P::zgH P::znh P::h29 P
noncomputable def h27:List Obj:=znr P::znq P::znp P::zno P::znn P::znm P::zgT P::zgS P::zgR P::znl P::znk P::zgQ P::h28 P
noncomputable def h26:List Obj:=znz P::zny P::znx P::znw P::znv P::znu P::zgY P::zgX P::zgW P::znt P::zns P::zgU P::h27 P
noncomputable def h25:List Obj:=znH P::znG P::znF P::znE P::znD P::znC P::zg2 P::zg1 P::zg0 P::znB P::znA P::zgZ P::h26 P
noncomputable def h24:List Obj:=znO P::znN P::znM P::znL P::znK P::zg6 P::zg5 P::zgV P::zg4 P::znJ P::znI P::zg3 P::h25 P
noncomputable def h23:List Obj:=zhe P::zhd P::znS P::zhc P::zhb P::zha P::zg9 P::zg8 P::znR P::znQ P::zg7 P::znP P::h24 P
noncomputable def h22:List Obj:=znW P::zhm P::zhl P::zhk P::znV P::zhj P::zhi P::znU P::zhh P::zhg P::zhf P::znT P::h23 P
noncomputable def h21:List Obj:=zln P::zar P::zlm P::zht P::zhs P::znY P::zhr P::zhq P::zhp P::znX P::zho P::zhn P::h22 P
noncomputable def h20:List Obj:=V2 P::V1 P::V0 P::VZ P::zlu P::zlt P::zas P::zls P::zlr P::zlq P::zlp P::zlo P::h21 P
noncomputable def h19:List Obj:=zhx P::Ua P::V9 P::zhw P::V8 P::V7 P::V6 P::zhv P::V5 P::V4 P::zhu P::V3 P::h20 P
noncomputable def h18:List Obj:=Uj P::zhA P::Ui P::Uh P::Ug P::zhz P::Uf P::Ue P::zhy P::Ud P::Uc P::Ub P::h19 P
noncomputable def h17:List Obj:=zhJ P::zhI P::Um P::zhH P::zhG P::zhF P::zhE P::zhD P::zhC P::Ul P::zhB P::Uk P::h18 P
noncomputable def h16:List Obj:=Ux P::Uw P::Uv P::zhL P::Uu P::Ut P::zhK P::Us P::Ur P::Uq P::Up P::Uo P::h17 P
noncomputable def h15:List Obj:=UF P::zhP P::UE P::UD P::zhO P::UC P::UB P::UA P::zhN P::Uz P::Uy P::zhM P::h16 P
noncomputable def h14:List Obj:=zhW P::zhV P::zhU P::zhT P::zhS P::UK P::zhR P::UJ P::UI P::zhQ P::UH P::UG P::h15 P
noncomputable def h13:List Obj:=UT P::US P::zhZ P::UR P::UQ P::UP P::UO P::UN P::zhY P::zhX P::UM P::UL P::h14 P
noncomputable def h12:List Obj:=zh3 P::U1 P::U0 P::UZ P::zh2 P::UY P::UX P::zh1 P::UW P::UV P::UU P::zh0 P::h13 P
noncomputable def h11:List Obj:=zh7 P::U9 P::zh6 P::U8 P::U7 P::zh5 P::U6 P::U5 P::U4 P::zh4 P::U3 P::U2 P::h12 P
noncomputable def h10:List Obj:=YK P::YJ P::YI P::YH P::X8 P::X7 P::YG P::zic P::zib P::zia P::zh9 P::zh8 P::h11 P
noncomputable def h9:List Obj:=Wd P::YT P::YS P::Wc P::YR P::YQ P::YO P::Wa P::YN P::YM P::X9 P::YL P::h10 P
noncomputable def h8:List Obj:=o90 P::o91 P::o92 P::o93 P::o94 P::o95 P::o96 P::o97 P::o98 P::o99 P::YV P::YU P::h9 P
noncomputable def h7:List Obj:=o75 P::o76 P::o80 P::o81 P::o82 P::o83 P::o84 P::o85 P::o86 P::o87 P::o88 P::o89 P::h8 P
noncomputable def h6:List Obj:=o63 P::o64 P::o65 P::o66 P::o67 P::o68 P::o69 P::o70 P::o71 P::W8 P::o73 P::o74 P::h7 P
noncomputable def h5:List Obj:=o51 P::o52 P::o53 P::o54 P::o55 P::o56 P::o57 P::o58 P::o59 P::o60 P::o61 P::o62 P::h6 P
noncomputable def h4:List Obj:=o39 P::o40 P::o41 P::o42 P::o43 P::o44 P::o45 P::o46 P::o47 P::o48 P::o49 P::o50 P::h5 P
noncomputable def h3:List Obj:=o27 P::o28 P::o29 P::o30 P::o31 P::o32 P::o33 P::o34 P::o35 P::o36 P::o37 P::o38 P::h4 P
noncomputable def h2:List Obj:=o15 P::o16 P::o17 P::o18 P::o19 P::o20 P::o21 P::o22 P::o23 P::o24 P::o25 P::o26 P::h3 P
noncomputable def h1:List Obj:=zvv P::o2 P::o3 P::o6 P::o7 P::o8 P::o9 P::o10 P::o11 P::o12 P::o13 P::o14 P::h2 P
noncomputable def h0:List Obj:=boot_o_0 P::boot_o_1 P::boot_o_2 P::zjr P::boot_o_4 P::boot_o_5 P::boot_o_6 P::boot_o_7 P::boot_o_8 P::boot_o_9 P::boot_o_10 P::o0 P::h1 P
noncomputable def H1:Heap:=⟨⟨h0 P⟩,(Life.mk [] [] [] 0 [] [] false #[] [] 0 false false false 0 [2000,10,10] false 0 true [] [] 0 false)⟩
noncomputable def sf (w:World) (os:OsState):Shared:=⟨H1 w.params,⟨[]⟩,(Drawn.mk 0 0 0 0),1030,os⟩
noncomputable def Lf (w:World) (os:OsState):Option Shared:=topRun treeTable PySem.Challenge.pw_beatless_k24_whole_pieces_joined w 11 an 2 (zuZ w os).abs ⟨doneF .next,cE,(Pos.mk 372 0 394 108),B⟩
def Rf (w:World) (os:OsState):Option Shared:=some (sf w os)
theorem qf:tt (Hd.Lf,Hd.Rf)=true:=by k_qdec
theorem rf:∀ w,Fast.tw2640074843757178226 w=Hd.Rf w:=fun w=>by kernel_rfl
theorem ef (w:World) (os:OsState):Hd.Lf w os=Hd.Rf w os:=(congrFun (congrFun Fast.te2640074843757178226 w) os).trans (congrFun (rf w) os)
theorem cut:bE=zuJ++(zuI++(zuH++(zuG++(zuF++(zuE++(zuD++(zuC++(zuB++(zuA++(zfP++([]))))))))))):=by kernel_rfl
theorem run (w:World) (os:OsState):topRun treeTable PySem.Challenge.pw_beatless_k24_whole_pieces_joined w 11 an (12+(1+(475+(340+(340+(346+(342+(541+(427+(515+(490+(578+(362+2))))))))))))) (s0 w os) (topStub PySem.Challenge.pw_beatless_k24_whole_pieces_joined)=some (sf w os):=by
 refine go_top (ea w os) (piece_block (q:=qE) (env:=env) (b:=bE) (segRun_of (eb w os)) ?_)
 rw[show restOf bE env cE (Pos.mk 0 0 0 0) [topFrame qE]=restOf _ env cE _ [topFrame qE] from congrArg (fun l=>restOf l env cE (Pos.mk 0 0 0 0) [topFrame qE]) cut]
 refine piece_app (segRun_of (e0 w os)) ?_
 refine piece_app (segRun_of (e1 w os)) ?_
 refine piece_app (segRun_of (e2 w os)) ?_
 refine piece_app (segRun_of (e3 w os)) ?_
 refine piece_app (segRun_of (e4 w os)) ?_
 refine piece_app (segRun_of (e5 w os)) ?_
 refine piece_app (segRun_of (e6 w os)) ?_
 refine piece_app (segRun_of (e7 w os)) ?_
 refine piece_app (segRun_of (e8 w os)) ?_
 refine piece_app (segRun_of (e9 w os)) ?_
 refine piece_app (segRun_of (e10 w os)) ?_
 exact ef w os
noncomputable def M:Nat:=12+(1+(475+(340+(340+(346+(342+(541+(427+(515+(490+(578+(362+2))))))))))))
abbrev rW:RowW:=(PySem.Challenge.rw_beatless_k24_whole_pieces_joined.row).toRowW
noncomputable def Q:Program:={ PySem.Challenge.pw_beatless_k24_whole_pieces_joined with main:={ PySem.Challenge.pw_beatless_k24_whole_pieces_joined.main with body:=[S 0,S 2,S 3,S 4,S 5,S 6,S 7,S 8,S 9,S 11,S 12,S 13,S 14,S 15,S 16,S 18,S 19,S 20,S 21,S 23,S 25,S 26,S 27,S 28,S 29,S 30,S 31,S 32,S 33,S 34,S 35,S 36,S 37,S 39,S 40,S 41,S 42,S 43,S 44,S 45,S 47,S 48,S 49,S 50,S 51,S 52,S 53,S 54,S 55,S 56,S 57,S 58,S 59,S 60,S 61,S 62] } }
noncomputable def Xt (s:Shared):Bool:=xlAt Q [] s&&recOk (RowW.records rW) s
noncomputable def K:Frag:=(nat_lit 2,boot_o_2 P)::(nat_lit 3,zjr P)::(nat_lit 15,o6 P)::(nat_lit 17,o8 P)::(nat_lit 18,o9 P)::(nat_lit 20,o11 P)::(nat_lit 21,o12 P)::(nat_lit 22,o13 P)::(nat_lit 25,o16 P)::(nat_lit 26,o17 P)::(nat_lit 27,o18 P)::(nat_lit 30,o21 P)::(nat_lit 31,o22 P)::(nat_lit 32,o23 P)::(nat_lit 35,o26 P)::(nat_lit 36,o27 P)::(nat_lit 37,o28 P)::(nat_lit 39,o30 P)::(nat_lit 40,o31 P)::(nat_lit 42,o33 P)::(nat_lit 43,o34 P)::(nat_lit 44,o35 P)::(nat_lit 46,o37 P)::(nat_lit 47,o38 P)::(nat_lit 49,o40 P)::(nat_lit 50,o41 P)::(nat_lit 51,o42 P)::(nat_lit 53,o44 P)::(nat_lit 54,o45 P)::(nat_lit 56,o47 P)::(nat_lit 57,o48 P)::(nat_lit 58,o49 P)::(nat_lit 60,o51 P)::(nat_lit 61,o52 P)::(nat_lit 63,o54 P)::(nat_lit 64,o55 P)::(nat_lit 65,o56 P)::(nat_lit 67,o58 P)::(nat_lit 68,o59 P)::(nat_lit 70,o61 P)::(nat_lit 71,o62 P)::(nat_lit 79,o70 P)::(nat_lit 80,o71 P)::(nat_lit 81,W8 P)::(nat_lit 82,o73 P)::(nat_lit 83,o74 P)::(nat_lit 86,o80 P)::(nat_lit 93,o87 P)::(nat_lit 95,o89 P)::(nat_lit 96,o90 P)::(nat_lit 98,o92 P)::(nat_lit 99,o93 P)::(nat_lit 100,o94 P)::(nat_lit 102,o96 P)::(nat_lit 103,o97 P)::(nat_lit 105,o99 P)::(nat_lit 106,YV P)::(nat_lit 107,YU P)::(nat_lit 109,YT P)::(nat_lit 110,YS P)::(nat_lit 112,YR P)::(nat_lit 113,YQ P)::(nat_lit 114,YO P)::(nat_lit 116,YN P)::(nat_lit 117,YM P)::(nat_lit 119,YL P)::(nat_lit 120,YK P)::(nat_lit 121,YJ P)::(nat_lit 122,YI P)::(nat_lit 123,YH P)::(nat_lit 126,YG P)::(nat_lit 133,U9 P)::(nat_lit 135,U8 P)::(nat_lit 136,U7 P)::(nat_lit 138,U6 P)::(nat_lit 139,U5 P)::(nat_lit 140,U4 P)::(nat_lit 142,U3 P)::(nat_lit 143,U2 P)::(nat_lit 145,U1 P)::(nat_lit 146,U0 P)::(nat_lit 147,UZ P)::(nat_lit 149,UY P)::(nat_lit 150,UX P)::(nat_lit 152,UW P)::(nat_lit 153,UV P)::(nat_lit 154,UU P)::(nat_lit 156,UT P)::(nat_lit 157,US P)::(nat_lit 159,UR P)::(nat_lit 160,UQ P)::(nat_lit 161,UP P)::(nat_lit 162,UO P)::(nat_lit 163,UN P)::(nat_lit 166,UM P)::(nat_lit 173,UK P)::(nat_lit 175,UJ P)::(nat_lit 176,UI P)::(nat_lit 178,UH P)::(nat_lit 179,UG P)::(nat_lit 180,UF P)::(nat_lit 182,UE P)::(nat_lit 183,UD P)::(nat_lit 185,UC P)::(nat_lit 186,UB P)::(nat_lit 187,UA P)::(nat_lit 189,Uz P)::(nat_lit 190,Uy P)::(nat_lit 192,Ux P)::(nat_lit 193,Uw P)::(nat_lit 194,Uv P)::(nat_lit 196,Uu P)::(nat_lit 197,Ut P)::(nat_lit 199,Us P)::(nat_lit 200,Ur P)::(nat_lit 201,Uq P)::(nat_lit 202,Up P)::(nat_lit 203,Uo P)::(nat_lit 206,Um P)::(nat_lit 213,Ul P)::(nat_lit 215,Uk P)::(nat_lit 216,Uj P)::(nat_lit 218,Ui P)::(nat_lit 219,Uh P)::(nat_lit 220,Ug P)::(nat_lit 222,Uf P)::(nat_lit 223,Ue P)::(nat_lit 225,Ud P)::(nat_lit 226,Uc P)::(nat_lit 227,Ub P)::(nat_lit 229,Ua P)::(nat_lit 230,V9 P)::(nat_lit 232,V8 P)::(nat_lit 233,V7 P)::(nat_lit 234,V6 P)::(nat_lit 236,V5 P)::(nat_lit 237,V4 P)::(nat_lit 239,V3 P)::(nat_lit 240,V2 P)::(nat_lit 241,V1 P)::(nat_lit 242,V0 P)::(nat_lit 243,VZ P)::(nat_lit 246,zas P)::(nat_lit 253,zar P)::(nat_lit 255,zht P)::(nat_lit 256,zhs P)::(nat_lit 258,zhr P)::(nat_lit 259,zhq P)::(nat_lit 260,zhp P)::(nat_lit 262,zho P)::(nat_lit 263,zhn P)::(nat_lit 265,zhm P)::(nat_lit 266,zhl P)::(nat_lit 267,zhk P)::(nat_lit 269,zhj P)::(nat_lit 270,zhi P)::(nat_lit 272,zhh P)::(nat_lit 273,zhg P)::(nat_lit 274,zhf P)::(nat_lit 276,zhe P)::(nat_lit 277,zhd P)::(nat_lit 279,zhc P)::(nat_lit 280,zhb P)::(nat_lit 281,zha P)::(nat_lit 282,zg9 P)::(nat_lit 283,zg8 P)::(nat_lit 286,zg7 P)::(nat_lit 293,zg6 P)::(nat_lit 294,zg5 P)::(nat_lit 295,zgV P)::(nat_lit 296,zg4 P)::(nat_lit 299,zg3 P)::(nat_lit 306,zg2 P)::(nat_lit 307,zg1 P)::(nat_lit 308,zg0 P)::(nat_lit 311,zgZ P)::(nat_lit 318,zgY P)::(nat_lit 319,zgX P)::(nat_lit 320,zgW P)::(nat_lit 323,zgU P)::(nat_lit 330,zgT P)::(nat_lit 331,zgS P)::(nat_lit 332,zgR P)::(nat_lit 335,zgQ P)::(nat_lit 337,zgP P)::(nat_lit 338,zgO P)::(nat_lit 340,zgN P)::(nat_lit 341,zgM P)::(nat_lit 342,zgL P)::(nat_lit 343,zgK P)::(nat_lit 344,zgJ P)::(nat_lit 345,zgI P)::(nat_lit 346,zgH P)::(nat_lit 348,zgG P)::(nat_lit 349,zgF P)::(nat_lit 351,zgE P)::(nat_lit 352,zgD P)::(nat_lit 353,zgC P)::(nat_lit 355,zgB P)::(nat_lit 356,zgA P)::(nat_lit 358,zgz P)::(nat_lit 359,zgy P)::(nat_lit 360,zgx P)::(nat_lit 362,zgw P)::(nat_lit 363,zgv P)::(nat_lit 365,zgu P)::(nat_lit 366,zgt P)::(nat_lit 367,zgs P)::(nat_lit 369,zgr P)::(nat_lit 370,zgq P)::(nat_lit 372,zll P)::(nat_lit 373,zlk P)::(nat_lit 374,zlj P)::(nat_lit 376,zli P)::(nat_lit 377,zlh P)::(nat_lit 379,zlg P)::(nat_lit 380,zlf P)::(nat_lit 381,zle P)::(nat_lit 384,zld P)::(nat_lit 385,zlc P)::(nat_lit 393,zlb P)::(nat_lit 395,zla P)::(nat_lit 396,zk9 P)::(nat_lit 398,zk8 P)::(nat_lit 399,zk7 P)::(nat_lit 400,zk6 P)::(nat_lit 402,zk5 P)::(nat_lit 403,zk4 P)::(nat_lit 405,zk3 P)::(nat_lit 406,zk2 P)::(nat_lit 407,zk1 P)::(nat_lit 409,zk0 P)::(nat_lit 410,zkZ P)::(nat_lit 412,zkY P)::(nat_lit 413,zkX P)::(nat_lit 414,zkW P)::(nat_lit 416,zkV P)::(nat_lit 417,zkU P)::(nat_lit 419,zkT P)::(nat_lit 420,zkS P)::(nat_lit 421,zkR P)::(nat_lit 422,zkQ P)::(nat_lit 423,zkP P)::(nat_lit 424,zkO P)::(nat_lit 425,zkN P)::(nat_lit 428,zkM P)::(nat_lit 430,zkL P)::(nat_lit 431,zkK P)::(nat_lit 433,zkJ P)::(nat_lit 434,zkI P)::(nat_lit 435,zkH P)::(nat_lit 437,zkG P)::(nat_lit 438,zkF P)::(nat_lit 440,zkE P)::(nat_lit 441,zkD P)::(nat_lit 442,zkC P)::(nat_lit 444,zkB P)::(nat_lit 445,zkA P)::(nat_lit 447,zkz P)::(nat_lit 448,zky P)::(nat_lit 449,zkx P)::(nat_lit 451,zkw P)::(nat_lit 452,zkv P)::(nat_lit 454,zku P)::(nat_lit 455,zkt P)::(nat_lit 463,zks P)::(nat_lit 465,zkr P)::(nat_lit 466,zkq P)::(nat_lit 468,zkp P)::(nat_lit 469,zko P)::(nat_lit 470,zkn P)::(nat_lit 472,zkm P)::(nat_lit 473,zkl P)::(nat_lit 475,zkk P)::(nat_lit 476,zkj P)::(nat_lit 477,zki P)::(nat_lit 479,zkh P)::(nat_lit 480,zkg P)::(nat_lit 482,zkf P)::(nat_lit 483,zke P)::(nat_lit 484,zkd P)::(nat_lit 486,zkc P)::(nat_lit 487,zkb P)::(nat_lit 489,zka P)::(nat_lit 490,zj9 P)::(nat_lit 491,zj8 P)::(nat_lit 493,zj7 P)::(nat_lit 494,zj6 P)::(nat_lit 496,zj5 P)::(nat_lit 497,zj4 P)::(nat_lit 498,zj3 P)::(nat_lit 500,zj2 P)::(nat_lit 501,zj1 P)::(nat_lit 503,zj0 P)::(nat_lit 504,zjZ P)::(nat_lit 505,zjY P)::(nat_lit 507,zjX P)::(nat_lit 508,zjW P)::(nat_lit 510,zjV P)::(nat_lit 511,zjU P)::(nat_lit 512,zjT P)::(nat_lit 514,zjS P)::(nat_lit 515,zjR P)::(nat_lit 517,zjQ P)::(nat_lit 518,zjP P)::(nat_lit 519,zjO P)::(nat_lit 520,zjN P)::(nat_lit 521,zjM P)::(nat_lit 522,zjL P)::(nat_lit 523,zjK P)::(nat_lit 526,zjJ P)::(nat_lit 528,zjI P)::(nat_lit 529,zjH P)::(nat_lit 531,zjG P)::(nat_lit 532,zjF P)::(nat_lit 533,zjE P)::(nat_lit 535,zjD P)::(nat_lit 536,zjC P)::(nat_lit 538,zjB P)::(nat_lit 539,zjA P)::(nat_lit 540,zjz P)::(nat_lit 542,zjy P)::(nat_lit 543,zjx P)::(nat_lit 545,zjw P)::(nat_lit 546,zjv P)::(nat_lit 547,zju P)::(nat_lit 550,zjt P)::(nat_lit 551,zjs P)::(nat_lit 552,zjq P)::(nat_lit 554,zjp P)::(nat_lit 555,zjo P)::(nat_lit 557,zjn P)::(nat_lit 558,zjm P)::(nat_lit 564,zjl P)::(nat_lit 567,zjk P)::(nat_lit 568,zjj P)::(nat_lit 569,zji P)::(nat_lit 571,zjh P)::(nat_lit 572,zjg P)::(nat_lit 574,zjf P)::(nat_lit 575,zje P)::(nat_lit 576,zjd P)::(nat_lit 578,zjc P)::(nat_lit 579,zjb P)::(nat_lit 581,zja P)::(nat_lit 582,zi9 P)::(nat_lit 583,zi8 P)::(nat_lit 585,zi7 P)::(nat_lit 586,zi6 P)::(nat_lit 588,zi5 P)::(nat_lit 589,zi4 P)::(nat_lit 590,zi3 P)::(nat_lit 592,zi2 P)::(nat_lit 593,zi1 P)::(nat_lit 595,zi0 P)::(nat_lit 596,ziZ P)::(nat_lit 597,ziY P)::(nat_lit 600,ziX P)::(nat_lit 601,ziW P)::(nat_lit 602,ziV P)::(nat_lit 604,ziU P)::(nat_lit 605,ziT P)::(nat_lit 607,ziS P)::(nat_lit 608,ziR P)::(nat_lit 609,ziQ P)::(nat_lit 611,ziP P)::(nat_lit 612,ziO P)::(nat_lit 614,ziN P)::(nat_lit 615,ziM P)::(nat_lit 616,ziL P)::(nat_lit 618,ziK P)::(nat_lit 619,ziJ P)::(nat_lit 621,ziI P)::(nat_lit 622,ziH P)::(nat_lit 623,ziG P)::(nat_lit 626,ziF P)::(nat_lit 627,ziE P)::[]
noncomputable def as:List Addr:=[2,3,15,17,18,20,21,22,25,26,27,30,31,32,35,36,37,39,40,42,43,44,46,47,49,50,51,53,54,56,57,58,60,61,63,64,65,67,68,70,71,79,80,81,82,83,86,93,95,96,98,99,100,102,103,105,106,107,109,110,112,113,114,116,117,119,120,121,122,123,126,133,135,136,138,139,140,142,143,145,146,147,149,150,152,153,154,156,157,159,160,161,162,163,166,173,175,176,178,179,180,182,183,185,186,187,189,190,192,193,194,196,197,199,200,201,202,203,206,213,215,216,218,219,220,222,223,225,226,227,229,230,232,233,234,236,237,239,240,241,242,243,246,253,255,256,258,259,260,262,263,265,266,267,269,270,272,273,274,276,277,279,280,281,282,283,286,293,294,295,296,299,306,307,308,311,318,319,320,323,330,331,332,335,337,338,340,341,342,343,344,345,346,348,349,351,352,353,355,356,358,359,360,362,363,365,366,367,369,370,372,373,374,376,377,379,380,381,384,385,393,395,396,398,399,400,402,403,405,406,407,409,410,412,413,414,416,417,419,420,421,422,423,424,425,428,430,431,433,434,435,437,438,440,441,442,444,445,447,448,449,451,452,454,455,463,465,466,468,469,470,472,473,475,476,477,479,480,482,483,484,486,487,489,490,491,493,494,496,497,498,500,501,503,504,505,507,508,510,511,512,514,515,517,518,519,520,521,522,523,526,528,529,531,532,533,535,536,538,539,540,542,543,545,546,547,550,551,552,554,555,557,558,564,567,568,569,571,572,574,575,576,578,579,581,582,583,585,586,588,589,590,592,593,595,596,597,600,601,602,604,605,607,608,609,611,612,614,615,616,618,619,621,622,623,626,627]
noncomputable def y31:List (Option Obj):=some (ziI P)::some (ziH P)::some (ziG P)::some (ziF P)::some (ziE P)::[]
noncomputable def y30:List (Option Obj):=some (ziU P)::some (ziT P)::some (ziS P)::some (ziR P)::some (ziQ P)::some (ziP P)::some (ziO P)::some (ziN P)::some (ziM P)::some (ziL P)::some (ziK P)::some (ziJ P)::y31 P
noncomputable def y29:List (Option Obj):=some (zi6 P)::some (zi5 P)::some (zi4 P)::some (zi3 P)::some (zi2 P)::some (zi1 P)::some (zi0 P)::some (ziZ P)::some (ziY P)::some (ziX P)::some (ziW P)::some (ziV P)::y30 P
noncomputable def y28:List (Option Obj):=some (zji P)::some (zjh P)::some (zjg P)::some (zjf P)::some (zje P)::some (zjd P)::some (zjc P)::some (zjb P)::some (zja P)::some (zi9 P)::some (zi8 P)::some (zi7 P)::y29 P
noncomputable def y27:List (Option Obj):=some (zjv P)::some (zju P)::some (zjt P)::some (zjs P)::some (zjq P)::some (zjp P)::some (zjo P)::some (zjn P)::some (zjm P)::some (zjl P)::some (zjk P)::some (zjj P)::y28 P
noncomputable def y26:List (Option Obj):=some (zjH P)::some (zjG P)::some (zjF P)::some (zjE P)::some (zjD P)::some (zjC P)::some (zjB P)::some (zjA P)::some (zjz P)::some (zjy P)::some (zjx P)::some (zjw P)::y27 P
noncomputable def y25:List (Option Obj):=some (zjT P)::some (zjS P)::some (zjR P)::some (zjQ P)::some (zjP P)::some (zjO P)::some (zjN P)::some (zjM P)::some (zjL P)::some (zjK P)::some (zjJ P)::some (zjI P)::y26 P
noncomputable def y24:List (Option Obj):=some (zj5 P)::some (zj4 P)::some (zj3 P)::some (zj2 P)::some (zj1 P)::some (zj0 P)::some (zjZ P)::some (zjY P)::some (zjX P)::some (zjW P)::some (zjV P)::some (zjU P)::y25 P
noncomputable def y23:List (Option Obj):=some (zkh P)::some (zkg P)::some (zkf P)::some (zke P)::some (zkd P)::some (zkc P)::some (zkb P)::some (zka P)::some (zj9 P)::some (zj8 P)::some (zj7 P)::some (zj6 P)::y24 P
noncomputable def y22:List (Option Obj):=some (zkt P)::some (zks P)::some (zkr P)::some (zkq P)::some (zkp P)::some (zko P)::some (zkn P)::some (zkm P)::some (zkl P)::some (zkk P)::some (zkj P)::some (zki P)::y23 P
noncomputable def y21:List (Option Obj):=some (zkF P)::some (zkE P)::some (zkD P)::some (zkC P)::some (zkB P)::some (zkA P)::some (zkz P)::some (zky P)::some (zkx P)::some (zkw P)::some (zkv P)::some (zku P)::y22 P
noncomputable def y20:List (Option Obj):=some (zkR P)::some (zkQ P)::some (zkP P)::some (zkO P)::some (zkN P)::some (zkM P)::some (zkL P)::some (zkK P)::some (zkJ P)::some (zkI P)::some (zkH P)::some (zkG P)::y21 P
noncomputable def y19:List (Option Obj):=some (zk3 P)::some (zk2 P)::some (zk1 P)::some (zk0 P)::some (zkZ P)::some (zkY P)::some (zkX P)::some (zkW P)::some (zkV P)::some (zkU P)::some (zkT P)::some (zkS P)::y20 P
noncomputable def y18:List (Option Obj):=some (zlf P)::some (zle P)::some (zld P)::some (zlc P)::some (zlb P)::some (zla P)::some (zk9 P)::some (zk8 P)::some (zk7 P)::some (zk6 P)::some (zk5 P)::some (zk4 P)::y19 P
noncomputable def y17:List (Option Obj):=some (zgv P)::some (zgu P)::some (zgt P)::some (zgs P)::some (zgr P)::some (zgq P)::some (zll P)::some (zlk P)::some (zlj P)::some (zli P)::some (zlh P)::some (zlg P)::y18 P
noncomputable def y16:List (Option Obj):=some (zgH P)::some (zgG P)::some (zgF P)::some (zgE P)::some (zgD P)::some (zgC P)::some (zgB P)::some (zgA P)::some (zgz P)::some (zgy P)::some (zgx P)::some (zgw P)::y17 P
noncomputable def y15:List (Option Obj):=some (zgT P)::some (zgS P)::some (zgR P)::some (zgQ P)::some (zgP P)::some (zgO P)::some (zgN P)::some (zgM P)::some (zgL P)::some (zgK P)::some (zgJ P)::some (zgI P)::y16 P
noncomputable def y14:List (Option Obj):=some (zg5 P)::some (zgV P)::some (zg4 P)::some (zg3 P)::some (zg2 P)::some (zg1 P)::some (zg0 P)::some (zgZ P)::some (zgY P)::some (zgX P)::some (zgW P)::some (zgU P)::y15 P
noncomputable def y13:List (Option Obj):=some (zhh P)::some (zhg P)::some (zhf P)::some (zhe P)::some (zhd P)::some (zhc P)::some (zhb P)::some (zha P)::some (zg9 P)::some (zg8 P)::some (zg7 P)::some (zg6 P)::y14 P
noncomputable def y12:List (Option Obj):=some (zht P)::some (zhs P)::some (zhr P)::some (zhq P)::some (zhp P)::some (zho P)::some (zhn P)::some (zhm P)::some (zhl P)::some (zhk P)::some (zhj P)::some (zhi P)::y13 P
noncomputable def y11:List (Option Obj):=some (V8 P)::some (V7 P)::some (V6 P)::some (V5 P)::some (V4 P)::some (V3 P)::some (V2 P)::some (V1 P)::some (V0 P)::some (VZ P)::some (zas P)::some (zar P)::y12 P
noncomputable def y10:List (Option Obj):=some (Uk P)::some (Uj P)::some (Ui P)::some (Uh P)::some (Ug P)::some (Uf P)::some (Ue P)::some (Ud P)::some (Uc P)::some (Ub P)::some (Ua P)::some (V9 P)::y11 P
noncomputable def y9:List (Option Obj):=some (Ux P)::some (Uw P)::some (Uv P)::some (Uu P)::some (Ut P)::some (Us P)::some (Ur P)::some (Uq P)::some (Up P)::some (Uo P)::some (Um P)::some (Ul P)::y10 P
noncomputable def y8:List (Option Obj):=some (UJ P)::some (UI P)::some (UH P)::some (UG P)::some (UF P)::some (UE P)::some (UD P)::some (UC P)::some (UB P)::some (UA P)::some (Uz P)::some (Uy P)::y9 P
noncomputable def y7:List (Option Obj):=some (UW P)::some (UV P)::some (UU P)::some (UT P)::some (US P)::some (UR P)::some (UQ P)::some (UP P)::some (UO P)::some (UN P)::some (UM P)::some (UK P)::y8 P
noncomputable def y6:List (Option Obj):=some (U8 P)::some (U7 P)::some (U6 P)::some (U5 P)::some (U4 P)::some (U3 P)::some (U2 P)::some (U1 P)::some (U0 P)::some (UZ P)::some (UY P)::some (UX P)::y7 P
noncomputable def y5:List (Option Obj):=some (YR P)::some (YQ P)::some (YO P)::some (YN P)::some (YM P)::some (YL P)::some (YK P)::some (YJ P)::some (YI P)::some (YH P)::some (YG P)::some (U9 P)::y6 P
noncomputable def y4:List (Option Obj):=some (o89 P)::some (o90 P)::some (o92 P)::some (o93 P)::some (o94 P)::some (o96 P)::some (o97 P)::some (o99 P)::some (YV P)::some (YU P)::some (YT P)::some (YS P)::y5 P
noncomputable def y3:List (Option Obj):=some (o56 P)::some (o58 P)::some (o59 P)::some (o61 P)::some (o62 P)::some (o70 P)::some (o71 P)::some (W8 P)::some (o73 P)::some (o74 P)::some (o80 P)::some (o87 P)::y4 P
noncomputable def y2:List (Option Obj):=some (o40 P)::some (o41 P)::some (o42 P)::some (o44 P)::some (o45 P)::some (o47 P)::some (o48 P)::some (o49 P)::some (o51 P)::some (o52 P)::some (o54 P)::some (o55 P)::y3 P
noncomputable def y1:List (Option Obj):=some (o22 P)::some (o23 P)::some (o26 P)::some (o27 P)::some (o28 P)::some (o30 P)::some (o31 P)::some (o33 P)::some (o34 P)::some (o35 P)::some (o37 P)::some (o38 P)::y2 P
noncomputable def y0:List (Option Obj):=some (boot_o_2 P)::some (zjr P)::some (o6 P)::some (o8 P)::some (o9 P)::some (o11 P)::some (o12 P)::some (o13 P)::some (o16 P)::some (o17 P)::some (o18 P)::some (o21 P)::y1 P
theorem asK (P:Params):as=(K P).map (·.1):=by kernel_rfl
theorem yK (P:Params):(K P).map (fun p=>some p.2)=y0 P:=by kernel_rfl
noncomputable def Ly (w:World) (os:OsState):List (Option Obj):=as.map (sf w os).heap.get?
def Ry (w:World) (_:OsState):List (Option Obj):=y0 w.params
theorem qy:tt (Hd.Ly,Hd.Ry)=true:=by k_qdec
theorem ry:∀ w,Fast.tw691215026958702249 w=Hd.Ry w:=fun w=>by kernel_rfl
theorem ey (w:World) (os:OsState):Hd.Ly w os=Hd.Ry w os:=(congrFun (congrFun Fast.te691215026958702249 w) os).trans (congrFun (ry w) os)
abbrev hk:Hook:=kHook K as asK
abbrev zww:List Str:=importedModules PySem.Challenge.pw_beatless_k24_whole_pieces_joined.main.body
noncomputable def A (w:World) (os:OsState):=openSeen Q [] zww Xt true (sf w os)
def G (_:World) (_:OsState):=openGood Q []
def A0 (w:World) (os:OsState):=(A w os).1
def G0 (w:World) (os:OsState):=(G w os).1
theorem qA0:tt (Hd.A0,Hd.G0)=true:=by k_qdec
theorem rA0:∀ w,Fast.tw6131166808449026830 w=Hd.G0 w:=fun w=>by kernel_rfl
theorem eA0 (w:World) (os:OsState):Hd.A0 w os=Hd.G0 w os:=(congrFun (congrFun Fast.te6131166808449026830 w) os).trans (congrFun (rA0 w) os)
def A1 (w:World) (os:OsState):=(A w os).2.1
def G1 (w:World) (os:OsState):=(G w os).2.1
theorem qA1:tt (Hd.A1,Hd.G1)=true:=by k_qdec
theorem rA1:∀ w,Fast.tw7581016493306269660 w=Hd.G1 w:=fun w=>by kernel_rfl
theorem eA1 (w:World) (os:OsState):Hd.A1 w os=Hd.G1 w os:=(congrFun (congrFun Fast.te7581016493306269660 w) os).trans (congrFun (rA1 w) os)
def A2 (w:World) (os:OsState):=(A w os).2.2.1
def G2 (w:World) (os:OsState):=(G w os).2.2.1
theorem qA2:tt (Hd.A2,Hd.G2)=true:=by k_qdec
theorem rA2:∀ w,Fast.tw2900191123710467766 w=Hd.G2 w:=fun w=>by kernel_rfl
theorem eA2 (w:World) (os:OsState):Hd.A2 w os=Hd.G2 w os:=(congrFun (congrFun Fast.te2900191123710467766 w) os).trans (congrFun (rA2 w) os)
def A3 (w:World) (os:OsState):=(A w os).2.2.2.1
def G3 (w:World) (os:OsState):=(G w os).2.2.2.1
theorem qA3:tt (Hd.A3,Hd.G3)=true:=by k_qdec
theorem rA3:∀ w,Fast.tw447134267514248570 w=Hd.G3 w:=fun w=>by kernel_rfl
theorem eA3 (w:World) (os:OsState):Hd.A3 w os=Hd.G3 w os:=(congrFun (congrFun Fast.te447134267514248570 w) os).trans (congrFun (rA3 w) os)
def A4 (w:World) (os:OsState):=(A w os).2.2.2.2.1
def G4 (w:World) (os:OsState):=(G w os).2.2.2.2.1
theorem qA4:tt (Hd.A4,Hd.G4)=true:=by k_qdec
theorem rA4:∀ w,Fast.tw14409291123802741499 w=Hd.G4 w:=fun w=>by kernel_rfl
theorem eA4 (w:World) (os:OsState):Hd.A4 w os=Hd.G4 w os:=(congrFun (congrFun Fast.te14409291123802741499 w) os).trans (congrFun (rA4 w) os)
def A5 (w:World) (os:OsState):=(A w os).2.2.2.2.2.1
def G5 (w:World) (os:OsState):=(G w os).2.2.2.2.2.1
theorem qA5:tt (Hd.A5,Hd.G5)=true:=by k_qdec
theorem rA5:∀ w,Fast.tw7163156141784225904 w=Hd.G5 w:=fun w=>by kernel_rfl
theorem eA5 (w:World) (os:OsState):Hd.A5 w os=Hd.G5 w os:=(congrFun (congrFun Fast.te7163156141784225904 w) os).trans (congrFun (rA5 w) os)
def A6 (w:World) (os:OsState):=(A w os).2.2.2.2.2.2.1
def G6 (w:World) (os:OsState):=(G w os).2.2.2.2.2.2.1
theorem qA6:tt (Hd.A6,Hd.G6)=true:=by k_qdec
theorem rA6:∀ w,Fast.tw148487786646926683 w=Hd.G6 w:=fun w=>by kernel_rfl
theorem eA6 (w:World) (os:OsState):Hd.A6 w os=Hd.G6 w os:=(congrFun (congrFun Fast.te148487786646926683 w) os).trans (congrFun (rA6 w) os)
def A7 (w:World) (os:OsState):=(A w os).2.2.2.2.2.2.2.1
def G7 (w:World) (os:OsState):=(G w os).2.2.2.2.2.2.2.1
theorem qA7:tt (Hd.A7,Hd.G7)=true:=by k_qdec
theorem rA7:∀ w,Fast.tw17782257788342479682 w=Hd.G7 w:=fun w=>by kernel_rfl
theorem eA7 (w:World) (os:OsState):Hd.A7 w os=Hd.G7 w os:=(congrFun (congrFun Fast.te17782257788342479682 w) os).trans (congrFun (rA7 w) os)
def A8 (w:World) (os:OsState):=(A w os).2.2.2.2.2.2.2.2
def G8 (w:World) (os:OsState):=(G w os).2.2.2.2.2.2.2.2
theorem qA8:tt (Hd.A8,Hd.G8)=true:=by k_qdec
theorem rA8:∀ w,Fast.tw8885869309975874061 w=Hd.G8 w:=fun w=>by kernel_rfl
theorem eA8 (w:World) (os:OsState):Hd.A8 w os=Hd.G8 w os:=(congrFun (congrFun Fast.te8885869309975874061 w) os).trans (congrFun (rA8 w) os)
noncomputable def Ls (w:World) (os:OsState):Bool:=staticsOk zww (boot_heap w.params) (H1 w.params)&&namesBound PySem.Challenge.pw_beatless_k24_whole_pieces_joined (H1 w.params)&&gensDone (sf w os)&&laidKept (boot_heap w.params) (H1 w.params)
def Rs (_:World) (_:OsState):Bool:=true
noncomputable def Lz (w:World) (_:OsState):=((boot_heap w.params).isNs mainGlobals&&(⟨[]⟩:Array GenState).size == 0,(boot_heap w.params).objs.size,(boot_heap w.params).nsMap mainGlobals "__annotations__")
noncomputable def Rz (_:World) (_:OsState):Bool×Nat×Option Value:=(true,11,an)
theorem qs:tt Hd.Ls=true:=by k_qdec
theorem rs:∀ w,Fast.tw4959303863618478765 w=Hd.Rs w:=fun w=>by kernel_rfl
theorem es (w:World) (os:OsState):Hd.Ls w os=Hd.Rs w os:=(congrFun (congrFun Fast.te4959303863618478765 w) os).trans (congrFun (rs w) os)
theorem qz:tt Hd.Lz=true:=by k_qdec
theorem rz:∀ w,Fast.tw17831390912981975158 w=Hd.Rz w:=fun w=>by kernel_rfl
theorem ez (w:World) (os:OsState):Hd.Lz w os=Hd.Rz w os:=(congrFun (congrFun Fast.te17831390912981975158 w) os).trans (congrFun (rz w) os)
theorem op:opening PySem.Challenge.pw_beatless_k24_whole_pieces_joined=plainProg PySem.Challenge.pw_beatless_k24_whole_pieces_joined.main.scope.names:=by kernel_rfl
theorem fe (s:Shared):fenceModules? PySem.Challenge.pw_beatless_k24_whole_pieces_joined s=some s:=by kernel_rfl
theorem left:LeftO PySem.Challenge.pw_beatless_k24_whole_pieces_joined Q [] Xt hk.obs hk.val 9616 :=
 LeftO.of_pieces (M:=M) (m₀:=11) (ann:=an) (H₀:=boot_heap) (H₁:=H1) (boot_open op (by kernel_rfl) fe) (fun w=>ez w (start PySem.Challenge.pw_beatless_k24_whole_pieces_joined).1.os) run (by kernel_rfl) (fun w=>funext fun os=>looks_pair (es w os) (looks_pair
  (Prod.ext (eA0 w os) (Prod.ext (eA1 w os) (Prod.ext (eA2 w os) (Prod.ext (eA3 w os) (Prod.ext (eA4 w os) (Prod.ext (eA5 w os) (Prod.ext (eA6 w os) (Prod.ext (eA7 w os) (eA8 w os)))))))))
  ((ey w os).trans (yK w.params).symm)))
theorem both {a b:Bool}(z:(a&&b)=true):a=true∧b=true:=Bool.and_eq_true_iff.mp z
end Hd
end

namespace K04
open PySem L2
abbrev fS (n q:Str) (s:Stmt) (k d p:Value) (a:Option Addr) (c t:Value):FuncData:=PySem.W.fnOf n q (defArgs s) (defBody s) (defScope s) .none k d p a c t
open PySem.W (nsIn findIn isFn codeIn keepIn plainGet hasDictIn plainOver makesIn mroIn specialIn takesIn kitOne mg_of mg_none_of excIn)
theorem txt_mk {w:World}{K:PySem.W.Frag}{h:Heap}{mg:Str→Option Value}(X:K.In h) (G:h.Ns mainGlobals mg)
  {f_qa:Addr}{od0 an0:Option Addr}{sl0:Array (Option Value)}{oc0 kV0 dc0 pm0 cd0 ct0:Value}{f_qb:Addr}{od1 an1:Option Addr}{sl1:Array (Option Value)}{oc1 kV1 dc1 pm1 cd1 ct1:Value}{f_qc:Addr}{od2 an2:Option Addr}{sl2:Array (Option Value)}{oc2 kV2 dc2 pm2 cd2 ct2:Value}{f_qd:Addr}{od3 an3:Option Addr}{sl3:Array (Option Value)}{oc3 kV3 dc3 pm3 cd3 ct3:Value}{f_qe:Addr}{od4 an4:Option Addr}{sl4:Array (Option Value)}{oc4 kV4 dc4 pm4 cd4 ct4:Value}{f_qf:Addr}{od5 an5:Option Addr}{sl5:Array (Option Value)}{oc5 kV5 dc5 pm5 cd5 ct5:Value}{f_qg:Addr}{od6 an6:Option Addr}{sl6:Array (Option Value)}{oc6 kV6 dc6 pm6 cd6 ct6:Value}{f_qh:Addr}{od7 an7:Option Addr}{sl7:Array (Option Value)}{oc7 kV7 dc7 pm7 cd7 ct7:Value}{f_qi:Addr}{od8 an8:Option Addr}{sl8:Array (Option Value)}{oc8 kV8 dc8 pm8 cd8 ct8:Value}{f_qj:Addr}{od9 an9:Option Addr}{sl9:Array (Option Value)}{oc9 kV9 dc9 pm9 cd9 ct9:Value}{f_qk:Addr}{od10 an10:Option Addr}{sl10:Array (Option Value)}{oc10 kV10 dc10 pm10 cd10 ct10:Value}{f_ql:Addr}{od11 an11:Option Addr}{sl11:Array (Option Value)}{oc11 kV11 dc11 pm11 cd11 ct11:Value}{f_qm:Addr}{od12 an12:Option Addr}{sl12:Array (Option Value)}{oc12 kV12 dc12 pm12 cd12 ct12:Value}{f_qn:Addr}{od13 an13:Option Addr}{sl13:Array (Option Value)}{oc13 kV13 dc13 pm13 cd13 ct13:Value}{f_qo:Addr}{od14 an14:Option Addr}{sl14:Array (Option Value)}{oc14 kV14 dc14 pm14 cd14 ct14:Value}{f_qp:Addr}{od15 an15:Option Addr}{sl15:Array (Option Value)}{oc15 kV15 dc15 pm15 cd15 ct15:Value}{f_qq:Addr}{od16 an16:Option Addr}{sl16:Array (Option Value)}{oc16 kV16 dc16 pm16 cd16 ct16:Value}{f_qr:Addr}{od17 an17:Option Addr}{sl17:Array (Option Value)}{oc17 kV17 dc17 pm17 cd17 ct17:Value}{f_qs:Addr}{od18 an18:Option Addr}{sl18:Array (Option Value)}{oc18 kV18 dc18 pm18 cd18 ct18:Value}{f_qt:Addr}{od19 an19:Option Addr}{sl19:Array (Option Value)}{oc19 kV19 dc19 pm19 cd19 ct19:Value}{f_qu:Addr}{od20 an20:Option Addr}{sl20:Array (Option Value)}{oc20 kV20 dc20 pm20 cd20 ct20:Value}{f_qv:Addr}{od21 an21:Option Addr}{sl21:Array (Option Value)}{oc21 kV21 dc21 pm21 cd21 ct21:Value}{f_qw:Addr}{od22 an22:Option Addr}{sl22:Array (Option Value)}{oc22 kV22 dc22 pm22 cd22 ct22:Value}{f_qx:Addr}{od23 an23:Option Addr}{sl23:Array (Option Value)}{oc23 kV23 dc23 pm23 cd23 ct23:Value}{f_qy:Addr}{od24 an24:Option Addr}{sl24:Array (Option Value)}{oc24 kV24 dc24 pm24 cd24 ct24:Value}{f_qz:Addr}{od25 an25:Option Addr}{sl25:Array (Option Value)}{oc25 kV25 dc25 pm25 cd25 ct25:Value}{f_qA:Addr}{od26 an26:Option Addr}{sl26:Array (Option Value)}{oc26 kV26 dc26 pm26 cd26 ct26:Value}{f_qB:Addr}{od27 an27:Option Addr}{sl27:Array (Option Value)}{oc27 kV27 dc27 pm27 cd27 ct27:Value}{f_qC:Addr}{od28 an28:Option Addr}{sl28:Array (Option Value)}{oc28 kV28 dc28 pm28 cd28 ct28:Value}{f_qD:Addr}{od29 an29:Option Addr}{sl29:Array (Option Value)}{oc29 kV29 dc29 pm29 cd29 ct29:Value}{f_qE:Addr}{od30 an30:Option Addr}{sl30:Array (Option Value)}{oc30 kV30 dc30 pm30 cd30 ct30:Value}{f_qF:Addr}{od31 an31:Option Addr}{sl31:Array (Option Value)}{oc31 kV31 dc31 pm31 cd31 ct31:Value}{f_qG:Addr}{od32 an32:Option Addr}{sl32:Array (Option Value)}{oc32 kV32 dc32 pm32 cd32 ct32:Value}{f_qH:Addr}{od33 an33:Option Addr}{sl33:Array (Option Value)}{oc33 kV33 dc33 pm33 cd33 ct33:Value}{f_qI:Addr}{od34 an34:Option Addr}{sl34:Array (Option Value)}{oc34 kV34 dc34 pm34 cd34 ct34:Value}{f_qJ:Addr}{od35 an35:Option Addr}{sl35:Array (Option Value)}{oc35 kV35 dc35 pm35 cd35 ct35:Value}{f_qK:Addr}{od36 an36:Option Addr}{sl36:Array (Option Value)}{oc36 kV36 dc36 pm36 cd36 ct36:Value}{f_qL:Addr}{od37 an37:Option Addr}{sl37:Array (Option Value)}{oc37 kV37 dc37 pm37 cd37 ct37:Value}{f_qM:Addr}{od38 an38:Option Addr}{sl38:Array (Option Value)}{oc38 kV38 dc38 pm38 cd38 ct38:Value}{f_qN:Addr}{od39 an39:Option Addr}{sl39:Array (Option Value)}{oc39 kV39 dc39 pm39 cd39 ct39:Value}{f_qO:Addr}{od40 an40:Option Addr}{sl40:Array (Option Value)}{oc40 kV40 dc40 pm40 cd40 ct40:Value}{f_qP:Addr}{od41 an41:Option Addr}{sl41:Array (Option Value)}{oc41 kV41 dc41 pm41 cd41 ct41:Value}{f_qQ:Addr}{od42 an42:Option Addr}{sl42:Array (Option Value)}{oc42 kV42 dc42 pm42 cd42 ct42:Value}{f_qR:Addr}{od43 an43:Option Addr}{sl43:Array (Option Value)}{oc43 kV43 dc43 pm43 cd43 ct43:Value}{f_qS:Addr}{od44 an44:Option Addr}{sl44:Array (Option Value)}{oc44 kV44 dc44 pm44 cd44 ct44:Value}{f_qT:Addr}{od45 an45:Option Addr}{sl45:Array (Option Value)}{oc45 kV45 dc45 pm45 cd45 ct45:Value}{f_qU:Addr}{od46 an46:Option Addr}{sl46:Array (Option Value)}{oc46 kV46 dc46 pm46 cd46 ct46:Value}{f_qV:Addr}{od47 an47:Option Addr}{sl47:Array (Option Value)}{oc47 kV47 dc47 pm47 cd47 ct47:Value}{f_qW:Addr}{od48 an48:Option Addr}{sl48:Array (Option Value)}{oc48 kV48 dc48 pm48 cd48 ct48:Value}{f_qX:Addr}{od49 an49:Option Addr}{sl49:Array (Option Value)}{oc49 kV49 dc49 pm49 cd49 ct49:Value}{f_qY:Addr}{od50 an50:Option Addr}{sl50:Array (Option Value)}{oc50 kV50 dc50 pm50 cd50 ct50:Value}{f_qZ:Addr}{od51 an51:Option Addr}{sl51:Array (Option Value)}{oc51 kV51 dc51 pm51 cd51 ct51:Value}{f_qa0:Addr}{od52 an52:Option Addr}{sl52:Array (Option Value)}{oc52 kV52 dc52 pm52 cd52 ct52:Value}{f_qa1:Addr}{od53 an53:Option Addr}{sl53:Array (Option Value)}{oc53 kV53 dc53 pm53 cd53 ct53:Value}{f_qa2:Addr}{od54 an54:Option Addr}{sl54:Array (Option Value)}{oc54 kV54 dc54 pm54 cd54 ct54:Value}{f_qa3:Addr}{od55 an55:Option Addr}{sl55:Array (Option Value)}{oc55 kV55 dc55 pm55 cd55 ct55:Value}{f_qa4:Addr}{od56 an56:Option Addr}{sl56:Array (Option Value)}{oc56 kV56 dc56 pm56 cd56 ct56:Value}{f_qa5:Addr}{od57 an57:Option Addr}{sl57:Array (Option Value)}{oc57 kV57 dc57 pm57 cd57 ct57:Value}{c_Num:Addr}{c_Name:Addr}{c_Two:Addr}{c_Mod:Addr}{c_Less:Addr}{c_Program:Addr}{c_Web:Addr}{t_START_NAMES:Addr}{od_START_NAMES:Option Addr}{n_START_NAMES:Nat}{sl_START_NAMES:Array (Option Value)}{u_START_NAMES0 u_START_NAMES1:Tok}{t_SEND_NAMES:Addr}{od_SEND_NAMES:Option Addr}{n_SEND_NAMES:Nat}{sl_SEND_NAMES:Array (Option Value)}{u_SEND_NAMES0 u_SEND_NAMES1 u_SEND_NAMES2 u_SEND_NAMES3 u_SEND_NAMES4:Tok}{t_RENEW_NAMES:Addr}{od_RENEW_NAMES:Option Addr}{n_RENEW_NAMES:Nat}{sl_RENEW_NAMES:Array (Option Value)}{u_RENEW_NAMES0 u_RENEW_NAMES1 u_RENEW_NAMES2 u_RENEW_NAMES3 u_RENEW_NAMES4 u_RENEW_NAMES5 u_RENEW_NAMES6 u_RENEW_NAMES7:Tok}{t_TWO_WORDS:Addr}{od_TWO_WORDS:Option Addr}{n_TWO_WORDS:Nat}{sl_TWO_WORDS:Array (Option Value)}{u_TWO_WORDS0 u_TWO_WORDS1 u_TWO_WORDS2 u_TWO_WORDS3:Tok}{t_MOST_WORDS:Tok}{t_MOST_DEEP:Tok}{t_MOST_HANDS:Tok}{t_LAST_HAND:Tok}
  (z_len:nsIn K mainGlobals "len" = some none)
  (z_int:nsIn K mainGlobals "int" = some none)
  (z_min:nsIn K mainGlobals "min" = some none)
  (z_max:nsIn K mainGlobals "max" = some none)
  (z_range:nsIn K mainGlobals "range" = some none)
  (z_isinstance:nsIn K mainGlobals "isinstance" = some none)
  (z_list:nsIn K mainGlobals "list" = some none)
  (z_dict:nsIn K mainGlobals "dict" = some none)
  (z_abs:nsIn K mainGlobals "abs" = some none)
  (z_sorted:nsIn K mainGlobals "sorted" = some none)
  (z_str:nsIn K mainGlobals "str" = some none)
  (z_sum:nsIn K mainGlobals "sum" = some none)
  (z_bool:nsIn K mainGlobals "bool" = some none)
  (z_tuple:nsIn K mainGlobals "tuple" = some none)
  (z_ValueError:nsIn K mainGlobals "ValueError" = some none)
  (A_Num:nsIn K mainGlobals "Num" = some (some (.ref c_Num)))
  (A_Name:nsIn K mainGlobals "Name" = some (some (.ref c_Name)))
  (A_Two:nsIn K mainGlobals "Two" = some (some (.ref c_Two)))
  (A_Mod:nsIn K mainGlobals "Mod" = some (some (.ref c_Mod)))
  (A_Less:nsIn K mainGlobals "Less" = some (some (.ref c_Less)))
  (A_Program:nsIn K mainGlobals "Program" = some (some (.ref c_Program)))
  (A_Web:nsIn K mainGlobals "Web" = some (some (.ref c_Web)))
  (a_0:nsIn K mainGlobals "first_worths" = some (some (.ref f_qa)))
  (l_0:K.lookup f_qa=some ⟨oc0,od0,.func (fS "first_worths" "first_worths" ZV kV0 dc0 pm0 an0 cd0 ct0),sl0⟩)
  (cc_0:codeIn K cd0 "first_worths" = true)
  (kk_0:keepIn K (.ref f_qa)=true)
  (a_1:nsIn K mainGlobals "heard_in" = some (some (.ref f_qb)))
  (l_1:K.lookup f_qb=some ⟨oc1,od1,.func (fS "heard_in" "heard_in" ZU kV1 dc1 pm1 an1 cd1 ct1),sl1⟩)
  (cc_1:codeIn K cd1 "heard_in" = true)
  (kk_1:keepIn K (.ref f_qb)=true)
  (a_2:nsIn K mainGlobals "worths_behind" = some (some (.ref f_qc)))
  (l_2:K.lookup f_qc=some ⟨oc2,od2,.func (fS "worths_behind" "worths_behind" ZT kV2 dc2 pm2 an2 cd2 ct2),sl2⟩)
  (cc_2:codeIn K cd2 "worths_behind" = true)
  (kk_2:keepIn K (.ref f_qc)=true)
  (a_3:nsIn K mainGlobals "run_pieces" = some (some (.ref f_qd)))
  (l_3:K.lookup f_qd=some ⟨oc3,od3,.func (fS "run_pieces" "run_pieces" ZS kV3 dc3 pm3 an3 cd3 ct3),sl3⟩)
  (cc_3:codeIn K cd3 "run_pieces" = true)
  (kk_3:keepIn K (.ref f_qd)=true)
  (a_4:nsIn K mainGlobals "worths_by_pieces" = some (some (.ref f_qe)))
  (l_4:K.lookup f_qe=some ⟨oc4,od4,.func (fS "worths_by_pieces" "worths_by_pieces" ZR kV4 dc4 pm4 an4 cd4 ct4),sl4⟩)
  (cc_4:codeIn K cd4 "worths_by_pieces" = true)
  (kk_4:keepIn K (.ref f_qe)=true)
  (a_5:nsIn K mainGlobals "heard_by_pieces" = some (some (.ref f_qf)))
  (l_5:K.lookup f_qf=some ⟨oc5,od5,.func (fS "heard_by_pieces" "heard_by_pieces" ZQ kV5 dc5 pm5 an5 cd5 ct5),sl5⟩)
  (cc_5:codeIn K cd5 "heard_by_pieces" = true)
  (kk_5:keepIn K (.ref f_qf)=true)
  (a_6:nsIn K mainGlobals "plain_worths" = some (some (.ref f_qg)))
  (l_6:K.lookup f_qg=some ⟨oc6,od6,.func (fS "plain_worths" "plain_worths" ZP kV6 dc6 pm6 an6 cd6 ct6),sl6⟩)
  (cc_6:codeIn K cd6 "plain_worths" = true)
  (kk_6:keepIn K (.ref f_qg)=true)
  (a_7:nsIn K mainGlobals "plain_heard" = some (some (.ref f_qh)))
  (l_7:K.lookup f_qh=some ⟨oc7,od7,.func (fS "plain_heard" "plain_heard" ZO kV7 dc7 pm7 an7 cd7 ct7),sl7⟩)
  (cc_7:codeIn K cd7 "plain_heard" = true)
  (kk_7:keepIn K (.ref f_qh)=true)
  (a_8:nsIn K mainGlobals "is_whole" = some (some (.ref f_qi)))
  (l_8:K.lookup f_qi=some ⟨oc8,od8,.func (fS "is_whole" "is_whole" ZN kV8 dc8 pm8 an8 cd8 ct8),sl8⟩)
  (cc_8:codeIn K cd8 "is_whole" = true)
  (kk_8:keepIn K (.ref f_qi)=true)
  (a_9:nsIn K mainGlobals "is_short_number" = some (some (.ref f_qj)))
  (l_9:K.lookup f_qj=some ⟨oc9,od9,.func (fS "is_short_number" "is_short_number" ZM kV9 dc9 pm9 an9 cd9 ct9),sl9⟩)
  (cc_9:codeIn K cd9 "is_short_number" = true)
  (kk_9:keepIn K (.ref f_qj)=true)
  (a_10:nsIn K mainGlobals "is_word_of" = some (some (.ref f_qk)))
  (l_10:K.lookup f_qk=some ⟨oc10,od10,.func (fS "is_word_of" "is_word_of" ZL kV10 dc10 pm10 an10 cd10 ct10),sl10⟩)
  (cc_10:codeIn K cd10 "is_word_of" = true)
  (kk_10:keepIn K (.ref f_qk)=true)
  (a_11:nsIn K mainGlobals "is_divisor" = some (some (.ref f_ql)))
  (l_11:K.lookup f_ql=some ⟨oc11,od11,.func (fS "is_divisor" "is_divisor" ZK kV11 dc11 pm11 an11 cd11 ct11),sl11⟩)
  (cc_11:codeIn K cd11 "is_divisor" = true)
  (kk_11:keepIn K (.ref f_ql)=true)
  (a_12:nsIn K mainGlobals "are_sound" = some (some (.ref f_qm)))
  (l_12:K.lookup f_qm=some ⟨oc12,od12,.func (fS "are_sound" "are_sound" ZJ kV12 dc12 pm12 an12 cd12 ct12),sl12⟩)
  (cc_12:codeIn K cd12 "are_sound" = true)
  (kk_12:keepIn K (.ref f_qm)=true)
  (a_13:nsIn K mainGlobals "is_sound" = some (some (.ref f_qn)))
  (l_13:K.lookup f_qn=some ⟨oc13,od13,.func (fS "is_sound" "is_sound" ZI kV13 dc13 pm13 an13 cd13 ct13),sl13⟩)
  (cc_13:codeIn K cd13 "is_sound" = true)
  (kk_13:keepIn K (.ref f_qn)=true)
  (a_14:nsIn K mainGlobals "count_words" = some (some (.ref f_qo)))
  (l_14:K.lookup f_qo=some ⟨oc14,od14,.func (fS "count_words" "count_words" uM kV14 dc14 pm14 an14 cd14 ct14),sl14⟩)
  (cc_14:codeIn K cd14 "count_words" = true)
  (kk_14:keepIn K (.ref f_qo)=true)
  (a_15:nsIn K mainGlobals "are_hands" = some (some (.ref f_qp)))
  (l_15:K.lookup f_qp=some ⟨oc15,od15,.func (fS "are_hands" "are_hands" ZH kV15 dc15 pm15 an15 cd15 ct15),sl15⟩)
  (cc_15:codeIn K cd15 "are_hands" = true)
  (kk_15:keepIn K (.ref f_qp)=true)
  (a_16:nsIn K mainGlobals "is_line" = some (some (.ref f_qq)))
  (l_16:K.lookup f_qq=some ⟨oc16,od16,.func (fS "is_line" "is_line" ZG kV16 dc16 pm16 an16 cd16 ct16),sl16⟩)
  (cc_16:codeIn K cd16 "is_line" = true)
  (kk_16:keepIn K (.ref f_qq)=true)
  (a_17:nsIn K mainGlobals "are_lines" = some (some (.ref f_qr)))
  (l_17:K.lookup f_qr=some ⟨oc17,od17,.func (fS "are_lines" "are_lines" ZF kV17 dc17 pm17 an17 cd17 ct17),sl17⟩)
  (cc_17:codeIn K cd17 "are_lines" = true)
  (kk_17:keepIn K (.ref f_qr)=true)
  (a_18:nsIn K mainGlobals "near_by_hand" = some (some (.ref f_qs)))
  (l_18:K.lookup f_qs=some ⟨oc18,od18,.func (fS "near_by_hand" "near_by_hand" ZE kV18 dc18 pm18 an18 cd18 ct18),sl18⟩)
  (cc_18:codeIn K cd18 "near_by_hand" = true)
  (kk_18:keepIn K (.ref f_qs)=true)
  (a_19:nsIn K mainGlobals "_law_cell_at" = some (some (.ref f_qt)))
  (l_19:K.lookup f_qt=some ⟨oc19,od19,.func (fS "_law_cell_at" "_law_cell_at" ZD kV19 dc19 pm19 an19 cd19 ct19),sl19⟩)
  (cc_19:codeIn K cd19 "_law_cell_at" = true)
  (kk_19:keepIn K (.ref f_qt)=true)
  (a_20:nsIn K mainGlobals "_law_draws" = some (some (.ref f_qu)))
  (l_20:K.lookup f_qu=some ⟨oc20,od20,.func (fS "_law_draws" "_law_draws" ZC kV20 dc20 pm20 an20 cd20 ct20),sl20⟩)
  (cc_20:codeIn K cd20 "_law_draws" = true)
  (kk_20:keepIn K (.ref f_qu)=true)
  (a_21:nsIn K mainGlobals "_law_take" = some (some (.ref f_qv)))
  (l_21:K.lookup f_qv=some ⟨oc21,od21,.func (fS "_law_take" "_law_take" uL kV21 dc21 pm21 an21 cd21 ct21),sl21⟩)
  (cc_21:codeIn K cd21 "_law_take" = true)
  (kk_21:keepIn K (.ref f_qv)=true)
  (a_22:nsIn K mainGlobals "_law_hands" = some (some (.ref f_qw)))
  (l_22:K.lookup f_qw=some ⟨oc22,od22,.func (fS "_law_hands" "_law_hands" ZB kV22 dc22 pm22 an22 cd22 ct22),sl22⟩)
  (cc_22:codeIn K cd22 "_law_hands" = true)
  (kk_22:keepIn K (.ref f_qw)=true)
  (a_23:nsIn K mainGlobals "_law_lines" = some (some (.ref f_qx)))
  (l_23:K.lookup f_qx=some ⟨oc23,od23,.func (fS "_law_lines" "_law_lines" ZA kV23 dc23 pm23 an23 cd23 ct23),sl23⟩)
  (cc_23:codeIn K cd23 "_law_lines" = true)
  (kk_23:keepIn K (.ref f_qx)=true)
  (a_24:nsIn K mainGlobals "_law_expr" = some (some (.ref f_qy)))
  (l_24:K.lookup f_qy=some ⟨oc24,od24,.func (fS "_law_expr" "_law_expr" Zz kV24 dc24 pm24 an24 cd24 ct24),sl24⟩)
  (cc_24:codeIn K cd24 "_law_expr" = true)
  (kk_24:keepIn K (.ref f_qy)=true)
  (a_25:nsIn K mainGlobals "_law_program" = some (some (.ref f_qz)))
  (l_25:K.lookup f_qz=some ⟨oc25,od25,.func (fS "_law_program" "_law_program" Zy kV25 dc25 pm25 an25 cd25 ct25),sl25⟩)
  (cc_25:codeIn K cd25 "_law_program" = true)
  (kk_25:keepIn K (.ref f_qz)=true)
  (a_26:nsIn K mainGlobals "_law_heard_names" = some (some (.ref f_qA)))
  (l_26:K.lookup f_qA=some ⟨oc26,od26,.func (fS "_law_heard_names" "_law_heard_names" Yh kV26 dc26 pm26 an26 cd26 ct26),sl26⟩)
  (cc_26:codeIn K cd26 "_law_heard_names" = true)
  (kk_26:keepIn K (.ref f_qA)=true)
  (a_27:nsIn K mainGlobals "_law_made" = some (some (.ref f_qB)))
  (l_27:K.lookup f_qB=some ⟨oc27,od27,.func (fS "_law_made" "_law_made" Yg kV27 dc27 pm27 an27 cd27 ct27),sl27⟩)
  (cc_27:codeIn K cd27 "_law_made" = true)
  (kk_27:keepIn K (.ref f_qB)=true)
  (a_28:nsIn K mainGlobals "_law_program_made" = some (some (.ref f_qC)))
  (l_28:K.lookup f_qC=some ⟨oc28,od28,.func (fS "_law_program_made" "_law_program_made" Yf kV28 dc28 pm28 an28 cd28 ct28),sl28⟩)
  (cc_28:codeIn K cd28 "_law_program_made" = true)
  (kk_28:keepIn K (.ref f_qC)=true)
  (a_29:nsIn K mainGlobals "_law_part" = some (some (.ref f_qD)))
  (l_29:K.lookup f_qD=some ⟨oc29,od29,.func (fS "_law_part" "_law_part" uQ kV29 dc29 pm29 an29 cd29 ct29),sl29⟩)
  (cc_29:codeIn K cd29 "_law_part" = true)
  (kk_29:keepIn K (.ref f_qD)=true)
  (a_30:nsIn K mainGlobals "_law_pieces" = some (some (.ref f_qE)))
  (l_30:K.lookup f_qE=some ⟨oc30,od30,.func (fS "_law_pieces" "_law_pieces" Ye kV30 dc30 pm30 an30 cd30 ct30),sl30⟩)
  (cc_30:codeIn K cd30 "_law_pieces" = true)
  (kk_30:keepIn K (.ref f_qE)=true)
  (a_31:nsIn K mainGlobals "_law_both" = some (some (.ref f_qF)))
  (l_31:K.lookup f_qF=some ⟨oc31,od31,.func (fS "_law_both" "_law_both" Yd kV31 dc31 pm31 an31 cd31 ct31),sl31⟩)
  (cc_31:codeIn K cd31 "_law_both" = true)
  (kk_31:keepIn K (.ref f_qF)=true)
  (a_32:nsIn K mainGlobals "_law_cut" = some (some (.ref f_qG)))
  (l_32:K.lookup f_qG=some ⟨oc32,od32,.func (fS "_law_cut" "_law_cut" Yc kV32 dc32 pm32 an32 cd32 ct32),sl32⟩)
  (cc_32:codeIn K cd32 "_law_cut" = true)
  (kk_32:keepIn K (.ref f_qG)=true)
  (a_33:nsIn K mainGlobals "law" = some (some (.ref f_qH)))
  (l_33:K.lookup f_qH=some ⟨oc33,od33,.func (fS "law" "law" uP kV33 dc33 pm33 an33 cd33 ct33),sl33⟩)
  (cc_33:codeIn K cd33 "law" = true)
  (kk_33:keepIn K (.ref f_qH)=true)
  (a_34:findIn K (.ref c_Num) "__init__" = some (some (.ref f_qI)))
  (i_34:isFn K (.ref f_qI)=true)
  (l_34:K.lookup f_qI=some ⟨oc34,od34,.func (fS "__init__" "Num.__init__" Yb kV34 dc34 pm34 an34 cd34 ct34),sl34⟩)
  (cc_34:codeIn K cd34 "Num.__init__" = true)
  (kk_34:keepIn K (.ref f_qI)=true)
  (a_35:findIn K (.ref c_Num) "reckon" = some (some (.ref f_qJ)))
  (i_35:isFn K (.ref f_qJ)=true)
  (l_35:K.lookup f_qJ=some ⟨oc35,od35,.func (fS "reckon" "Num.reckon" Ya kV35 dc35 pm35 an35 cd35 ct35),sl35⟩)
  (cc_35:codeIn K cd35 "Num.reckon" = true)
  (kk_35:keepIn K (.ref f_qJ)=true)
  (a_36:findIn K (.ref c_Num) "words" = some (some (.ref f_qK)))
  (i_36:isFn K (.ref f_qK)=true)
  (l_36:K.lookup f_qK=some ⟨oc36,od36,.func (fS "words" "Num.words" Z9 kV36 dc36 pm36 an36 cd36 ct36),sl36⟩)
  (cc_36:codeIn K cd36 "Num.words" = true)
  (kk_36:keepIn K (.ref f_qK)=true)
  (a_37:findIn K (.ref c_Name) "__init__" = some (some (.ref f_qL)))
  (i_37:isFn K (.ref f_qL)=true)
  (l_37:K.lookup f_qL=some ⟨oc37,od37,.func (fS "__init__" "Name.__init__" Z8 kV37 dc37 pm37 an37 cd37 ct37),sl37⟩)
  (cc_37:codeIn K cd37 "Name.__init__" = true)
  (kk_37:keepIn K (.ref f_qL)=true)
  (a_38:findIn K (.ref c_Name) "reckon" = some (some (.ref f_qM)))
  (i_38:isFn K (.ref f_qM)=true)
  (l_38:K.lookup f_qM=some ⟨oc38,od38,.func (fS "reckon" "Name.reckon" Z7 kV38 dc38 pm38 an38 cd38 ct38),sl38⟩)
  (cc_38:codeIn K cd38 "Name.reckon" = true)
  (kk_38:keepIn K (.ref f_qM)=true)
  (a_39:findIn K (.ref c_Name) "words" = some (some (.ref f_qN)))
  (i_39:isFn K (.ref f_qN)=true)
  (l_39:K.lookup f_qN=some ⟨oc39,od39,.func (fS "words" "Name.words" Z6 kV39 dc39 pm39 an39 cd39 ct39),sl39⟩)
  (cc_39:codeIn K cd39 "Name.words" = true)
  (kk_39:keepIn K (.ref f_qN)=true)
  (a_40:findIn K (.ref c_Two) "__init__" = some (some (.ref f_qO)))
  (i_40:isFn K (.ref f_qO)=true)
  (l_40:K.lookup f_qO=some ⟨oc40,od40,.func (fS "__init__" "Two.__init__" Z5 kV40 dc40 pm40 an40 cd40 ct40),sl40⟩)
  (cc_40:codeIn K cd40 "Two.__init__" = true)
  (kk_40:keepIn K (.ref f_qO)=true)
  (a_41:findIn K (.ref c_Two) "reckon" = some (some (.ref f_qP)))
  (i_41:isFn K (.ref f_qP)=true)
  (l_41:K.lookup f_qP=some ⟨oc41,od41,.func (fS "reckon" "Two.reckon" Z4 kV41 dc41 pm41 an41 cd41 ct41),sl41⟩)
  (cc_41:codeIn K cd41 "Two.reckon" = true)
  (kk_41:keepIn K (.ref f_qP)=true)
  (a_42:findIn K (.ref c_Two) "words" = some (some (.ref f_qQ)))
  (i_42:isFn K (.ref f_qQ)=true)
  (l_42:K.lookup f_qQ=some ⟨oc42,od42,.func (fS "words" "Two.words" Z3 kV42 dc42 pm42 an42 cd42 ct42),sl42⟩)
  (cc_42:codeIn K cd42 "Two.words" = true)
  (kk_42:keepIn K (.ref f_qQ)=true)
  (a_43:findIn K (.ref c_Mod) "__init__" = some (some (.ref f_qR)))
  (i_43:isFn K (.ref f_qR)=true)
  (l_43:K.lookup f_qR=some ⟨oc43,od43,.func (fS "__init__" "Mod.__init__" Z2 kV43 dc43 pm43 an43 cd43 ct43),sl43⟩)
  (cc_43:codeIn K cd43 "Mod.__init__" = true)
  (kk_43:keepIn K (.ref f_qR)=true)
  (a_44:findIn K (.ref c_Mod) "reckon" = some (some (.ref f_qS)))
  (i_44:isFn K (.ref f_qS)=true)
  (l_44:K.lookup f_qS=some ⟨oc44,od44,.func (fS "reckon" "Mod.reckon" Z1 kV44 dc44 pm44 an44 cd44 ct44),sl44⟩)
  (cc_44:codeIn K cd44 "Mod.reckon" = true)
  (kk_44:keepIn K (.ref f_qS)=true)
  (a_45:findIn K (.ref c_Mod) "words" = some (some (.ref f_qT)))
  (i_45:isFn K (.ref f_qT)=true)
  (l_45:K.lookup f_qT=some ⟨oc45,od45,.func (fS "words" "Mod.words" Z0 kV45 dc45 pm45 an45 cd45 ct45),sl45⟩)
  (cc_45:codeIn K cd45 "Mod.words" = true)
  (kk_45:keepIn K (.ref f_qT)=true)
  (a_46:findIn K (.ref c_Less) "__init__" = some (some (.ref f_qU)))
  (i_46:isFn K (.ref f_qU)=true)
  (l_46:K.lookup f_qU=some ⟨oc46,od46,.func (fS "__init__" "Less.__init__" ZZ kV46 dc46 pm46 an46 cd46 ct46),sl46⟩)
  (cc_46:codeIn K cd46 "Less.__init__" = true)
  (kk_46:keepIn K (.ref f_qU)=true)
  (a_47:findIn K (.ref c_Less) "reckon" = some (some (.ref f_qV)))
  (i_47:isFn K (.ref f_qV)=true)
  (l_47:K.lookup f_qV=some ⟨oc47,od47,.func (fS "reckon" "Less.reckon" ZY kV47 dc47 pm47 an47 cd47 ct47),sl47⟩)
  (cc_47:codeIn K cd47 "Less.reckon" = true)
  (kk_47:keepIn K (.ref f_qV)=true)
  (a_48:findIn K (.ref c_Less) "words" = some (some (.ref f_qW)))
  (i_48:isFn K (.ref f_qW)=true)
  (l_48:K.lookup f_qW=some ⟨oc48,od48,.func (fS "words" "Less.words" ZX kV48 dc48 pm48 an48 cd48 ct48),sl48⟩)
  (cc_48:codeIn K cd48 "Less.words" = true)
  (kk_48:keepIn K (.ref f_qW)=true)
  (a_49:findIn K (.ref c_Program) "__init__" = some (some (.ref f_qX)))
  (i_49:isFn K (.ref f_qX)=true)
  (l_49:K.lookup f_qX=some ⟨oc49,od49,.func (fS "__init__" "Program.__init__" ZW kV49 dc49 pm49 an49 cd49 ct49),sl49⟩)
  (cc_49:codeIn K cd49 "Program.__init__" = true)
  (kk_49:keepIn K (.ref f_qX)=true)
  (a_50:findIn K (.ref c_Program) "first_worth" = some (some (.ref f_qY)))
  (i_50:isFn K (.ref f_qY)=true)
  (l_50:K.lookup f_qY=some ⟨oc50,od50,.func (fS "first_worth" "Program.first_worth" uN kV50 dc50 pm50 an50 cd50 ct50),sl50⟩)
  (cc_50:codeIn K cd50 "Program.first_worth" = true)
  (kk_50:keepIn K (.ref f_qY)=true)
  (a_51:findIn K (.ref c_Program) "word_to" = some (some (.ref f_qZ)))
  (i_51:isFn K (.ref f_qZ)=true)
  (l_51:K.lookup f_qZ=some ⟨oc51,od51,.func (fS "word_to" "Program.word_to" vQ kV51 dc51 pm51 an51 cd51 ct51),sl51⟩)
  (cc_51:codeIn K cd51 "Program.word_to" = true)
  (kk_51:keepIn K (.ref f_qZ)=true)
  (a_52:findIn K (.ref c_Program) "next_worth" = some (some (.ref f_qa0)))
  (i_52:isFn K (.ref f_qa0)=true)
  (l_52:K.lookup f_qa0=some ⟨oc52,od52,.func (fS "next_worth" "Program.next_worth" wk kV52 dc52 pm52 an52 cd52 ct52),sl52⟩)
  (cc_52:codeIn K cd52 "Program.next_worth" = true)
  (kk_52:keepIn K (.ref f_qa0)=true)
  (a_53:findIn K (.ref c_Web) "__init__" = some (some (.ref f_qa1)))
  (i_53:isFn K (.ref f_qa1)=true)
  (l_53:K.lookup f_qa1=some ⟨oc53,od53,.func (fS "__init__" "Web.__init__" ve kV53 dc53 pm53 an53 cd53 ct53),sl53⟩)
  (cc_53:codeIn K cd53 "Web.__init__" = true)
  (kk_53:keepIn K (.ref f_qa1)=true)
  (a_54:findIn K (.ref c_Web) "hands" = some (some (.ref f_qa2)))
  (i_54:isFn K (.ref f_qa2)=true)
  (l_54:K.lookup f_qa2=some ⟨oc54,od54,.func (fS "hands" "Web.hands" vd kV54 dc54 pm54 an54 cd54 ct54),sl54⟩)
  (cc_54:codeIn K cd54 "Web.hands" = true)
  (kk_54:keepIn K (.ref f_qa2)=true)
  (a_55:findIn K (.ref c_Web) "lines" = some (some (.ref f_qa3)))
  (i_55:isFn K (.ref f_qa3)=true)
  (l_55:K.lookup f_qa3=some ⟨oc55,od55,.func (fS "lines" "Web.lines" um kV55 dc55 pm55 an55 cd55 ct55),sl55⟩)
  (cc_55:codeIn K cd55 "Web.lines" = true)
  (kk_55:keepIn K (.ref f_qa3)=true)
  (a_56:findIn K (.ref c_Web) "has_hand" = some (some (.ref f_qa4)))
  (i_56:isFn K (.ref f_qa4)=true)
  (l_56:K.lookup f_qa4=some ⟨oc56,od56,.func (fS "has_hand" "Web.has_hand" vc kV56 dc56 pm56 an56 cd56 ct56),sl56⟩)
  (cc_56:codeIn K cd56 "Web.has_hand" = true)
  (kk_56:keepIn K (.ref f_qa4)=true)
  (a_57:findIn K (.ref c_Web) "neighbours" = some (some (.ref f_qa5)))
  (i_57:isFn K (.ref f_qa5)=true)
  (l_57:K.lookup f_qa5=some ⟨oc57,od57,.func (fS "neighbours" "Web.neighbours" vb kV57 dc57 pm57 an57 cd57 ct57),sl57⟩)
  (cc_57:codeIn K cd57 "Web.neighbours" = true)
  (kk_57:keepIn K (.ref f_qa5)=true)
  (pg_Num:plainGet K c_Num Str.empty=true)
  (hd_Num:hasDictIn K c_Num=true)
  (po_Num:plainOver K c_Num=true)
  (sa_Num:findIn K (.ref c_Num) "__setattr__" = some (some (.builtin "object.__setattr__")))
  (mk_Num:makesIn K c_Num=true)
  (kc_Num:keepIn K (.ref c_Num)=true)
  (ha_Num:findIn K (.ref c_Num) "__class__" = some (some (.builtin "object.__class__")))
  (hm_Num:mroIn K c_Num (.type "object")=some true)
  (na_Num_value:findIn K (.ref c_Num) "value" = some none)
  (pg_Name:plainGet K c_Name Str.empty=true)
  (hd_Name:hasDictIn K c_Name=true)
  (po_Name:plainOver K c_Name=true)
  (sa_Name:findIn K (.ref c_Name) "__setattr__" = some (some (.builtin "object.__setattr__")))
  (mk_Name:makesIn K c_Name=true)
  (kc_Name:keepIn K (.ref c_Name)=true)
  (ha_Name:findIn K (.ref c_Name) "__class__" = some (some (.builtin "object.__class__")))
  (hm_Name:mroIn K c_Name (.type "object")=some true)
  (na_Name_word:findIn K (.ref c_Name) "word" = some none)
  (pg_Two:plainGet K c_Two Str.empty=true)
  (hd_Two:hasDictIn K c_Two=true)
  (po_Two:plainOver K c_Two=true)
  (sa_Two:findIn K (.ref c_Two) "__setattr__" = some (some (.builtin "object.__setattr__")))
  (mk_Two:makesIn K c_Two=true)
  (kc_Two:keepIn K (.ref c_Two)=true)
  (ha_Two:findIn K (.ref c_Two) "__class__" = some (some (.builtin "object.__class__")))
  (hm_Two:mroIn K c_Two (.type "object")=some true)
  (na_Two_word:findIn K (.ref c_Two) "word" = some none)
  (na_Two_one:findIn K (.ref c_Two) "one" = some none)
  (na_Two_other:findIn K (.ref c_Two) "other" = some none)
  (pg_Mod:plainGet K c_Mod Str.empty=true)
  (hd_Mod:hasDictIn K c_Mod=true)
  (po_Mod:plainOver K c_Mod=true)
  (sa_Mod:findIn K (.ref c_Mod) "__setattr__" = some (some (.builtin "object.__setattr__")))
  (mk_Mod:makesIn K c_Mod=true)
  (kc_Mod:keepIn K (.ref c_Mod)=true)
  (ha_Mod:findIn K (.ref c_Mod) "__class__" = some (some (.builtin "object.__class__")))
  (hm_Mod:mroIn K c_Mod (.type "object")=some true)
  (na_Mod_inner:findIn K (.ref c_Mod) "inner" = some none)
  (na_Mod_number:findIn K (.ref c_Mod) "number" = some none)
  (pg_Less:plainGet K c_Less Str.empty=true)
  (hd_Less:hasDictIn K c_Less=true)
  (po_Less:plainOver K c_Less=true)
  (sa_Less:findIn K (.ref c_Less) "__setattr__" = some (some (.builtin "object.__setattr__")))
  (mk_Less:makesIn K c_Less=true)
  (kc_Less:keepIn K (.ref c_Less)=true)
  (ha_Less:findIn K (.ref c_Less) "__class__" = some (some (.builtin "object.__class__")))
  (hm_Less:mroIn K c_Less (.type "object")=some true)
  (na_Less_one:findIn K (.ref c_Less) "one" = some none)
  (na_Less_other:findIn K (.ref c_Less) "other" = some none)
  (na_Less_third:findIn K (.ref c_Less) "third" = some none)
  (na_Less_fourth:findIn K (.ref c_Less) "fourth" = some none)
  (pg_Program:plainGet K c_Program Str.empty=true)
  (hd_Program:hasDictIn K c_Program=true)
  (po_Program:plainOver K c_Program=true)
  (sa_Program:findIn K (.ref c_Program) "__setattr__" = some (some (.builtin "object.__setattr__")))
  (mk_Program:makesIn K c_Program=true)
  (kc_Program:keepIn K (.ref c_Program)=true)
  (ha_Program:findIn K (.ref c_Program) "__class__" = some (some (.builtin "object.__class__")))
  (hm_Program:mroIn K c_Program (.type "object")=some true)
  (na_Program_start:findIn K (.ref c_Program) "start" = some none)
  (na_Program_send:findIn K (.ref c_Program) "send" = some none)
  (na_Program_when:findIn K (.ref c_Program) "when" = some none)
  (na_Program_renew:findIn K (.ref c_Program) "renew" = some none)
  (pg_Web:plainGet K c_Web Str.empty=true)
  (hd_Web:hasDictIn K c_Web=true)
  (po_Web:plainOver K c_Web=true)
  (sa_Web:findIn K (.ref c_Web) "__setattr__" = some (some (.builtin "object.__setattr__")))
  (mk_Web:makesIn K c_Web=true)
  (kc_Web:keepIn K (.ref c_Web)=true)
  (ha_Web:findIn K (.ref c_Web) "__class__" = some (some (.builtin "object.__class__")))
  (hm_Web:mroIn K c_Web (.type "object")=some true)
  (na_Web_own_hands:findIn K (.ref c_Web) "own_hands" = some none)
  (na_Web_own_lines:findIn K (.ref c_Web) "own_lines" = some none)
  (na_Web_near:findIn K (.ref c_Web) "near" = some none)
  (hn:specialIn K (.builtin "object.__class__") "__get__" = some (some (.builtin "getset_descriptor.__get__")))
  (htk:takesIn K (.builtin "object.__class__")=some true)
  (k_Num_Num:kitOne K (.ref c_Num) (.ref c_Num)=some true)
  (k_Name_Num:kitOne K (.ref c_Name) (.ref c_Num)=some false)
  (k_Name_Name:kitOne K (.ref c_Name) (.ref c_Name)=some true)
  (k_Two_Num:kitOne K (.ref c_Two) (.ref c_Num)=some false)
  (k_Two_Name:kitOne K (.ref c_Two) (.ref c_Name)=some false)
  (k_Two_Two:kitOne K (.ref c_Two) (.ref c_Two)=some true)
  (k_Mod_Num:kitOne K (.ref c_Mod) (.ref c_Num)=some false)
  (k_Mod_Name:kitOne K (.ref c_Mod) (.ref c_Name)=some false)
  (k_Mod_Two:kitOne K (.ref c_Mod) (.ref c_Two)=some false)
  (k_Mod_Mod:kitOne K (.ref c_Mod) (.ref c_Mod)=some true)
  (k_Less_Num:kitOne K (.ref c_Less) (.ref c_Num)=some false)
  (k_Less_Name:kitOne K (.ref c_Less) (.ref c_Name)=some false)
  (k_Less_Two:kitOne K (.ref c_Less) (.ref c_Two)=some false)
  (k_Less_Mod:kitOne K (.ref c_Less) (.ref c_Mod)=some false)
  (k_Less_Less:kitOne K (.ref c_Less) (.ref c_Less)=some true)
  (k_tint_tint:kitOne K (.type "int") (.type "int")=some true)
  (k_tint_tbool:kitOne K (.type "int") (.type "bool")=some false)
  (k_tstr_tstr:kitOne K (.type "str") (.type "str")=some true)
  (k_ttuple_ttuple:kitOne K (.type "tuple") (.type "tuple")=some true)
  (k_tint_ttuple:kitOne K (.type "int") (.type "tuple")=some false)
  (k_tstr_ttuple:kitOne K (.type "str") (.type "tuple")=some false)
  (k_tint_tstr:kitOne K (.type "int") (.type "str")=some false)
  (k_tstr_tint:kitOne K (.type "str") (.type "int")=some false)
  (k_tstr_tbool:kitOne K (.type "str") (.type "bool")=some false)
  (k_Program_Program:kitOne K (.ref c_Program) (.ref c_Program)=some true)
  (k_tNoneType_tbool:kitOne K (.type "NoneType") (.type "bool")=some false)
  (k_tlist_tlist:kitOne K (.type "list") (.type "list")=some true)
  (G_START_NAMES:nsIn K mainGlobals "START_NAMES" = some (some (.ref t_START_NAMES)))
  (L_START_NAMES:K.lookup t_START_NAMES=some ⟨.type "tuple",od_START_NAMES,.seq #[.str "me" u_START_NAMES0,.str "lines" u_START_NAMES1] n_START_NAMES,sl_START_NAMES⟩)
  (G_SEND_NAMES:nsIn K mainGlobals "SEND_NAMES" = some (some (.ref t_SEND_NAMES)))
  (L_SEND_NAMES:K.lookup t_SEND_NAMES=some ⟨.type "tuple",od_SEND_NAMES,.seq #[.str "worth" u_SEND_NAMES0,.str "me" u_SEND_NAMES1,.str "round" u_SEND_NAMES2,.str "lines" u_SEND_NAMES3,.str "to" u_SEND_NAMES4] n_SEND_NAMES,sl_SEND_NAMES⟩)
  (G_RENEW_NAMES:nsIn K mainGlobals "RENEW_NAMES" = some (some (.ref t_RENEW_NAMES)))
  (L_RENEW_NAMES:K.lookup t_RENEW_NAMES=some ⟨.type "tuple",od_RENEW_NAMES,.seq #[.str "worth" u_RENEW_NAMES0,.str "me" u_RENEW_NAMES1,.str "round" u_RENEW_NAMES2,.str "lines" u_RENEW_NAMES3,.str "sum" u_RENEW_NAMES4,.str "least" u_RENEW_NAMES5,.str "most" u_RENEW_NAMES6,.str "count" u_RENEW_NAMES7] n_RENEW_NAMES,sl_RENEW_NAMES⟩)
  (G_TWO_WORDS:nsIn K mainGlobals "TWO_WORDS" = some (some (.ref t_TWO_WORDS)))
  (L_TWO_WORDS:K.lookup t_TWO_WORDS=some ⟨.type "tuple",od_TWO_WORDS,.seq #[.str "add" u_TWO_WORDS0,.str "sub" u_TWO_WORDS1,.str "min" u_TWO_WORDS2,.str "max" u_TWO_WORDS3] n_TWO_WORDS,sl_TWO_WORDS⟩)
  (G_MOST_WORDS:nsIn K mainGlobals "MOST_WORDS" = some (some (.int 60 t_MOST_WORDS)))
  (G_MOST_DEEP:nsIn K mainGlobals "MOST_DEEP" = some (some (.int 8 t_MOST_DEEP)))
  (G_MOST_HANDS:nsIn K mainGlobals "MOST_HANDS" = some (some (.int 12 t_MOST_HANDS)))
  (G_LAST_HAND:nsIn K mainGlobals "LAST_HAND" = some (some (.int 99 t_LAST_HAND))) :
  ∃ a:Ad,Txt w K mg a:=by
 have F0:=zt (st:=ZV) l_0 cc_0 kk_0
 have F1:=zt (st:=ZU) l_1 cc_1 kk_1
 have F2:=zt (st:=ZT) l_2 cc_2 kk_2
 have F3:=zt (st:=ZS) l_3 cc_3 kk_3
 have F4:=zt (st:=ZR) l_4 cc_4 kk_4
 have F5:=zt (st:=ZQ) l_5 cc_5 kk_5
 have F6:=zt (st:=ZP) l_6 cc_6 kk_6
 have F7:=zt (st:=ZO) l_7 cc_7 kk_7
 have F8:=zt (st:=ZN) l_8 cc_8 kk_8
 have F9:=zt (st:=ZM) l_9 cc_9 kk_9
 have F10:=zt (st:=ZL) l_10 cc_10 kk_10
 have F11:=zt (st:=ZK) l_11 cc_11 kk_11
 have F12:=zt (st:=ZJ) l_12 cc_12 kk_12
 have F13:=zt (st:=ZI) l_13 cc_13 kk_13
 have F14:=zt (st:=uM) l_14 cc_14 kk_14
 have F15:=zt (st:=ZH) l_15 cc_15 kk_15
 have F16:=zt (st:=ZG) l_16 cc_16 kk_16
 have F17:=zt (st:=ZF) l_17 cc_17 kk_17
 have F18:=zt (st:=ZE) l_18 cc_18 kk_18
 have F19:=zt (st:=ZD) l_19 cc_19 kk_19
 have F20:=zt (st:=ZC) l_20 cc_20 kk_20
 have F21:=zt (st:=uL) l_21 cc_21 kk_21
 have F22:=zt (st:=ZB) l_22 cc_22 kk_22
 have F23:=zt (st:=ZA) l_23 cc_23 kk_23
 have F24:=zt (st:=Zz) l_24 cc_24 kk_24
 have F25:=zt (st:=Zy) l_25 cc_25 kk_25
 have F26:=zt (st:=Yh) l_26 cc_26 kk_26
 have F27:=zt (st:=Yg) l_27 cc_27 kk_27
 have F28:=zt (st:=Yf) l_28 cc_28 kk_28
 have F29:=zt (st:=uQ) l_29 cc_29 kk_29
 have F30:=zt (st:=Ye) l_30 cc_30 kk_30
 have F31:=zt (st:=Yd) l_31 cc_31 kk_31
 have F32:=zt (st:=Yc) l_32 cc_32 kk_32
 have F33:=zt (st:=uP) l_33 cc_33 kk_33
 have F34:=zt (st:=Yb) l_34 cc_34 kk_34
 have F35:=zt (st:=Ya) l_35 cc_35 kk_35
 have F36:=zt (st:=Z9) l_36 cc_36 kk_36
 have F37:=zt (st:=Z8) l_37 cc_37 kk_37
 have F38:=zt (st:=Z7) l_38 cc_38 kk_38
 have F39:=zt (st:=Z6) l_39 cc_39 kk_39
 have F40:=zt (st:=Z5) l_40 cc_40 kk_40
 have F41:=zt (st:=Z4) l_41 cc_41 kk_41
 have F42:=zt (st:=Z3) l_42 cc_42 kk_42
 have F43:=zt (st:=Z2) l_43 cc_43 kk_43
 have F44:=zt (st:=Z1) l_44 cc_44 kk_44
 have F45:=zt (st:=Z0) l_45 cc_45 kk_45
 have F46:=zt (st:=ZZ) l_46 cc_46 kk_46
 have F47:=zt (st:=ZY) l_47 cc_47 kk_47
 have F48:=zt (st:=ZX) l_48 cc_48 kk_48
 have F49:=zt (st:=ZW) l_49 cc_49 kk_49
 have F50:=zt (st:=uN) l_50 cc_50 kk_50
 have F51:=zt (st:=vQ) l_51 cc_51 kk_51
 have F52:=zt (st:=wk) l_52 cc_52 kk_52
 have F53:=zt (st:=ve) l_53 cc_53 kk_53
 have F54:=zt (st:=vd) l_54 cc_54 kk_54
 have F55:=zt (st:=um) l_55 cc_55 kk_55
 have F56:=zt (st:=vc) l_56 cc_56 kk_56
 have F57:=zt (st:=vb) l_57 cc_57 kk_57
 refine⟨⟨f_qa,fS "first_worths" "first_worths" ZV kV0 dc0 pm0 an0 cd0 ct0,f_qb,fS "heard_in" "heard_in" ZU kV1 dc1 pm1 an1 cd1 ct1,f_qc,fS "worths_behind" "worths_behind" ZT kV2 dc2 pm2 an2 cd2 ct2,f_qd,fS "run_pieces" "run_pieces" ZS kV3 dc3 pm3 an3 cd3 ct3,f_qe,fS "worths_by_pieces" "worths_by_pieces" ZR kV4 dc4 pm4 an4 cd4 ct4,f_qf,fS "heard_by_pieces" "heard_by_pieces" ZQ kV5 dc5 pm5 an5 cd5 ct5,f_qg,fS "plain_worths" "plain_worths" ZP kV6 dc6 pm6 an6 cd6 ct6,f_qh,fS "plain_heard" "plain_heard" ZO kV7 dc7 pm7 an7 cd7 ct7,f_qi,fS "is_whole" "is_whole" ZN kV8 dc8 pm8 an8 cd8 ct8,f_qj,fS "is_short_number" "is_short_number" ZM kV9 dc9 pm9 an9 cd9 ct9,f_qk,fS "is_word_of" "is_word_of" ZL kV10 dc10 pm10 an10 cd10 ct10,f_ql,fS "is_divisor" "is_divisor" ZK kV11 dc11 pm11 an11 cd11 ct11,f_qm,fS "are_sound" "are_sound" ZJ kV12 dc12 pm12 an12 cd12 ct12,f_qn,fS "is_sound" "is_sound" ZI kV13 dc13 pm13 an13 cd13 ct13,f_qo,fS "count_words" "count_words" uM kV14 dc14 pm14 an14 cd14 ct14,f_qp,fS "are_hands" "are_hands" ZH kV15 dc15 pm15 an15 cd15 ct15,f_qq,fS "is_line" "is_line" ZG kV16 dc16 pm16 an16 cd16 ct16,f_qr,fS "are_lines" "are_lines" ZF kV17 dc17 pm17 an17 cd17 ct17,f_qs,fS "near_by_hand" "near_by_hand" ZE kV18 dc18 pm18 an18 cd18 ct18,f_qt,fS "_law_cell_at" "_law_cell_at" ZD kV19 dc19 pm19 an19 cd19 ct19,f_qu,fS "_law_draws" "_law_draws" ZC kV20 dc20 pm20 an20 cd20 ct20,f_qv,fS "_law_take" "_law_take" uL kV21 dc21 pm21 an21 cd21 ct21,f_qw,fS "_law_hands" "_law_hands" ZB kV22 dc22 pm22 an22 cd22 ct22,f_qx,fS "_law_lines" "_law_lines" ZA kV23 dc23 pm23 an23 cd23 ct23,f_qy,fS "_law_expr" "_law_expr" Zz kV24 dc24 pm24 an24 cd24 ct24,f_qz,fS "_law_program" "_law_program" Zy kV25 dc25 pm25 an25 cd25 ct25,f_qA,fS "_law_heard_names" "_law_heard_names" Yh kV26 dc26 pm26 an26 cd26 ct26,f_qB,fS "_law_made" "_law_made" Yg kV27 dc27 pm27 an27 cd27 ct27,f_qC,fS "_law_program_made" "_law_program_made" Yf kV28 dc28 pm28 an28 cd28 ct28,f_qD,fS "_law_part" "_law_part" uQ kV29 dc29 pm29 an29 cd29 ct29,f_qE,fS "_law_pieces" "_law_pieces" Ye kV30 dc30 pm30 an30 cd30 ct30,f_qF,fS "_law_both" "_law_both" Yd kV31 dc31 pm31 an31 cd31 ct31,f_qG,fS "_law_cut" "_law_cut" Yc kV32 dc32 pm32 an32 cd32 ct32,f_qH,fS "law" "law" uP kV33 dc33 pm33 an33 cd33 ct33,f_qI,fS "__init__" "Num.__init__" Yb kV34 dc34 pm34 an34 cd34 ct34,f_qJ,fS "reckon" "Num.reckon" Ya kV35 dc35 pm35 an35 cd35 ct35,f_qK,fS "words" "Num.words" Z9 kV36 dc36 pm36 an36 cd36 ct36,f_qL,fS "__init__" "Name.__init__" Z8 kV37 dc37 pm37 an37 cd37 ct37,f_qM,fS "reckon" "Name.reckon" Z7 kV38 dc38 pm38 an38 cd38 ct38,f_qN,fS "words" "Name.words" Z6 kV39 dc39 pm39 an39 cd39 ct39,f_qO,fS "__init__" "Two.__init__" Z5 kV40 dc40 pm40 an40 cd40 ct40,f_qP,fS "reckon" "Two.reckon" Z4 kV41 dc41 pm41 an41 cd41 ct41,f_qQ,fS "words" "Two.words" Z3 kV42 dc42 pm42 an42 cd42 ct42,f_qR,fS "__init__" "Mod.__init__" Z2 kV43 dc43 pm43 an43 cd43 ct43,f_qS,fS "reckon" "Mod.reckon" Z1 kV44 dc44 pm44 an44 cd44 ct44,f_qT,fS "words" "Mod.words" Z0 kV45 dc45 pm45 an45 cd45 ct45,f_qU,fS "__init__" "Less.__init__" ZZ kV46 dc46 pm46 an46 cd46 ct46,f_qV,fS "reckon" "Less.reckon" ZY kV47 dc47 pm47 an47 cd47 ct47,f_qW,fS "words" "Less.words" ZX kV48 dc48 pm48 an48 cd48 ct48,f_qX,fS "__init__" "Program.__init__" ZW kV49 dc49 pm49 an49 cd49 ct49,f_qY,fS "first_worth" "Program.first_worth" uN kV50 dc50 pm50 an50 cd50 ct50,f_qZ,fS "word_to" "Program.word_to" vQ kV51 dc51 pm51 an51 cd51 ct51,f_qa0,fS "next_worth" "Program.next_worth" wk kV52 dc52 pm52 an52 cd52 ct52,f_qa1,fS "__init__" "Web.__init__" ve kV53 dc53 pm53 an53 cd53 ct53,f_qa2,fS "hands" "Web.hands" vd kV54 dc54 pm54 an54 cd54 ct54,f_qa3,fS "lines" "Web.lines" um kV55 dc55 pm55 an55 cd55 ct55,f_qa4,fS "has_hand" "Web.has_hand" vc kV56 dc56 pm56 an56 cd56 ct56,f_qa5,fS "neighbours" "Web.neighbours" vb kV57 dc57 pm57 an57 cd57 ct57,c_Num,c_Name,c_Two,c_Mod,c_Less,c_Program,c_Web,t_START_NAMES,t_SEND_NAMES,t_RENEW_NAMES,t_TWO_WORDS,t_MOST_WORDS,t_MOST_DEEP,t_MOST_HANDS,t_LAST_HAND⟩,?_⟩
 exact⟨mg_none_of X G z_len,
  mg_none_of X G z_int,
  mg_none_of X G z_min,
  mg_none_of X G z_max,
  mg_none_of X G z_range,
  mg_none_of X G z_isinstance,
  mg_none_of X G z_list,
  mg_none_of X G z_dict,
  mg_none_of X G z_abs,
  mg_none_of X G z_sorted,
  mg_none_of X G z_str,
  mg_none_of X G z_sum,
  mg_none_of X G z_bool,
  mg_none_of X G z_tuple,
  mg_none_of X G z_ValueError,
  F0,
  F0.binds (ps:=["web", "program"]) fun _ _ _ _ _ _ us hl=>match us,hl with | [_,_],_=>rfl,
  mg_of X G a_0,
  F1,
  F1.binds (ps:=["web", "program", "worths", "turn"]) fun _ _ _ _ _ _ us hl=>match us,hl with | [_,_,_,_],_=>rfl,
  mg_of X G a_1,
  F2,
  F2.binds (ps:=["web", "program", "worths", "turn", "heard"]) fun _ _ _ _ _ _ us hl=>match us,hl with | [_,_,_,_,_],_=>rfl,
  mg_of X G a_2,
  F3,
  F3.binds (ps:=["pieces", "program"]) fun _ _ _ _ _ _ us hl=>match us,hl with | [_,_],_=>rfl,
  mg_of X G a_3,
  F4,
  F4.binds (ps:=["pieces", "program"]) fun _ _ _ _ _ _ us hl=>match us,hl with | [_,_],_=>rfl,
  mg_of X G a_4,
  F5,
  F5.binds (ps:=["pieces", "program"]) fun _ _ _ _ _ _ us hl=>match us,hl with | [_,_],_=>rfl,
  mg_of X G a_5,
  F6,
  F6.binds (ps:=["web", "program", "rounds"]) fun _ _ _ _ _ _ us hl=>match us,hl with | [_,_,_],_=>rfl,
  mg_of X G a_6,
  F7,
  F7.binds (ps:=["web", "program", "rounds"]) fun _ _ _ _ _ _ us hl=>match us,hl with | [_,_,_],_=>rfl,
  mg_of X G a_7,
  F8,
  F8.binds (ps:=["value"]) fun _ _ _ _ _ _ us hl=>match us,hl with | [_],_=>rfl,
  mg_of X G a_8,
  F9,
  F9.binds (ps:=["value"]) fun _ _ _ _ _ _ us hl=>match us,hl with | [_],_=>rfl,
  mg_of X G a_9,
  F10,
  F10.binds (ps:=["word", "words"]) fun _ _ _ _ _ _ us hl=>match us,hl with | [_,_],_=>rfl,
  mg_of X G a_10,
  F11,
  F11.binds (ps:=["number"]) fun _ _ _ _ _ _ us hl=>match us,hl with | [_],_=>rfl,
  mg_of X G a_11,
  F12,
  F12.binds (ps:=["parts", "names", "deep"]) fun _ _ _ _ _ _ us hl=>match us,hl with | [_,_,_],_=>rfl,
  mg_of X G a_12,
  F13,
  F13.binds (ps:=["expr", "names", "deep"]) fun _ _ _ _ _ _ us hl=>match us,hl with | [_,_,_],_=>rfl,
  mg_of X G a_13,
  F14,
  F14.binds (ps:=["exprs"]) fun _ _ _ _ _ _ us hl=>match us,hl with | [_],_=>rfl,
  mg_of X G a_14,
  F15,
  F15.binds (ps:=["hands"]) fun _ _ _ _ _ _ us hl=>match us,hl with | [_],_=>rfl,
  mg_of X G a_15,
  F16,
  F16.binds (ps:=["line", "hands"]) fun _ _ _ _ _ _ us hl=>match us,hl with | [_,_],_=>rfl,
  mg_of X G a_16,
  F17,
  F17.binds (ps:=["lines", "hands"]) fun _ _ _ _ _ _ us hl=>match us,hl with | [_,_],_=>rfl,
  mg_of X G a_17,
  F18,
  F18.binds (ps:=["hands", "lines"]) fun _ _ _ _ _ _ us hl=>match us,hl with | [_,_],_=>rfl,
  mg_of X G a_18,
  F19,
  F19.binds (ps:=["_law_script", "_law_k"]) fun _ _ _ _ _ _ us hl=>match us,hl with | [_,_],_=>rfl,
  mg_of X G a_19,
  F20,
  F20.binds (ps:=["_law_cell", "_law_many"]) fun _ _ _ _ _ _ us hl=>match us,hl with | [_,_],_=>rfl,
  mg_of X G a_20,
  F21,
  F21.binds (ps:=["_law_xs", "_law_size"]) fun _ _ _ _ _ _ us hl=>match us,hl with | [_,_],_=>rfl,
  mg_of X G a_21,
  F22,
  F22.binds (ps:=["_law_xs", "_law_most"]) fun _ _ _ _ _ _ us hl=>match us,hl with | [_,_],_=>rfl,
  mg_of X G a_22,
  F23,
  F23.binds (ps:=["_law_xs", "_law_hands_here"]) fun _ _ _ _ _ _ us hl=>match us,hl with | [_,_],_=>rfl,
  mg_of X G a_23,
  F24,
  F24.binds (ps:=["_law_xs", "_law_names", "_law_deep"]) fun _ _ _ _ _ _ us hl=>match us,hl with | [_,_,_],_=>rfl,
  mg_of X G a_24,
  F25,
  F25.binds (ps:=["_law_cell"]) fun _ _ _ _ _ _ us hl=>match us,hl with | [_],_=>rfl,
  mg_of X G a_25,
  F26,
  F26.binds (ps:=[]) fun _ _ _ _ _ _ us hl=>match us,hl with | [],_=>rfl,
  mg_of X G a_26,
  F27,
  F27.binds (ps:=["_law_told"]) fun _ _ _ _ _ _ us hl=>match us,hl with | [_],_=>rfl,
  mg_of X G a_27,
  F28,
  F28.binds (ps:=["_law_program_here"]) fun _ _ _ _ _ _ us hl=>match us,hl with | [_],_=>rfl,
  mg_of X G a_28,
  F29,
  F29.binds (ps:=["_law_xs", "_law_hands_here"]) fun _ _ _ _ _ _ us hl=>match us,hl with | [_,_],_=>rfl,
  mg_of X G a_29,
  F30,
  F30.binds (ps:=["_law_script", "_law_at", "_law_most"]) fun _ _ _ _ _ _ us hl=>match us,hl with | [_,_,_],_=>rfl,
  mg_of X G a_30,
  F31,
  F31.binds (ps:=["_law_pieces_here", "_law_program_here"]) fun _ _ _ _ _ _ us hl=>match us,hl with | [_,_],_=>rfl,
  mg_of X G a_31,
  F32,
  F32.binds (ps:=["_law_pieces_here", "_law_at", "_law_many"]) fun _ _ _ _ _ _ us hl=>match us,hl with | [_,_,_],_=>rfl,
  mg_of X G a_32,
  F33,
  F33.binds (ps:=["_law_script"]) fun _ _ _ _ _ _ us hl=>match us,hl with | [_],_=>rfl,
  fun s v=>.of_eq rfl,
  mg_of X G a_33,
  F34,
  F34.binds (ps:=["self", "value"]) fun _ _ _ _ _ _ us hl=>match us,hl with | [_,_],_=>rfl,
  F35,
  F35.binds (ps:=["self", "worths"]) fun _ _ _ _ _ _ us hl=>match us,hl with | [_,_],_=>rfl,
  ⟨a_35,i_35,kk_35⟩,
  F36,
  F36.binds (ps:=["self"]) fun _ _ _ _ _ _ us hl=>match us,hl with | [_],_=>rfl,
  ⟨a_36,i_36,kk_36⟩,
  F37,
  F37.binds (ps:=["self", "word"]) fun _ _ _ _ _ _ us hl=>match us,hl with | [_,_],_=>rfl,
  F38,
  F38.binds (ps:=["self", "worths"]) fun _ _ _ _ _ _ us hl=>match us,hl with | [_,_],_=>rfl,
  ⟨a_38,i_38,kk_38⟩,
  F39,
  F39.binds (ps:=["self"]) fun _ _ _ _ _ _ us hl=>match us,hl with | [_],_=>rfl,
  ⟨a_39,i_39,kk_39⟩,
  F40,
  F40.binds (ps:=["self", "word", "one", "other"]) fun _ _ _ _ _ _ us hl=>match us,hl with | [_,_,_,_],_=>rfl,
  F41,
  F41.binds (ps:=["self", "worths"]) fun _ _ _ _ _ _ us hl=>match us,hl with | [_,_],_=>rfl,
  ⟨a_41,i_41,kk_41⟩,
  F42,
  F42.binds (ps:=["self"]) fun _ _ _ _ _ _ us hl=>match us,hl with | [_],_=>rfl,
  ⟨a_42,i_42,kk_42⟩,
  F43,
  F43.binds (ps:=["self", "inner", "number"]) fun _ _ _ _ _ _ us hl=>match us,hl with | [_,_,_],_=>rfl,
  F44,
  F44.binds (ps:=["self", "worths"]) fun _ _ _ _ _ _ us hl=>match us,hl with | [_,_],_=>rfl,
  ⟨a_44,i_44,kk_44⟩,
  F45,
  F45.binds (ps:=["self"]) fun _ _ _ _ _ _ us hl=>match us,hl with | [_],_=>rfl,
  ⟨a_45,i_45,kk_45⟩,
  F46,
  F46.binds (ps:=["self", "one", "other", "third", "fourth"]) fun _ _ _ _ _ _ us hl=>match us,hl with | [_,_,_,_,_],_=>rfl,
  F47,
  F47.binds (ps:=["self", "worths"]) fun _ _ _ _ _ _ us hl=>match us,hl with | [_,_],_=>rfl,
  ⟨a_47,i_47,kk_47⟩,
  F48,
  F48.binds (ps:=["self"]) fun _ _ _ _ _ _ us hl=>match us,hl with | [_],_=>rfl,
  ⟨a_48,i_48,kk_48⟩,
  F49,
  F49.binds (ps:=["self", "start", "send", "when", "renew"]) fun _ _ _ _ _ _ us hl=>match us,hl with | [_,_,_,_,_],_=>rfl,
  F50,
  F50.binds (ps:=["self", "hand", "lines"]) fun _ _ _ _ _ _ us hl=>match us,hl with | [_,_,_],_=>rfl,
  ⟨a_50,i_50,kk_50⟩,
  F51,
  F51.binds (ps:=["self", "worth", "hand", "turn", "lines", "other"]) fun _ _ _ _ _ _ us hl=>match us,hl with | [_,_,_,_,_,_],_=>rfl,
  ⟨a_51,i_51,kk_51⟩,
  F52,
  F52.binds (ps:=["self", "worth", "hand", "turn", "lines", "heard"]) fun _ _ _ _ _ _ us hl=>match us,hl with | [_,_,_,_,_,_],_=>rfl,
  ⟨a_52,i_52,kk_52⟩,
  F53,
  F53.binds (ps:=["self", "hands", "lines"]) fun _ _ _ _ _ _ us hl=>match us,hl with | [_,_,_],_=>rfl,
  F54,
  F54.binds (ps:=["self"]) fun _ _ _ _ _ _ us hl=>match us,hl with | [_],_=>rfl,
  ⟨a_54,i_54,kk_54⟩,
  F55,
  F55.binds (ps:=["self"]) fun _ _ _ _ _ _ us hl=>match us,hl with | [_],_=>rfl,
  ⟨a_55,i_55,kk_55⟩,
  F56,
  F56.binds (ps:=["self", "hand"]) fun _ _ _ _ _ _ us hl=>match us,hl with | [_,_],_=>rfl,
  ⟨a_56,i_56,kk_56⟩,
  F57,
  F57.binds (ps:=["self", "hand"]) fun _ _ _ _ _ _ us hl=>match us,hl with | [_,_],_=>rfl,
  ⟨a_57,i_57,kk_57⟩,
  mg_of X G A_Num,
  ⟨pg_Num,hd_Num,po_Num,sa_Num⟩,
  ⟨mk_Num,a_34,i_34,kc_Num⟩,
  fun H p dx fs e=>.ins e ⟨pg_Num,hd_Num,po_Num,sa_Num⟩ ha_Num hn htk hm_Num,
  na_Num_value,
  mg_of X G A_Name,
  ⟨pg_Name,hd_Name,po_Name,sa_Name⟩,
  ⟨mk_Name,a_37,i_37,kc_Name⟩,
  fun H p dx fs e=>.ins e ⟨pg_Name,hd_Name,po_Name,sa_Name⟩ ha_Name hn htk hm_Name,
  na_Name_word,
  mg_of X G A_Two,
  ⟨pg_Two,hd_Two,po_Two,sa_Two⟩,
  ⟨mk_Two,a_40,i_40,kc_Two⟩,
  fun H p dx fs e=>.ins e ⟨pg_Two,hd_Two,po_Two,sa_Two⟩ ha_Two hn htk hm_Two,
  na_Two_word,
  na_Two_one,
  na_Two_other,
  mg_of X G A_Mod,
  ⟨pg_Mod,hd_Mod,po_Mod,sa_Mod⟩,
  ⟨mk_Mod,a_43,i_43,kc_Mod⟩,
  fun H p dx fs e=>.ins e ⟨pg_Mod,hd_Mod,po_Mod,sa_Mod⟩ ha_Mod hn htk hm_Mod,
  na_Mod_inner,
  na_Mod_number,
  mg_of X G A_Less,
  ⟨pg_Less,hd_Less,po_Less,sa_Less⟩,
  ⟨mk_Less,a_46,i_46,kc_Less⟩,
  fun H p dx fs e=>.ins e ⟨pg_Less,hd_Less,po_Less,sa_Less⟩ ha_Less hn htk hm_Less,
  na_Less_one,
  na_Less_other,
  na_Less_third,
  na_Less_fourth,
  mg_of X G A_Program,
  ⟨pg_Program,hd_Program,po_Program,sa_Program⟩,
  ⟨mk_Program,a_49,i_49,kc_Program⟩,
  fun H p dx fs e=>.ins e ⟨pg_Program,hd_Program,po_Program,sa_Program⟩ ha_Program hn htk hm_Program,
  na_Program_start,
  na_Program_send,
  na_Program_when,
  na_Program_renew,
  mg_of X G A_Web,
  ⟨pg_Web,hd_Web,po_Web,sa_Web⟩,
  ⟨mk_Web,a_53,i_53,kc_Web⟩,
  fun H p dx fs e=>.ins e ⟨pg_Web,hd_Web,po_Web,sa_Web⟩ ha_Web hn htk hm_Web,
  na_Web_own_hands,
  na_Web_own_lines,
  na_Web_near,
  k_Num_Num,
  k_Name_Num,
  k_Name_Name,
  k_Two_Num,
  k_Two_Name,
  k_Two_Two,
  k_Mod_Num,
  k_Mod_Name,
  k_Mod_Two,
  k_Mod_Mod,
  k_Less_Num,
  k_Less_Name,
  k_Less_Two,
  k_Less_Mod,
  k_Less_Less,
  k_tint_tint,
  k_tint_tbool,
  k_tstr_tstr,
  k_ttuple_ttuple,
  k_tint_ttuple,
  k_tstr_ttuple,
  k_tint_tstr,
  k_tstr_tint,
  k_tstr_tbool,
  k_Program_Program,
  k_tNoneType_tbool,
  k_tlist_tlist,
  mg_of X G G_START_NAMES,
  fun H=>.inr ⟨_,_,_,L_START_NAMES,rfl,rfl,by show 2≤sizeLine;decide,by exact .cons ⟨_,rfl⟩ (.cons ⟨_,rfl⟩ (.nil))⟩,
  mg_of X G G_SEND_NAMES,
  fun H=>.inr ⟨_,_,_,L_SEND_NAMES,rfl,rfl,by show 5≤sizeLine;decide,by exact .cons ⟨_,rfl⟩ (.cons ⟨_,rfl⟩ (.cons ⟨_,rfl⟩ (.cons ⟨_,rfl⟩ (.cons ⟨_,rfl⟩ (.nil)))))⟩,
  mg_of X G G_RENEW_NAMES,
  fun H=>.inr ⟨_,_,_,L_RENEW_NAMES,rfl,rfl,by show 8≤sizeLine;decide,by exact .cons ⟨_,rfl⟩ (.cons ⟨_,rfl⟩ (.cons ⟨_,rfl⟩ (.cons ⟨_,rfl⟩ (.cons ⟨_,rfl⟩ (.cons ⟨_,rfl⟩ (.cons ⟨_,rfl⟩ (.cons ⟨_,rfl⟩ (.nil))))))))⟩,
  mg_of X G G_TWO_WORDS,
  fun H=>.inr ⟨_,_,_,L_TWO_WORDS,rfl,rfl,by show 4≤sizeLine;decide,by exact .cons ⟨_,rfl⟩ (.cons ⟨_,rfl⟩ (.cons ⟨_,rfl⟩ (.cons ⟨_,rfl⟩ (.nil))))⟩,
  mg_of X G G_MOST_WORDS,
  mg_of X G G_MOST_DEEP,
  mg_of X G G_MOST_HANDS,
  mg_of X G G_LAST_HAND⟩
end K04
open PySem PySem.W PyProof.Rows
set_option maxRecDepth 100000 in
set_option maxHeartbeats 0 in
theorem PySem.Challenge.cw_beatless_k24_whole_pieces_joined_holds : PySem.Challenge.rw_beatless_k24_whole_pieces_joined.Holds := by
 w_on;o_law
 refine holds_open (XP:=XL Hd.Q []) (YP:=(kHook Hd.K Hd.as Hd.asK).says) Hd.left Hd.hk.of Hd.hk.keeps
  (fun s z=>xl_of s (Hd.both z).1) XL.keeps (by rfl) (by rfl) (by rfl)
  (fun s z=>recFacts_of (Hd.both z).2) (by rfl) (by assumption) (by decide +kernel)
  ⟨rfl,rfl,rfl,rfl,rfl,by decide +kernel⟩ ?hw ?hc
 case hw=>w_witness2
 k_fill
 refine L2.walk_ofK (l:=PySem.Challenge.rw_beatless_k24_whole_pieces_joined) (n:=63) (k:=26) (x := "_law_script") (CX:=L2.CX0) (sp:=K04.spLaw) rfl (by decide) rfl ⟨rfl,by decide,by decide⟩ (fun w h Y=>PySem.W.kIn_of Y) ?F ?S ?C
 case F =>
  intro w mg fa h KX G hmg
  have T:∃ a,K04.Txt w (L2.KOf KX) mg a:=by
   dsimp only[L2.KOf]
   refine' K04.txt_mk KX G ?z_len ?z_int ?z_min ?z_max ?z_range ?z_isinstance ?z_list ?z_dict ?z_abs ?z_sorted ?z_str ?z_sum ?z_bool ?z_tuple ?z_ValueError ?A_Num ?A_Name ?A_Two ?A_Mod ?A_Less ?A_Program ?A_Web ?a_0 ?l_0 ?cc_0 ?kk_0 ?a_1 ?l_1 ?cc_1 ?kk_1 ?a_2 ?l_2 ?cc_2 ?kk_2 ?a_3 ?l_3 ?cc_3 ?kk_3 ?a_4 ?l_4 ?cc_4 ?kk_4 ?a_5 ?l_5 ?cc_5 ?kk_5 ?a_6 ?l_6 ?cc_6 ?kk_6 ?a_7 ?l_7 ?cc_7 ?kk_7 ?a_8 ?l_8 ?cc_8 ?kk_8 ?a_9 ?l_9 ?cc_9 ?kk_9 ?a_10 ?l_10 ?cc_10 ?kk_10 ?a_11 ?l_11 ?cc_11 ?kk_11 ?a_12 ?l_12 ?cc_12 ?kk_12 ?a_13 ?l_13 ?cc_13 ?kk_13 ?a_14 ?l_14 ?cc_14 ?kk_14 ?a_15 ?l_15 ?cc_15 ?kk_15 ?a_16 ?l_16 ?cc_16 ?kk_16 ?a_17 ?l_17 ?cc_17 ?kk_17 ?a_18 ?l_18 ?cc_18 ?kk_18 ?a_19 ?l_19 ?cc_19 ?kk_19 ?a_20 ?l_20 ?cc_20 ?kk_20 ?a_21 ?l_21 ?cc_21 ?kk_21 ?a_22 ?l_22 ?cc_22 ?kk_22 ?a_23 ?l_23 ?cc_23 ?kk_23 ?a_24 ?l_24 ?cc_24 ?kk_24 ?a_25 ?l_25 ?cc_25 ?kk_25 ?a_26 ?l_26 ?cc_26 ?kk_26 ?a_27 ?l_27 ?cc_27 ?kk_27 ?a_28 ?l_28 ?cc_28 ?kk_28 ?a_29 ?l_29 ?cc_29 ?kk_29 ?a_30 ?l_30 ?cc_30 ?kk_30 ?a_31 ?l_31 ?cc_31 ?kk_31 ?a_32 ?l_32 ?cc_32 ?kk_32 ?a_33 ?l_33 ?cc_33 ?kk_33 ?a_34 ?i_34 ?l_34 ?cc_34 ?kk_34 ?a_35 ?i_35 ?l_35 ?cc_35 ?kk_35 ?a_36 ?i_36 ?l_36 ?cc_36 ?kk_36 ?a_37 ?i_37 ?l_37 ?cc_37 ?kk_37 ?a_38 ?i_38 ?l_38 ?cc_38 ?kk_38 ?a_39 ?i_39 ?l_39 ?cc_39 ?kk_39 ?a_40 ?i_40 ?l_40 ?cc_40 ?kk_40 ?a_41 ?i_41 ?l_41 ?cc_41 ?kk_41 ?a_42 ?i_42 ?l_42 ?cc_42 ?kk_42 ?a_43 ?i_43 ?l_43 ?cc_43 ?kk_43 ?a_44 ?i_44 ?l_44 ?cc_44 ?kk_44 ?a_45 ?i_45 ?l_45 ?cc_45 ?kk_45 ?a_46 ?i_46 ?l_46 ?cc_46 ?kk_46 ?a_47 ?i_47 ?l_47 ?cc_47 ?kk_47 ?a_48 ?i_48 ?l_48 ?cc_48 ?kk_48 ?a_49 ?i_49 ?l_49 ?cc_49 ?kk_49 ?a_50 ?i_50 ?l_50 ?cc_50 ?kk_50 ?a_51 ?i_51 ?l_51 ?cc_51 ?kk_51 ?a_52 ?i_52 ?l_52 ?cc_52 ?kk_52 ?a_53 ?i_53 ?l_53 ?cc_53 ?kk_53 ?a_54 ?i_54 ?l_54 ?cc_54 ?kk_54 ?a_55 ?i_55 ?l_55 ?cc_55 ?kk_55 ?a_56 ?i_56 ?l_56 ?cc_56 ?kk_56 ?a_57 ?i_57 ?l_57 ?cc_57 ?kk_57 ?pg_Num ?hd_Num ?po_Num ?sa_Num ?mk_Num ?kc_Num ?ha_Num ?hm_Num ?na_Num_value ?pg_Name ?hd_Name ?po_Name ?sa_Name ?mk_Name ?kc_Name ?ha_Name ?hm_Name ?na_Name_word ?pg_Two ?hd_Two ?po_Two ?sa_Two ?mk_Two ?kc_Two ?ha_Two ?hm_Two ?na_Two_word ?na_Two_one ?na_Two_other ?pg_Mod ?hd_Mod ?po_Mod ?sa_Mod ?mk_Mod ?kc_Mod ?ha_Mod ?hm_Mod ?na_Mod_inner ?na_Mod_number ?pg_Less ?hd_Less ?po_Less ?sa_Less ?mk_Less ?kc_Less ?ha_Less ?hm_Less ?na_Less_one ?na_Less_other ?na_Less_third ?na_Less_fourth ?pg_Program ?hd_Program ?po_Program ?sa_Program ?mk_Program ?kc_Program ?ha_Program ?hm_Program ?na_Program_start ?na_Program_send ?na_Program_when ?na_Program_renew ?pg_Web ?hd_Web ?po_Web ?sa_Web ?mk_Web ?kc_Web ?ha_Web ?hm_Web ?na_Web_own_hands ?na_Web_own_lines ?na_Web_near ?hn ?htk ?k_Num_Num ?k_Name_Num ?k_Name_Name ?k_Two_Num ?k_Two_Name ?k_Two_Two ?k_Mod_Num ?k_Mod_Name ?k_Mod_Two ?k_Mod_Mod ?k_Less_Num ?k_Less_Name ?k_Less_Two ?k_Less_Mod ?k_Less_Less ?k_tint_tint ?k_tint_tbool ?k_tstr_tstr ?k_ttuple_ttuple ?k_tint_ttuple ?k_tstr_ttuple ?k_tint_tstr ?k_tstr_tint ?k_tstr_tbool ?k_Program_Program ?k_tNoneType_tbool ?k_tlist_tlist ?G_START_NAMES ?L_START_NAMES ?G_SEND_NAMES ?L_SEND_NAMES ?G_RENEW_NAMES ?L_RENEW_NAMES ?G_TWO_WORDS ?L_TWO_WORDS ?G_MOST_WORDS ?G_MOST_DEEP ?G_MOST_HANDS ?G_LAST_HAND
   (case z_len=>k_is)
   (case z_int=>k_is)
   (case z_min=>k_is)
   (case z_max=>k_is)
   (case z_range=>k_is)
   (case z_isinstance=>k_is)
   (case z_list=>k_is)
   (case z_dict=>k_is)
   (case z_abs=>k_is)
   (case z_sorted=>k_is)
   (case z_str=>k_is)
   (case z_sum=>k_is)
   (case z_bool=>k_is)
   (case z_tuple=>k_is)
   (case z_ValueError=>k_is)
   (case A_Num=>k_is)
   (case A_Name=>k_is)
   (case A_Two=>k_is)
   (case A_Mod=>k_is)
   (case A_Less=>k_is)
   (case A_Program=>k_is)
   (case A_Web=>k_is)
   (case a_0=>k_is)
   (case l_0=>k_is)
   (case cc_0=>k_is)
   (case kk_0=>k_is)
   (case a_1=>k_is)
   (case l_1=>k_is)
   (case cc_1=>k_is)
   (case kk_1=>k_is)
   (case a_2=>k_is)
   (case l_2=>k_is)
   (case cc_2=>k_is)
   (case kk_2=>k_is)
   (case a_3=>k_is)
   (case l_3=>k_is)
   (case cc_3=>k_is)
   (case kk_3=>k_is)
   (case a_4=>k_is)
   (case l_4=>k_is)
   (case cc_4=>k_is)
   (case kk_4=>k_is)
   (case a_5=>k_is)
   (case l_5=>k_is)
   (case cc_5=>k_is)
   (case kk_5=>k_is)
   (case a_6=>k_is)
   (case l_6=>k_is)
   (case cc_6=>k_is)
   (case kk_6=>k_is)
   (case a_7=>k_is)
   (case l_7=>k_is)
   (case cc_7=>k_is)
   (case kk_7=>k_is)
   (case a_8=>k_is)
   (case l_8=>k_is)
   (case cc_8=>k_is)
   (case kk_8=>k_is)
   (case a_9=>k_is)
   (case l_9=>k_is)
   (case cc_9=>k_is)
   (case kk_9=>k_is)
   (case a_10=>k_is)
   (case l_10=>k_is)
   (case cc_10=>k_is)
   (case kk_10=>k_is)
   (case a_11=>k_is)
   (case l_11=>k_is)
   (case cc_11=>k_is)
   (case kk_11=>k_is)
   (case a_12=>k_is)
   (case l_12=>k_is)
   (case cc_12=>k_is)
   (case kk_12=>k_is)
   (case a_13=>k_is)
   (case l_13=>k_is)
   (case cc_13=>k_is)
   (case kk_13=>k_is)
   (case a_14=>k_is)
   (case l_14=>k_is)
   (case cc_14=>k_is)
   (case kk_14=>k_is)
   (case a_15=>k_is)
   (case l_15=>k_is)
   (case cc_15=>k_is)
   (case kk_15=>k_is)
   (case a_16=>k_is)
   (case l_16=>k_is)
   (case cc_16=>k_is)
   (case kk_16=>k_is)
   (case a_17=>k_is)
   (case l_17=>k_is)
   (case cc_17=>k_is)
   (case kk_17=>k_is)
   (case a_18=>k_is)
   (case l_18=>k_is)
   (case cc_18=>k_is)
   (case kk_18=>k_is)
   (case a_19=>k_is)
   (case l_19=>k_is)
   (case cc_19=>k_is)
   (case kk_19=>k_is)
   (case a_20=>k_is)
   (case l_20=>k_is)
   (case cc_20=>k_is)
   (case kk_20=>k_is)
   (case a_21=>k_is)
   (case l_21=>k_is)
   (case cc_21=>k_is)
   (case kk_21=>k_is)
   (case a_22=>k_is)
   (case l_22=>k_is)
   (case cc_22=>k_is)
   (case kk_22=>k_is)
   (case a_23=>k_is)
   (case l_23=>k_is)
   (case cc_23=>k_is)
   (case kk_23=>k_is)
   (case a_24=>k_is)
   (case l_24=>k_is)
   (case cc_24=>k_is)
   (case kk_24=>k_is)
   (case a_25=>k_is)
   (case l_25=>k_is)
   (case cc_25=>k_is)
   (case kk_25=>k_is)
   (case a_26=>k_is)
   (case l_26=>k_is)
   (case cc_26=>k_is)
   (case kk_26=>k_is)
   (case a_27=>k_is)
   (case l_27=>k_is)
   (case cc_27=>k_is)
   (case kk_27=>k_is)
   (case a_28=>k_is)
   (case l_28=>k_is)
   (case cc_28=>k_is)
   (case kk_28=>k_is)
   (case a_29=>k_is)
   (case l_29=>k_is)
   (case cc_29=>k_is)
   (case kk_29=>k_is)
   (case a_30=>k_is)
   (case l_30=>k_is)
   (case cc_30=>k_is)
   (case kk_30=>k_is)
   (case a_31=>k_is)
   (case l_31=>k_is)
   (case cc_31=>k_is)
   (case kk_31=>k_is)
   (case a_32=>k_is)
   (case l_32=>k_is)
   (case cc_32=>k_is)
   (case kk_32=>k_is)
   (case a_33=>k_is)
   (case l_33=>k_is)
   (case cc_33=>k_is)
   (case kk_33=>k_is)
   (case a_34=>k_is)
   (case i_34=>k_is)
   (case l_34=>k_is)
   (case cc_34=>k_is)
   (case kk_34=>k_is)
   (case a_35=>k_is)
   (case i_35=>k_is)
   (case l_35=>k_is)
   (case cc_35=>k_is)
   (case kk_35=>k_is)
   (case a_36=>k_is)
   (case i_36=>k_is)
   (case l_36=>k_is)
   (case cc_36=>k_is)
   (case kk_36=>k_is)
   (case a_37=>k_is)
   (case i_37=>k_is)
   (case l_37=>k_is)
   (case cc_37=>k_is)
   (case kk_37=>k_is)
   (case a_38=>k_is)
   (case i_38=>k_is)
   (case l_38=>k_is)
   (case cc_38=>k_is)
   (case kk_38=>k_is)
   (case a_39=>k_is)
   (case i_39=>k_is)
   (case l_39=>k_is)
   (case cc_39=>k_is)
   (case kk_39=>k_is)
   (case a_40=>k_is)
   (case i_40=>k_is)
   (case l_40=>k_is)
   (case cc_40=>k_is)
   (case kk_40=>k_is)
   (case a_41=>k_is)
   (case i_41=>k_is)
   (case l_41=>k_is)
   (case cc_41=>k_is)
   (case kk_41=>k_is)
   (case a_42=>k_is)
   (case i_42=>k_is)
   (case l_42=>k_is)
   (case cc_42=>k_is)
   (case kk_42=>k_is)
   (case a_43=>k_is)
   (case i_43=>k_is)
   (case l_43=>k_is)
   (case cc_43=>k_is)
   (case kk_43=>k_is)
   (case a_44=>k_is)
   (case i_44=>k_is)
   (case l_44=>k_is)
   (case cc_44=>k_is)
   (case kk_44=>k_is)
   (case a_45=>k_is)
   (case i_45=>k_is)
   (case l_45=>k_is)
   (case cc_45=>k_is)
   (case kk_45=>k_is)
   (case a_46=>k_is)
   (case i_46=>k_is)
   (case l_46=>k_is)
   (case cc_46=>k_is)
   (case kk_46=>k_is)
   (case a_47=>k_is)
   (case i_47=>k_is)
   (case l_47=>k_is)
   (case cc_47=>k_is)
   (case kk_47=>k_is)
   (case a_48=>k_is)
   (case i_48=>k_is)
   (case l_48=>k_is)
   (case cc_48=>k_is)
   (case kk_48=>k_is)
   (case a_49=>k_is)
   (case i_49=>k_is)
   (case l_49=>k_is)
   (case cc_49=>k_is)
   (case kk_49=>k_is)
   (case a_50=>k_is)
   (case i_50=>k_is)
   (case l_50=>k_is)
   (case cc_50=>k_is)
   (case kk_50=>k_is)
   (case a_51=>k_is)
   (case i_51=>k_is)
   (case l_51=>k_is)
   (case cc_51=>k_is)
   (case kk_51=>k_is)
   (case a_52=>k_is)
   (case i_52=>k_is)
   (case l_52=>k_is)
   (case cc_52=>k_is)
   (case kk_52=>k_is)
   (case a_53=>k_is)
   (case i_53=>k_is)
   (case l_53=>k_is)
   (case cc_53=>k_is)
   (case kk_53=>k_is)
   (case a_54=>k_is)
   (case i_54=>k_is)
   (case l_54=>k_is)
   (case cc_54=>k_is)
   (case kk_54=>k_is)
   (case a_55=>k_is)
   (case i_55=>k_is)
   (case l_55=>k_is)
   (case cc_55=>k_is)
   (case kk_55=>k_is)
   (case a_56=>k_is)
   (case i_56=>k_is)
   (case l_56=>k_is)
   (case cc_56=>k_is)
   (case kk_56=>k_is)
   (case a_57=>k_is)
   (case i_57=>k_is)
   (case l_57=>k_is)
   (case cc_57=>k_is)
   (case kk_57=>k_is)
   (case pg_Num=>k_is)
   (case hd_Num=>k_is)
   (case po_Num=>k_is)
   (case sa_Num=>k_is)
   (case mk_Num=>k_is)
   (case kc_Num=>k_is)
   (case ha_Num=>k_is)
   (case hm_Num=>k_is)
   (case na_Num_value=>k_is)
   (case pg_Name=>k_is)
   (case hd_Name=>k_is)
   (case po_Name=>k_is)
   (case sa_Name=>k_is)
   (case mk_Name=>k_is)
   (case kc_Name=>k_is)
   (case ha_Name=>k_is)
   (case hm_Name=>k_is)
   (case na_Name_word=>k_is)
   (case pg_Two=>k_is)
   (case hd_Two=>k_is)
   (case po_Two=>k_is)
   (case sa_Two=>k_is)
   (case mk_Two=>k_is)
   (case kc_Two=>k_is)
   (case ha_Two=>k_is)
   (case hm_Two=>k_is)
   (case na_Two_word=>k_is)
   (case na_Two_one=>k_is)
   (case na_Two_other=>k_is)
   (case pg_Mod=>k_is)
   (case hd_Mod=>k_is)
   (case po_Mod=>k_is)
   (case sa_Mod=>k_is)
   (case mk_Mod=>k_is)
   (case kc_Mod=>k_is)
   (case ha_Mod=>k_is)
   (case hm_Mod=>k_is)
   (case na_Mod_inner=>k_is)
   (case na_Mod_number=>k_is)
   (case pg_Less=>k_is)
   (case hd_Less=>k_is)
   (case po_Less=>k_is)
   (case sa_Less=>k_is)
   (case mk_Less=>k_is)
   (case kc_Less=>k_is)
   (case ha_Less=>k_is)
   (case hm_Less=>k_is)
   (case na_Less_one=>k_is)
   (case na_Less_other=>k_is)
   (case na_Less_third=>k_is)
   (case na_Less_fourth=>k_is)
   (case pg_Program=>k_is)
   (case hd_Program=>k_is)
   (case po_Program=>k_is)
   (case sa_Program=>k_is)
   (case mk_Program=>k_is)
   (case kc_Program=>k_is)
   (case ha_Program=>k_is)
   (case hm_Program=>k_is)
   (case na_Program_start=>k_is)
   (case na_Program_send=>k_is)
   (case na_Program_when=>k_is)
   (case na_Program_renew=>k_is)
   (case pg_Web=>k_is)
   (case hd_Web=>k_is)
   (case po_Web=>k_is)
   (case sa_Web=>k_is)
   (case mk_Web=>k_is)
   (case kc_Web=>k_is)
   (case ha_Web=>k_is)
   (case hm_Web=>k_is)
   (case na_Web_own_hands=>k_is)
   (case na_Web_own_lines=>k_is)
   (case na_Web_near=>k_is)
   (case hn=>k_is)
   (case htk=>k_is)
   (case k_Num_Num=>kit_is)
   (case k_Name_Num=>kit_is)
   (case k_Name_Name=>kit_is)
   (case k_Two_Num=>kit_is)
   (case k_Two_Name=>kit_is)
   (case k_Two_Two=>kit_is)
   (case k_Mod_Num=>kit_is)
   (case k_Mod_Name=>kit_is)
   (case k_Mod_Two=>kit_is)
   (case k_Mod_Mod=>kit_is)
   (case k_Less_Num=>kit_is)
   (case k_Less_Name=>kit_is)
   (case k_Less_Two=>kit_is)
   (case k_Less_Mod=>kit_is)
   (case k_Less_Less=>kit_is)
   (case k_tint_tint=>kit_is)
   (case k_tint_tbool=>kit_is)
   (case k_tstr_tstr=>kit_is)
   (case k_ttuple_ttuple=>kit_is)
   (case k_tint_ttuple=>kit_is)
   (case k_tstr_ttuple=>kit_is)
   (case k_tint_tstr=>kit_is)
   (case k_tstr_tint=>kit_is)
   (case k_tstr_tbool=>kit_is)
   (case k_Program_Program=>kit_is)
   (case k_tNoneType_tbool=>kit_is)
   (case k_tlist_tlist=>kit_is)
   (case G_START_NAMES=>k_is)
   (case L_START_NAMES=>k_is)
   (case G_SEND_NAMES=>k_is)
   (case L_SEND_NAMES=>k_is)
   (case G_RENEW_NAMES=>k_is)
   (case L_RENEW_NAMES=>k_is)
   (case G_TWO_WORDS=>k_is)
   (case L_TWO_WORDS=>k_is)
   (case G_MOST_WORDS=>k_is)
   (case G_MOST_DEEP=>k_is)
   (case G_MOST_HANDS=>k_is)
   (case G_LAST_HAND=>k_is)
  obtain⟨a,T⟩:=T
  have e0:=hmg.symm.trans T.g_qH
  cases e0
  exact⟨_,T.b0_qH,fun base kb nb=>K04.ok_law T⟩
 case S=>exact fun K H a ns hl hO hS=>K04.sp_law_of hl hO hS
 case C=>exact fun _ _ _ _ z=>z

