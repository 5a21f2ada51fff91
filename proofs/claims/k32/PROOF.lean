import PyProof.Rows.All
import Wide.All
import OpenK.AllK
import Wide.FinOn
import PySem.Challenge.RW_beatless_k32_papers_that_hold
import Lean
import PyProof.EqAt
import PyProof.EqKinds
import PyProof.TupleCall
import PyProof.ZipIter
import PyProof.WalksMore
import KE.KRevSl
import KE.KIntText
import KE.KRevIter
import PyProof.Draws
import PyProof.EnumFor
import PyProof.EnumStmt
import PyProof.AttrMissHeap
import PyProof.DictUpdate
import PyProof.DictValues
import KE.KDictList
import PyProof.DictItemsLoops
import PyProof.DictWalks
import PyProof.Rows.SetFrom
import PyProof.DictItems
set_option Elab.async false
set_option compiler.extract_closed false
set_option linter.all false
set_option maxRecDepth 100000
abbrev LI:=List Int
abbrev LP:=List (Int×Int)
noncomputable section
namespace L2
open PySem PySem.Spec PyProof.Rows
abbrev Key:=Sum Int Str
noncomputable def wW:Key→Value→Bool
 |.inl k,v=>Value.isInt k v
 |.inr x,v=>Value.isStrOf x v
noncomputable def zlR (w:World):Key→Int
 |.inl k=>hashInt k
 |.inr x=>hashStr w x
theorem zZ:∀ {k:Key}{v:Value},wW k v=true→(∃ i t,k=Sum.inl i∧v=Value.int i t)∨(∃ x t,k=Sum.inr x∧v=Value.str x t)
 |.inl i,v,h=>by
  obtain⟨t,e⟩:=Value.isInt_shape (k:=i) (v:=v) h
  exact .inl ⟨i,t,rfl,e⟩
 |.inr x,v,h=>by
  obtain⟨t,e⟩:=Value.isStrOf_shape (x:=x) (v:=v) h
  exact .inr ⟨x,t,rfl,e⟩
theorem Z1 (i:Int) (t:Tok):wW (.inl i) (.int i t)=true:=by simp[wW,Value.isInt]
theorem Z0 (x:Str) (t:Tok):wW (.inr x) (.str x t)=true:=by simp[wW,Value.isStrOf]
theorem za6 (a b:Int):decide ((Sum.inl a:Key)=Sum.inl b)=(a == b):=by
 by_cases e:a=b
 ·subst e;simp
 ·have h:¬ (Sum.inl a:Key)=Sum.inl b:=fun q=>e (Sum.inl.inj q)
  rw[decide_eq_false h]
  exact(beq_eq_false_iff_ne.mpr e).symm
theorem za3 (a b:Str):decide ((Sum.inr a:Key)=Sum.inr b)=decide (a=b):=by
 by_cases e:a=b
 ·subst e;simp
 ·have h:¬ (Sum.inr a:Key)=Sum.inr b:=fun q=>e (Sum.inr.inj q)
  rw[decide_eq_false h,decide_eq_false e]
theorem za5 (a:Int) (b:Str):decide ((Sum.inl a:Key)=Sum.inr b)=false:=decide_eq_false (fun q=>nomatch q)
theorem za4 (a:Str) (b:Int):decide ((Sum.inr a:Key)=Sum.inl b)=false:=decide_eq_false (fun q=>nomatch q)
def zr (prog:Program) (w:World):PySem.KeyKind prog w Key where
 is:=wW
 hash:=zlR w
 inj:=fun v a b ha hb=>by
  rcases zZ ha with⟨i,t,rfl,rfl⟩ | ⟨x,t,rfl,rfl⟩
  ·rcases zZ hb with⟨j,u,rfl,e⟩ | ⟨y,u,rfl,e⟩
   ·injection e with e1 _;rw[e1]
   ·exact nomatch e
  ·rcases zZ hb with⟨j,u,rfl,e⟩ | ⟨y,u,rfl,e⟩
   ·exact nomatch e
   ·injection e with e1 _;rw[e1]
 byValue:=fun k v h=>by
  rcases zZ h with⟨i,t,rfl,rfl⟩ | ⟨x,t,rfl,rfl⟩<;>rfl
 pyHash:=fun hv h=>by
  rcases zZ hv with⟨i,t,rfl,rfl⟩ | ⟨x,t,rfl,rfl⟩
  ·exact wpAny_pyHash_int h
  ·exact wpAny_pyHash_str h
 eqBool:=fun hu hv h=>by
  rcases zZ hu with⟨i,t,rfl,rfl⟩ | ⟨x,t,rfl,rfl⟩
  ·rcases zZ hv with⟨j,u,rfl,rfl⟩ | ⟨y,u,rfl,rfl⟩
   ·rw[za6] at h;exact wpAny_eqBool_int h
   ·rw[za5] at h;exact SeqAt.EqAt.int_str i t y u _ _ _ _ h
  ·rcases zZ hv with⟨j,u,rfl,rfl⟩ | ⟨y,u,rfl,rfl⟩
   ·rw[za4] at h;exact SeqAt.EqAt.str_int x t j u _ _ _ _ h
   ·rw[za3] at h;exact wpAny_eqBool_str h
 «strs»:=fun k x t v h=>by
  rcases zZ h with⟨i,u,rfl,e⟩ | ⟨y,u,rfl,e⟩
  ·exact nomatch e
  ·injection e with e1 _
   subst e1
   cases v<;>rfl
theorem uU (prog:Program) (w:World) (k:Key) (v:Value):(zr prog w).is k v=wW k v:=rfl
theorem v4 (prog:Program) (w:World) (i:Int) (t:Tok):(zr prog w).is (.inl i) (.int i t)=true:=Z1 i t
theorem v3 (prog:Program) (w:World) (x:Str) (t:Tok):(zr prog w).is (.inr x) (.str x t)=true:=Z0 x t
inductive V where
 |non | bl (b:Bool) | int (i:Int) | str (x:Str) | byt (b:Array UInt8) | flt (b:UInt64) | ref (a:Addr) | ty (n:String)
 deriving DecidableEq
def RelV:V→Value→Prop
 |.non,u=>u=Value.none
 |.bl b,u=>u=Value.bool b
 |.int i,u=>∃ t,u=Value.int i t
 |.str x,u=>∃ t,u=Value.str x t
 |.byt b,u=>∃ t,u=Value.bytes b t
 |.flt b,u=>∃ t,u=Value.float b t
 |.ref a,u=>u=Value.ref a
 |.ty n,u=>u=Value.type n
abbrev Vals:List V→List Value→Prop:=Paired RelV
theorem Vals.length {xs:List V}{us:List Value}(r:Vals xs us):xs.length=us.length:=Paired.length r
theorem Vals.get:∀ {xs:List V}{us:List Value}{i:Nat}{x:V},Vals xs us→xs[i]?=some x→∃ u,us[i]?=some u∧RelV x u
 |_,_,_,_,.nil,e=>by simp at e
 |_,_,0,_,.cons r _,e=>by simp at e;subst e;exact⟨_,rfl,r⟩
 |_,_,i+1,x,.cons _ t,e=>by
  obtain⟨u,h1,h2⟩:=Vals.get (i:=i) (x:=x) t (by simpa using e)
  exact⟨u,by simpa using h1,h2⟩
theorem Vals.set {x:V}{u:Value}(r:RelV x u):∀ {xs:List V}{us:List Value}(i:Nat),Vals xs us→Vals (xs.set i x) (us.set i u)
 |_,_,_,.nil=>.nil
 |_,_,0,.cons _ t=>.cons r t
 |_,_,i+1,.cons q t=>.cons q (Vals.set r i t)
theorem Vals.append:∀ {xs ys:List V}{us ws:List Value},Vals xs us→Vals ys ws→Vals (xs++ys) (us++ws)
 |_,_,_,_,.nil,s=>s
 |_,_,_,_,.cons r t,s=>.cons r (Vals.append t s)
theorem Vals.take:∀ {xs:List V}{us:List Value}(n:Nat),Vals xs us→Vals (xs.take n) (us.take n)
 |_,_,0,_=>.nil
 |_,_,_+1,.nil=>.nil
 |_,_,n+1,.cons r t=>.cons r (Vals.take n t)
theorem Vals.drop:∀ {xs:List V}{us:List Value}(n:Nat),Vals xs us→Vals (xs.drop n) (us.drop n)
 |_,_,0,r=>r
 |_,_,_+1,.nil=>.nil
 |_,_,n+1,.cons _ t=>Vals.drop n t
def RelO:Option V→Option Value→Prop
 |some v,some u=>RelV v u
 |none,none=>True
 |_,_=>False
def KV {κ:Type}:List (κ×V)→List (κ×Value)→Prop:=Paired fun(p:κ×V) (q:κ×Value)=>p.1=q.1∧RelV p.2 q.2
noncomputable def kV:Key→V
 |.inl i=>.int i
 |.inr x=>.str x
inductive HO where
 /-- a list -/
 |lst (xs:List V)
 /-- a tuple (never changes) -/
 |tup (xs:List V)
 /-- a dict whose keys are ints and texts;one whose keys are tuples of ints and texts (the empty one is both) -/
 |dK (kvs:List (Key×V)) | dT (kvs:List (List Key×V))
 /-- a set of ints: its members,its size -/
 |set (S:Int→Bool) (n:Nat)
 /-- an instance of the class at C,its dict at dx,its attributes -/
 |ins (C dx:Addr) (fs:List (Str×V))
 /-- the dict of the instance at x -/
 |own (x:Addr)
 /-- the dict of an exception -/
 |xd (fs:List (Str×V))
 /-- a bound method,f of x -/
 |met (f x:Addr)
 /-- a range object lo,lo+1,.. below hi -/
 |rng (lo hi:Int)
 /-- a thing that is known to the object (the script;a dict while a loop walks it): read,never written while it is so -/
 |frz (o:Obj) (u:HO)
 /-- a code object's table -/
 |tbl (ps:Array Value)
 /-- any other thing,by what is true of its one object (a def of one's own: SetO a S n:=HO.ext fun h=>..) -/
 |ext (φ:Heap→Prop)
abbrev Hp:=Addr→Option HO
noncomputable def upd (H:Hp) (a:Addr) (o:HO):Hp:=fun b=>if b=a then some o else H b
theorem upd_same {H:Hp}{a:Addr}{o:HO}:upd H a o a=some o:=by unfold upd;rw[if_pos rfl]
theorem upd_ne {H:Hp}{a b:Addr}{o:HO}(h:b≠a):upd H a o b=H b:=by unfold upd;rw[if_neg h]
theorem xW {H:Hp}{a:Addr}{o u:HO}:upd (upd H a o) a u=upd H a u:=by
 funext b;unfold upd;split<;>rfl
theorem VA {H:Hp}{a b:Addr}{o u:HO}(h:H a=some o) (h':H b=some u) (d:o≠u):a≠b:=by
 intro e;subst e;rw[h] at h';exact d (Option.some.inj h')
theorem ne_of_none {H:Hp}{a b:Addr}{o:HO}(h:H a=some o) (h':H b=none):a≠b:=by
 intro e;subst e;rw[h] at h';cases h'
section
variable (P:Program) (w:World)
def ObjOk (H:Hp) (h:Heap) (a:Addr):HO→Prop
 |.lst xs=>xs.length≤sizeLine∧∃ (its:List Value) (n:Nat),Vals xs its∧h.get? a=some { cls:=.type "list",data:=.seq its.toArray n }
 |.tup xs=>xs.length≤sizeLine∧∃ its:List Value,Vals xs its∧IsTup h a its.toArray
 |.dK kvs=>kvs.length≤sizeLine∧(a == sysModules)=false∧∃ vs,KV kvs vs∧h.DictOf (zr P w) a vs
 |.dT kvs=>kvs.length≤sizeLine∧(a == sysModules)=false∧∃ xs:List (List Key×Addr×Value),
   Paired (fun(p:List Key×V) (q:List Key×Addr×Value)=>p.1=q.1∧H q.2.1=some (.tup (p.1.map kV))∧RelV p.2 q.2.2) kvs xs ∧
   ∃ o es ep,h.get? a=some o∧o.ExactDict∧o.data=.dict es ep∧es.toList=xs.map (entryOfKey (tupleKind (zr P w)))∧(xs.map (·.1)).Nodup
 |.set S n=>h.SetOf (intKind P w) a S n
 |.ins C dx fs=>H dx=some (.own a)∧fs.length≤1000∧dx≠a∧h.get? a=some (PySem.W.instObj C dx) ∧
   ∃ mA,h.Ns1 dx mA∧(∀ f,RelO (fs.lookup f) (mA f))∧PySem.Within mA (fs.map (·.1))
 |.own _=>∃ o,h.get? a=some o
 |.xd fs=>∃ mA,h.Ns1 a mA∧∀ f,RelO (fs.lookup f) (mA f)
 |.rng lo hi=>∃ t u v,h.get? a=some { cls:=.type "range",data:=.fields #[.int lo t,.int hi u,.int 1 v] }
 |.frz o u=>h.get? a=some o∧ObjOk H h a u
 |.tbl ps=>h.get? a=some { cls:=.none,data:=.fields ps }
 |.met f x=>h.get? a=some (PySem.W.methodObj (.ref f) (.ref x))
 |.ext φ=>φ h∧(∃ o,h.get? a=some o)∧∀ h1 h2:Heap,φ h1→(∀ o,h1.get? a=some o→h2.get? a=some o)→φ h2
def HOk (H:Hp) (h:Heap):Prop:=∀ a o,H a=some o→ObjOk P w H h a o
end
section
variable {P:Program}{w:World}{H H':Hp}{h h':Heap}{a:Addr}{o:HO}
theorem ObjOk.lt (x:ObjOk P w H h a o):a<h.objs.size:=by
 cases o with
 |lst xs=>obtain⟨_,_,_,_,e⟩:=x;exact Heap.lt_size e
 |tup xs=>obtain⟨_,_,_,p⟩:=x;exact p.lt
 |dK kvs=>obtain⟨_,_,_,_,o,_,_,e,_⟩:=x;exact Heap.lt_size e
 |dT kvs=>obtain⟨_,_,_,_,o,_,_,e,_⟩:=x;exact Heap.lt_size e
 |set S n=>obtain⟨o,_,_,_,e,_⟩:=x;exact Heap.lt_size e
 |ins C dx fs=>obtain⟨_,_,_,e,_⟩:=x;exact Heap.lt_size e
 |own y=>obtain⟨_,e⟩:=x;exact Heap.lt_size e
 |xd fs=>obtain⟨_,⟨_,_,_,e,_⟩,_⟩:=x;exact Heap.lt_size e
 |rng lo hi=>obtain⟨_,_,_,e⟩:=x;exact Heap.lt_size e
 |frz ob u=>obtain⟨e,_⟩:=x;exact Heap.lt_size e
 |tbl ps=>exact Heap.lt_size (show h.get? a=some _ from x)
 |met f y=>exact Heap.lt_size (show h.get? a=some _ from x)
 |ext φ=>obtain⟨_,⟨_,e⟩,_⟩:=x;exact Heap.lt_size e
theorem Paired.mapP {α β:Type}{F G:α→β→Prop}:∀ {l₁:List α}{l₂:List β},Paired F l₁ l₂→(∀ a b,F a b→G a b)→Paired G l₁ l₂
 |_,_,.nil,_=>.nil
 |_,_,.cons r t,f=>.cons (f _ _ r) (Paired.mapP t f)
theorem ObjOk.stay (x:ObjOk P w H h a o) (k:∀ b u,(b=a∨H b=some (.own a))→h.get? b=some u→h'.get? b=some u)
  (ho:∀ b,H b=some (.own a)→H' b=some (.own a)) (ht:∀ b xs,H b=some (.tup xs)→H' b=some (.tup xs)):ObjOk P w H' h' a o:=by
 induction o with
 |lst xs=>obtain⟨z,its,n,r,e⟩:=x;exact⟨z,its,n,r,k _ _ (.inl rfl) e⟩
 |tup xs=>obtain⟨z,its,r,ob,e,c⟩:=x;exact⟨z,its,r,ob,k _ _ (.inl rfl) e,c⟩
 |dK kvs=>obtain⟨z,y,vs,r,ob,es,ep,e,c⟩:=x;exact⟨z,y,vs,r,ob,es,ep,k _ _ (.inl rfl) e,c⟩
 |dT kvs =>
  obtain⟨z,y,xs,r,ob,es,ep,e,c⟩:=x
  exact⟨z,y,xs,Paired.mapP r fun p q z=>⟨z.1,ht _ _ z.2.1,z.2.2⟩,ob,es,ep,k _ _ (.inl rfl) e,c⟩
 |set S n=>obtain⟨ob,es,ep,t,e,c⟩:=x;exact⟨ob,es,ep,t,k _ _ (.inl rfl) e,c⟩
 |ins C dx fs =>
  obtain⟨d,z,ne,e,mA,⟨od,es,ep,e2,c⟩,r⟩:=x
  exact⟨ho _ d,z,ne,k _ _ (.inl rfl) e,mA,⟨od,es,ep,k _ _ (.inr d) e2,c⟩,r⟩
 |own y=>obtain⟨ob,e⟩:=x;exact⟨ob,k _ _ (.inl rfl) e⟩
 |xd fs=>obtain⟨mA,⟨od,es,ep,e,c⟩,r⟩:=x;exact⟨mA,⟨od,es,ep,k _ _ (.inl rfl) e,c⟩,r⟩
 |rng lo hi=>obtain⟨t,u,v,e⟩:=x;exact⟨t,u,v,k _ _ (.inl rfl) e⟩
 |frz ob u ih=>obtain⟨e,q⟩:=x;exact⟨k _ _ (.inl rfl) e,ih q⟩
 |tbl ps =>
  have e:h.get? a=some { cls:=.none,data:=.fields ps }:=x
  show h'.get? a=some { cls:=.none,data:=.fields ps }
  exact k a _ (.inl rfl) e
 |met f y =>
  have e:h.get? a=some (PySem.W.methodObj (.ref f) (.ref y)):=x
  show h'.get? a=some (PySem.W.methodObj (.ref f) (.ref y))
  exact k a _ (.inl rfl) e
 |ext φ=>obtain⟨p,⟨o,e⟩,st⟩:=x;exact⟨st _ _ p fun o q=>k _ _ (.inl rfl) q,⟨o,k _ _ (.inl rfl) e⟩,st⟩
theorem HOk.lt (x:HOk P w H h) (e:H a=some o):a<h.objs.size:=(x a o e).lt
theorem HOk.fresh (x:HOk P w H h) (e:h.objs.size≤a):H a=none:=by
 cases q:H a with
 |none=>rfl
 |some u=>exact absurd (Nat.lt_of_lt_of_le (x.lt q) e) (Nat.lt_irrefl _)
theorem HOk.kept (x:HOk P w H h) (k:∀ b u,h.get? b=some u→h'.get? b=some u):HOk P w H h':=fun a o e =>
 (x a o e).stay (fun b u _ q=>k b u q) (fun _ q=>q) fun _ _ q=>q
theorem HOk.laid (x:HOk P w H h) (k:∀ b u,h.get? b=some u→h'.get? b=some u) (hp:h.objs.size≤a) (new:ObjOk P w (upd H a o) h' a o):HOk P w (upd H a o) h':=fun b u e=>by
 have hn:=x.fresh hp
 by_cases hb:b=a
 ·subst hb;rw[upd_same] at e;cases e;exact new
 ·rw[upd_ne hb] at e
  exact(x b u e).stay (fun c v _ q=>k c v q) (fun c q=>by rw[upd_ne (ne_of_none q hn)];exact q) fun c xs q=>by rw[upd_ne (ne_of_none q hn)];exact q
end
def Rd (H:Hp) (a:Addr) (u:HO):Prop:=H a=some u∨∃ o,H a=some (.frz o u)
theorem Rd.ok {P:Program}{w:World}{H:Hp}{h:Heap}{a:Addr}{u:HO}(r:Rd H a u) (x:HOk P w H h):ObjOk P w H h a u:=by
 rcases r with r | ⟨o,r⟩
 ·exact x a u r
 ·obtain⟨_,q⟩:=x a _ r
  exact q
def Mut:Option HO→Prop
 |some (.lst _)=>True
 |some (.dK _)=>True
 |some (.dT _)=>True
 |some (.set _ _)=>True
 |some (.ins _ _ _)=>True
 |some (.ext _)=>True
 |_=>False
section
variable {P:Program}{w:World}{H:Hp}{h h':Heap}{x e:Addr}{o':HO}
theorem HOk.write (ok:HOk P w H h) (mu:Mut (H x)) (he:e=x∨H e=some (.own x)) (k:∀ b u,b≠e→h.get? b=some u→h'.get? b=some u) (heo:∃ u,h'.get? e=some u)
  (new:ObjOk P w (upd H x o') h' x o'):HOk P w (upd H x o') h':=fun b u q=>by
 have nown:∀ c y,H c=some (.own y)→c≠x:=fun c y r z=>by subst z;rw[r] at mu;exact mu
 have ntup:∀ c xs,H c=some (.tup xs)→c≠x:=fun c xs r z=>by subst z;rw[r] at mu;exact mu
 by_cases hb:b=x
 ·subst hb;rw[upd_same] at q;cases q;exact new
 ·rw[upd_ne hb] at q
  by_cases hbe:b=e
  ·have q':H b=some (.own x):=by
    rcases he with z | z
    ·exact absurd (hbe.trans z) hb
    ·rw[hbe];exact z
   rw[q] at q';cases q'
   obtain⟨v,hv⟩:=heo
   exact⟨v,by rw[hbe];exact hv⟩
  ·refine(ok b u q).stay (fun c v hc r=>k c v ?_ r) (fun c r=>by rw[upd_ne (nown c b r)];exact r) fun c xs r=>by rw[upd_ne (ntup c xs r)];exact r
   rcases hc with rfl | hc
   ·exact hbe
   ·rintro rfl
    rcases he with z | z
    ·exact nown c b hc z
    ·rw[hc] at z;cases z;exact hb rfl
end
structure Un (fs ex:List Addr) (H H':Hp) (h h':Heap):Prop where
 keep:∀ b o,h.get? b=some o→H b=none→b∉fs→b∉ex→h'.get? b=some o
 slot:∀ b o,h.get? b=some o→H b=none→b∈fs→b∉ex→∃ sl,h'.get? b=some { o with slots:=sl }
 free:∀ b o,h.get? b=some o→H b=none→b∉ex→H' b=none
 there:∀ b o,h.get? b=some o→b∉ex→∃ o',h'.get? b=some o'
 tups:∀ b xs,H b=some (.tup xs)→H' b=some (.tup xs)
 frzs:∀ b o u,H b=some (.frz o u)→H' b=some (.frz o u)
 tbls:∀ b ps,H b=some (.tbl ps)→∃ more,H' b=some (.tbl (ps++more))
section
variable {fs fs' ex ex':List Addr}{H H1 H2:Hp}{h h1 h2 h':Heap}{a x e:Addr}{o:HO}
theorem Un.any (u:Un fs ex H H1 h h1){b:Addr}{ob:Obj}(q:h.get? b=some ob) (n:H b=none) (hx:b∉ex):∃ sl,h1.get? b=some { ob with slots:=sl }:=by
 by_cases hb:b∈fs
 ·exact u.slot b ob q n hb hx
 ·exact⟨ob.slots,u.keep b ob q n hb hx⟩
theorem Un.kept (k:∀ b u,h.get? b=some u→h'.get? b=some u):Un fs ex H H h h' :=
 ⟨fun b ob q _ _ _=>k b ob q,fun b ob q _ _ _=>⟨ob.slots,k b ob q⟩,fun _ _ _ n _=>n,fun b ob q _=>⟨ob,k b ob q⟩,fun _ _ q=>q,fun _ _ _ q=>q,fun _ ps q=>⟨#[],by rw[q];simp⟩⟩
theorem Un.refl:Un fs ex H H h h:=Un.kept fun _ _ q=>q
theorem Un.laid (k:∀ b u,h.get? b=some u→h'.get? b=some u) (hp:h.objs.size≤a) (hn:H a=none):Un fs ex H (upd H a o) h h' where
 keep:=fun b u q _ _ _=>k b u q
 slot:=fun b u q _ _ _=>⟨u.slots,k b u q⟩
 free:=fun b u q n _=>by rw[upd_ne (Nat.ne_of_lt (Nat.lt_of_lt_of_le (Heap.lt_size q) hp))];exact n
 there:=fun b u q _=>⟨u,k b u q⟩
 tups:=fun b xs q=>by rw[upd_ne (ne_of_none q hn)];exact q
 frzs:=fun b u xs q=>by rw[upd_ne (ne_of_none q hn)];exact q
 tbls:=fun b ps q=>⟨#[],by rw[upd_ne (ne_of_none q hn),q];simp⟩
theorem Un.write (mu:Mut (H x)) (he:e=x∨H e=some (.own x)) (k:∀ b u,b≠e→h.get? b=some u→h'.get? b=some u) (heo:∃ u,h'.get? e=some u):Un fs ex H (upd H x o) h h':=by
 have hx:∀ b,H b=none→b≠x:=fun b n z=>by subst z;rw[n] at mu;exact mu
 have hb:∀ b,H b=none→b≠e:=fun b n z=>by
  subst z
  rcases he with r | r
  ·exact hx b n r
  ·rw[n] at r;cases r
 have hm:∀ b u,H b=some u→¬ Mut (some u)→b≠x:=fun b u q nm z=>by subst z;rw[q] at mu;exact nm mu
 refine⟨fun b u q n _ _=>k b u (hb b n) q,fun b u q n _ _=>⟨u.slots,k b u (hb b n) q⟩,fun b u q n _=>by rw[upd_ne (hx b n)];exact n,fun b u q _=>?_,
  fun b xs q=>by rw[upd_ne (hm b _ q fun z=>z)];exact q,fun b u xs q=>by rw[upd_ne (hm b _ q fun z=>z)];exact q,fun b ps q=>⟨#[],by rw[upd_ne (hm b _ q fun z=>z),q];simp⟩⟩
 by_cases hbe:b=e
 ·subst hbe;exact heo
 ·exact⟨u,k b u hbe q⟩
end
def trk (h:Heap) (H:Hp):List Addr:=(List.range h.objs.size).filter fun a=>(H a).isSome
def Xf (h:Heap) (H:Hp):Heap:=PySem.W.hideAll h (trk h H)
theorem Z7 (h:Heap) (H:Hp):(Xf h H).objs.size=h.objs.size:=PySem.W.hideAll_size _ _
theorem Xe {h:Heap}{H:Hp}{b:Addr}{o:Obj}(e:h.get? b=some o) (n:H b=none):(Xf h H).get? b=some o :=
 PySem.W.hideAll_get _ e fun hm=>by
  have q:(H b).isSome=true:=(List.mem_filter.mp hm).2
  rw[n] at q;simp at q
theorem Vz {h:Heap}{H:Hp}{b:Addr}{o:Obj}(e:(Xf h H).get? b=some o):h.get? b=some o∧H b=none:=by
 have e':h.get? b=some o:=PySem.W.of_hideAll (trk h H) e
 refine⟨e',?_⟩
 cases q:H b with
 |none=>rfl
 |some x =>
  have hm:b∈trk h H:=List.mem_filter.mpr ⟨List.mem_range.mpr (Heap.lt_size e'),by simp[q]⟩
  have z:(Xf h H).get? b=none:=PySem.W.hideAll_none (trk h H) hm
  rw[z] at e;cases e
structure Mod (K:PySem.W.Frag) (mg:Str→Option Value) (base:Heap):Prop where
 kin:K.In base
 glob:base.Ns mainGlobals mg
 blt:∃ mb,base.Ns builtinsNs mb∧∀ x:Str,x ≠ "__name__" → mb x=bootBuiltins x
 nolimit:base.NoLimit
structure Cx where
 prog:Program
 w:World
 K:PySem.W.Frag
 mg:Str→Option Value
 base:Heap
 A:Around
 N:List Str
 s₀:Shared
 H₀:Hp
 env:Env
 outer:List Env
 stack:List Env
 ex:List Addr
 fn:Str→Bool
 calm:Bool
 pn:List (Addr×Obj)
 xe:Value→Shared→Prop
noncomputable def frs (l:List Env):List Addr:=l.filterMap (·.frame)
abbrev Cx.fs (X:Cx):List Addr:=frs X.outer
def Vis (sc:Scope) (x:Str):Prop:=sc.names.lookup x=some .local∨sc.names.lookup x=some .cell∨sc.names.lookup x=some .free
def Loc (sc:Scope) (x:Str):Prop:=sc.names.lookup x=some .local∨sc.names.lookup x=some .cell
def zlW (env:Env) (h:Heap) (m:Str→Option Value) (x:Str) (u:Value):Prop :=
 (env.kindOf x=some .local∧m x=some u)∨((env.kindOf x=some .cell∨env.kindOf x=some .free)∧∃ c,env.cells.lookup x=some c∧h.IsCell c (some u))
structure Cx.Ok (X:Cx):Prop where
 mod:Mod X.K X.mg X.base
 kind:X.env.scope.kind=.function
 glob:X.env.globals=mainGlobals
 blt:X.env.builtins=builtinsNs
 above:X.s₀.heap.objs.size≤X.env.locals
 inj:∀ x y c,X.env.cells.lookup x=some c→X.env.cells.lookup y=some c→x=y
 has:∀ x,(X.env.kindOf x=some .cell∨X.env.kindOf x=some .free)→∃ c,X.env.cells.lookup x=some c
 cab:∀ x c,X.fn x=true→X.env.cells.lookup x=some c→X.s₀.heap.objs.size≤c
 hd:X.calm=true→X.A.handled=none
 frames:X.A.frames=some X.stack
 stk:X.stack=X.outer∨(X.stack=X.env::X.outer∧X.env.frame=some X.env.locals)
 exf:∀ b∈X.ex,b≠X.env.locals∧∀ x c,X.env.cells.lookup x=some c→c≠b
 bs:∀ b o,X.base.get? b=some o→X.s₀.heap.get? b=some o∧X.H₀ b=none
 bsz:X.base.objs.size≤X.s₀.heap.objs.size
 noex:∀ b o,X.base.get? b=some o→b∉X.ex
 exfs:∀ b∈X.ex,b∉X.fs
 funs:X.s₀.heap.FunFrames X.base X.outer
 frf:∀ b∈X.fs,X.H₀ b=none
structure Inv (X:Cx) (pins:List (Addr×Obj)) (σ:List (Option V)) (H:Hp) (s:Shared):Prop where
 ok:X.Ok
 os:s.os=X.s₀.os
 bare:AllBare s.gens
 base:Un X.fs X.ex X.H₀ H X.s₀.heap s.heap
 loc:∃ m,s.heap.Ns X.env.locals m∧∀ (i:Nat) (x:Str) (v:V),X.N[i]?=some x→σ[i]?=some (some v)→Vis X.env.scope x→∃ u,RelV v u∧zlW X.env s.heap m x u
 cell:∀ x c,X.env.cells.lookup x=some c→∃ v,s.heap.IsCell c v
 free:H X.env.locals=none
 freeC:∀ x c,X.env.cells.lookup x=some c→H c=none
 pin:∀ p∈X.pn++pins,s.heap.get? p.1=some p.2∧H p.1=none∧p.1≠X.env.locals∧p.1∉X.fs∧∀ v,p.2.data≠.cell v
 hok:HOk X.prog X.w H s.heap
 len:σ.length=X.N.length
section
variable {X:Cx}{pins:List (Addr×Obj)}{σ:List (Option V)}{H H':Hp}{s:Shared}{h':Heap}
theorem Cx.Ok.nofr (ok:X.Ok){b:Addr}{o:Obj}(e:X.base.get? b=some o):b∉X.fs:=fun hb=>by
 have:=(ok.funs.mem hb).1
 rw[e] at this;cases this
theorem Inv.bs (I:Inv X pins σ H s):∀ b o,X.base.get? b=some o→s.heap.get? b=some o∧H b=none:=fun b o e =>
 ⟨I.base.keep b o (I.ok.bs b o e).1 (I.ok.bs b o e).2 (I.ok.nofr e) (I.ok.noex b o e),I.base.free b o (I.ok.bs b o e).1 (I.ok.bs b o e).2 (I.ok.noex b o e)⟩
theorem Inv.bk (I:Inv X pins σ H s):∀ b o,X.base.get? b=some o→s.heap.get? b=some o:=fun b o e=>(I.bs b o e).1
theorem Inv.mod (I:Inv X pins σ H s):Mod X.K X.mg X.base:=I.ok.mod
theorem Inv.kIn (I:Inv X pins σ H s):X.K.In s.heap:=I.ok.mod.kin.keeps I.bk
theorem Inv.lt (I:Inv X pins σ H s):X.env.locals<s.heap.objs.size:=let ⟨_,hn,_⟩:=I.loc;hn.lt
theorem Inv.sz (I:Inv X pins σ H s):X.s₀.heap.objs.size≤s.heap.objs.size:=Nat.le_trans I.ok.above (Nat.le_of_lt I.lt)
theorem Inv.nofs (I:Inv X pins σ H s){a:Addr}(h:s.heap.objs.size≤a):a∉X.fs:=fun hb=>by
 obtain⟨_,o,ho,_⟩:=I.ok.funs.mem hb
 exact absurd (Nat.lt_of_lt_of_le (Heap.lt_size ho) (Nat.le_trans I.sz h)) (Nat.lt_irrefl _)
theorem Inv.cne (I:Inv X pins σ H s):∀ x c,X.env.cells.lookup x=some c→c≠X.env.locals:=fun x c e z=>by
 obtain⟨v,o,ho,hd⟩:=I.cell x c e
 obtain⟨m,⟨o',es,ep,ho',hd',_⟩,_⟩:=I.loc
 rw[z,ho'] at ho;cases ho;rw[hd'] at hd;cases hd
theorem Inv.funs (I:Inv X pins σ H s):s.heap.FunFrames X.base X.outer:=by
 have all:∀ (l:List Env),(∀ b∈frs l,b∈X.fs)→X.s₀.heap.FunFrames X.base l→s.heap.FunFrames X.base l:=by
  intro l
  induction l with
  |nil=>intro _ _;trivial
  |cons env r ih =>
   intro hs hl
   obtain⟨hk,⟨L,o,hf,hn,ho,hd⟩,hr⟩:=hl
   have hL:L∈X.fs:=hs L (by unfold frs;rw[List.filterMap_cons,hf];exact List.mem_cons_self)
   obtain⟨sl,e⟩:=I.base.slot L o ho (I.ok.frf L hL) hL fun z=>I.ok.exfs L z hL
   exact⟨hk,⟨L,_,hf,hn,e,hd⟩,ih (fun b hb=>hs b (by unfold frs;rw[List.filterMap_cons,hf];exact List.mem_cons_of_mem _ hb)) hr⟩
 exact all X.outer (fun _ hb=>hb) I.ok.funs
theorem Inv.stack (I:Inv X pins σ H s):s.heap.FunFrames X.base X.stack:=by
 rcases I.ok.stk with e | ⟨e,hf⟩
 ·rw[e];exact I.funs
 ·rw[e]
  obtain⟨m,hn,_⟩:=I.loc
  refine .cons (by rw[I.ok.kind];decide) hf hn ?_ I.funs
  exact Heap.get?_none_of_le (Nat.le_trans I.ok.bsz I.ok.above)
theorem Inv.stkSub (I:Inv X pins σ H s):∀ b∈frs X.stack,b∈X.env.locals::X.fs:=fun b hb=>by
 rcases I.ok.stk with e | ⟨e,hf⟩
 ·rw[e] at hb;exact List.mem_cons_of_mem _ hb
 ·rw[e] at hb
  unfold frs at hb
  rw[List.filterMap_cons,hf] at hb
  exact hb
theorem Inv.stkFree (I:Inv X pins σ H s):∀ b∈frs X.stack,H b=none:=fun b hb=>by
 rcases List.mem_cons.mp (I.stkSub b hb) with e | hb
 ·rw[e];exact I.free
 ·obtain⟨_,o,ho,_⟩:=I.ok.funs.mem hb
  exact I.base.free b o ho (I.ok.frf b hb) fun z=>I.ok.exfs b z hb
theorem Inv.step {g':Array GenState}{t':Nat}{d':Drawn}{ch:List Addr}(I:Inv X pins σ H s)
  (hch:∀ b∈ch,(b∈X.ex∨X.s₀.heap.objs.size≤b)∧b≠X.env.locals∧(∀ x c,X.env.cells.lookup x=some c→c≠b)∧∀ p∈X.pn++pins,p.1≠b)
  (keep:∀ b o,b≠X.env.locals→b∉X.fs→b∉ch→s.heap.get? b=some o→H b=none→h'.get? b=some o)
  (slot:∀ b o,b≠X.env.locals→b∈X.fs→b∉ch→s.heap.get? b=some o→H b=none→∃ sl,h'.get? b=some { o with slots:=sl }) (free:∀ b o,b∉ch→s.heap.get? b=some o→H b=none→H' b=none)
  (there:∀ b o,b∉ch→s.heap.get? b=some o→∃ o',h'.get? b=some o')
  (tups:∀ b xs,H b=some (.tup xs)→H' b=some (.tup xs)) (frzs:∀ b o u,H b=some (.frz o u)→H' b=some (.frz o u)) (tbls:∀ b ps,H b=some (.tbl ps)→∃ more,H' b=some (.tbl (ps++more)))
  (ns:∀ m,s.heap.Ns X.env.locals m→h'.Ns X.env.locals m) (hok:HOk X.prog X.w H' h') (hg:AllBare g') :
  Inv X pins σ H' { s with heap:=h',gens:=g',drawn:=d',toks:=t' }:=by
 have neL:∀ b o,X.s₀.heap.get? b=some o→b≠X.env.locals:=fun b o e=>Nat.ne_of_lt (Nat.lt_of_lt_of_le (Heap.lt_size e) I.ok.above)
 have neC:∀ b o,X.s₀.heap.get? b=some o→b∉X.ex→b∉ch:=fun b o e hx hb=>by
  rcases(hch b hb).1 with z | z
  ·exact hx z
  ·exact absurd (Nat.lt_of_lt_of_le (Heap.lt_size e) z) (Nat.lt_irrefl _)
 have cellK:∀ x c,X.env.cells.lookup x=some c→∀ v,s.heap.IsCell c v→h'.IsCell c v:=fun x c e v ⟨o,ho,hd⟩=>by
  have nch:c∉ch:=fun z=>(hch c z).2.2.1 x c e rfl
  by_cases hc:c∈X.fs
  ·obtain⟨sl,q⟩:=slot c o (I.cne x c e) hc nch ho (I.freeC x c e)
   exact⟨_,q,hd⟩
  ·exact⟨o,keep c o (I.cne x c e) hc nch ho (I.freeC x c e),hd⟩
 refine⟨I.ok,I.os,hg,⟨fun b o e n hb hx=>?_,fun b o e n hb hx=>?_,fun b o e n hx=>?_,fun b o e hx=>?_,fun b xs e=>tups b xs (I.base.tups b xs e),fun b o xs e=>frzs b o xs (I.base.frzs b o xs e),fun b ps e=>?_⟩,?_,fun x c e=>?_,?_,fun x c e=>?_,fun p hp=>?_,hok,I.len⟩
 ·exact keep b o (neL b o e) hb (neC b o e hx) (I.base.keep b o e n hb hx) (I.base.free b o e n hx)
 ·obtain⟨sl,e1⟩:=I.base.slot b o e n hb hx
  obtain⟨sl',e2⟩:=slot b _ (neL b o e) hb (neC b o e hx) e1 (I.base.free b o e n hx)
  exact⟨sl',e2⟩
 ·obtain⟨o',e1⟩:=I.base.there b o e hx
  exact free b o' (neC b o e hx) e1 (I.base.free b o e n hx)
 ·obtain⟨o',e1⟩:=I.base.there b o e hx
  exact there b o' (neC b o e hx) e1
 ·obtain⟨m1,e1⟩:=I.base.tbls b ps e
  obtain⟨m2,e2⟩:=tbls b _ e1
  exact⟨m1++m2,by rw[e2,Array.append_assoc]⟩
 ·obtain⟨m,hn,hl⟩:=I.loc
  refine⟨m,ns m hn,fun i x v e1 e2 e3=>?_⟩
  obtain⟨u,r,l⟩:=hl i x v e1 e2 e3
  refine⟨u,r,?_⟩
  rcases l with l | ⟨k,c,e,z⟩
  ·exact .inl l
  ·exact .inr ⟨k,c,e,cellK x c e _ z⟩
 ·obtain⟨v,z⟩:=I.cell x c e
  exact⟨v,cellK x c e v z⟩
 ·obtain⟨m,⟨o,_,_,ho,_⟩,_⟩:=I.loc
  exact free _ o (fun z=>(hch _ z).2.1 rfl) ho I.free
 ·obtain⟨v,o,ho,hd⟩:=I.cell x c e
  exact free c o (fun z=>(hch c z).2.2.1 x c e rfl) ho (I.freeC x c e)
 ·obtain⟨e,n,ne,nf,d⟩:=I.pin p hp
  have nch:p.1∉ch:=fun z=>(hch p.1 z).2.2.2 p hp rfl
  exact⟨keep p.1 p.2 ne nf nch e n,free p.1 p.2 nch e n,ne,nf,d⟩
theorem Inv.un {t':Nat}(I:Inv X pins σ H s) (u:Un X.fs [] H H' s.heap h') (hok:HOk X.prog X.w H' h'):Inv X pins σ H' { s with heap:=h',toks:=t' }:=by
 obtain⟨m,⟨o,es,ep,ho,r⟩,_⟩:=id I.loc
 obtain⟨sl,hL⟩:=u.any ho I.free (by simp)
 exact I.step (g':=s.gens) (d':=s.drawn) (ch:=[]) (fun _ z=>nomatch z) (fun b o _ hb _ e n=>u.keep b o e n hb (by simp)) (fun b o _ hb _ e n=>u.slot b o e n hb (by simp)) (fun b o _ e n=>u.free b o e n (by simp)) (fun b o _ e=>u.there b o e (by simp)) u.tups u.frzs u.tbls (fun m' hm=>by
  obtain⟨o',es',ep',ho',r'⟩:=hm
  rw[ho] at ho';cases ho'
  exact⟨_,es',ep',hL,r'⟩) hok I.bare
theorem Inv.call {g':Array GenState}{t':Nat}{d':Drawn}{ch:List Addr}(I:Inv X pins σ H s) (u:Un (frs X.stack) ch H H' s.heap h') (hok:HOk X.prog X.w H' h') (hg:AllBare g')
  (hch:∀ b∈ch,(b∈X.ex∨X.s₀.heap.objs.size≤b)∧b≠X.env.locals∧(∀ x c,X.env.cells.lookup x=some c→c≠b)∧∀ p∈X.pn++pins,p.1≠b) :
  Inv X pins σ H' { s with heap:=h',gens:=g',drawn:=d',toks:=t' }:=by
 obtain⟨m,⟨o,es,ep,ho,r⟩,_⟩:=id I.loc
 obtain⟨sl,hL⟩:=u.any ho I.free fun z=>(hch _ z).2.1 rfl
 exact I.step (ch:=ch) hch (fun b o hL hb hc e n=>u.keep b o e n (fun z=>(List.mem_cons.mp (I.stkSub b z)).elim hL hb) hc) (fun b o _ _ hc e n=>u.any e n hc) (fun b o hc e n=>u.free b o e n hc) (fun b o hc e=>u.there b o e hc) u.tups u.frzs u.tbls (fun m' hm=>by
  obtain⟨o',es',ep',ho',r'⟩:=hm
  rw[ho] at ho';cases ho'
  exact⟨_,es',ep',hL,r'⟩) hok hg
theorem Inv.turned {t':Nat}{it:Addr}(I:Inv X pins σ H s) (k:∀ b o,b≠it→s.heap.get? b=some o→h'.get? b=some o) (hn:H it=none) (hL:it≠X.env.locals)
  (h1:it∈X.ex∨X.s₀.heap.objs.size≤it) (h2:∀ x c,X.env.cells.lookup x=some c→c≠it) (h3:∀ p∈X.pn++pins,p.1≠it):Inv X pins σ H { s with heap:=h',toks:=t' }:=by
 have nit:∀ b u,H b=some u→b≠it:=fun b u e z=>by rw[z,hn] at e;cases e
 refine I.step (g':=s.gens) (d':=s.drawn) (ch:=[it]) (fun b hb=>?_) (fun b o _ _ hc e _=>k b o (fun z=>hc (by simp[z])) e) (fun b o _ _ hc e _=>⟨o.slots,k b o (fun z=>hc (by simp[z])) e⟩) (fun _ _ _ _ n=>n)
  (fun b o hc e=>⟨o,k b o (fun z=>hc (by simp[z])) e⟩) (fun _ _ e=>e) (fun _ _ _ e=>e) (fun b ps e=>⟨#[],by rw[e];simp⟩) (fun m hm=>?_) (fun b u e=>?_) I.bare
 ·have e:b=it:=by simpa using hb
  subst e
  exact⟨h1,hL,h2,h3⟩
 ·obtain⟨o,es,ep,ho,r⟩:=hm
  exact⟨o,es,ep,k _ o (Ne.symm hL) ho,r⟩
 ·refine(I.hok b u e).stay (fun c v hc q=>k c v ?_ q) (fun _ q=>q) fun _ _ q=>q
  rcases hc with z | z
  ·rw[z];exact nit b u e
  ·exact nit c _ z
theorem Inv.tok (I:Inv X pins σ H s) (t:Nat):Inv X pins σ H { s with toks:=t }:=I.un (h':=s.heap) (t':=t) Un.refl I.hok
theorem Inv.kept {t':Nat}(I:Inv X pins σ H s) (k:∀ b u,s.heap.get? b=some u→h'.get? b=some u):Inv X pins σ H { s with heap:=h',toks:=t' }:=I.un (Un.kept k) (I.hok.kept k)
theorem Inv.laid {a:Addr}{o:HO}{t':Nat}(I:Inv X pins σ H s) (k:∀ b u,s.heap.get? b=some u→h'.get? b=some u) (hp:s.heap.objs.size≤a) (new:ObjOk X.prog X.w (upd H a o) h' a o) :
  Inv X pins σ (upd H a o) { s with heap:=h',toks:=t' }:=I.un (Un.laid k hp (I.hok.fresh hp)) (I.hok.laid k hp new)
theorem Inv.write {x e:Addr}{o:HO}{t':Nat}(I:Inv X pins σ H s) (mu:Mut (H x)) (he:e=x∨H e=some (.own x)) (k:∀ b u,b≠e→s.heap.get? b=some u→h'.get? b=some u) (heo:∃ u,h'.get? e=some u)
  (new:ObjOk X.prog X.w (upd H x o) h' x o):Inv X pins σ (upd H x o) { s with heap:=h',toks:=t' }:=I.un (Un.write mu he k heo) (I.hok.write mu he k heo new)
theorem Inv.pins_of {pins':List (Addr×Obj)}(I:Inv X pins σ H s) (h:∀ p∈pins',s.heap.get? p.1=some p.2∧H p.1=none∧p.1≠X.env.locals∧p.1∉X.fs∧∀ v,p.2.data≠.cell v):Inv X pins' σ H s :=
 ⟨I.ok,I.os,I.bare,I.base,I.loc,I.cell,I.free,I.freeC,fun p hp=>(List.mem_append.mp hp).elim (fun z=>I.pin p (List.mem_append_left _ z)) (h p),I.hok,I.len⟩
theorem nodup_ix {N:List Str}(hN:N.Nodup){i j:Nat}{x:Str}(a:N[i]?=some x) (b:N[j]?=some x):i=j:=by
 obtain⟨h1,e1⟩:=List.getElem?_eq_some_iff.mp a
 obtain⟨h2,e2⟩:=List.getElem?_eq_some_iff.mp b
 exact(List.getElem_inj hN).mp (e1.trans e2.symm)
theorem vj {M:Model}{A:Around}{E:Value→Shared→Prop}{i:Nat}{x:Str}{v:V}{u:Value}{Q:Unit→Shared→Prop}(I:Inv X pins σ H s) (hN:X.N.Nodup) (hi:X.N[i]?=some x) (hx:Loc X.env.scope x) (r:RelV v u)
  (h:∀ s',Inv X pins (σ.set i (some v)) H s'→(∃ a,Heap.SameBut a s.heap s'.heap∧(a=X.env.locals∨X.env.cells.lookup x=some a))→Q () s') (hf:X.fn x=true∨X.env.scope.names.lookup x=some .local:=by first | exact .inl rfl | exact .inr rfl | assumption):wpAny M A (storeName X.env x u) Q E s:=by
 obtain⟨m,hn,hl⟩:=id I.loc
 have hcls:(X.env.scope.kind == .class||(X.env.scope.kind == .module&&X.env.locals != X.env.globals))=false:=by rw[I.ok.kind];rfl
 have hiσ:i<σ.length:=by rw[I.len];exact(List.getElem?_eq_some_iff.mp hi).1
 have cne:=I.cne
 have tracked:∀ {a:Addr}{h':Heap},(∃ o,s.heap.get? a=some o∧H a=none)→Heap.SameBut a s.heap h'→HOk X.prog X.w H h':=fun {a h'} ha hs b ob e=>by
  obtain⟨_,_,hfree⟩:=ha
  refine(I.hok b ob e).stay (fun c w' hc q=>(hs.2 c ?_).trans q) (fun _ q=>q) fun _ _ q=>q
  rintro rfl
  rcases hc with rfl | hc
  ·rw[hfree] at e;cases e
  ·rw[hfree] at hc;cases hc
 rcases hx with hk | hk
 ·refine wpAny_storeName_local hk hn (fun h' hn' hs=>?_) hcls
  obtain⟨oL,_,_,hoL,_⟩:=id hn
  refine h _ ⟨I.ok,I.os,I.bare,⟨fun b o e n hb hx=>?_,fun b o e n hb hx=>?_,I.base.free,fun b o e hx=>?_,I.base.tups,I.base.frzs,I.base.tbls⟩,⟨_,hn',fun j y v' e1 e2 e3=>?_⟩,fun y c e=>?_,I.free,I.freeC,fun p hp=>?_,tracked ⟨oL,hoL,I.free⟩ hs,by simpa using I.len⟩ ⟨_,hs,.inl rfl⟩
  ·exact(hs.2 b (Nat.ne_of_lt (Nat.lt_of_lt_of_le (Heap.lt_size e) I.ok.above))).trans (I.base.keep b o e n hb hx)
  ·obtain⟨sl,e1⟩:=I.base.slot b o e n hb hx
   exact⟨sl,(hs.2 b (Nat.ne_of_lt (Nat.lt_of_lt_of_le (Heap.lt_size e) I.ok.above))).trans e1⟩
  ·obtain⟨o',e1⟩:=I.base.there b o e hx
   exact⟨o',(hs.2 b (Nat.ne_of_lt (Nat.lt_of_lt_of_le (Heap.lt_size e) I.ok.above))).trans e1⟩
  ·by_cases hj:j=i
   ·subst hj
    rw[hi] at e1;cases e1
    rw[List.getElem?_set_self hiσ] at e2
    cases e2
    exact⟨u,r,.inl ⟨hk,by simp⟩⟩
   ·rw[List.getElem?_set_ne (Ne.symm hj)] at e2
    obtain⟨u',r',q⟩:=hl j y v' e1 e2 e3
    refine⟨u',r',?_⟩
    rcases q with⟨k,e⟩ | ⟨k,c,e,z⟩
    ·refine .inl ⟨k,?_⟩
     have:y≠x:=fun e=>hj (nodup_ix hN e1 (e ▸ hi))
     simp[this,e]
    ·exact .inr ⟨k,c,e,z.sameBut hs (cne y c e)⟩
  ·obtain⟨w',z⟩:=I.cell y c e
   exact⟨w',z.sameBut hs (cne y c e)⟩
  ·obtain⟨e,n,ne,nf,d⟩:=I.pin p hp
   exact⟨(hs.2 p.1 ne).trans e,n,ne,nf,d⟩
 ·have hfn:X.fn x=true:=by
   rcases hf with z | z
   ·exact z
   ·rw[z] at hk;cases hk
  obtain⟨c,hc⟩:=I.ok.has x (.inl hk)
  obtain⟨w',z⟩:=I.cell x c hc
  refine wpAny_storeName_cell I.ok.kind hk hc z (fun h' hc' hs=>?_)
  obtain⟨oc,hoc,hocd⟩:=id z
  refine h { s with heap:=h' } ⟨I.ok,I.os,I.bare,⟨fun b o e n hb hx=>?_,fun b o e n hb hx=>?_,I.base.free,fun b o e hx=>?_,I.base.tups,I.base.frzs,I.base.tbls⟩,⟨m,hn.sameBut hs (Ne.symm (cne x c hc)),fun j y v' e1 e2 e3=>?_⟩,fun y c' e=>?_,I.free,I.freeC,fun p hp=>?_,tracked ⟨oc,hoc,I.freeC x c hc⟩ hs,by simpa using I.len⟩ ⟨c,hs,.inr hc⟩
  ·exact(hs.2 b (Nat.ne_of_lt (Nat.lt_of_lt_of_le (Heap.lt_size e) (I.ok.cab x c hfn hc)))).trans (I.base.keep b o e n hb hx)
  ·obtain⟨sl,e1⟩:=I.base.slot b o e n hb hx
   exact⟨sl,(hs.2 b (Nat.ne_of_lt (Nat.lt_of_lt_of_le (Heap.lt_size e) (I.ok.cab x c hfn hc)))).trans e1⟩
  ·obtain⟨o',e1⟩:=I.base.there b o e hx
   exact⟨o',(hs.2 b (Nat.ne_of_lt (Nat.lt_of_lt_of_le (Heap.lt_size e) (I.ok.cab x c hfn hc)))).trans e1⟩
  ·by_cases hj:j=i
   ·subst hj
    rw[hi] at e1;cases e1
    rw[List.getElem?_set_self hiσ] at e2
    cases e2
    exact⟨u,r,.inr ⟨.inl hk,c,hc,hc'⟩⟩
   ·rw[List.getElem?_set_ne (Ne.symm hj)] at e2
    obtain⟨u',r',q⟩:=hl j y v' e1 e2 e3
    refine⟨u',r',?_⟩
    rcases q with q | ⟨k,c',e,z'⟩
    ·exact .inl q
    ·refine .inr ⟨k,c',e,z'.sameBut hs ?_⟩
     rintro rfl
     exact hj (nodup_ix hN e1 (I.ok.inj _ _ _ e hc ▸ hi))
  ·by_cases hcc:c'=c
   ·subst hcc;exact⟨_,hc'⟩
   ·obtain⟨w2,z2⟩:=I.cell y c' e
    exact⟨w2,z2.sameBut hs hcc⟩
  ·obtain⟨e,n,ne,nf,d⟩:=I.pin p hp
   refine⟨(hs.2 p.1 ?_).trans e,n,ne,nf,d⟩
   intro q
   rw[q,hoc] at e
   have q':oc=p.2:=Option.some.inj e
   exact d w' (by rw[← q'];exact hocd)
theorem store_ok {M:Model}{A:Around}{E:Value→Shared→Prop}{i:Nat}{x:Str}{v:V}{u:Value}{Q:Unit→Shared→Prop}(I:Inv X pins σ H s) (hN:X.N.Nodup) (hi:X.N[i]?=some x) (hx:Loc X.env.scope x) (r:RelV v u)
  (h:∀ s',Inv X pins (σ.set i (some v)) H s'→Q () s') (hf:X.fn x=true∨X.env.scope.names.lookup x=some .local:=by first | exact .inl rfl | exact .inr rfl | assumption):wpAny M A (storeName X.env x u) Q E s :=
 vj I hN hi hx r (fun s' I' _=>h s' I') hf
theorem Inv.call' {s':Shared}{ch:List Addr}(I:Inv X pins σ H s) (ho:s'.os=s.os) (u:Un (frs X.stack) ch H H' s.heap s'.heap) (hok:HOk X.prog X.w H' s'.heap) (hg:AllBare s'.gens)
  (hch:∀ b∈ch,(b∈X.ex∨X.s₀.heap.objs.size≤b)∧b≠X.env.locals∧(∀ x c,X.env.cells.lookup x=some c→c≠b)∧∀ p∈X.pn++pins,p.1≠b):Inv X pins σ H' s':=by
 obtain⟨h',g',d',t',o'⟩:=s'
 have e:o'=s.os:=ho
 subst e
 exact I.call (g':=g') (t':=t') (d':=d') u hok hg hch
end
abbrev XK:=Value→Option Addr→Hp→Prop
abbrev St:=List (Option V)
abbrev VK:=V→Hp→Prop
abbrev TE:=St→Hp→VK→Prop
abbrev TT:=St→Hp→(Bool→Hp→Prop)→Prop
abbrev TA:=St→Hp→(List V→Hp→Prop)→Prop
structure Ends where
 nx:St→Hp→Prop
 rt:VK
 bk:St→Hp→Prop:=fun _ _=>False
 ct:St→Hp→Prop:=fun _ _=>False
abbrev TS:=Ends→St→Hp→Prop
def EP (X:Cx) (pins:List (Addr×Obj)) (σ:St) (Q:VK) (u:Value) (s':Shared):Prop:=∃ v H',Inv X pins σ H' s'∧RelV v u∧Q v H'
def TP (X:Cx) (pins:List (Addr×Obj)) (σ:St) (Q:Bool→Hp→Prop) (b:Bool) (s':Shared):Prop:=∃ H',Inv X pins σ H' s'∧Q b H'
def AP (X:Cx) (pins:List (Addr×Obj)) (σ:St) (Q:List V→Hp→Prop) (us:List Value) (s':Shared):Prop:=∃ vs H',Inv X pins σ H' s'∧Vals vs us∧Q vs H'
def SP (X:Cx) (pins:List (Addr×Obj)) (D:Ends) (f:Flow) (s':Shared):Prop :=
 match f with
 |.next=>∃ σ' H',Inv X pins σ' H' s'∧D.nx σ' H'
 |.brk=>∃ σ' H',Inv X pins σ' H' s'∧D.bk σ' H'
 |.cont=>∃ σ' H',Inv X pins σ' H' s'∧D.ct σ' H'
 |.ret u=>∃ v σ' H',Inv X pins σ' H' s'∧RelV v u∧D.rt v H'
def PE (X:Cx) (e:Expr) (t:TE):Prop :=
 ∀ (pins:List (Addr×Obj)) (s:Shared) (σ:St) (H:Hp) (Q:VK),Inv X pins σ H s→t σ H Q→wpAny (model X.prog X.w) X.A (eval e X.env) (EP X pins σ Q) X.xe s
def PT (X:Cx) (e:Expr) (t:TT):Prop :=
 ∀ (pins:List (Addr×Obj)) (s:Shared) (σ:St) (H:Hp) (Q:Bool→Hp→Prop),Inv X pins σ H s→t σ H Q→wpAny (model X.prog X.w) X.A (isTrue e X.env (eval e X.env)) (TP X pins σ Q) X.xe s
def PW (X:Cx) (e:Expr) (t:TT):Prop :=
 ∀ (whole:Sem Value) (pins:List (Addr×Obj)) (s:Shared) (σ:St) (H:Hp) (Q:Bool→Hp→Prop),Inv X pins σ H s→t σ H Q→wpAny (model X.prog X.w) X.A (isTrue e X.env whole) (TP X pins σ Q) X.xe s
theorem PW.pt {X:Cx}{e:Expr}{t:TT}(h:PW X e t):PT X e t:=h _
def PA (X:Cx) (es:List Expr) (t:TA):Prop :=
 ∀ (pos:Pos) (pins:List (Addr×Obj)) (s:Shared) (σ:St) (H:Hp) (Q:List V→Hp→Prop),Inv X pins σ H s→t σ H Q→wpAny (model X.prog X.w) X.A (spliced (backTo pos (starEach es X.env))) (AP X pins σ Q) X.xe s
def PS (X:Cx) (st:Stmt) (t:TS):Prop :=
 ∀ (pins:List (Addr×Obj)) (s:Shared) (σ:St) (H:Hp) (D:Ends),Inv X pins σ H s→t D σ H→wpAny (model X.prog X.w) X.A (exec st X.env) (SP X pins D) X.xe s
def PSs (X:Cx) (st:List Stmt) (t:TS):Prop :=
 ∀ (pins:List (Addr×Obj)) (s:Shared) (σ:St) (H:Hp) (D:Ends),Inv X pins σ H s→t D σ H→wpAny (model X.prog X.w) X.A (execs st X.env) (SP X pins D) X.xe s
theorem thn {α:Type}{t:Sem α}{Q Q':α→Shared→Prop}{M:Model}{A:Around}{E:Value→Shared→Prop}{s:Shared}(h:wpAny M A t Q E s) (hQ:∀ a s,Q a s→Q' a s):wpAny M A t Q' E s:=wpAny_mono h hQ fun _ _ x=>x
section
variable {X:Cx}
theorem bin {a b:Expr}{ta tb:TE}(ha:PE X a ta) (hb:PE X b tb){pins:List (Addr×Obj)}{s:Shared}{σ:St}{H:Hp}{R:V→V→Hp→Prop}(I:Inv X pins σ H s) (h:ta σ H fun x H1=>tb σ H1 fun y H2=>R x y H2)
  {α:Type}{Q:α→Shared→Prop}{f:Value→Value→Sem α}
  (hf:∀ v u s2 x y H2,Inv X pins σ H2 s2→RelV x v→RelV y u→R x y H2→wpAny (model X.prog X.w) X.A (f v u) Q X.xe s2) :
  wpAny (model X.prog X.w) X.A (eval a X.env) (fun v s₁=>wpAny (model X.prog X.w) X.A (eval b X.env) (fun u s₂=>wpAny (model X.prog X.w) X.A (f v u) Q X.xe s₂) X.xe s₁) X.xe s:=by
 refine thn (ha pins s σ H _ I h) fun v s1 hq0=>?_
 obtain⟨x,H1,I1,r1,q1⟩:=hq0
 refine thn (hb pins s1 σ H1 _ I1 q1) fun u s2 hq0=>?_
 obtain⟨y,H2,I2,r2,q2⟩:=hq0
 exact hf v u s2 x y H2 I2 r1 r2 q2
def zcq (i:Nat):TE:=fun σ H Q=>∃ v,σ[i]?=some (some v)∧Q v H
def tC (v:V):TE:=fun _ H Q=>Q v H
theorem UH {i:Nat}{x:Str}{pos:Pos}(hN:X.N[i]?=some x) (hv:Vis X.env.scope x) (hd:(x == ("__debug__" : Str))=false:=by decide) (hcd:(x == ("__classdict__" : Str))=false:=by decide):PE X (.Name x pos) (zcq i):=by
 intro pins s σ H Q I h
 obtain⟨v,e,h⟩:=h
 obtain⟨m,hn,hl⟩:=I.loc
 obtain⟨u,r,l⟩:=hl i x v hN e hv
 have fin:EP X pins σ Q u s:=⟨v,H,I,r,h⟩
 rcases l with⟨hk,hm⟩ | ⟨hk,c,hc,hcell⟩
 ·exact wpAny_Name (wpAny_loadName_local I.ok.kind hk hn hm fin) hd
 ·rcases hk with hk | hk
  ·exact wpAny_Name (wpAny_loadName_cell I.ok.kind hk hc hcell fin) hd
  ·exact wpAny_Name (wpAny_loadName_free I.ok.kind hk hc hcell fin hcd) hd
theorem xn {i j pos}:PE X (.Constant (.int i) j pos) (tC (.int i)):=fun _ _ _ H _ I h=>wpAny_Constant_int ⟨.int i,H,I.tok _,⟨_,rfl⟩,h⟩
theorem wq {b j pos}:PE X (.Constant (.bool b) j pos) (tC (.bl b)):=fun _ _ _ H _ I h=>Constant_bool ⟨.bl b,H,I,rfl,h⟩
theorem UL {j pos}:PE X (.Constant .none j pos) (tC .non):=fun _ _ _ H _ I h=>Constant_none ⟨.non,H,I,rfl,h⟩
def Gl (X:Cx) (x:Str):Prop:=X.env.kindOf x=some .globalImplicit
theorem ld_glob {E:Value→Shared→Prop}{pins:List (Addr×Obj)}{s:Shared}{σ:St}{H:Hp}{x:Str}{u:Value}{pos:Pos}{Q:Value→Shared→Prop}(I:Inv X pins σ H s) (hg:Gl X x) (hm:X.mg x=some u) (h:Q u s)
  (hd:(x == ("__debug__" : Str))=false:=by decide):wpAny (model X.prog X.w) X.A (eval (.Name x pos) X.env) Q E s :=
 Calls.Name_function_global I.ok.kind hg (Calls.loadGlobal_global (by rw[I.ok.glob];exact I.mod.glob.keeps I.bk) hm h) hd
theorem ld_blt {E:Value→Shared→Prop}{pins:List (Addr×Obj)}{s:Shared}{σ:St}{H:Hp}{x:Str}{u:Value}{pos:Pos}{Q:Value→Shared→Prop}(I:Inv X pins σ H s) (hg:Gl X x) (hm:X.mg x=none) (hv:bootBuiltins x=some u) (h:Q u s)
  (hn:x ≠ "__name__" := by decide) (hd:(x == ("__debug__" : Str))=false:=by decide):wpAny (model X.prog X.w) X.A (eval (.Name x pos) X.env) Q E s:=by
 obtain⟨mb,h1,h2⟩:=I.mod.blt
 exact Calls.Name_function_global I.ok.kind hg (Calls.loadGlobal_builtin (by rw[I.ok.glob];exact I.mod.glob.keeps I.bk) hm (by rw[I.ok.blt];exact h1.keeps I.bk) ((h2 x hn).trans hv) h) hd
theorem vX {x:Str}{v:V}{u:Value}{pos:Pos}(hg:Gl X x) (hm:X.mg x=some u) (r:RelV v u) (hd:(x == ("__debug__" : Str))=false:=by decide):PE X (.Name x pos) (tC v) :=
 fun _ _ _ H _ I h=>ld_glob I hg hm ⟨v,H,I,r,h⟩ hd
theorem Vu {x:Str}{v:V}{u:Value}{pos:Pos}(hg:Gl X x) (hm:X.mg x=none) (hv:bootBuiltins x=some u) (r:RelV v u) (hn:x ≠ "__name__" := by decide) (hd:(x == ("__debug__" : Str))=false:=by decide):PE X (.Name x pos) (tC v) :=
 fun _ _ _ H _ I h=>ld_blt I hg hm hv ⟨v,H,I,r,h⟩ hn hd
variable {a b:Expr}{ta tb:TE}{pos:Pos}
def PC (X:Cx) (op:CmpOp) (a b:Expr) (t:TE):Prop :=
 ∀ (pins:List (Addr×Obj)) (s:Shared) (σ:St) (H:Hp) (Q:VK),Inv X pins σ H s→t σ H Q →
  wpAny (model X.prog X.w) X.A (eval a X.env) (fun v s₁=>wpAny (model X.prog X.w) X.A (eval b X.env) (fun u s₂=>wpAny (model X.prog X.w) X.A (compareOp op v u) (EP X pins σ Q) X.xe s₂) X.xe s₁) X.xe s
def tB (t:TE):TT:=fun σ H Q=>t σ H fun x H1=>∃ c,x=.bl c∧Q c H1
theorem UN {op:CmpOp}{t:TE}(h:PC X op a b t) (h1:behindInMarks op b=false:=by first | exact nobehind _ (by decide) (by decide) | rfl):PE X (.Compare a [op] [b] pos) t:=fun pins s σ H Q I hw=>wpAny_Compare1 (h pins s σ H Q I hw) h1
theorem XI {op:CmpOp}{t:TE}(h:PC X op a b t) (h1:behindInMarks op b=false:=by first | exact nobehind _ (by decide) (by decide) | rfl):PT X (.Compare a [op] [b] pos) (tB t):=by
 intro pins s σ H Q I hw
 refine wpAny_isTrue_Compare1 (thn (h pins s σ H _ I hw) fun v s1 h1=>thn h1 fun u s2 h2=>thn h2 fun c s3 hq0=>?_) h1
 obtain⟨x,H1,I1,r1,q1⟩:=hq0
 obtain⟨d,rfl,q⟩:=q1
 cases r1
 exact wpAny_truthy_bool ⟨H1,I1,q⟩
theorem xl {e:Expr}{t:TE}(h:PE X e t) (he:∀ whole,isTrue e X.env whole=(do let v ← whole;standAt e.pos;holding [v] (truthy v)):=by intro _;rfl):PT X e (tB t):=by
 intro pins s σ H Q I hw
 refine isTrue_plain (thn (h pins s σ H _ I hw) fun v s1 hq0=>?_) (he _)
 obtain⟨x,H1,I1,r1,q1⟩:=hq0
 obtain⟨d,rfl,q⟩:=q1
 cases r1
 exact wpAny_truthy_bool ⟨H1,I1,q⟩
variable {tA tB':TT}{rest:List Expr}
def zgo (t u:TT):TT:=fun σ H Q=>t σ H fun c H1=>if c=true then u σ H1 Q else Q false H1
def tOr (t u:TT):TT:=fun σ H Q=>t σ H fun c H1=>if c=true then Q true H1 else u σ H1 Q
def zgi (t:TT):TT:=fun σ H Q=>t σ H fun c H1=>Q (!c) H1
theorem Vf (ha:PT X a tA):PW X (.BoolOp .And [a] pos) tA:=by
 intro wh pins s σ H Q I h
 refine isTrue_and (thn (ha pins s σ H Q I h) fun c s1 e=>?_)
 cases c with
 |true=>exact isTrue_and_nil e
 |false=>exact e
theorem wA (ha:PT X a tA):PW X (.BoolOp .Or [a] pos) tA:=by
 intro wh pins s σ H Q I h
 refine isTrue_or (thn (ha pins s σ H Q I h) fun c s1 e=>?_)
 cases c with
 |false=>exact isTrue_or_nil e
 |true=>exact e
theorem UD (ha:PT X a tA) (hb:PW X (.BoolOp .And (b::rest) pos) tB'):PW X (.BoolOp .And (a::b::rest) pos) (zgo tA tB'):=by
 intro wh pins s σ H Q I h
 refine isTrue_and (thn (ha pins s σ H _ I h) fun c s1 hq0=>?_)
 obtain⟨H1,I1,q1⟩:=hq0
 cases c with
 |true=>exact hb wh pins s1 σ H1 Q I1 q1
 |false=>exact⟨H1,I1,q1⟩
theorem vo (ha:PT X a tA) (hb:PW X (.BoolOp .Or (b::rest) pos) tB'):PW X (.BoolOp .Or (a::b::rest) pos) (tOr tA tB'):=by
 intro wh pins s σ H Q I h
 refine isTrue_or (thn (ha pins s σ H _ I h) fun c s1 hq0=>?_)
 obtain⟨H1,I1,q1⟩:=hq0
 cases c with
 |true=>exact⟨H1,I1,q1⟩
 |false=>exact hb wh pins s1 σ H1 Q I1 q1
theorem xm (ha:PT X a tA):PT X (.UnaryOp .Not a pos) (zgi tA):=by
 intro pins s σ H Q I h
 exact isTrue_not (ha pins s σ H (fun c H1=>Q (!c) H1) I h)
def tAndV (ta tb:TE):TE:=fun σ H Q=>ta σ H fun x H1=>∃ c,x=.bl c∧if c=true then tb σ H1 Q else Q (.bl false) H1
def zbj (ta tb:TE):TE:=fun σ H Q=>ta σ H fun x H1=>∃ c,x=.bl c∧if c=true then Q (.bl true) H1 else tb σ H1 Q
def Uh (ta:TE):TE:=fun σ H Q=>ta σ H fun x H1=>∃ c,x=.bl c∧Q (.bl (!c)) H1
theorem ZE {op}{t:TE}(h:PE X a t):PE X (.BoolOp op [a] pos) t:=fun pins s σ H Q I hw=>BoolOp_one (h pins s σ H Q I hw)
theorem uu (ha:PE X a ta) (hb:PE X (.BoolOp .And (b::rest) pos) tb):PE X (.BoolOp .And (a::b::rest) pos) (tAndV ta tb):=by
 intro pins s σ H Q I h
 refine BoolOp_and (thn (ha pins s σ H _ I h) fun v s1 hq0=>?_)
 obtain⟨x,H1,I1,r1,q1⟩:=hq0
 obtain⟨c,rfl,q1⟩:=q1
 cases r1
 refine wpAny_truthy_bool ?_
 cases c with
 |true=>exact hb pins s1 σ H1 Q I1 q1
 |false=>exact⟨.bl false,H1,I1,rfl,q1⟩
theorem zdc (ha:PE X a ta) (hb:PE X (.BoolOp .Or (b::rest) pos) tb):PE X (.BoolOp .Or (a::b::rest) pos) (zbj ta tb):=by
 intro pins s σ H Q I h
 refine BoolOp_or (thn (ha pins s σ H _ I h) fun v s1 hq0=>?_)
 obtain⟨x,H1,I1,r1,q1⟩:=hq0
 obtain⟨c,rfl,q1⟩:=q1
 cases r1
 refine wpAny_truthy_bool ?_
 cases c with
 |false=>exact hb pins s1 σ H1 Q I1 q1
 |true=>exact⟨.bl true,H1,I1,rfl,q1⟩
theorem XM (ha:PE X a ta):PE X (.UnaryOp .Not a pos) (Uh ta):=by
 intro pins s σ H Q I h
 refine UnaryOp_ (thn (ha pins s σ H _ I h) fun v s1 hq0=>?_)
 obtain⟨x,H1,I1,r1,q1⟩:=hq0
 obtain⟨c,rfl,q1⟩:=q1
 cases r1
 exact not_of (wpAny_truthy_bool ⟨.bl (!c),H1,I1,rfl,q1⟩)
end
def SqL (K:PySem.W.Frag) (H:Hp) (a:Addr) (xs:List V):Prop :=
 Rd H a (.lst xs) ∨
  ∃ (o:Obj) (its:Array Value) (n:Nat),K.lookup a=some o∧o.cls=.type "list" ∧ o.dict=none∧o.data=.seq its n∧its.size≤sizeLine∧Vals xs its.toList
def SqT (K:PySem.W.Frag) (H:Hp) (a:Addr) (xs:List V):Prop :=
 Rd H a (.tup xs) ∨
  ∃ (o:Obj) (its:Array Value) (n:Nat),K.lookup a=some o∧o.cls=.type "tuple" ∧ o.data=.seq its n∧its.size≤sizeLine∧Vals xs its.toList
noncomputable def zlV:Value→Option V
 |.none=>some .non
 |.bool b=>some (.bl b)
 |.int i _=>some (.int i)
 |.str x _=>some (.str x)
 |.bytes b _=>some (.byt b)
 |.float b _=>some (.flt b)
 |.ref a=>some (.ref a)
 |.type n=>some (.ty n)
 |_=>none
theorem RelV.abs {x:V}{u:Value}(r:RelV x u):zlV u=some x:=by
 cases x with
 |non=>cases r;rfl
 |bl _=>cases r;rfl
 |int _=>obtain⟨t,rfl⟩:=r;rfl
 |str _=>obtain⟨t,rfl⟩:=r;rfl
 |byt _=>obtain⟨t,rfl⟩:=r;rfl
 |flt _=>obtain⟨t,rfl⟩:=r;rfl
 |ref _=>cases r;rfl
 |ty _=>cases r;rfl
theorem RelV.inj {x y:V}{u:Value}(r:RelV x u) (q:RelV y u):x=y:=Option.some.inj (r.abs.symm.trans q.abs)
theorem Vals.inj:∀ {xs ys:List V}{us:List Value},Vals xs us→Vals ys us→xs=ys
 |_,_,_,.nil,.nil=>rfl
 |_,_,_,.cons r t,.cons r' t'=>by rw[r.inj r',Vals.inj t t']
section
variable {X:Cx}{pins:List (Addr×Obj)}{σ:St}{H:Hp}{s:Shared}{a:Addr}{xs ys:List V}
theorem SqL.of {K:PySem.W.Frag}(h:H a=some (.lst xs)):SqL K H a xs:=.inl (.inl h)
theorem SqT.of {K:PySem.W.Frag}(h:H a=some (.tup xs)):SqT K H a xs:=.inl (.inl h)
theorem Inv.list (I:Inv X pins σ H s) (h:SqL X.K H a xs):∃ its:List Value,Vals xs its∧PlainL s.heap a its.toArray∧xs.length≤sizeLine:=by
 rcases h with h | ⟨o,its,n,hk,hc,hd,hs,hz,r⟩
 ·obtain⟨z,its,n,r,e⟩:=h.ok I.hok
  exact⟨its,r,⟨_,n,e,rfl,rfl,rfl⟩,z⟩
 ·refine⟨its.toList,r,⟨o,n,I.kIn a o hk,hc,hd,by simpa using hs⟩,?_⟩
  have e:=r.length
  simp only[Array.length_toList] at e
  omega
theorem Inv.tuple (I:Inv X pins σ H s) (h:SqT X.K H a xs):∃ its:List Value,Vals xs its∧IsTup s.heap a its.toArray∧xs.length≤sizeLine:=by
 rcases h with h | ⟨o,its,n,hk,hc,hs,hz,r⟩
 ·obtain⟨z,its,r,p⟩:=h.ok I.hok
  exact⟨its,r,p,z⟩
 ·refine⟨its.toList,r,⟨o,I.kIn a o hk,hc,n,by simpa using hs⟩,?_⟩
  have e:=r.length
  simp only[Array.length_toList] at e
  omega
theorem Inv.list_inj (I:Inv X pins σ H s) (h:SqL X.K H a xs) (h':SqL X.K H a ys):xs=ys:=by
 obtain⟨its,r,⟨o,n,e,_,_,d⟩,_⟩:=I.list h
 obtain⟨its',r',⟨o',n',e',_,_,d'⟩,_⟩:=I.list h'
 rw[e] at e';cases e'
 rw[d] at d'
 injection d' with d1 _
 have:its=its':=by simpa using congrArg Array.toList d1
 subst this
 exact r.inj r'
theorem Inv.tuple_inj (I:Inv X pins σ H s) (h:SqT X.K H a xs) (h':SqT X.K H a ys):xs=ys:=by
 obtain⟨its,r,⟨o,e,_,n,d⟩,_⟩:=I.tuple h
 obtain⟨its',r',⟨o',e',_,n',d'⟩,_⟩:=I.tuple h'
 rw[e] at e';cases e'
 rw[d] at d'
 injection d' with d1 _
 have:its=its':=by simpa using congrArg Array.toList d1
 subst this
 exact r.inj r'
end
noncomputable abbrev Cx.wish (X:Cx) (E:Value→Shared→Prop):Cx:={ X with xe:=E }
noncomputable abbrev Cx.nox (X:Cx):Cx:=X.wish fun _ _=>False
theorem Cx.Ok.wish {X:Cx}(ok:X.Ok) (E:Value→Shared→Prop):(X.wish E).Ok :=
 ⟨ok.mod,ok.kind,ok.glob,ok.blt,ok.above,ok.inj,ok.has,ok.cab,ok.hd,ok.frames,ok.stk,ok.exf,ok.bs,ok.bsz,ok.noex,ok.exfs,ok.funs,ok.frf⟩
theorem Cx.Ok.unwish {X:Cx}{E:Value→Shared→Prop}(ok:(X.wish E).Ok):X.Ok :=
 ⟨ok.mod,ok.kind,ok.glob,ok.blt,ok.above,ok.inj,ok.has,ok.cab,ok.hd,ok.frames,ok.stk,ok.exf,ok.bs,ok.bsz,ok.noex,ok.exfs,ok.funs,ok.frf⟩
section
variable {X:Cx}{pins:List (Addr×Obj)}{σ:St}{H:Hp}{s:Shared}{E:Value→Shared→Prop}
theorem Inv.wish (I:Inv X pins σ H s) (E:Value→Shared→Prop):Inv (X.wish E) pins σ H s:=⟨I.ok.wish E,I.os,I.bare,I.base,I.loc,I.cell,I.free,I.freeC,I.pin,I.hok,I.len⟩
theorem Inv.unwish (I:Inv (X.wish E) pins σ H s):Inv X pins σ H s:=⟨I.ok.unwish,I.os,I.bare,I.base,I.loc,I.cell,I.free,I.freeC,I.pin,I.hok,I.len⟩
theorem SP.unwish {D:Ends}{f:Flow}{s':Shared}(h:SP (X.wish E) pins D f s'):SP X pins D f s':=by
 cases f with
 |next=>obtain⟨σ',H',I,q⟩:=h;exact⟨σ',H',I.unwish,q⟩
 |brk=>obtain⟨σ',H',I,q⟩:=h;exact⟨σ',H',I.unwish,q⟩
 |cont=>obtain⟨σ',H',I,q⟩:=h;exact⟨σ',H',I.unwish,q⟩
 |ret u=>obtain⟨v,σ',H',I,r,q⟩:=h;exact⟨v,σ',H',I.unwish,r,q⟩
theorem PSs.nox {st:List Stmt}{t:TS}(h:PSs X.nox st t):PSs X st t:=fun pins s σ H D I hw =>
 wpAny_mono (h pins s σ H D (I.wish _) hw) (fun _ _ q=>q.unwish) fun _ _ z=>False.elim z
end
section
variable {X:Cx}{st:Stmt}{rest:List Stmt}{t u:TS}{e:Expr}{te:TE}{pos:Pos}
def Ui:TS:=fun D σ H=>D.nx σ H
def zgf (t u:TS):TS:=fun D σ H=>t { D with nx:=u D } σ H
theorem yP:PSs X [] Ui:=fun _ _ σ H _ I h=>wpAny_execs_nil ⟨σ,H,I,h⟩
theorem zK (h1:PS X st t) (h2:PSs X rest u):PSs X (st::rest) (zgf t u):=by
 intro pins s σ H D I h
 refine wpAny_execs_cons (thn (h1 pins s σ H { D with nx:=u D } I h) fun f s1 q=>?_)
 cases f with
 |next =>
  obtain⟨σ',H',I',q⟩:=q
  exact h2 pins s1 σ' H' D I' q
 |ret v=>exact q
 |brk=>exact q
 |cont=>exact q
theorem zY (h1:PS X st t):PSs X [st] t:=by
 intro pins s σ H D I h
 refine wpAny_execs_cons (thn (h1 pins s σ H D I h) fun f s1 q=>?_)
 cases f with
 |next=>exact wpAny_execs_nil q
 |ret v=>exact q
 |brk=>exact q
 |cont=>exact q
theorem Inv.quiet {pins:List (Addr×Obj)}{σ:St}{H:Hp}{s:Shared}(I:Inv X pins σ H s):interactive X.env=false:=by simp[interactive,I.ok.kind]
def Ul (te:TE):TS:=fun D σ H=>te σ H fun _ H1=>D.nx σ H1
theorem vU (he:PE X e te) (hs:swapsWith e none pos.line X.env=pure false:=by rfl):PS X (.Expr e pos) (Ul te):=by
 intro pins s σ H D I h
 exact wpAny_Expr_any (thn (he pins s σ H _ I h) fun v s1 ⟨x,H1,I1,r1,q1⟩=>⟨σ,H1,I1,q1⟩) I.quiet hs
def zgh (te:TE):TS:=fun D σ H=>te σ H D.rt
theorem yS (he:PE X e te):PS X (.Return (some e) pos) (zgh te):=by
 intro pins s σ H D I h
 exact wpAny_Return_some (thn (he pins s σ H _ I h) fun v s1 ⟨x,H1,I1,r1,q1⟩=>⟨x,σ,H1,I1,r1,q1⟩)
def zgk (c:TT) (t u:TS):TS:=fun D σ H=>c σ H fun b H1=>if b=true then t D σ H1 else u D σ H1
theorem wQ {c:Expr}{a b:List Stmt}{tc:TT}(hc:PT X c tc) (ha:PSs X a t) (hb:PSs X b u):PS X (.If c a b pos) (zgk tc t u):=by
 intro pins s σ H D I h
 refine wpAny_If (thn (hc pins s σ H _ I h) fun d s1 hq0=>?_)
 obtain⟨H1,I1,q1⟩:=hq0
 cases d with
 |true=>exact ha pins s1 σ H1 D I1 q1
 |false=>exact hb pins s1 σ H1 D I1 q1
def Xy:TS:=fun _ _ _=>False
theorem wP:PS X st Xy:=fun _ _ _ _ _ _ h=>h.elim
end
abbrev TG:=V→St→Hp→(St→Hp→Prop)→Prop
abbrev TGs:=List V→St→Hp→(St→Hp→Prop)→Prop
def PG (X:Cx) (target:Expr) (t:TG):Prop :=
 ∀ (pins:List (Addr×Obj)) (s:Shared) (σ:St) (H:Hp) (v:V) (u:Value) (Q:St→Hp→Prop),Inv X pins σ H s→RelV v u→t v σ H Q →
  wpAny (model X.prog X.w) X.A (assign target X.env u) (fun _ s'=>∃ σ' H',Inv X pins σ' H' s'∧Q σ' H') X.xe s
def PGs (X:Cx) (ts:List Expr) (t:TGs):Prop :=
 ∀ (pins:List (Addr×Obj)) (s:Shared) (σ:St) (H:Hp) (vs:List V) (us:List Value) (Q:St→Hp→Prop),Inv X pins σ H s→Vals vs us→t vs σ H Q →
  wpAny (model X.prog X.w) X.A (assignInOrder ((assignEach ts X.env).map (·.2)) us) (fun _ s'=>∃ σ' H',Inv X pins σ' H' s'∧Q σ' H') X.xe s
section
variable {X:Cx}{pos:Pos}
def v7 (i:Nat):TG:=fun v σ H Q=>Q (σ.set i (some v)) H
theorem xE {i:Nat}{x:Str}(hN:X.N.Nodup) (hi:X.N[i]?=some x) (hx:Loc X.env.scope x) (hf:X.fn x=true∨X.env.scope.names.lookup x=some .local:=by first | exact .inl rfl | exact .inr rfl | assumption):PG X (.Name x pos) (v7 i):=by
 intro pins s σ H v u Q I r h
 exact wpAny_assign_Name (store_ok I hN hi hx r (fun s' I'=>⟨_,H,I',h⟩) hf)
def gNil:TGs:=fun vs σ H Q=>vs=[]∧Q σ H
def zbb (t:TG) (u:TGs):TGs:=fun vs σ H Q=>∃ v r,vs=v::r∧t v σ H fun σ' H'=>u r σ' H' Q
theorem ZC:PGs X [] gNil:=by
 intro pins s σ H vs us Q I r h
 obtain⟨e,h⟩:=h
 subst e
 cases r
 exact assignInOrder_nil ⟨σ,H,I,h⟩
theorem wS {e:Expr}{es:List Expr}{t:TG}{u:TGs}(h1:PG X e t) (h2:PGs X es u)
  (hs:(assignEach (e::es) X.env).map (·.2)=assign e X.env::(assignEach es X.env).map (·.2):=by rfl):PGs X (e::es) (zbb t u):=by
 intro pins s σ H vs us Q I r h
 obtain⟨v,vr,e1,h⟩:=h
 subst e1
 cases r with
 |cons r rr =>
  rw[hs]
  refine assignInOrder_cons (thn (h1 pins s σ H _ _ _ I r h) fun _ s1 hq0=>?_)
  obtain⟨σ1,H1,I1,q1⟩:=hq0
  exact h2 pins s1 σ1 H1 _ _ Q I1 rr q1
def zkM (K:PySem.W.Frag) (n:Nat) (t:TGs):TG:=fun v σ H Q=>∃ a xs,v=.ref a∧SqT K H a xs∧xs.length=n∧t xs σ H Q
theorem XJ {es:List Expr}{k:Nat}{t:TGs}{n:Nat}(hc:X.calm=true) (h:PGs X es t)
  (hn:(assignEach es X.env).length=n:=by rfl) (hst:(assignEach es X.env).findIdx? (·.1)=none:=by rfl):PG X (.Tuple es k pos) (zkM X.K n t):=by
 intro pins s σ H v u Q I r hw
 obtain⟨a,xs,e1,hq,hl,hw⟩:=hw
 subst e1
 cases r
 obtain⟨its,rv,ht,hz⟩:=I.tuple hq
 refine assign_Tuple_tuple (I.ok.hd hc) ht (by simp[hn,← hl,rv.length]) hst fun h' hx=>?_
 have I1:Inv X pins σ H { s with heap:=h' }:=I.kept (t':=s.toks) fun b o e=>hx b o (Nat.ne_of_lt (Heap.lt_size e)) e
 exact h pins _ σ H xs _ Q I1 (by simpa using rv) hw
def VO (te:TE) (g:TG):TS:=fun D σ H=>te σ H fun x H1=>g x σ H1 D.nx
theorem UE {tg e:Expr}{te:TE}{g:TG}(he:PE X e te) (hg:PG X tg g) (hs:swapsWithSole [tg] e pos.line X.env=pure false:=by rfl) (hw:swappedStores [tg] e X.env=pure none:=by rfl)
  (h1:(assignEach [tg] X.env).map (·.2)=[assign tg X.env]:=by rfl):PS X (.Assign [tg] e pos) (VO te g):=by
 intro pins s σ H D I h
 refine wpAny_Assign_stores (thn (he pins s σ H _ I h) fun v s1 hq0=>?_) hs hw
 obtain⟨x,H1,I1,r1,q1⟩:=hq0
 rw[h1]
 exact thn (hg pins s1 σ H1 x v _ I1 r1 q1) fun _ s2 q=>q
theorem vp {i:Nat}{x:Str}{e:Expr}{te:TE}{pos':Pos}(hN:X.N.Nodup) (hi:X.N[i]?=some x) (hx:Loc X.env.scope x) (he:PE X e te) (hs:swapsWith e (some (.Name x pos')) pos.line X.env=pure false:=by rfl) (hf:X.fn x=true∨X.env.scope.names.lookup x=some .local:=by first | exact .inl rfl | exact .inr rfl | assumption) :
  PS X (.Assign [.Name x pos'] e pos) (VO te (v7 i)):=by
 intro pins s σ H D I h
 refine wpAny_Assign_Name (thn (he pins s σ H _ I h) fun v s1 hq0=>?_) hs
 obtain⟨y,H1,I1,r1,q1⟩:=hq0
 exact store_ok I1 hN hi hx r1 (fun s2 I2=>⟨_,H1,I2,q1⟩) hf
def Xx (c:TT) (tb:TS):TS:=fun D σ H=>∃ W:Nat→St→Hp→Prop,(∃ m,W m σ H)∧∀ m σ H,W m σ H →
 c σ H fun b H1=>if b=true then ∃ N:St→Hp→Prop,(∀ σ' H',N σ' H'→∃ m',m'<m∧W m' σ' H')∧tb { D with nx:=N,ct:=N,bk:=D.nx } σ H1 else D.nx σ H1
theorem YK {c:Expr}{body:List Stmt}{tc:TT}{tb:TS}(hp:PassesOwn (model X.prog X.w) X.A X.env X.xe) (hc:PT X c tc) (hb:PSs X body tb):PS X (.While c body [] pos) (Xx tc tb):=by
 intro pins s σ H D I h
 obtain⟨W,⟨m0,w0⟩,turn⟩:=h
 refine wpAny_While (codeAny_whileLoop (fun n s'=>∃ σ' H',Inv X pins σ' H' s'∧W n σ' H') ?_ m0 ⟨σ,H,I,w0⟩)
 rintro n s1 ⟨σ1,H1,I1,w1⟩
 refine wpAny_passesOwn hp (thn (hc pins s1 σ1 H1 _ I1 (turn n σ1 H1 w1)) fun b s2 hq0=>?_)
 obtain⟨H2,I2,q2⟩:=hq0
 cases b with
 |true =>
  obtain⟨N,hN,q2⟩:=q2
  rw[if_pos rfl]
  refine wpAny_passesOwn hp (thn (hb pins s2 σ1 H2 _ I2 q2) fun f s3 q3=>?_)
  cases f with
  |next =>
   obtain⟨σ3,H3,I3,n3⟩:=q3
   obtain⟨m',hm,w3⟩:=hN σ3 H3 n3
   exact⟨m',hm,σ3,H3,I3,w3⟩
  |cont =>
   obtain⟨σ3,H3,I3,n3⟩:=q3
   obtain⟨m',hm,w3⟩:=hN σ3 H3 n3
   exact⟨m',hm,σ3,H3,I3,w3⟩
  |brk=>exact q3
  |ret v=>exact q3
 |false =>
  rw[if_neg Bool.false_ne_true]
  exact wpAny_execs_nil ⟨σ1,H2,I2,q2⟩
end
structure It where
 go:Nat→Hp→Prop
 yld:Nat→Hp→V→Hp→Prop
 stop:Nat→Hp→Prop
def FpOk (X:Cx) (pins:List (Addr×Obj)) (H:Hp) (b:Addr):Prop :=
 H b=none∧b≠X.env.locals∧b∉X.fs∧(b∈X.ex∨X.s₀.heap.objs.size≤b)∧(∀ x c,X.env.cells.lookup x=some c→c≠b)∧∀ p∈X.pn++pins,p.1≠b
theorem Inv.fpOk {X:Cx}{pins:List (Addr×Obj)}{σ:St}{H H':Hp}{s:Shared}{b:Addr}(I:Inv X pins σ H s) (hb:s.heap.objs.size≤b) (hn:H' b=none):FpOk X pins H' b:=by
 refine⟨hn,Nat.ne_of_gt (Nat.lt_of_lt_of_le I.lt hb),I.nofs hb,.inr (Nat.le_trans I.sz hb),fun x c e z=>?_,fun p hp z=>?_⟩
 ·obtain⟨v,q⟩:=I.cell x c e
  exact absurd (Nat.lt_of_lt_of_le q.lt (by rw[z];exact hb)) (Nat.lt_irrefl _)
 ·exact absurd (Nat.lt_of_lt_of_le (Heap.lt_size (I.pin p hp).1) (by rw[z];exact hb)) (Nat.lt_irrefl _)
structure Turn (P:Program) (w:World) (K:PySem.W.Frag) (tg:Expr) (J:It) (fp:List Addr) (it:Addr) (tn:Nat→Heap→Prop):Prop where
 mem:it∈fp
 obj:∀ i h,tn i h→∀ b∈fp,∃ o,h.get? b=some o∧∀ v,o.data≠.cell v
 keep:∀ i h h',tn i h→(∀ b∈fp,∀ o,h.get? b=some o→h'.get? b=some o)→tn i h'
 item:∀ (X:Cx),X.prog=P→X.w=w→X.K=K→X.calm=true→∀ (i:Nat) (pins:List (Addr×Obj)) (s:Shared) (σ:St) (H:Hp) (E:Value→Shared→Prop),Inv X pins σ H s→(∀ b∈fp,FpOk X pins H b)→tn i s.heap→J.go i H →
  wpAny (model P w) X.A (pyNext (.ref it)) (fun r s1=>∃ u,r=some u ∧
   wpAny (model P w) X.A (letOwnedTupleGo tg (.ref it) u) (fun _ s2=>∃ x H',Inv X pins σ H' s2∧RelV x u∧J.yld i H x H'∧tn (i+1) s2.heap∧∀ b∈fp,H' b=none) E s1) E s
 done:∀ (X:Cx),X.prog=P→X.w=w→X.K=K→X.calm=true→∀ (i:Nat) (pins:List (Addr×Obj)) (s:Shared) (σ:St) (H:Hp) (E:Value→Shared→Prop),Inv X pins σ H s→(∀ b∈fp,FpOk X pins H b)→tn i s.heap→J.stop i H →
  wpAny (model P w) X.A (pyNext (.ref it)) (fun r s1=>r=none∧Inv X pins σ H s1) E s
 self:∀ (A:Around) (i:Nat) (s:Shared) (Q:Value→Shared→Prop) (E:Value→Shared→Prop),tn i s.heap→Q (.ref it) s→wpAny (model P w) A (pyIter (.ref it)) Q E s
abbrev TI:=St→Hp→(It→Hp→Prop)→Prop
def PIE (X:Cx) (pins:List (Addr×Obj)) (σ:St) (tg:Expr) (R:It→Hp→Prop) (itv:Value) (s2:Shared):Prop :=
 ∃ (it:Addr) (fp:List Addr) (tn:Nat→Heap→Prop) (J:It) (H':Hp),itv=.ref it∧Inv X pins σ H' s2∧Turn X.prog X.w X.K tg J fp it tn∧tn 0 s2.heap∧(∀ b∈fp,FpOk X pins H' b)∧R J H'
def PI (X:Cx) (tg iter:Expr) (wi:TI):Prop :=
 ∀ (pins:List (Addr×Obj)) (s:Shared) (σ:St) (H:Hp) (R:It→Hp→Prop),Inv X pins σ H s→wi σ H R →
  wpAny (model X.prog X.w) X.A (eval iter X.env) (fun v s1=>wpAny (model X.prog X.w) X.A (pyIter v) (PIE X pins σ tg R) X.xe s1) X.xe s
theorem Xg {M:Model}{A:Around}{E:Value→Shared→Prop}{s:Shared}{tg:Expr}{it:Addr}{u:Value}{o:Obj}{n:String}{vs:Array Value}{Q:Unit→Shared→Prop}(ho:s.heap.get? it=some o) (hc:o.cls=.type n) (hd:o.data=.fields vs)
  (hn:["enumerate", "zip", "dict_itemiterator", "dict_reverseitemiterator", "odict_iterator", "itertools.zip_longest", "itertools.pairwise"].contains n=false) (hQ:Q () s):wpAny M A (letOwnedTupleGo tg (.ref it) u) Q E s:=by
 unfold letOwnedTupleGo
 cases tg<;>first
  |exact wpAny_pure hQ
  |(cases u<;>first
    |exact wpAny_pure hQ
    |(refine wpAny_bind (wpAny_load ho ?_)
      rw[hc,hd]
      show wpAny M A (if (["enumerate", "zip", "dict_itemiterator", "dict_reverseitemiterator", "odict_iterator", "itertools.zip_longest", "itertools.pairwise"].contains n&&vs[0]? == some (rawInt _))=true then _ else _) Q E s
      rw[if_neg (by intro h;rw[hn,Bool.false_and] at h;cases h)]
      exact wpAny_pure hQ))
noncomputable def Itl (K:PySem.W.Frag) (a:Addr):It :=
 ⟨fun i H=>∃ xs x,SqL K H a xs∧xs[i]?=some x,fun i H x H'=>H'=H∧∀ xs,SqL K H a xs→xs[i]?=some x,fun i H=>∃ xs,SqL K H a xs∧xs.length≤i⟩
noncomputable def Itt (K:PySem.W.Frag) (a:Addr):It :=
 ⟨fun i H=>∃ xs x,SqT K H a xs∧xs[i]?=some x,fun i H x H'=>H'=H∧∀ xs,SqT K H a xs→xs[i]?=some x,fun i H=>∃ xs,SqT K H a xs∧xs.length≤i⟩
noncomputable def Itr (lo:Int) (n:Nat):It:=⟨fun i _=>i<n,fun i H x H'=>H'=H∧x=.int (lo+i),fun i _=>n≤i⟩
theorem Zh {P:Program}{w:World}{K:PySem.W.Frag}{tg:Expr} (a it:Addr):Turn P w K tg (Itl K a) [it] it (fun i h=>h.IsListIter it a i) where
 mem:=by simp
 obj:=fun i h st b hb=>by
  have e:b=it:=by simpa using hb
  subst e
  obtain⟨o,e,c,d⟩:=st
  exact⟨o,e,fun v z=>by rw[d] at z;cases z⟩
 keep:=fun i h h' st k=>st.at fun o e=>k it (by simp) o e
 item:=by
  intro X hP hw hK hc i pins s σ H E I hf st hg
  subst hP hw hK
  obtain⟨xs,x,hq,hx⟩:=hg
  obtain⟨its,rv,p,hz⟩:=I.list hq
  obtain⟨u,hu,ru⟩:=rv.get hx
  obtain⟨f0,f1,f2,f3,f4,f5⟩:=hf it (by simp)
  refine wpAny_pyNext_list_item st p.isList (x:=u) (by simpa using hu) fun h' st' sb=>?_
  have I1:Inv X pins σ H { s with heap:=h' }:=I.turned (t':=s.toks) (fun b o hb e=>(sb.2 b hb).trans e) f0 f1 f3 f4 f5
  obtain⟨o,e,c,d⟩:=id st'
  exact⟨u,rfl,Xg (s:={ s with heap:=h' }) e c d (by decide) ⟨x,H,I1,ru,⟨rfl,fun ys hy=>by rw[I.list_inj hy hq];exact hx⟩,st',fun b hb=>(hf b hb).1⟩⟩
 done:=by
  intro X hP hw hK hc i pins s σ H E I hf st hg
  subst hP hw hK
  obtain⟨xs,hq,hx⟩:=hg
  obtain⟨its,rv,p,hz⟩:=I.list hq
  obtain⟨f0,f1,f2,f3,f4,f5⟩:=hf it (by simp)
  have hl:=rv.length
  exact wpAny_pyNext_list_end (I.ok.hd hc) st p.isList (by simp;omega) fun h' eb=>⟨rfl,I.turned (t':=s.toks) (fun b o hb e=>eb b o hb e) f0 f1 f3 f4 f5⟩
 self:=fun _ _ _ _ _ st h=>wpAny_pyIter_listiter st h
theorem uL {P:Program}{w:World}{K:PySem.W.Frag}{tg:Expr} (a it:Addr):Turn P w K tg (Itt K a) [it] it (fun i h=>h.IsTupleIter it a i) where
 mem:=by simp
 obj:=fun i h st b hb=>by
  have e:b=it:=by simpa using hb
  subst e
  obtain⟨o,e,c,d⟩:=st
  exact⟨o,e,fun v z=>by rw[d] at z;cases z⟩
 keep:=fun i h h' st k=>st.at fun o e=>k it (by simp) o e
 item:=by
  intro X hP hw hK hc i pins s σ H E I hf st hg
  subst hP hw hK
  obtain⟨xs,x,hq,hx⟩:=hg
  obtain⟨its,rv,p,hz⟩:=I.tuple hq
  obtain⟨u,hu,ru⟩:=rv.get hx
  obtain⟨f0,f1,f2,f3,f4,f5⟩:=hf it (by simp)
  refine wpAny_pyNext_tuple_item st (show s.heap.IsTuple a its.toArray from p) (x:=u) (by simpa using hu) fun h' st' sb=>?_
  have I1:Inv X pins σ H { s with heap:=h' }:=I.turned (t':=s.toks) (fun b o hb e=>(sb.2 b hb).trans e) f0 f1 f3 f4 f5
  obtain⟨o,e,c,d⟩:=id st'
  exact⟨u,rfl,Xg (s:={ s with heap:=h' }) e c d (by decide) ⟨x,H,I1,ru,⟨rfl,fun ys hy=>by rw[I.tuple_inj hy hq];exact hx⟩,st',fun b hb=>(hf b hb).1⟩⟩
 done:=by
  intro X hP hw hK hc i pins s σ H E I hf st hg
  subst hP hw hK
  obtain⟨xs,hq,hx⟩:=hg
  obtain⟨its,rv,p,hz⟩:=I.tuple hq
  obtain⟨f0,f1,f2,f3,f4,f5⟩:=hf it (by simp)
  have hl:=rv.length
  exact wpAny_pyNext_tuple_end (I.ok.hd hc) st (show s.heap.IsTuple a its.toArray from p) (by simp;omega) fun h' eb=>⟨rfl,I.turned (t':=s.toks) (fun b o hb e=>eb b o hb e) f0 f1 f3 f4 f5⟩
 self:=fun _ _ _ _ _ st h=>wpAny_pyIter_tupleiter st h
theorem uM {P:Program}{w:World}{K:PySem.W.Frag}{tg:Expr}(it:Addr) (lo:Int) (n:Nat):Turn P w K tg (Itr lo n) [it] it (fun i h=>IsRangeIter h it (lo+(i:Nat)*1) ((n:Int)-(i:Nat)) 1) where
 mem:=by simp
 obj:=fun i h st b hb=>by
  have e:b=it:=by simpa using hb
  subst e
  exact⟨_,st,fun v z=>by
   have z':Data.fields _=Data.cell v:=z
   cases z'⟩
 keep:=fun i h h' st k=>k it (by simp) _ st
 item:=by
  intro X hP hw hK hc i pins s σ H E I hf st hg
  subst hP hw hK
  obtain⟨f0,f1,f2,f3,f4,f5⟩:=hf it (by simp)
  have W:=Walks.range (prog:=X.prog) (w:=X.w) (I.ok.hd hc) it lo 1 n
  refine W.item i s _ _ hg st fun v h' tk hv st' kk=>?_
  obtain⟨t,rfl⟩:=hv
  have I1:Inv X pins σ H { s with heap:=h',toks:=tk }:=I.turned (fun b o hb e=>kk b o (by simpa using hb) e) f0 f1 f3 f4 f5
  refine⟨_,rfl,Xg (s:={ s with heap:=h',toks:=tk }) (n := "range_iterator") st' rfl rfl (by decide) ⟨.int (lo+i),H,I1,⟨t,?_⟩,⟨rfl,rfl⟩,st',fun b hb=>(hf b hb).1⟩⟩
  rw[Int.mul_one]
 done:=by
  intro X hP hw hK hc i pins s σ H E I hf st hg
  subst hP hw hK
  obtain⟨f0,f1,f2,f3,f4,f5⟩:=hf it (by simp)
  exact wpAny_pyNext_range_end (I.ok.hd hc) st (by have:n≤i:=hg;omega) fun h' eb=>⟨rfl,I.turned (t':=s.toks) (fun b o hb e=>eb b o hb e) f0 f1 f3 f4 f5⟩
 self:=fun _ _ _ _ _ st h=>wpAny_pyIter_rangeiter st h
section
variable {X:Cx}{tg:Expr}
def zba (K:PySem.W.Frag) (tl:TE):TI:=fun σ H R=>tl σ H fun x H1=>∃ a,x=.ref a∧(∃ xs,SqL K H1 a xs)∧R (Itl K a) H1
def zkJ (K:PySem.W.Frag) (tl:TE):TI:=fun σ H R=>tl σ H fun x H1=>∃ a,x=.ref a∧(∃ xs,SqT K H1 a xs)∧R (Itt K a) H1
theorem xZ {l:Expr}{tl:TE}(hl:PE X l tl):PI X tg l (zba X.K tl):=by
 intro pins s σ H R I h
 refine thn (hl pins s σ H _ I h) fun v s1 hq0=>?_
 obtain⟨x,H1,I1,r1,q1⟩:=hq0
 obtain⟨a,e,⟨xs,hq⟩,q⟩:=q1
 subst e
 cases r1
 obtain⟨its,rv,p,hz⟩:=I1.list hq
 refine wpAny_pyIter_list p.isList ?_
 refine⟨s1.heap.objs.size,[s1.heap.objs.size],_,_,H1,rfl,I1.kept (t':=s1.toks) fun b o e=>Heap.get?_push_of_some _ e,Zh a _,⟨_,Heap.get?_push_size _ rfl,rfl,rfl⟩,fun b hb=>?_,q⟩
 have e:b=s1.heap.objs.size:=by simpa using hb
 subst e
 exact I1.fpOk (Nat.le_refl _) (I1.hok.fresh (Nat.le_refl _))
theorem UF {l:Expr}{tl:TE}(hl:PE X l tl):PI X tg l (zkJ X.K tl):=by
 intro pins s σ H R I h
 refine thn (hl pins s σ H _ I h) fun v s1 hq0=>?_
 obtain⟨x,H1,I1,r1,q1⟩:=hq0
 obtain⟨a,e,⟨xs,hq⟩,q⟩:=q1
 subst e
 cases r1
 obtain⟨its,rv,p,hz⟩:=I1.tuple hq
 refine wpAny_pyIter_tuple (show s1.heap.IsTuple a its.toArray from p) ?_
 refine⟨s1.heap.objs.size,[s1.heap.objs.size],_,_,H1,rfl,I1.kept (t':=s1.toks) fun b o e=>Heap.get?_push_of_some _ e,uL a _,⟨_,Heap.get?_push_size _ rfl,rfl,rfl⟩,fun b hb=>?_,q⟩
 have e:b=s1.heap.objs.size:=by simpa using hb
 subst e
 exact I1.fpOk (Nat.le_refl _) (I1.hok.fresh (Nat.le_refl _))
theorem YJ {pins:List (Addr×Obj)}{σ:St}{H:Hp}{s:Shared}{R:It→Hp→Prop}{E:Value→Shared→Prop}{lo hi:Int}{t u v:Tok}{tk:Nat}(I:Inv X pins σ H s) (h1 : -(2 ^ 62)≤lo) (h2:lo<2 ^ 62) (h3 : -(2 ^ 62)≤hi) (h4:hi<2 ^ 62)
  (q:R (Itr lo (hi-lo).toNat) H):wpAny (model X.prog X.w) X.A (pyIter (.ref s.heap.objs.size)) (PIE X pins σ tg R) E { s with heap:=s.heap.push { cls:=.type "range",data:=.fields #[.int lo t,.int hi u,.int 1 v] },toks:=tk }:=by
 refine wpAny_pyIter_range (IsRange.new ..) (small_one h1 h2 h3 h4) ?_
 have I1:Inv X pins σ H { s with heap:=s.heap.push { cls:=.type "range",data:=.fields #[.int lo t,.int hi u,.int 1 v] },toks:=tk }:=I.kept fun b o e=>Heap.get?_push_of_some _ e
 refine⟨(s.heap.push { cls:=.type "range",data:=.fields #[.int lo t,.int hi u,.int 1 v] }).objs.size,[(s.heap.push { cls:=.type "range",data:=.fields #[.int lo t,.int hi u,.int 1 v] }).objs.size],_,_,H,rfl,
  I1.kept (t':=tk) fun b o e=>Heap.get?_push_of_some _ e,uM _ lo (hi-lo).toNat,?_,fun b hb=>?_,q⟩
 ·have e1:lo+((0:Nat):Int)*1=lo:=by simp
  have e2:(((hi-lo).toNat:Nat):Int)-((0:Nat):Int)=Builtin.Range.rangeSize lo hi 1:=by rw[rangeSize_one];split<;>omega
  show IsRangeIter _ _ (lo+((0:Nat):Int)*1) ((((hi-lo).toNat:Nat):Int)-((0:Nat):Int)) 1
  rw[e1,e2]
  exact Heap.get?_push_size _ rfl
 ·have e:b=(s.heap.push { cls:=.type "range",data:=.fields #[.int lo t,.int hi u,.int 1 v] }).objs.size:=by simpa using hb
  subst e
  exact I1.fpOk (Nat.le_refl _) (I1.hok.fresh (Nat.le_refl _))
def za9 (ta:TA):TI:=fun σ H R=>ta σ H fun vs H1=>∃ j:Int,vs=[.int j]∧-(2 ^ 62)≤j∧j<2 ^ 62∧R (Itr 0 j.toNat) H1
theorem Zx {a:Expr}{ta:TA}{p pos:Pos}(hg:Gl X "range") (hm:X.mg "range" = none) (ha:PA X [a] ta) (hs:starEach [a] X.env=[(false,eval a X.env)]:=by rfl):PI X tg (.Call (.Name "range" p) [a] [] pos) (za9 ta):=by
 intro pins s σ H R I h
 refine Call_ (ld_blt I hg hm boot_range (PyProof.Rows.callWith_type1 (thn (ha pos pins s σ H _ I h) fun us s1 hq0=>?_) hs rfl))
 obtain⟨vs,H1,I1,r1,q1⟩:=hq0
 obtain⟨j,e,q1,q2,q⟩:=q1
 subst e
 cases r1 with
 |cons r rr =>
  cases rr
  obtain⟨t,rfl⟩:=r
  exact call_range_1 (YJ I1 (by omega) (by omega) q1 q2 (by simpa using q))
def zgl (wi:TI) (g:TG) (tb:TS):TS:=fun D σ H=>wi σ H fun J H1=>∃ W:Nat→Nat→St→Hp→Prop,(∃ m,W 0 m σ H1)∧∀ i m σ H,W i m σ H →
 (J.stop i H∧D.nx σ H)∨(J.go i H∧∃ N:St→Hp→Prop,(∀ σ' H',N σ' H'→∃ m',m'<m∧W (i+1) m' σ' H')∧∀ x H',J.yld i H x H'→g x σ H' fun σ2 H2=>tb { D with nx:=N,ct:=N,bk:=D.nx } σ2 H2)
noncomputable def vt (fp:List Addr) (h:Heap):List (Addr×Obj):=fp.filterMap fun b=>(h.get? b).map fun o=>(b,o)
theorem xi {fp:List Addr}{h:Heap}{b:Addr}{o:Obj}(hb:b∈fp) (e:h.get? b=some o):(b,o)∈vt fp h:=List.mem_filterMap.mpr ⟨b,hb,by rw[e];rfl⟩
theorem ZO {fp:List Addr}{h:Heap}{p:Addr×Obj}(hp:p∈vt fp h):p.1∈fp∧h.get? p.1=some p.2:=by
 obtain⟨b,hb,e⟩:=List.mem_filterMap.mp hp
 cases q:h.get? b with
 |none=>rw[q] at e;cases e
 |some o =>
  rw[q] at e
  have e':(b,o)=p:=Option.some.inj e
  subst e'
  exact⟨hb,q⟩
theorem Inv.pinned {pins:List (Addr×Obj)}{σ:St}{H:Hp}{s:Shared}{fp:List Addr}(I:Inv X pins σ H s) (hf:∀ b∈fp,FpOk X pins H b) (ho:∀ b∈fp,∃ o,s.heap.get? b=some o∧∀ v,o.data≠.cell v):Inv X (pins++vt fp s.heap) σ H s :=
 I.pins_of fun p hp=>(List.mem_append.mp hp).elim (fun z=>I.pin p (List.mem_append_right _ z)) fun z=>by
  obtain⟨hb,e⟩:=ZO z
  obtain⟨f0,f1,f2,_⟩:=hf p.1 hb
  obtain⟨o,e',d⟩:=ho p.1 hb
  rw[e] at e';cases e'
  exact⟨e,f0,f1,f2,d⟩
theorem Inv.unpinned {pins pl:List (Addr×Obj)}{σ:St}{H:Hp}{s:Shared}(I:Inv X (pins++pl) σ H s):Inv X pins σ H s:=I.pins_of fun p hp=>I.pin p (List.mem_append_right _ (List.mem_append_left _ hp))
theorem vq {iter:Expr}{body:List Stmt}{wi:TI}{g:TG}{tb:TS}{pos:Pos}(hp:PassesOwn (model X.prog X.w) X.A X.env X.xe) (hc:X.calm=true) (hi:PI X tg iter wi) (hg:PG X tg g) (hb:PSs X body tb)
  (hs:∀ x,foldedSetIterable iter X.env x=pure x:=by intro _;rfl):PS X (.For tg iter body [] pos) (zgl wi g tb):=by
 intro pins s σ H D I h
 refine wpAny_For (thn (hi pins s σ H _ I h) fun v s1 h1=>thn h1 fun itv s2 h2=>?_) hs
 obtain⟨it,fp,tn,J,H2,e,I2,T,st2,f2,W,⟨m0,w0⟩,turn⟩:=h2
 subst e
 -- what stays true of the iterator's objects through the loop
 have stat:∀ {H':Hp},(∀ b∈fp,H' b=none)→∀ b∈fp,FpOk X pins H' b:=fun hn b hb=>⟨hn b hb,(f2 b hb).2⟩
 refine codeAny_forLoop_any (fun n s'=>∃ i σ' H',Inv X pins σ' H' s'∧tn i s'.heap∧(∀ b∈fp,H' b=none)∧W i n σ' H') ?_ m0 ⟨0,σ,H2,I2,st2,fun b hb=>(f2 b hb).1,w0⟩
 rintro n s3 ⟨i,σ3,H3,I3,st3,fr3,w3⟩
 rcases turn i n σ3 H3 w3 with⟨stop,qn⟩ | ⟨go,N,hN,step⟩
 ·refine wpAny_passesOwn hp (thn (T.done X rfl rfl rfl hc i pins s3 σ3 H3 X.xe I3 (stat fr3) st3 stop) fun r s4 ⟨hr,I4⟩=>?_)
  subst hr
  exact wpAny_execs_nil ⟨σ3,H3,I4,qn⟩
 ·refine wpAny_passesOwn hp (thn (T.item X rfl rfl rfl hc i pins s3 σ3 H3 X.xe I3 (stat fr3) st3 go) fun r s4 ⟨u,hr,h4⟩=>?_)
  subst hr
  refine wpAny_passesOwn hp (thn h4 fun _ s5 hq0=>?_)
  obtain⟨x,H5,I5,r5,y5,st5,fr5⟩:=hq0
  have I5':=I5.pinned (stat fr5) (T.obj _ _ st5)
  refine wpAny_passesOwn hp (thn (hg _ s5 σ3 H5 x u _ I5' r5 (step x H5 y5)) fun _ s6 hq0=>?_)
  obtain⟨σ6,H6,I6,q6⟩:=hq0
  refine wpAny_passesOwn hp (thn (hb _ s6 σ6 H6 _ I6 q6) fun f s7 q7=>?_)
  have again:∀ {σ7:St}{H7:Hp},Inv X (pins++vt fp s5.heap) σ7 H7 s7→N σ7 H7→∃ m,m<n∧∃ i σ' H',Inv X pins σ' H' s7∧tn i s7.heap∧(∀ b∈fp,H' b=none)∧W i m σ' H':=fun {σ7 H7} I7 n7=>by
   obtain⟨m',hm,w7⟩:=hN σ7 H7 n7
   refine⟨m',hm,i+1,σ7,H7,I7.unpinned,T.keep _ _ _ st5 fun b hb o e=>(I7.pin (b,o) (List.mem_append_right _ (List.mem_append_right _ (xi hb e)))).1,fun b hb=>?_,w7⟩
   obtain⟨o,e,d⟩:=T.obj _ _ st5 b hb
   exact(I7.pin (b,o) (List.mem_append_right _ (List.mem_append_right _ (xi hb e)))).2.1
  cases f with
  |next=>obtain⟨σ7,H7,I7,n7⟩:=q7;exact again I7 n7
  |cont=>obtain⟨σ7,H7,I7,n7⟩:=q7;exact again I7 n7
  |brk=>obtain⟨σ7,H7,I7,q7⟩:=q7;exact⟨σ7,H7,I7.unpinned,q7⟩
  |ret v=>obtain⟨x7,σ7,H7,I7,r7,q7⟩:=q7;exact⟨x7,σ7,H7,I7.unpinned,r7,q7⟩
end
theorem for_list {K:PySem.W.Frag}{a:Addr}{xs:List V}{g:TG}{tb:TS}{D:Ends}{σ:St}{H:Hp}(Pv:Nat→St→Hp→Prop) (h0:Pv 0 σ H) (hl:∀ i σ H,i≤xs.length→Pv i σ H→SqL K H a xs)
  (hs:∀ i x σ H,xs[i]?=some x→Pv i σ H→g x σ H fun σ2 H2=>tb { D with nx:=Pv (i+1),ct:=Pv (i+1),bk:=D.nx } σ2 H2) (hd:∀ σ H,Pv xs.length σ H→D.nx σ H) :
  ∃ W:Nat→Nat→St→Hp→Prop,(∃ m,W 0 m σ H)∧∀ i m σ H,W i m σ H →
   ((Itl K a).stop i H∧D.nx σ H)∨((Itl K a).go i H∧∃ N:St→Hp→Prop,(∀ σ' H',N σ' H'→∃ m',m'<m∧W (i+1) m' σ' H')∧∀ x H',(Itl K a).yld i H x H'→g x σ H' fun σ2 H2=>tb { D with nx:=N,ct:=N,bk:=D.nx } σ2 H2):=by
 refine⟨fun i m σ H=>m=xs.length-i∧i≤xs.length∧Pv i σ H,⟨xs.length,by simp,Nat.zero_le _,h0⟩,?_⟩
 rintro i m σ H ⟨rfl,hi,p⟩
 have q:=hl i σ H hi p
 by_cases hlt:i<xs.length
 ·refine .inr ⟨⟨xs,xs[i],q,by simp[hlt]⟩,Pv (i+1),fun σ' H' p'=>⟨xs.length-(i+1),by omega,rfl,hlt,p'⟩,fun x H' y=>?_⟩
  obtain⟨e,y⟩:=y
  subst e
  exact hs i x σ _ (y xs q) p
 ·have e:i=xs.length:=by omega
  subst e
  exact .inl ⟨⟨xs,q,Nat.le_refl _⟩,hd σ H p⟩
theorem for_tup {K:PySem.W.Frag}{a:Addr}{xs:List V}{g:TG}{tb:TS}{D:Ends}{σ:St}{H:Hp}(Pv:Nat→St→Hp→Prop) (h0:Pv 0 σ H) (hl:∀ i σ H,i≤xs.length→Pv i σ H→SqT K H a xs)
  (hs:∀ i x σ H,xs[i]?=some x→Pv i σ H→g x σ H fun σ2 H2=>tb { D with nx:=Pv (i+1),ct:=Pv (i+1),bk:=D.nx } σ2 H2) (hd:∀ σ H,Pv xs.length σ H→D.nx σ H) :
  ∃ W:Nat→Nat→St→Hp→Prop,(∃ m,W 0 m σ H)∧∀ i m σ H,W i m σ H →
   ((Itt K a).stop i H∧D.nx σ H)∨((Itt K a).go i H∧∃ N:St→Hp→Prop,(∀ σ' H',N σ' H'→∃ m',m'<m∧W (i+1) m' σ' H')∧∀ x H',(Itt K a).yld i H x H'→g x σ H' fun σ2 H2=>tb { D with nx:=N,ct:=N,bk:=D.nx } σ2 H2):=by
 refine⟨fun i m σ H=>m=xs.length-i∧i≤xs.length∧Pv i σ H,⟨xs.length,by simp,Nat.zero_le _,h0⟩,?_⟩
 rintro i m σ H ⟨rfl,hi,p⟩
 have q:=hl i σ H hi p
 by_cases hlt:i<xs.length
 ·refine .inr ⟨⟨xs,xs[i],q,by simp[hlt]⟩,Pv (i+1),fun σ' H' p'=>⟨xs.length-(i+1),by omega,rfl,hlt,p'⟩,fun x H' y=>?_⟩
  obtain⟨e,y⟩:=y
  subst e
  exact hs i x σ _ (y xs q) p
 ·have e:i=xs.length:=by omega
  subst e
  exact .inl ⟨⟨xs,q,Nat.le_refl _⟩,hd σ H p⟩
theorem for_range {lo:Int}{n:Nat}{g:TG}{tb:TS}{D:Ends}{σ:St}{H:Hp}(Pv:Nat→St→Hp→Prop) (h0:Pv 0 σ H)
  (hs:∀ i σ H,i<n→Pv i σ H→g (.int (lo+i)) σ H fun σ2 H2=>tb { D with nx:=Pv (i+1),ct:=Pv (i+1),bk:=D.nx } σ2 H2) (hd:∀ σ H,Pv n σ H→D.nx σ H) :
  ∃ W:Nat→Nat→St→Hp→Prop,(∃ m,W 0 m σ H)∧∀ i m σ H,W i m σ H →
   ((Itr lo n).stop i H∧D.nx σ H)∨((Itr lo n).go i H∧∃ N:St→Hp→Prop,(∀ σ' H',N σ' H'→∃ m',m'<m∧W (i+1) m' σ' H')∧∀ x H',(Itr lo n).yld i H x H'→g x σ H' fun σ2 H2=>tb { D with nx:=N,ct:=N,bk:=D.nx } σ2 H2):=by
 refine⟨fun i m σ H=>m=n-i∧i≤n∧Pv i σ H,⟨n,by simp,Nat.zero_le _,h0⟩,?_⟩
 rintro i m σ H ⟨rfl,hi,p⟩
 by_cases hlt:i<n
 ·refine .inr ⟨hlt,Pv (i+1),fun σ' H' p'=>⟨n-(i+1),by omega,rfl,hlt,p'⟩,fun x H' y=>?_⟩
  obtain⟨e,y⟩:=y
  subst e y
  exact hs i σ _ hlt p
 ·have e:i=n:=by omega
  subst e
  exact .inl ⟨Nat.le_refl _,hd σ H p⟩
abbrev R2:=V→V→Hp→VK→Prop
def OpR (X:Cx) (f:Value→Value→Sem Value) (r:R2):Prop :=
 ∀ (pins:List (Addr×Obj)) (s:Shared) (σ:St) (H:Hp) (x y:V) (v u:Value) (Q:VK),Inv X pins σ H s→RelV x v→RelV y u→r x y H Q →
  wpAny (model X.prog X.w) X.A (f v u) (EP X pins σ Q) X.xe s
def UnR (X:Cx) (f:Value→Sem Value) (r:V→Hp→VK→Prop):Prop :=
 ∀ (pins:List (Addr×Obj)) (s:Shared) (σ:St) (H:Hp) (x:V) (v:Value) (Q:VK),Inv X pins σ H s→RelV x v→r x H Q →
  wpAny (model X.prog X.w) X.A (f v) (EP X pins σ Q) X.xe s
def xB (X:Cx) (f:Value) (r:List V→Hp→VK→Prop):Prop :=
 ∀ (pins:List (Addr×Obj)) (s:Shared) (σ:St) (H:Hp) (xs:List V) (us:List Value) (Q:VK),Inv X pins σ H s→Vals xs us→r xs H Q →
  wpAny (model X.prog X.w) X.A (call f us) (EP X pins σ Q) X.xe s
def tOp (r:R2) (ta tb:TE):TE:=fun σ H Q=>ta σ H fun x H1=>tb σ H1 fun y H2=>r x y H2 Q
def tUn (r:V→Hp→VK→Prop) (ta:TE):TE:=fun σ H Q=>ta σ H fun x H1=>r x H1 Q
def rI (C:Int→Int→Prop) (g:Int→Int→V):R2:=fun x y H Q=>∃ i j,x=.int i∧y=.int j∧C i j∧Q (g i j) H
def rI0 (g:Int→Int→V):R2:=fun x y H Q=>∃ i j,x=.int i∧y=.int j∧Q (g i j) H
def rU (g:Int→V):V→Hp→VK→Prop:=fun x H Q=>∃ i,x=.int i∧Q (g i) H
section
variable {X:Cx}{a b c:Expr}{ta tb tc:TE}{pos:Pos}
theorem binT (ha:PE X a ta) (hb:PE X b tb){pins:List (Addr×Obj)}{s:Shared}{σ:St}{H:Hp}{R:V→V→Hp→Prop}(I:Inv X pins σ H s)
  (h:ta σ H fun x H1=>tb σ H1 fun y H2=>R x y H2){Q:Value→Shared→Prop}{f:Value→Value→Sem Value}
  (hf:∀ v u s2 x y H2,Inv X pins σ H2 s2→RelV x v→RelV y u→R x y H2→wpAny (model X.prog X.w) X.A (f v u) Q X.xe s2) :
  wpAny (model X.prog X.w) X.A (eval a X.env) (fun v s₁=>wpAny (model X.prog X.w) X.A (eval b X.env) (fun u s₂=>wpAny (model X.prog X.w) X.A (f v u) Q X.xe s₂) X.xe s₁) X.xe s:=by
 refine thn (ha pins s σ H _ I h) fun v s1 hq0=>?_
 obtain⟨x,H1,I1,r1,q1⟩:=hq0
 refine thn (hb pins s1 σ H1 _ I1 q1) fun u s2 hq0=>?_
 obtain⟨y,H2,I2,r2,q2⟩:=hq0
 exact hf v u s2 x y H2 I2 r1 r2 q2
theorem zdd {op:Operator}{r:R2}(ho:OpR X (binaryOp op) r) (ha:PE X a ta) (hb:PE X b tb):PE X (.BinOp a op b pos) (tOp r ta tb):=by
 intro pins s σ H Q I h
 exact wpAny_BinOp (binT ha hb I h fun v u s2 x y H2 I2 rx ry q=>ho pins s2 σ H2 x y v u Q I2 rx ry q)
theorem UI {op:UnaryOp}{r:V→Hp→VK→Prop}(ho:UnR X (unaryOp op) r) (ha:PE X a ta):PE X (.UnaryOp op a pos) (tUn r ta):=by
 intro pins s σ H Q I h
 exact UnaryOp_ (thn (ha pins s σ H _ I h) fun v s1 ⟨x,H1,I1,r1,q1⟩=>ho pins s1 σ H1 x v Q I1 r1 q1)
theorem opI {f:Value→Value→Sem Value}{C:Int→Int→Prop}{g:Int→Int→Int}
  (rule:∀ (i j:Int) (t u:Tok) (s:Shared) (Q:Value→Shared→Prop) (E:Value→Shared→Prop),C i j→Q (.int (g i j) s.toks) { s with toks:=s.toks+1 }→wpAny (model X.prog X.w) X.A (f (.int i t) (.int j u)) Q E s) :
  OpR X f (rI C fun i j=>.int (g i j)):=by
 intro pins s σ H x y v u Q I rx ry h
 obtain⟨i,j,rfl,rfl,hc,q⟩:=h
 obtain⟨t,rfl⟩:=rx
 obtain⟨t',rfl⟩:=ry
 exact rule i j t t' s _ _ hc ⟨.int (g i j),H,I.tok _,⟨_,rfl⟩,q⟩
theorem zjE {f:Value→Value→Sem Value}{g:Int→Int→Int}
  (rule:∀ (i j:Int) (t u:Tok) (s:Shared) (Q:Value→Shared→Prop) (E:Value→Shared→Prop),Q (.int (g i j) s.toks) { s with toks:=s.toks+1 }→wpAny (model X.prog X.w) X.A (f (.int i t) (.int j u)) Q E s) :
  OpR X f (rI0 fun i j=>.int (g i j)):=by
 intro pins s σ H x y v u Q I rx ry h
 obtain⟨i,j,rfl,rfl,q⟩:=h
 obtain⟨t,rfl⟩:=rx
 obtain⟨t',rfl⟩:=ry
 exact rule i j t t' s _ _ ⟨.int (g i j),H,I.tok _,⟨_,rfl⟩,q⟩
theorem zbm {f:Value→Value→Sem Value}{g:Int→Int→Bool}
  (rule:∀ (i j:Int) (t u:Tok) (s:Shared) (Q:Value→Shared→Prop) (E:Value→Shared→Prop),Q (.bool (g i j)) s→wpAny (model X.prog X.w) X.A (f (.int i t) (.int j u)) Q E s) :
  OpR X f (rI0 fun i j=>.bl (g i j)):=by
 intro pins s σ H x y v u Q I rx ry h
 obtain⟨i,j,rfl,rfl,q⟩:=h
 obtain⟨t,rfl⟩:=rx
 obtain⟨t',rfl⟩:=ry
 exact rule i j t t' s _ _ ⟨.bl (g i j),H,I,rfl,q⟩
def zlX (i j:Int):Prop:=0≤j∧j≤1000000∧i.natAbs<2 ^ 64
def CMul (i j:Int):Prop:=(-(2 ^ 64)<i∧i<2 ^ 64)∨(-(2 ^ 64)<j∧j<2 ^ 64)
theorem CMul.ok {i j:Int}(h:CMul i j):IntMulOk i j:=by
 rcases h with⟨h1,h2⟩ | ⟨h1,h2⟩
 ·exact .of_left (intBits_le_64 h1 h2)
 ·exact .of_right (intBits_le_64 h1 h2)
theorem yZ:OpR X (binaryOp .Add) (rI0 fun i j=>.int (i+j)):=zjE fun _ _ _ _ _ _ _ q=>add_int q
theorem wD:OpR X (binaryOp .Sub) (rI0 fun i j=>.int (i-j)):=zjE fun _ _ _ _ _ _ _ q=>sub_int q
theorem vz:OpR X (binaryOp .Mult) (rI CMul fun i j=>.int (i*j)):=opI fun _ _ _ _ _ _ _ hc q=>mul_int q hc.ok
theorem xK:OpR X (binaryOp .Mod) (rI (fun _ j=>0<j) fun i j=>.int (i%j)):=opI fun i j _ _ _ _ _ hc q=>by
 have h1:(0:Int)<j:=hc
 exact mod_int' (by omega) (by rw[Int.fmod_eq_emod_of_nonneg i (by omega)];exact q)
theorem uw:OpR X (binaryOp .Pow) (rI zlX fun i j=>.int (i ^ j.toNat)):=opI fun _ _ _ _ _ _ _ hc q=>pow_int_small hc.1 hc.2.1 hc.2.2 q
theorem unI {f:Value→Sem Value}{g:Int→Int}
  (rule:∀ (i:Int) (t:Tok) (s:Shared) (Q:Value→Shared→Prop) (E:Value→Shared→Prop),Q (.int (g i) s.toks) { s with toks:=s.toks+1 }→wpAny (model X.prog X.w) X.A (f (.int i t)) Q E s) :
  UnR X f (rU fun i=>.int (g i)):=by
 intro pins s σ H x v Q I rx h
 obtain⟨i,rfl,q⟩:=h
 obtain⟨t,rfl⟩:=rx
 exact rule i t s _ _ ⟨.int (g i),H,I.tok _,⟨_,rfl⟩,q⟩
theorem yJ:UnR X (unaryOp .USub) (rU fun i=>.int (-i)):=unI fun _ _ _ _ _ q=>neg_int q
end
noncomputable def zjx:V→V→Bool
 |.non,.non=>true | .non,.int _=>true | .int _,.non=>true | .non,.bl _=>true | .bl _,.non=>true | .non,.str _=>true | .str _,.non=>true
 |.int _,.int _=>true | .bl _,.bl _=>true | .str _,.str _=>true | .byt _,.byt _=>true
 |.int _,.str _=>true | .str _,.int _=>true | .bl _,.str _=>true | .str _,.bl _=>true
 |_,_=>false
def rEq:R2:=fun x y H Q=>zjx x y=true∧Q (.bl (decide (x=y))) H
def rNe:R2:=fun x y H Q=>zjx x y=true∧Q (.bl (!decide (x=y))) H
theorem Yd {i j:Int}:decide (V.int i=V.int j)=(i == j):=by
 rw[Bool.eq_iff_iff]
 simp
theorem X1 {i j:Bool}:decide (V.bl i=V.bl j)=(i == j):=by
 rw[Bool.eq_iff_iff]
 simp
theorem Yc {i j:Str}:decide (V.str i=V.str j)=(i == j):=by
 rw[Bool.eq_iff_iff]
 simp
theorem Ye {i j:Array UInt8}:decide (V.byt i=V.byt j)=(i.toList == j.toList):=by
 rw[Bool.eq_iff_iff]
 cases i
 cases j
 simp
section
variable {X:Cx}{a b c:Expr}{ta tb tc:TE}{pos:Pos}
theorem zM {pins:List (Addr×Obj)}{σ:St}{H:Hp}{s:Shared}{Q:VK}{k k':Bool}(I:Inv X pins σ H s) (q:Q (.bl k) H) (e:k=k'):EP X pins σ Q (.bool k') s:=by
 subst e
 exact⟨.bl k,H,I,rfl,q⟩
theorem xt:OpR X (compareOp .Eq) rEq:=by
 intro pins s σ H x y v u Q I rx ry h
 obtain⟨hs,q⟩:=h
 cases x with
 |non =>
  cases rx
  cases y with
  |non=>cases ry;exact PySem.EqNone.eq_none_none (zM I q (by simp))
  |bl j=>cases ry;exact PySem.EqNone.eq_none_bool (zM I q (by simp))
  |int j=>obtain⟨t',rfl⟩:=ry;exact PySem.EqNone.eq_none_int (zM I q (by simp))
  |str j=>obtain⟨t',rfl⟩:=ry;exact PySem.EqNone.eq_none_str (zM I q (by simp))
  |_=>exact absurd (show false=true from hs) Bool.false_ne_true
 |bl i =>
  cases rx
  cases y with
  |non=>cases ry;exact PySem.EqNone.eq_bool_none (zM I q (by simp))
  |bl j=>cases ry;exact eq_bool (zM I q X1)
  |str j=>obtain⟨t',rfl⟩:=ry;exact PySem.EqMixed.eq_bool_str (zM I q (by simp))
  |_=>exact absurd (show false=true from hs) Bool.false_ne_true
 |int i =>
  obtain⟨t,rfl⟩:=rx
  cases y with
  |non=>cases ry;exact PySem.EqNone.eq_int_none (zM I q (by simp))
  |int j=>obtain⟨t',rfl⟩:=ry;exact eq_int (zM I q Yd)
  |str j=>obtain⟨t',rfl⟩:=ry;exact PySem.EqMixed.eq_int_str (zM I q (by simp))
  |_=>exact absurd (show false=true from hs) Bool.false_ne_true
 |str i =>
  obtain⟨t,rfl⟩:=rx
  cases y with
  |non=>cases ry;exact PySem.EqNone.eq_str_none (zM I q (by simp))
  |bl j=>cases ry;exact PySem.EqMixed.eq_str_bool (zM I q (by simp))
  |int j=>obtain⟨t',rfl⟩:=ry;exact PySem.EqMixed.eq_str_int (zM I q (by simp))
  |str j=>obtain⟨t',rfl⟩:=ry;exact eq_str (zM I q Yc)
  |_=>exact absurd (show false=true from hs) Bool.false_ne_true
 |byt i =>
  obtain⟨t,rfl⟩:=rx
  cases y with
  |byt j=>obtain⟨t',rfl⟩:=ry;exact PySem.W.eq_bytes (zM I q Ye)
  |_=>exact absurd (show false=true from hs) Bool.false_ne_true
 |_=>cases y<;>exact absurd (show false=true from hs) Bool.false_ne_true
theorem uS:OpR X (compareOp .NotEq) rNe:=by
 intro pins s σ H x y v u Q I rx ry h
 obtain⟨hs,q⟩:=h
 cases x with
 |non =>
  cases rx
  cases y with
  |non=>cases ry;exact PySem.EqNone.ne_none_none (zM I q (by simp))
  |bl j=>cases ry;exact PySem.EqNone.ne_none_bool (zM I q (by simp))
  |int j=>obtain⟨t',rfl⟩:=ry;exact PySem.EqNone.ne_none_int (zM I q (by simp))
  |str j=>obtain⟨t',rfl⟩:=ry;exact PySem.EqNone.ne_none_str (zM I q (by simp))
  |_=>exact absurd (show false=true from hs) Bool.false_ne_true
 |bl i =>
  cases rx
  cases y with
  |non=>cases ry;exact PySem.EqNone.ne_bool_none (zM I q (by simp))
  |bl j=>cases ry;exact ne_bool (zM I q (congrArg not X1))
  |str j=>obtain⟨t',rfl⟩:=ry;exact PySem.EqMixed.ne_bool_str (zM I q (by simp))
  |_=>exact absurd (show false=true from hs) Bool.false_ne_true
 |int i =>
  obtain⟨t,rfl⟩:=rx
  cases y with
  |non=>cases ry;exact PySem.EqNone.ne_int_none (zM I q (by simp))
  |int j=>obtain⟨t',rfl⟩:=ry;exact ne_int (zM I q (congrArg not Yd))
  |str j=>obtain⟨t',rfl⟩:=ry;exact PySem.EqMixed.ne_int_str (zM I q (by simp))
  |_=>exact absurd (show false=true from hs) Bool.false_ne_true
 |str i =>
  obtain⟨t,rfl⟩:=rx
  cases y with
  |non=>cases ry;exact PySem.EqNone.ne_str_none (zM I q (by simp))
  |bl j=>cases ry;exact PySem.EqMixed.ne_str_bool (zM I q (by simp))
  |int j=>obtain⟨t',rfl⟩:=ry;exact PySem.EqMixed.ne_str_int (zM I q (by simp))
  |str j=>obtain⟨t',rfl⟩:=ry;exact ne_str (zM I q (congrArg not Yc))
  |_=>exact absurd (show false=true from hs) Bool.false_ne_true
 |byt i =>
  obtain⟨t,rfl⟩:=rx
  cases y with
  |byt j=>obtain⟨t',rfl⟩:=ry;exact PySem.W.ne_bytes (zM I q (congrArg not Ye))
  |_=>exact absurd (show false=true from hs) Bool.false_ne_true
 |_=>cases y<;>exact absurd (show false=true from hs) Bool.false_ne_true
theorem v0:OpR X (compareOp .Lt) (rI0 fun i j=>.bl (decide (i<j))):=zbm fun _ _ _ _ _ _ _ q=>lt_int q
theorem zde:OpR X (compareOp .LtE) (rI0 fun i j=>.bl (decide (i≤j))):=zbm fun _ _ _ _ _ _ _ q=>le_int q
theorem uT:OpR X (compareOp .Gt) (rI0 fun i j=>.bl (decide (j<i))):=zbm fun _ _ _ _ _ _ _ q=>gt_int q
theorem zdf:OpR X (compareOp .GtE) (rI0 fun i j=>.bl (decide (j≤i))):=zbm fun _ _ _ _ _ _ _ q=>ge_int q
theorem wU:OpR X (compareOp .IsNot) (fun x y H Q=>y=.non∧Q (.bl (!decide (x=.non))) H):=by
 intro pins s σ H x y v u Q I rx ry h
 obtain⟨rfl,q⟩:=h
 cases ry
 refine isnot_none_gen (zM I q ?_)
 cases x<;>first
  |(cases rx;rfl)
  |(obtain⟨t,rfl⟩:=rx;rfl)
theorem zB (b:Expr){op:CmpOp}(h:op≠.In:=by decide) (h2:op≠.NotIn:=by decide):behindInMarks op b=false:=by
 have e1:(op == CmpOp.In)=false:=by cases op<;>first | rfl | exact absurd rfl h
 have e2:(op == CmpOp.NotIn)=false:=by cases op<;>first | rfl | exact absurd rfl h2
 cases b<;>simp[behindInMarks,e1,e2]
theorem wT {op:CmpOp}{r:R2}(ho:OpR X (compareOp op) r) (ha:PE X a ta) (hb:PE X b tb) (hm:behindInMarks op b=false):PE X (.Compare a [op] [b] pos) (tOp r ta tb):=by
 intro pins s σ H Q I h
 exact wpAny_Compare1 (binT ha hb I h fun v u s2 x y H2 I2 rx ry q=>ho pins s2 σ H2 x y v u Q I2 rx ry q) hm
def Ue (t:TE):TT:=fun σ H Q=>t σ H fun x H'=>∃ k,x=.bl k∧Q k H'
theorem xD {op:CmpOp}{r:R2}(ho:OpR X (compareOp op) r) (ha:PE X a ta) (hb:PE X b tb) (hm:behindInMarks op b=false):PT X (.Compare a [op] [b] pos) (Ue (tOp r ta tb)):=by
 intro pins s σ H Q I h
 refine wpAny_isTrue_Compare1 (thn (ha pins s σ H _ I h) fun v s1 ⟨x,H1,I1,r1,q1⟩=>thn (hb pins s1 σ H1 _ I1 q1) fun u s2 ⟨y,H2,I2,r2,q2⟩ =>
  thn (ho pins s2 σ H2 x y v u _ I2 r1 r2 q2) fun c s3 ⟨z,H3,I3,r3,k,e,q3⟩=>?_) hm
 subst e
 cases r3
 exact wpAny_truthy_bool ⟨H3,I3,q3⟩
theorem ZW:(sizeLine:Nat)<2 ^ 63:=by rw[sizeLine_eq];decide
theorem Yv {x:V}{us:List Value}(r:Vals [x] us):∃ u,us=[u]∧RelV x u:=by
 cases r with
 |cons r1 r2=>cases r2;exact⟨_,rfl,r1⟩
end
structure ObjM (h:Heap) (x dx C:Addr) (mA:Str→Option Value):Prop where
 obj:h.get? x=some (PySem.W.instObj C dx)
 ns:h.Ns1 dx mA
 ne:dx≠x
theorem ZV {h:Heap}{dx:Addr}{mA:Str→Option Value}(n:h.Ns1 dx mA):∃ od,h.get? dx=some od∧∀ name,PySem.W.lookIn name od=some (mA name):=by
 obtain⟨o,es,ep,ho,hd,hk,_,hm⟩:=n
 refine⟨o,ho,fun name=>?_⟩
 have e:=hm name
 unfold nsFind findBy at e
 rw[← Array.find?_toList] at e
 unfold PySem.W.lookIn
 rw[hd]
 dsimp only
 split
 ·rename_i y q
  rw[q] at e
  exact congrArg some e
 ·rename_i q
  rw[q] at e
  have a:es.toList.any (·.refKey)=false:=by
   rw[List.any_eq_false]
   intro y hy
   obtain⟨z,t,hkey⟩:=hk y (Array.mem_toList_iff.mp hy)
   simp[DictEntry.refKey,hkey]
  have a':¬ es.toList.any (·.refKey)=true:=by rw[a];exact Bool.false_ne_true
  rw[if_neg a']
  exact congrArg some e
theorem ObjM.look {h:Heap}{x dx C:Addr}{mA:Str→Option Value}(I:ObjM h x dx C mA):∃ od,PySem.W.InstAt h x (PySem.W.instObj C dx) C (some od)∧∀ name,PySem.W.lookIn name od=some (mA name) :=
 let ⟨od,ho,hl⟩:=ZV I.ns
 ⟨od,⟨I.obj,rfl,rfl,ho⟩,hl⟩
section
variable {prog:Program}{w:World}{A:Around}{E:Value→Shared→Prop}{s:Shared}{K:PySem.W.Frag}{x dx C f:Addr}{mA:Str→Option Value}{name:Str}{v:Value}
theorem VI {expr:Bool}{Q:Value→Shared→Prop}(X:K.In s.heap) (I:ObjM s.heap x dx C mA) (hg:PySem.W.plainGet K C name=true) (hh:PySem.W.hasDictIn K C=true)
  (ha:PySem.W.findIn K (.ref C) name=some none) (hv:mA name=some v) (hv':PySem.W.handedIn v=true) (h:Q v { s with toks:=s.toks+1 }) :
  wpAny (model prog w) A (getAttr (.ref x) name expr) Q E s:=by
 obtain⟨od,J,hl⟩:=I.look
 exact PySem.W.get_value X J (PySem.W.plainGet_of hg).1 (PySem.W.findObj_own hh ha rfl (by rw[hl,hv])) hv' h
theorem Xh {pl:Sem Bool}{Q:Value×List Value→Shared→Prop}(X:K.In s.heap) (I:ObjM s.heap x dx C mA) (hg:PySem.W.plainGet K C name=true)
  (hf:PySem.W.findIn K (.ref C) name=some (some (.ref f))) (ht:PySem.W.isFn K (.ref f)=true) (hv:mA name=none) (h:Q (.ref f,[.ref x]) s) :
  wpAny (model prog w) A (getMethod (.ref x) name pl) Q E s:=by
 obtain⟨od,J,hl⟩:=I.look
 exact PySem.W.method_fn X J (PySem.W.plainGet_of hg).1 (PySem.W.plainGet_of hg).2 hf (beq_iff_eq.mp ht) (by show(PySem.W.lookIn name od).map (·.isSome)=some false;rw[hl,hv];rfl) h
theorem W0 {ns:List Str}{Q:Unit→Shared→Prop}(X:K.In s.heap) (I:ObjM s.heap x dx C mA)
  (hs:PySem.W.findIn K (.ref C) "__setattr__" = some (some (.builtin "object.__setattr__"))) (hp:PySem.W.plainOver K C=true) (ht:PySem.W.takerIn K C name=some none) (hh:PySem.W.hasDictIn K C=true)
  (hw:PySem.Within mA ns) (hsz:ns.length≤sizeLine)
  (h:∀ h',ObjM h' x dx C (fun y=>if y=name then some v else mA y)→Heap.SameBut dx s.heap h'→Q () { s with heap:=h',toks:=s.toks+2 }) :
  wpAny (model prog w) A (setAttr (.ref x) name v) Q E s:=by
 obtain⟨od,J,hl⟩:=I.look
 refine PySem.W.set_plain X J hs (PySem.W.osa_open (s:={ s with toks:=s.toks+1 }) (r:=none) X J hp ht fun b=>?_)
 obtain⟨cd,hc,hd'⟩:=PySem.W.any_some hh
 have hx:s.heap.get? x=some ⟨.ref C,some dx,.plain,#[]⟩:=I.obj
 refine wpAny_bind (wpAny_pure (wpAny_bind (wpAny_bind (wpAny_loadPart hx (wpAny_bind (PySem.W.Looks.here (s:={ s with toks:=s.toks+1 }) (PySem.W.looks_clsIn X hc) ?_))))))
 rw[hd']
 refine wpAny_pure (a:=some dx) (wpAny_bind (wpAny_pure (wpAny_bind ?_)))
 refine wpAny_nsSet1 (s:={ s with toks:=s.toks+1 }) I.ns fun h' hn2 hs2=>?_
 obtain⟨oD,esD,epD,hoD,hdD,hcD⟩:=hn2.count (PySem.Within.cons name v hw)
 refine wpAny_bind (wpAny_lookBehind hoD (by rw[hdD];exact pastItsLine_dict (Nat.le_trans hcD (by rw[List.length_cons];omega))) ?_)
 exact wpAny_pure (h _ ⟨(hs2.2 _ (Ne.symm I.ne)).trans I.obj,hn2,I.ne⟩ hs2)
theorem Y8 {R:Result→Shared→Prop}{vs:List Value}{kw:List (Str×Value)}(X:K.In s.heap) (hm:PySem.W.makesIn K C=true)
  (hi:PySem.W.findIn K (.ref C) "__init__" = some (some (.ref f))) (hf:PySem.W.typeIn K (.ref f)=some (.type "function"))
  (h:codeAny (model prog w) (A.under (.builtin "type.__call__" ⟨.ref C::vs,kw⟩)) (.call (.ref f) ⟨.ref (s.heap.objs.size+1)::vs,kw⟩) (PySem.W.InitBack (s.heap.objs.size+1) R)
   { s with heap:=(s.heap.push PySem.W.emptyDict).push (PySem.W.instObj C s.heap.objs.size) }) :
  codeAny (model prog w) A (.call (.ref C) ⟨vs,kw⟩) R s:=by
 obtain⟨hh,g,d,t,os⟩:=s
 exact PySem.W.make_core (PySem.W.makes_of X hm) (PySem.W.looks_findIn X hi) (fun self=>PySem.W.bind_fn X self hf) (.inl rfl) h
end
noncomputable def vL (f:Str) (v:V):List (Str×V)→List (Str×V)
 |[]=>[(f,v)]
 |(g,x)::r=>if g=f then(g,v)::r else(g,x)::vL f v r
theorem wf (f g:Str) (v:V):∀ fs:List (Str×V),(vL f v fs).lookup g=if g=f then some v else fs.lookup g
 |[]=>by
  show List.lookup g [(f,v)]=_
  by_cases h:g=f
  ·have hb:(g == f)=true:=beq_iff_eq.mpr h
   simp only[List.lookup,hb,if_pos h]
  ·have hb:(g == f)=false:=beq_eq_false_iff_ne.mpr h
   simp only[List.lookup,hb,if_neg h]
 |(k,x)::r=>by
  have ih:=wf f g v r
  rw[show vL f v ((k,x)::r)=(if k=f then(k,v)::r else(k,x)::vL f v r) from rfl]
  by_cases hk:k=f
  ·rw[if_pos hk]
   by_cases h:g=k
   ·have hb:(g == k)=true:=beq_iff_eq.mpr h
    simp only[List.lookup,hb,if_pos (h.trans hk)]
   ·have hb:(g == k)=false:=beq_eq_false_iff_ne.mpr h
    simp only[List.lookup,hb,if_neg (fun e:g=f=>h (e.trans hk.symm))]
  ·rw[if_neg hk]
   by_cases h:g=k
   ·have hb:(g == k)=true:=beq_iff_eq.mpr h
    simp only[List.lookup,hb,if_neg (fun e:g=f=>hk (h.symm.trans e))]
   ·have hb:(g == k)=false:=beq_eq_false_iff_ne.mpr h
    simp only[List.lookup,hb]
    exact ih
theorem wj (f:Str) (v:V):∀ fs:List (Str×V),f∈(vL f v fs).map (·.1)∧∀ g,g∈fs.map (·.1)→g∈(vL f v fs).map (·.1)
 |[]=>⟨by simp[vL],fun g h=>by simp at h⟩
 |(k,x)::r=>by
  obtain⟨i1,i2⟩:=wj f v r
  rw[show vL f v ((k,x)::r)=(if k=f then(k,v)::r else(k,x)::vL f v r) from rfl]
  by_cases hk:k=f
  ·rw[if_pos hk]
   subst hk
   exact⟨by simp,fun g h=>by simpa using h⟩
  ·rw[if_neg hk]
   refine⟨?_,fun g h=>?_⟩
   ·rw[List.map_cons]
    exact List.mem_cons_of_mem _ i1
   ·rw[List.map_cons] at h ⊢
    rcases List.mem_cons.mp h with e | e
    ·exact List.mem_cons.mpr (.inl e)
    ·exact List.mem_cons_of_mem _ (i2 g e)
theorem wg (f:Str) (v:V):∀ fs:List (Str×V),(vL f v fs).length≤fs.length+1
 |[]=>by simp[vL]
 |(k,x)::r=>by
  have ih:=wg f v r
  rw[show vL f v ((k,x)::r)=(if k=f then(k,v)::r else(k,x)::vL f v r) from rfl]
  by_cases hk:k=f
  ·rw[if_pos hk,List.length_cons,List.length_cons];omega
  ·rw[if_neg hk,List.length_cons,List.length_cons];omega
theorem RelO.some_of {v:V}{o:Option Value}(r:RelO (some v) o):∃ u,o=some u∧RelV v u:=by
 cases o with
 |none=>exact(show False from r).elim
 |some u=>exact⟨u,rfl,r⟩
theorem RelO.none_of {o:Option Value}(r:RelO none o):o=none:=by
 cases o with
 |none=>rfl
 |some u=>exact(show False from r).elim
theorem Z8 {v:V}{u:Value}(r:RelV v u):PySem.W.handedIn u=true:=by
 cases v with
 |non=>cases (show u=Value.none from r);rfl
 |bl b=>cases (show u=Value.bool b from r);rfl
 |int i=>obtain⟨t,e⟩:=(show ∃ t,u=Value.int i t from r);cases e;rfl
 |str x=>obtain⟨t,e⟩:=(show ∃ t,u=Value.str x t from r);cases e;rfl
 |byt b=>obtain⟨t,e⟩:=(show ∃ t,u=Value.bytes b t from r);cases e;rfl
 |flt b=>obtain⟨t,e⟩:=(show ∃ t,u=Value.float b t from r);cases e;rfl
 |ref a=>cases (show u=Value.ref a from r);rfl
 |ty n=>cases (show u=Value.type n from r);rfl
section
variable {P:Program}{w:World}{H H':Hp}{h h':Heap}{a C dx:Addr}{fs fs':List (Str×V)}
theorem wZ (hok:HOk P w H h) (e:H a=some (.ins C dx fs)):∃ mA,ObjM h a dx C mA∧(∀ f,RelO (fs.lookup f) (mA f))∧PySem.Within mA (fs.map (·.1))∧fs.length≤1000∧H dx=some (.own a):=by
 obtain⟨d,z,ne,ob,mA,n,r,q⟩:=(show ObjOk P w H h a (.ins C dx fs) from hok a _ e)
 exact⟨mA,⟨ob,n,ne⟩,r,q,z,d⟩
end
structure Cls (K:PySem.W.Frag) (C:Addr):Prop where
 pg:PySem.W.plainGet K C Str.empty=true
 hd:PySem.W.hasDictIn K C=true
 po:PySem.W.plainOver K C=true
 sa:PySem.W.findIn K (.ref C) "__setattr__" = some (some (.builtin "object.__setattr__"))
theorem Cls.get {K:PySem.W.Frag}{C:Addr}(c:Cls K C) (f:Str):PySem.W.plainGet K C f=true:=c.pg
def NoAttr (K:PySem.W.Frag) (C:Addr) (f:Str):Prop:=PySem.W.findIn K (.ref C) f=some none
theorem NoAttr.taker {K:PySem.W.Frag}{C:Addr}{f:Str}(n:NoAttr K C f):PySem.W.takerIn K C f=some none:=by
 unfold PySem.W.takerIn
 rw[show PySem.W.findIn K (.ref C) f=some none from n]
 rfl
structure Meth (K:PySem.W.Frag) (C:Addr) (m:Str) (f:Addr):Prop where
 at_:PySem.W.findIn K (.ref C) m=some (some (.ref f))
 fn:PySem.W.isFn K (.ref f)=true
 kp:PySem.W.keepIn K (.ref f)=true
section
variable {X:Cx}{pins:List (Addr×Obj)}{σ:St}{H:Hp}{s:Shared}{a C dx:Addr}{fs:List (Str×V)}{f:Str}{v:V}{A:Around}{E:Value→Shared→Prop}
theorem uY {b:Bool}{Q:Value→Shared→Prop}(I:Inv X pins σ H s) (e:H a=some (.ins C dx fs)) (c:Cls X.K C) (n:NoAttr X.K C f) (l:fs.lookup f=some v)
  (h:∀ u s',Inv X pins σ H s'→RelV v u→Q u s'):wpAny (model X.prog X.w) A (getAttr (.ref a) f b) Q E s:=by
 obtain⟨mA,O,r,_,_,_⟩:=wZ I.hok e
 obtain⟨u,hu,ru⟩:=RelO.some_of (v:=v) (o:=mA f) (by rw[← l];exact r f)
 exact VI I.kIn O (c.get f) c.hd n hu (Z8 ru) (h u _ (I.tok _) ru)
theorem xj {m:Str}{g:Addr}{pl:Sem Bool}{Q:Value×List Value→Shared→Prop}(I:Inv X pins σ H s) (e:H a=some (.ins C dx fs)) (c:Cls X.K C) (k:Meth X.K C m g) (l:fs.lookup m=none)
  (h:Q (.ref g,[.ref a]) s):wpAny (model X.prog X.w) A (getMethod (.ref a) m pl) Q E s:=by
 obtain⟨mA,O,r,_,_,_⟩:=wZ I.hok e
 have hn:mA m=none:=RelO.none_of (by rw[← l];exact r m)
 exact Xh I.kIn O (c.get m) k.at_ k.fn hn h
theorem uP {y:V}{u:Value}{Q:Unit→Shared→Prop}(I:Inv X pins σ H s) (e:H a=some (.ins C dx fs)) (c:Cls X.K C) (n:NoAttr X.K C f) (hl:fs.length<1000) (ry:RelV y u)
  (h:∀ s',Inv X pins σ (upd H a (.ins C dx (vL f y fs))) s'→Q () s'):wpAny (model X.prog X.w) A (setAttr (.ref a) f u) Q E s:=by
 obtain⟨mA,O,r,wi,_,ho⟩:=wZ I.hok e
 have hz:(fs.map (·.1)).length≤sizeLine:=by rw[List.length_map,sizeLine_eq];omega
 refine W0 I.kIn O c.sa c.po n.taker c.hd wi hz fun h' O' sb=>h _ ?_
 have hd:∃ o,h'.get? dx=some o:=let ⟨o,_,_,e',_⟩:=O'.ns;⟨o,e'⟩
 refine I.write (x:=a) (e:=dx) (by rw[e];exact True.intro) (.inr ho) (fun b q hb z=>(sb.2 b hb).trans z) hd ?_
 refine⟨by rw[upd_ne O.ne];exact ho,?_,O.ne,O'.obj,_,O'.ns,fun g=>?_,fun g hg=>?_⟩
 ·have:=wg f y fs;omega
 ·show RelO ((vL f y fs).lookup g) (if g=f then some u else mA g)
  rw[wf]
  by_cases q:g=f
  ·rw[if_pos q,if_pos q];exact ry
  ·rw[if_neg q,if_neg q];exact r g
 ·by_cases q:g=f
  ·rw[q];exact(wj f y fs).1
  ·refine(wj f y fs).2 g (wi g fun z=>hg ?_)
   show(if g=f then some u else mA g)=none
   rw[if_neg q];exact z
theorem Inv.made (I:Inv X pins σ H s):Inv X pins σ (upd (upd H s.heap.objs.size (.own (s.heap.objs.size+1))) (s.heap.objs.size+1) (.ins C s.heap.objs.size []))
  { s with heap:=(s.heap.push PySem.W.emptyDict).push (PySem.W.instObj C s.heap.objs.size) }:=by
 have e1:(s.heap.push PySem.W.emptyDict).get? s.heap.objs.size=some PySem.W.emptyDict:=Heap.get?_push_size s.heap rfl
 have e2:((s.heap.push PySem.W.emptyDict).push (PySem.W.instObj C s.heap.objs.size)).get? (s.heap.objs.size+1)=some (PySem.W.instObj C s.heap.objs.size):=by
  have:=Heap.get?_push_size (s.heap.push PySem.W.emptyDict) (o:=PySem.W.instObj C s.heap.objs.size) rfl
  rwa [Heap.size_push] at this
 have e3:(s.heap.push PySem.W.emptyDict).Ns s.heap.objs.size (fun _=>none):=⟨PySem.W.emptyDict,#[],_,e1,rfl,(fun e he=>absurd he (by simp)),fun _=>rfl⟩
 have I1:=I.laid (a:=s.heap.objs.size) (o:=.own (s.heap.objs.size+1)) (h':=s.heap.push PySem.W.emptyDict) (t':=s.toks) (fun b u q=>Heap.get?_push_of_some _ q) (Nat.le_refl _) ⟨_,e1⟩
 refine I1.laid (a:=s.heap.objs.size+1) (o:=.ins C s.heap.objs.size []) (t':=s.toks) (fun b u q=>Heap.get?_push_of_some _ q) (Nat.le_of_eq (Heap.size_push _ _)) ?_
 have ne:s.heap.objs.size≠s.heap.objs.size+1:=Nat.ne_of_lt (Nat.lt_succ_self _)
 refine⟨by rw[upd_ne ne,upd_same],Nat.zero_le _,ne,e2,fun _=>none,(Heap.Ns1.of_empty e3).at fun o q=>Heap.get?_push_of_some _ q,fun _=>True.intro,fun y hy=>absurd rfl hy⟩
theorem attr_of {prog:Program}{w:World}{env:Env}{e:Expr}{f:Str}{pos:Pos}{s:Shared}{Q:Value→Shared→Prop}(hb:attributeBase e f env (eval e env)=eval e env)
  (h:wpAny (model prog w) A (eval e env) (fun o s₁=>wpAny (model prog w) A (getAttr o f true) Q E s₁) E s):wpAny (model prog w) A (eval (.Attribute e f pos) env) Q E s :=
 Attribute_any_ h (by rw[arm_eval_Attribute,hb])
end
def zgm (K:PySem.W.Frag) (ta:TE) (f:Str):TE:=fun σ H Q=>ta σ H fun x H1=>∃ a C dx fs v,x=.ref a∧H1 a=some (.ins C dx fs)∧Cls K C∧NoAttr K C f∧fs.lookup f=some v∧Q v H1
def zjy (K:PySem.W.Frag) (ta tv:TE) (f:Str):TS:=fun D σ H=>tv σ H fun y H1=>ta σ H1 fun x H2=>∃ a C dx fs,x=.ref a∧H2 a=some (.ins C dx fs)∧Cls K C∧NoAttr K C f∧fs.length<1000 ∧
 D.nx σ (upd H2 a (.ins C dx (vL f y fs)))
section
variable {X:Cx}{o e value:Expr}{f:Str}{pos pos' tpos:Pos}{ta tv:TE}
theorem UM (he:PE X e ta) (hb:attributeBase e f X.env (eval e X.env)=eval e X.env):PE X (.Attribute e f pos) (zgm X.K ta f):=by
 intro pins s σ H Q I h
 refine attr_of hb (thn (he pins s σ H _ I h) fun u s1 hq0=>?_)
 obtain⟨x,H1,I1,rx,a,C,dx,fs,v,ex,ea,c,n,l,q⟩:=hq0
 subst ex
 obtain rfl:u=Value.ref a:=rx
 exact uY I1 ea c n l fun u' s2 I2 ru=>⟨v,H1,I2,ru,q⟩
theorem ul (ha:PE X o ta) (hv:PE X value tv) (hs:swapsWith value (some (.Attribute o f pos')) pos.line X.env=pure false):PS X (.Assign [.Attribute o f pos'] value pos) (zjy X.K ta tv f):=by
 intro pins s σ H D I h
 refine plainObj_wpAny_Assign_Attribute (thn (hv pins s σ H _ I h) fun u s1 ⟨y,H1,I1,ry,q⟩=>thn (ha pins s1 σ H1 _ I1 q) fun ov s2 hq0=>?_) hs
 obtain⟨x,H2,I2,rx,a,C,dx,fs,ex,ea,c,n,l,q2⟩:=hq0
 subst ex
 obtain rfl:ov=Value.ref a:=rx
 exact uP I2 ea c n l ry fun s3 I3=>⟨σ,_,I3,q2⟩
theorem VC {pl:Sem Bool}{m:Str}{apos:Pos}{args:List Expr}{pins:List (Addr×Obj)}{s:Shared}{σ:St}{H:Hp}{Q:Value→Shared→Prop}{te:TE}(he:PE X e te) (I:Inv X pins σ H s)
  (h:te σ H fun x H1=>∃ a C dx fs g,x=.ref a∧H1 a=some (.ins C dx fs)∧Cls X.K C∧Meth X.K C m g∧fs.lookup m=none ∧
   ∀ s1,Inv X pins σ H1 s1→wpAny (model X.prog X.w) X.A (callWith pos (.ref g) [.ref a] (backTo pos (starEach args X.env)) (backToKw pos (keywordEach [] X.env))) Q X.xe s1)
  (ht:eval (.Call (.Attribute e m apos) args [] pos) X.env=(do
   let ov ← eval e X.env
   standAt apos.atName
   let (f,first) ← holding [ov] (getMethod ov m pl)
   callWith pos f first (backTo pos (starEach args X.env)) (backToKw pos (keywordEach [] X.env)))) :
  wpAny (model X.prog X.w) X.A (eval (.Call (.Attribute e m apos) args [] pos) X.env) Q X.xe s:=by
 refine PySem.W.methodCall_KW (pl:=pl) (thn (he pins s σ H _ I h) fun u s1 hq0=>?_) ht
 obtain⟨x,H1,I1,rx,a,C,dx,fs,g,ex,ea,c,k,l,q⟩:=hq0
 subst ex
 obtain rfl:u=Value.ref a:=rx
 exact xj I1 ea c k l (q s1 I1)
end
section
variable {X:Cx}{pins:List (Addr×Obj)}{σ:St}{H:Hp}{s:Shared}{A:Around}{E:Value→Shared→Prop}{Q:Value→Shared→Prop}{c:Value}{b:Bool}
inductive TyOf (K:PySem.W.Frag) (H:Hp):V→Value→Prop where
 |non:TyOf K H .non (.type "NoneType")
 |bl (x:Bool):TyOf K H (.bl x) (.type "bool")
 |int (i:Int):TyOf K H (.int i) (.type "int")
 |str (x:Str):TyOf K H (.str x) (.type "str")
 |flt (x:UInt64):TyOf K H (.flt x) (.type "float")
 |lst {a:Addr}{xs:List V}(e:H a=some (.lst xs)):TyOf K H (.ref a) (.type "list")
 |frz {a:Addr}{o:Obj}{xs:List V}(e:H a=some (.frz o (.lst xs))):TyOf K H (.ref a) (.type "list")
 |tup {a:Addr}{xs:List V}(e:H a=some (.tup xs)):TyOf K H (.ref a) (.type "tuple")
 |dK {a:Addr}{kvs:List (Key×V)}(e:H a=some (.dK kvs)):TyOf K H (.ref a) (.type "dict")
 |dT {a:Addr}{kvs:List (List Key×V)}(e:H a=some (.dT kvs)):TyOf K H (.ref a) (.type "dict")
 |ins {a C dx:Addr}{fs:List (Str×V)}(e:H a=some (.ins C dx fs)) (cl:Cls K C) (ha:PySem.W.findIn K (.ref C) "__class__" = some (some (.builtin "object.__class__")))
   (hn:PySem.W.specialIn K (.builtin "object.__class__") "__get__" = some (some (.builtin "getset_descriptor.__get__"))) (htk:PySem.W.takesIn K (.builtin "object.__class__")=some true)
   (hm:PySem.W.mroIn K C (.type "object")=some true):TyOf K H (.ref a) (.ref C)
theorem Z3 {x:V}{u t:Value}(I:Inv X pins σ H s) (rx:RelV x u) (ty:TyOf X.K H x t) (e:PySem.W.kitOne X.K t c=some b) (h:∀ tk,Q (.bool b) { s with toks:=tk }) :
  wpAny (model X.prog X.w) A (call (.builtin "isinstance") [u,c]) Q E s:=by
 cases ty with
 |non=>cases (show u=Value.none from rx);exact PySem.W.kia_one PySem.W.kitx_none I.kIn True.intro e (fun z=>nomatch z) h
 |bl y=>cases (show u=Value.bool y from rx);exact PySem.W.kia_one PySem.W.kitx_bool I.kIn True.intro e (fun z=>nomatch z) h
 |int i=>obtain⟨t,q⟩:=(show ∃ t,u=Value.int i t from rx);cases q;exact PySem.W.kia_one PySem.W.kitx_int I.kIn True.intro e (fun z=>nomatch z) h
 |str y=>obtain⟨t,q⟩:=(show ∃ t,u=Value.str y t from rx);cases q;exact PySem.W.kia_one PySem.W.kitx_str I.kIn True.intro e (fun z=>nomatch z) h
 |flt y=>obtain⟨t,q⟩:=(show ∃ t,u=Value.float y t from rx);cases q;exact PySem.W.kia_one PySem.W.kitx_float I.kIn True.intro e (fun z=>nomatch z) h
 | @lst a xs ea =>
  cases (show u=Value.ref a from rx)
  obtain⟨_,_,n,_,h1⟩:=(show ObjOk X.prog X.w H s.heap a (.lst xs) from I.hok a _ ea)
  exact PySem.W.kia_one PySem.W.kitx_list I.kIn ⟨_,h1,rfl⟩ e (fun z=>nomatch z) h
 | @frz a ob xs ea =>
  cases (show u=Value.ref a from rx)
  obtain⟨_,_,_,n,_,h1⟩:=(show ObjOk X.prog X.w H s.heap a (.frz ob (.lst xs)) from I.hok a _ ea)
  exact PySem.W.kia_one PySem.W.kitx_list I.kIn ⟨_,h1,rfl⟩ e (fun z=>nomatch z) h
 | @tup a xs ea =>
  cases (show u=Value.ref a from rx)
  obtain⟨_,_,_,p⟩:=(show ObjOk X.prog X.w H s.heap a (.tup xs) from I.hok a _ ea)
  obtain⟨o,h1,h2,_⟩:=p
  exact PySem.W.kia_one PySem.W.kitx_tuple I.kIn ⟨o,h1,h2⟩ e (fun z=>nomatch z) h
 | @dK a kvs ea =>
  cases (show u=Value.ref a from rx)
  obtain⟨_,_,vs,_,p⟩:=(show ObjOk X.prog X.w H s.heap a (.dK kvs) from I.hok a _ ea)
  obtain⟨o,es,ep,h1,h2,_⟩:=p
  exact PySem.W.kia_one PySem.W.kitx_dict I.kIn ⟨o,h1,h2.1⟩ e (fun z=>nomatch z) h
 | @dT a kvs ea =>
  cases (show u=Value.ref a from rx)
  obtain⟨_,_,xs,_,o,es,ep,h1,h2,_⟩:=(show ObjOk X.prog X.w H s.heap a (.dT kvs) from I.hok a _ ea)
  exact PySem.W.kia_one PySem.W.kitx_dict I.kIn ⟨o,h1,h2.1⟩ e (fun z=>nomatch z) h
 | @ins a C dx fs ea cl ha hn htk hm =>
  cases (show u=Value.ref a from rx)
  obtain⟨mA,O,_⟩:=wZ I.hok ea
  obtain⟨od,J,_⟩:=O.look
  exact PySem.W.kia_one (PySem.W.kitx_own (cl.get _) cl.hd ha hn htk hm) I.kIn J e (fun z=>nomatch z) h
end
structure Room (k:Nat) (A:Around):Prop where
 hd:A.handled=none
 dp:A.depth+3*k+5<recursionLimit
 un:A.units+16*k+200<cLine
theorem Room.mono {j k:Nat}{A:Around}(r:Room k A) (h:j≤k):Room j A:=⟨r.hd,by have:=r.dp;omega,by have:=r.un;omega⟩
theorem Room.m{j k:Nat}{A:Around}(r:Room k A)(h:j≤k:=by omega):Room j A:=r.mono h
theorem Room.deeper {k:Nat}{A:Around}(r:Room (k+1) A) (env:Env):Room k (A.deeper env) :=
 ⟨r.hd,by have:=r.dp;show A.depth+1+3*k+5<_;omega,by have:=r.un;show A.units+3+16*k+200<_;omega⟩
theorem uW {A:Around}{C:Addr}{us:List Value}{kw:List (Str×Value)}:(A.under (.builtin "type.__call__" ⟨.ref C::us,kw⟩)).depth=A.depth+1:=by
 first | rfl | simp[Around.under,Code.weight,Code.isCreation,Code.isGuard,Code.isCaller,Code.frames,Code.isFrame,guardIds]
theorem uV {A:Around}{C:Addr}{us:List Value}{kw:List (Str×Value)}:(A.under (.builtin "type.__call__" ⟨.ref C::us,kw⟩)).units=A.units+1:=by
 first | rfl | simp[Around.under,Code.cUnits,Code.frames,Code.isFrame]
theorem Room.make {k:Nat}{A:Around}(r:Room (k+1) A) (C:Addr) (us:List Value) (kw:List (Str×Value)):Room k (A.under (.builtin "type.__call__" ⟨.ref C::us,kw⟩)) :=
 ⟨r.hd,by have:=r.dp;rw[uW];omega,by have:=r.un;rw[uV];omega⟩
theorem Room.depth {k:Nat}{A:Around}(r:Room k A):A.depth<recursionLimit:=by have:=r.dp;omega
theorem Room.units {k:Nat}{A:Around}(r:Room k A):A.units+64<cLine:=by have:=r.un;omega
def zbk:TA:=fun _ H Q=>Q [] H
def xL (ta:TE) (tr:TA):TA:=fun σ H Q=>ta σ H fun x H1=>tr σ H1 fun xs H2=>Q (x::xs) H2
section
variable {X:Cx}{e:Expr}{es:List Expr}{te:TE}{t:TA}{pos:Pos}
theorem yh:PA X [] zbk:=fun _ _ _ _ H Q I h=>Calls.spliced_nil ⟨[],H,I,.nil,h⟩
theorem yY (ha:PE X e te) (hr:PA X es t) (hs:starEach (e::es) X.env=(false,eval e X.env)::starEach es X.env:=by rfl):PA X (e::es) (xL te t):=by
 intro pos pins s σ H Q I h
 rw[hs]
 show wpAny _ _ (spliced ((false,eval e X.env)::backTo pos (starEach es X.env))) _ _ s
 refine Calls.spliced_cons (thn (ha pins s σ H _ I h) fun u s1 hq0=>?_)
 obtain⟨x,H1,I1,r1,q1⟩:=hq0
 exact thn (hr pos pins s1 σ H1 _ I1 q1) fun us s2 ⟨xs,H2,I2,r2,q2⟩=>⟨x::xs,H2,I2,.cons r1 r2,q2⟩
def zga (t:TA):TE:=fun σ H Q=>t σ H fun xs H1=>xs.length≤sizeLine∧∀ p,H1 p=none→Q (.ref p) (upd H1 p (.tup xs))
def zgj (t:TA):TE:=fun σ H Q=>t σ H fun xs H1=>xs.length≤sizeLine∧∀ p,H1 p=none→Q (.ref p) (upd H1 p (.lst xs))
theorem UJ {x1}(h:PA X es t):PE X (.Tuple es x1 pos) (zga t):=by
 intro pins s σ H Q I hq
 refine wpAny_Tuple_spliced (thn (h pos pins s σ H _ I hq) fun us s1 ⟨xs,H1,I1,r,z,q⟩=>⟨by rw[← r.length];exact z,?_⟩)
 have hf:H1 s1.heap.objs.size=none:=I1.hok.fresh (Nat.le_refl _)
 refine⟨.ref s1.heap.objs.size,upd H1 s1.heap.objs.size (.tup xs),I1.laid (t':=s1.toks) (fun b u e=>Heap.get?_push_of_some _ e) (Nat.le_refl _) ?_,rfl,q _ hf⟩
 exact⟨z,us,r,⟨_,Heap.get?_push_size _ rfl,rfl,_,rfl⟩⟩
theorem XN (h:PA X es t):PE X (.List es pos) (zgj t):=by
 intro pins s σ H Q I hq
 refine wpAny_List_spliced (thn (h pos pins s σ H _ I hq) fun us s1 ⟨xs,H1,I1,r,z,q⟩=>⟨by rw[← r.length];exact z,?_⟩)
 have hf:H1 s1.heap.objs.size=none:=I1.hok.fresh (Nat.le_refl _)
 refine⟨.ref s1.heap.objs.size,upd H1 s1.heap.objs.size (.lst xs),I1.laid (t':=s1.toks) (fun b u e=>Heap.get?_push_of_some _ e) (Nat.le_refl _) ?_,rfl,q _ hf⟩
 exact⟨z,us,0,r,Heap.get?_push_size _ rfl⟩
end
abbrev Sp:=List V→Hp→VK→XK→Prop
abbrev CXT:=List Env→Hp→Shared→XK→Value→Shared→Prop
structure Env0 (P:Program) (w:World) (K:PySem.W.Frag) (mg:Str→Option Value) (base:Heap) (A:Around) (outer:List Env) (s:Shared) (H:Hp):Prop where
 frames:A.frames=some outer
 mod:Mod K mg base
 bs:∀ b o,base.get? b=some o→s.heap.get? b=some o∧H b=none
 bsz:base.objs.size≤s.heap.objs.size
 funs:s.heap.FunFrames base outer
 frf:∀ b∈frs outer,H b=none
 hok:HOk P w H s.heap
 bare:AllBare s.gens
def CE (outer:List Env) (P:Program) (w:World) (H:Hp) (s:Shared) (Q:VK) (u:Value) (s':Shared):Prop :=
 ∃ v H',s'.os=s.os∧AllBare s'.gens∧Un (frs outer) [] H H' s.heap s'.heap∧HOk P w H' s'.heap∧RelV v u∧Q v H'
def CR (CX:CXT) (outer:List Env) (P:Program) (w:World) (H:Hp) (s:Shared) (Q:VK) (E:XK) (r:Result) (s':Shared):Prop :=
 match r with
 |.ok (.ret u)=>CE outer P w H s Q u s'
 |.ok _=>False
 |.error e=>CX outer H s E e s'
structure FnOk (P:Program) (w:World) (K:PySem.W.Frag) (mg:Str→Option Value) (base:Heap) (CX:CXT) (k:Nat) (f:Addr) (fd:FuncData) (ps:List Str) (sp:Sp):Prop where
 len:∀ vs H Q E,sp vs H Q E→vs.length=ps.length
 run:∀ (A:Around) (outer:List Env) (s:Shared) (H:Hp) (args:Args) (us:List Value) (vs:List V) (Q:VK) (E:XK),Room k A→Env0 P w K mg base A outer s H→BindsTo s fd args (ps.zip us)→Vals vs us→sp vs H Q E →
  codeAny (model P w) A (.call (.ref f) args) (CR CX outer P w H s Q E) s
theorem FnOk.imp {P:Program}{w:World}{K:PySem.W.Frag}{mg:Str→Option Value}{base:Heap}{CX:CXT}{k:Nat}{f:Addr}{fd:FuncData}{ps:List Str}{sp sp':Sp}(F:FnOk P w K mg base CX k f fd ps sp)
  (h:∀ vs H Q E,sp' vs H Q E→sp vs H Q E):FnOk P w K mg base CX k f fd ps sp' :=
 ⟨fun vs H Q E q=>F.len vs H Q E (h _ _ _ _ q),fun A outer s H args us vs Q E hr he hb hv hs=>F.run A outer s H args us vs Q E hr he hb hv (h _ _ _ _ hs)⟩
theorem Env0.make {P:Program}{w:World}{K:PySem.W.Frag}{mg:Str→Option Value}{base:Heap}{A:Around}{outer:List Env}{s:Shared}{H:Hp}(e:Env0 P w K mg base A outer s H) (C:Addr) (us:List Value) (kw:List (Str×Value)) :
  Env0 P w K mg base (A.under (.builtin "type.__call__" ⟨.ref C::us,kw⟩)) outer s H:=⟨by first | exact e.frames | (simpa[Around.under,Code.envs,Code.isFrame,pushEnvs] using e.frames),e.mod,e.bs,e.bsz,e.funs,e.frf,e.hok,e.bare⟩
section
variable {X:Cx}{pins:List (Addr×Obj)}{σ:St}{H:Hp}{s s':Shared}
theorem Inv.env0 (I:Inv X pins σ H s):Env0 X.prog X.w X.K X.mg X.base X.A X.stack s H :=
 ⟨I.ok.frames,I.ok.mod,I.bs,Nat.le_trans I.ok.bsz I.sz,I.stack,I.stkFree,I.hok,I.bare⟩
theorem Inv.after {Q:VK}{u:Value}(I:Inv X pins σ H s) (h:CE X.stack X.prog X.w H s Q u s'):EP X pins σ Q u s':=by
 obtain⟨v,H',os,bare,un,hok,r,q⟩:=h
 obtain⟨hh,g,d,t,os'⟩:=s'
 obtain rfl:os'=s.os:=os
 exact⟨v,H',I.call (h':=hh) (g':=g) (d':=d) (t':=t) (ch:=[]) un hok bare (fun b z=>absurd z (by simp)),r,q⟩
end
def We (sp:Sp) (dvs:List V) (E:XK) (t:TA):TE:=fun σ H Q=>t σ H fun vs H1=>sp (vs++dvs) H1 Q E
def Uj (C:Addr) (m:Str) (sp:Sp) (dvs:List V) (E:XK) (ta:TE) (t:TA):TE:=fun σ H Q=>ta σ H fun x H1=>∃ a dx fs,x=.ref a∧H1 a=some (.ins C dx fs)∧fs.lookup m=none ∧
 t σ H1 fun vs H2=>sp (x::(vs++dvs)) H2 Q E
def Wd (C:Addr) (sp:Sp) (dvs:List V) (E:XK) (t:TA):TE:=fun σ H Q=>t σ H fun vs H1=>∀ x dx,H1 x=none→H1 dx=none→dx≠x →
 sp (.ref x::(vs++dvs)) (upd (upd H1 dx (.own x)) x (.ins C dx [])) (fun v H2=>v=.non∧Q (.ref x) H2) E
def Binds (K:PySem.W.Frag) (fd:FuncData) (ps:List Str) (ds:List Value):Prop :=
 ∀ (s:Shared) (us:List Value),K.In s.heap→(us++ds).length=ps.length→BindsTo s fd ⟨us,[]⟩ (ps.zip (us++ds))
theorem Binds.all {K:PySem.W.Frag}{fd:FuncData}{ps:List Str}(h:∀ us:List Value,us.length=ps.length→bindArgs fd ⟨us,[]⟩=pure (ps.zip us)):Binds K fd ps []:=fun s us _ hl=>by
 rw[List.append_nil] at hl ⊢
 exact .of_eq (h us hl)
def wp (CX:CXT) (X:Cx) (E:XK):Prop:=∀ (pins:List (Addr×Obj)) (σ:St) (H:Hp) (s:Shared) (e:Value) (s':Shared),Inv X pins σ H s→CX X.stack H s E e s'→X.xe e s'
section
variable {X:Cx}{CX:CXT}{k:Nat}{f C:Addr}{fd:FuncData}{ps:List Str}{sp:Sp}{dvs:List V}{ds:List Value}{E:XK}{x m:Str}{p pos apos:Pos}{e o:Expr}{es:List Expr}{ta:TE}{t:TA}
theorem uj {pins:List (Addr×Obj)}{σ:St}{H:Hp}{s:Shared}{Q:VK}{us:List Value}{vs:List V}(F:FnOk X.prog X.w X.K X.mg X.base CX k f fd ps sp) (hr:Room k X.A) (hb:Binds X.K fd ps ds) (hd:Vals dvs ds) (hx:wp CX X E)
  (I:Inv X pins σ H s) (r:Vals vs us) (h:sp (vs++dvs) H Q E):wpAny (model X.prog X.w) X.A (call (.ref f) us) (EP X pins σ Q) X.xe s:=by
 have r2:Vals (vs++dvs) (us++ds):=r.append hd
 have hl:(us++ds).length=ps.length:=by rw[← r2.length];exact F.len _ _ _ _ h
 refine wpAny_call (codeAny_mono (F.run X.A X.stack s H ⟨us,[]⟩ (us++ds) (vs++dvs) Q E hr I.env0 (hb s us I.kIn hl) r2 h) fun r s' hq=>?_)
 cases r with
 |error e=>exact hx pins σ H s e s' I hq
 |ok fl =>
  cases fl with
  |ret u=>exact I.after hq
  |next=>exact False.elim hq
  |brk=>exact False.elim hq
  |cont=>exact False.elim hq
theorem Vs (F:FnOk X.prog X.w X.K X.mg X.base CX k f fd ps sp) (hr:Room k X.A) (hg:Gl X x) (hm:X.mg x=some (.ref f)) (hk:PySem.W.keepIn X.K (.ref f)=true) (hb:Binds X.K fd ps ds) (hd:Vals dvs ds) (hx:wp CX X E)
  (ha:PA X (e::es) t) (hdb:(x == ("__debug__" : Str))=false:=by decide) (he:starEach (e::es) X.env=(false,eval e X.env)::starEach es X.env:=by rfl) (hpl:(backTo pos (starEach es X.env)).any (·.1)=false:=by rfl) :
  PE X (.Call (.Name x p) (e::es) [] pos) (We sp dvs E t):=by
 intro pins s σ H Q I h
 refine wpAny_Call_Name_kw (ld_glob I hg hm ?_ hdb)
 refine PySem.W.callWith_K (h₀:=X.base) I.ok.mod.kin hk (thn (ha pos pins s σ H _ I h) fun us s1 ⟨vs,H1,I1,r,q⟩=>⟨I1.kIn,?_⟩) he hpl
 exact uj F hr hb hd hx I1 r q
theorem Vo {pl:Sem Bool}(he:PE X o ta) (c:Cls X.K C) (hm:Meth X.K C m f) (F:FnOk X.prog X.w X.K X.mg X.base CX k f fd ps sp) (hr:Room k X.A) (hb:Binds X.K fd ps ds) (hd:Vals dvs ds) (hx:wp CX X E) (ha:PA X (e::es) t)
  (hst:starEach (e::es) X.env=(false,eval e X.env)::starEach es X.env:=by rfl) (hpl:(backTo pos (starEach es X.env)).any (·.1)=false:=by rfl)
  (ht:eval (.Call (.Attribute o m apos) (e::es) [] pos) X.env=(do
   let ov ← eval o X.env
   standAt apos.atName
   let (f,first) ← holding [ov] (getMethod ov m pl)
   callWith pos f first (backTo pos (starEach (e::es) X.env)) (backToKw pos (keywordEach [] X.env))):=by rfl) :
  PE X (.Call (.Attribute o m apos) (e::es) [] pos) (Uj C m sp dvs E ta t):=by
 intro pins s σ H Q I h
 refine PySem.W.methodCall_KW (pl:=pl) (thn (he pins s σ H _ I h) fun u s1 hq0=>?_) ht
 obtain⟨x,H1,I1,rx,a,dx,fs,ex,ea,l,q⟩:=hq0
 subst ex
 obtain rfl:u=Value.ref a:=rx
 refine xj I1 ea c hm l ?_
 refine PySem.W.callWith_K (first:=[.ref a]) (h₀:=X.base) I.ok.mod.kin hm.kp (thn (ha pos pins s1 σ H1 _ I1 q) fun us s2 ⟨vs,H2,I2,r,q2⟩=>⟨I2.kIn,?_⟩) hst hpl
 exact uj (us:=.ref a::us) (vs:=.ref a::vs) F hr hb hd hx I2 (.cons rfl r) q2
structure Mk (K:PySem.W.Frag) (C f:Addr):Prop where
 makes:PySem.W.makesIn K C=true
 init:PySem.W.findIn K (.ref C) "__init__" = some (some (.ref f))
 fn:PySem.W.isFn K (.ref f)=true
 kp:PySem.W.keepIn K (.ref C)=true
theorem YH {pins:List (Addr×Obj)}{σ:St}{H:Hp}{s:Shared}{Q:VK}{us:List Value}{vs:List V}(M:Mk X.K C f) (F:FnOk X.prog X.w X.K X.mg X.base CX k f fd ps sp) (hr:Room (k+1) X.A) (hb:Binds X.K fd ps ds) (hd:Vals dvs ds)
  (hx:wp CX X E) (I:Inv X pins σ H s) (r:Vals vs us)
  (h:∀ x dx,H x=none→H dx=none→dx≠x→sp (.ref x::(vs++dvs)) (upd (upd H dx (.own x)) x (.ins C dx [])) (fun v H2=>v=.non∧Q (.ref x) H2) E) :
  wpAny (model X.prog X.w) X.A (call (.ref C) us) (EP X pins σ Q) X.xe s:=by
 have hq:=h (s.heap.objs.size+1) s.heap.objs.size (I.hok.fresh (Nat.le_succ _)) (I.hok.fresh (Nat.le_refl _)) (Nat.ne_of_lt (Nat.lt_succ_self _))
 have I2:=Inv.made (C:=C) I
 have r2:Vals (V.ref (s.heap.objs.size+1)::(vs++dvs)) (Value.ref (s.heap.objs.size+1)::(us++ds)):=.cons rfl (r.append hd)
 have hl:(Value.ref (s.heap.objs.size+1)::us++ds).length=ps.length:=by
  have e:=r2.length
  rw[F.len _ _ _ _ hq] at e
  exact e.symm
 refine wpAny_call (Y8 (f:=f) I.kIn M.makes M.init (beq_iff_eq.mp M.fn) (codeAny_mono (F.run _ X.stack _ _ ⟨Value.ref (s.heap.objs.size+1)::us,[]⟩ (Value.ref (s.heap.objs.size+1)::(us++ds)) _ _ E (hr.make C us [])
  (I2.env0.make C us []) (hb _ (Value.ref (s.heap.objs.size+1)::us) I2.kIn hl) r2 hq) fun r s' hq'=>?_))
 cases r with
 |error e=>exact hx pins σ _ _ e s' I2 hq'
 |ok fl =>
  cases fl with
  |ret u =>
   obtain⟨v,H',I3,rv,ev,q3⟩:=I2.after hq'
   subst ev
   exact⟨rv,⟨V.ref (s.heap.objs.size+1),H',I3,rfl,q3⟩⟩
  |next=>exact False.elim hq'
  |brk=>exact False.elim hq'
  |cont=>exact False.elim hq'
theorem Vp (M:Mk X.K C f) (F:FnOk X.prog X.w X.K X.mg X.base CX k f fd ps sp) (hr:Room (k+1) X.A) (hg:Gl X x) (hm:X.mg x=some (.ref C)) (hb:Binds X.K fd ps ds) (hd:Vals dvs ds) (hx:wp CX X E)
  (ha:PA X (e::es) t) (hdb:(x == ("__debug__" : Str))=false:=by decide) (he:starEach (e::es) X.env=(false,eval e X.env)::starEach es X.env:=by rfl) (hpl:(backTo pos (starEach es X.env)).any (·.1)=false:=by rfl) :
  PE X (.Call (.Name x p) (e::es) [] pos) (Wd C sp dvs E t):=by
 intro pins s σ H Q I h
 refine wpAny_Call_Name_kw (ld_glob I hg hm ?_ hdb)
 refine PySem.W.callWith_K (h₀:=X.base) I.ok.mod.kin M.kp (thn (ha pos pins s σ H _ I h) fun us s1 ⟨vs,H1,I1,r,q⟩=>⟨I1.kIn,?_⟩) he hpl
 exact YH M F hr hb hd hx I1 r q
end
structure FnScope (N P:List Str) (sc:Scope):Prop where
 kind:sc.kind=.function
 co:sc.isCoroutine=false
 gen:sc.isGenerator=false
 nd:N.Nodup
 pre:N.take P.length=P
 par:∀ x∈P,sc.names.lookup x=some .local∨sc.names.lookup x=some .cell
 nofree:∀ y∈sc.names,y.2≠.free
theorem vJ {kindOf:Str→Option NameKind}{x:Str}:∀ {binds:List (Str×Value)}{m:Str→Option Value},(∀ v,(x,v)∉binds)→bindL kindOf binds m x=m x
 |[],_,_=>rfl
 |(n,v)::r,m,h=>by
  unfold bindL
  rw[vJ fun w hw=>h w (List.mem_cons_of_mem _ hw)]
  split
  ·have:x≠n:=by rintro rfl;exact h v List.mem_cons_self
   simp[this]
  ·rfl
theorem bindC_out {kindOf:Str→Option NameKind}{x:Str}:∀ {binds:List (Str×Value)}{m:Str→Option Value},(∀ v,(x,v)∉binds)→bindC kindOf binds m x=m x
 |[],_,_=>rfl
 |(n,v)::r,m,h=>by
  unfold bindC
  rw[bindC_out fun w hw=>h w (List.mem_cons_of_mem _ hw)]
  split
  ·rfl
  ·have:x≠n:=by rintro rfl;exact h v List.mem_cons_self
   simp[this]
theorem bindL_get {kindOf:Str→Option NameKind}{x:Str}{v:Value}:∀ {P:List Str}{vs:List Value}{i:Nat}{m:Str→Option Value},P.Nodup→P[i]?=some x→vs[i]?=some v→kindOf x=some .local →
  bindL kindOf (P.zip vs) m x=some v
 |[],_,_,_,_,h,_,_=>by simp at h
 |_::_,[],_,_,_,_,h,_=>by simp at h
 |p::P,w::vs,0,m,nd,h1,h2,hk=>by
  simp at h1 h2;subst h1;subst h2
  show bindL kindOf ((p,w)::P.zip vs) m p=_
  unfold bindL
  rw[vJ fun v hv=>(List.nodup_cons.mp nd).1 (List.of_mem_zip hv).1,if_pos hk]
  simp
 |p::P,w::vs,i+1,m,nd,h1,h2,hk=>by
  show bindL kindOf ((p,w)::P.zip vs) m x=_
  unfold bindL
  exact bindL_get (i:=i) (List.nodup_cons.mp nd).2 (by simpa using h1) (by simpa using h2) hk
theorem vK {kindOf:Str→Option NameKind}{x:Str}{v:Value}:∀ {P:List Str}{vs:List Value}{i:Nat}{m:Str→Option Value},P.Nodup→P[i]?=some x→vs[i]?=some v→kindOf x≠some .local →
  bindC kindOf (P.zip vs) m x=some v
 |[],_,_,_,_,h,_,_=>by simp at h
 |_::_,[],_,_,_,_,h,_=>by simp at h
 |p::P,w::vs,0,m,nd,h1,h2,hk=>by
  simp at h1 h2;subst h1;subst h2
  show bindC kindOf ((p,w)::P.zip vs) m p=_
  unfold bindC
  rw[bindC_out fun v hv=>(List.nodup_cons.mp nd).1 (List.of_mem_zip hv).1,if_neg hk]
  simp
 |p::P,w::vs,i+1,m,nd,h1,h2,hk=>by
  show bindC kindOf ((p,w)::P.zip vs) m x=_
  unfold bindC
  exact vK (i:=i) (List.nodup_cons.mp nd).2 (by simpa using h1) (by simpa using h2) hk
def start (N:List Str) (vs:List V):St:=vs.map some++List.replicate (N.length-vs.length) none
noncomputable def V7 (CX:CXT) (P:Program) (w:World) (K:PySem.W.Frag) (mg:Str→Option Value) (base:Heap) (N:List Str) (qual:Str) (scope:Scope) (f:Addr) (cd:Value) (A:Around) (outer:List Env) (s:Shared) (H:Hp) (E:XK):Cx where
 prog:=P
 w:=w
 K:=K
 mg:=mg
 base:=base
 A:=A.deeper (envOfC qual scope s.heap.objs.size f cd)
 N:=N
 s₀:=s
 H₀:=H
 env:=envOfC qual scope s.heap.objs.size f cd
 outer:=outer
 stack:=envOfC qual scope s.heap.objs.size f cd::outer
 ex:=[]
 calm:=true
 fn:=fun _=>true
 pn:=[]
 xe:=fun e s'=>wpAny (model P w) (A.deeper (envOfC qual scope s.heap.objs.size f cd)) (leaving (envOfC qual scope s.heap.objs.size f cd) e) (fun _ s''=>CX outer H s E e s'') (fun e' s''=>CX outer H s E e' s'') s'
theorem uC {sc:Scope}{n:Nat}{x:Str}(h:sc.names.lookup x=some .cell):∃ c,(cellsFrom n sc.names []).lookup x=some c:=by
 have q:=PySem.W.cellsFrom_some sc.names n [] (.inl h)
 exact Option.isSome_iff_exists.mp q
theorem Z5 {CX:CXT}{P:Program}{w:World}{K:PySem.W.Frag}{mg:Str→Option Value}{base:Heap}{N ps:List Str}{qual:Str}{scope:Scope}{f:Addr}{cd:Value}{A:Around}{outer:List Env}{s s1:Shared}{H:Hp}{E:XK}{us:List Value}{vs:List V}
  (S:FnScope N ps scope) (hd:A.handled=none) (e0:Env0 P w K mg base A outer s H) (hl:vs.length=ps.length) (r:Vals vs us)
  (x:InCallC s s.heap.objs.size (bindL (envOfC qual scope s.heap.objs.size f cd).kindOf (ps.zip us) fun _=>none) (cellsFrom (s.heap.objs.size+1) scope.names []) (bindC (envOfC qual scope s.heap.objs.size f cd).kindOf (ps.zip us) fun _=>none) s1) :
  Inv (V7 CX P w K mg base N qual scope f cd A outer s H E) [] (start N vs) H s1:=by
 have hpl:ps.length≤N.length:=by have:=congrArg List.length S.pre;rw[List.length_take] at this;omega
 obtain⟨h1,tk,rfl,hk⟩:=x.done
 have noA:∀ b:Addr,b∉(V7 CX P w K mg base N qual scope f cd A outer s H E).ex:=fun b z=>absurd (show b∈([]:List Addr) from z) (by simp)
 refine⟨⟨e0.mod,S.kind,rfl,rfl,Nat.le_refl _,fun y z c h1 h2=>?_,fun y hy=>?_,fun y c _ h=>?_,fun _=>hd,Around.frames_deeper e0.frames,.inr ⟨rfl,rfl⟩,fun b z=>absurd z (noA b),e0.bs,e0.bsz,fun b _ _=>noA b,fun b z=>absurd z (noA b),e0.funs,e0.frf⟩,
  rfl,e0.bare,Un.kept hk,⟨_,x.toInCall.ns,fun i y v h1 h2 h3=>?_⟩,fun y c h=>⟨_,x.cell y c h⟩,e0.hok.fresh (Nat.le_refl _),fun y c h=>?_,fun p hp=>absurd (show p∈([]:List (Addr×Obj)) from hp) (by simp),e0.hok.kept hk,?_⟩
 ·exact name_of_addr x.apart (PySem.mem_of_lookup h1) (PySem.mem_of_lookup h2)
 ·have hy:scope.names.lookup y=some .cell∨scope.names.lookup y=some .free:=hy
  rcases hy with hy | hy
  ·exact uC hy
  ·exact absurd rfl (S.nofree _ (PySem.mem_of_lookup hy))
 ·exact Nat.le_of_lt (x.above y c (PySem.mem_of_lookup h))
 ·have hi:i<vs.length:=by
   unfold start at h2
   by_cases hi:i<vs.length
   ·exact hi
   ·rw[List.getElem?_append_right (by simpa using hi)] at h2
    rw[List.getElem?_replicate] at h2
    split at h2<;>cases h2
  have ha:vs[i]?=some v:=by
   unfold start at h2
   rw[List.getElem?_append_left (by simpa using hi),List.getElem?_map] at h2
   cases e:vs[i]? with
   |none=>rw[e] at h2;cases h2
   |some a=>rw[e] at h2;cases h2;rfl
  obtain⟨u,hu,rv⟩:=r.get ha
  have hp:ps[i]?=some y:=by
   rw[← S.pre,List.getElem?_take_of_lt (by omega)];exact h1
  have ndP:ps.Nodup:=by rw[← S.pre];exact S.nd.sublist (List.take_sublist _ _)
  refine⟨u,rv,?_⟩
  rcases S.par y (List.mem_of_getElem? hp) with k | k
  ·exact .inl ⟨k,bindL_get ndP hp hu k⟩
  ·obtain⟨c,e⟩:=uC (n:=s.heap.objs.size+1) k
   refine .inr ⟨.inl k,c,e,?_⟩
   have q:=x.cell y c e
   rw[vK ndP hp hu (by show scope.names.lookup y≠_;rw[k];decide)] at q
   exact q
 ·exact e0.hok.fresh (Nat.le_of_lt (x.above y c (PySem.mem_of_lookup h)))
 ·unfold start
  show _=N.length
  rw[List.length_append,List.length_map,List.length_replicate]
  omega
theorem zf1 {CX:CXT}{P:Program}{w:World}{K:PySem.W.Frag}{mg:Str→Option Value}{base:Heap}{k:Nat}{f:Addr}{name qual:Str}{params:Arguments}{body:List Stmt}{scope:Scope}{dV kV doc pm cdv ct oc:Value}{an od:Option Addr}
  {osl:Array (Option Value)}{N ps:List Str}{sp:Sp}(lk:K.lookup f=some ⟨oc,od,.func (PySem.W.fnOf name qual params body scope dV kV doc pm an cdv ct),osl⟩) (hcd:PySem.W.codeIn K cdv qual=true) (S:FnScope N ps scope)
  (len:∀ vs H Q E,sp vs H Q E→vs.length=ps.length)
  (hbody:∀ (A:Around) (outer:List Env) (s:Shared) (H:Hp) (vs:List V) (Q:VK) (E:XK),Room k (A.deeper (envOfC qual scope s.heap.objs.size f cdv))→sp vs H Q E →
   ∃ t,PSs (V7 CX P w K mg base N qual scope f cdv A outer s H E) body t∧t { nx:=fun _ H'=>Q .non H',rt:=Q } (start N vs) H) :
  FnOk P w K mg base CX (k+1) f (PySem.W.fnOf name qual params body scope dV kV doc pm an cdv ct) ps sp:=by
 refine⟨len,fun A outer s H args us vs Q E hr e0 hb r hsp=>?_⟩
 have hl:=len _ _ _ _ hsp
 have KX:K.In s.heap:=e0.mod.kin.keeps fun b o e=>(e0.bs b o e).1
 have lim:s.heap.NoLimit:=e0.mod.nolimit.keeps fun b o e=>(e0.bs b o e).1
 have hkind:∀ y∈ps.zip us,scope.names.lookup y.1=some .local∨(scope.names.lookup y.1=some .cell∧((cellsFrom (s.heap.objs.size+1) scope.names []).lookup y.1).isSome=true):=fun⟨n,v⟩ hy=>by
  rcases S.par n (List.of_mem_zip hy).1 with q | q
  ·exact .inl q
  ·exact .inr ⟨q,PySem.W.cellsFrom_some _ _ _ (.inl q)⟩
 refine codeAny_call_function hr.depth (KX _ _ lk) rfl S.co S.gen rfl (PySem.W.codeRec_of KX hcd) (hb _ _ _ _ ?_)
 refine wpAny_newFunctionEnv_cells S.kind hkind fun env he s1 x=>?_
 subst he
 refine⟨lim.keeps x.toInCall.keep,codeAny_func ?_⟩
 obtain⟨t,ht,hq⟩:=hbody A outer s H vs Q E (hr.deeper _) hsp
 have I:Inv (V7 CX P w K mg base N qual scope f cdv A outer s H E) [] (start N vs) H s1:=Z5 S hr.hd e0 hl r x
 refine wpAny_mono (ht [] s1 (start N vs) H _ I hq) (fun fl s' hs=>?_) fun e s' hs=>hs
 have fin:∀ {σ':St}{H':Hp}{v:V}{u:Value},Inv (V7 CX P w K mg base N qual scope f cdv A outer s H E) [] σ' H' s'→RelV v u→Q v H'→CE outer P w H s Q u s' :=
  fun {σ' H' v u} J rv q=>⟨v,H',J.os,J.bare,J.base,J.hok,rv,q⟩
 cases fl with
 |ret u =>
  obtain⟨v,σ',H',J,rv,q⟩:=hs
  exact fin J rv q
 |next =>
  obtain⟨σ',H',J,q⟩:=hs
  exact fin (v:=V.non) (u:=Value.none) J rfl q
 |brk =>
  obtain⟨_,_,_,q⟩:=hs
  exact False.elim q
 |cont =>
  obtain⟨_,_,_,q⟩:=hs
  exact False.elim q
section
variable {X:Cx}{x:Str}{p pos:Pos}{e:Expr}{es:List Expr}{t:TA}{id T:String}{r:List V→Hp→VK→Prop}
def tCB (r:List V→Hp→VK→Prop) (t:TA):TE:=fun σ H Q=>t σ H fun vs H1=>r vs H1 Q
theorem yq (hc:xB X (.builtin id) r) (hg:Gl X x) (hm:X.mg x=none) (hv:bootBuiltins x=some (.builtin id)) (ha:PA X (e::es) t) (hn:x ≠ "__name__" := by decide) (hdb:(x == ("__debug__" : Str))=false:=by decide)
  (he:starEach (e::es) X.env=(false,eval e X.env)::starEach es X.env:=by rfl) (hpl:(backTo pos (starEach es X.env)).any (·.1)=false:=by rfl):PE X (.Call (.Name x p) (e::es) [] pos) (tCB r t):=by
 intro pins s σ H Q I h
 refine wpAny_Call_Name_kw (ld_blt I hg hm hv ?_ hn hdb)
 exact PyProof.Rows.callWith_builtin1 (thn (ha pos pins s σ H _ I h) fun us s1 ⟨vs,H1,I1,r1,q1⟩=>hc pins s1 σ H1 vs us Q I1 r1 q1) he hpl
theorem vv (hc:xB X (.type T) r) (hg:Gl X x) (hm:X.mg x=none) (hv:bootBuiltins x=some (.type T)) (ha:PA X (e::es) t) (hn:x ≠ "__name__" := by decide) (hdb:(x == ("__debug__" : Str))=false:=by decide)
  (he:starEach (e::es) X.env=(false,eval e X.env)::starEach es X.env:=by rfl) (hpl:(backTo pos (starEach es X.env)).any (·.1)=false:=by rfl):PE X (.Call (.Name x p) (e::es) [] pos) (tCB r t):=by
 intro pins s σ H Q I h
 refine wpAny_Call_Name_kw (ld_blt I hg hm hv ?_ hn hdb)
 exact PyProof.Rows.callWith_type1 (thn (ha pos pins s σ H _ I h) fun us s1 ⟨vs,H1,I1,r1,q1⟩=>hc pins s1 σ H1 vs us Q I1 r1 q1) he hpl
end
end L2
namespace HT
open PySem PyProof.Rows
section
variable {prog:Program}{w:World}{A:Around}{E:Value→Shared→Prop}{s:Shared}
noncomputable def sIx (n d:Nat):Option Int→Nat
 |none=>d
 |some v=>if v<0 then(v+(n:Int)).toNat else min v.toNat n
end
end HT
namespace L2
open PySem PySem.Spec PyProof.Rows
abbrev TO:=St→Hp→(Option Int→Hp→Prop)→Prop
def PO (X:Cx) (e:Option Expr) (t:TO):Prop :=
 ∀ (pins:List (Addr×Obj)) (s:Shared) (σ:St) (H:Hp) (Q:Option Int→Hp→Prop),Inv X pins σ H s→t σ H Q →
  wpAny (model X.prog X.w) X.A (evalPart e X.env) (fun u s'=>∃ o H',Inv X pins σ H' s'∧IsPart u o∧Q o H') X.xe s
def Zi:TO:=fun _ H Q=>Q none H
def Ug (t:TE):TO:=fun σ H Q=>t σ H fun x H1=>∃ i,x=.int i∧Q (some i) H1
section
variable {X:Cx}{e:Expr}{te:TE}{lo hi:Option Expr}{tl th:TO}{pos p2:Pos}
theorem Vm:PO X none Zi:=by
 intro pins s σ H Q I h
 rw[evalPart_none]
 exact wpAny_pure ⟨none,H,I,.none,h⟩
theorem po_some (h:PE X e te):PO X (some e) (Ug te):=by
 intro pins s σ H Q I hw
 rw[evalPart_some]
 refine thn (h pins s σ H _ I hw) fun u s1 hq0=>?_
 obtain⟨x,H1,I1,r1,q1⟩:=hq0
 obtain⟨i,rfl,q⟩:=q1
 obtain⟨t,rfl⟩:=r1
 exact⟨some i,H1,I1,.int i t,q⟩
def SlR (X:Cx) (r:V→Option Int→Option Int→Hp→VK→Prop):Prop :=
 ∀ (pins:List (Addr×Obj)) (s:Shared) (σ:St) (H:Hp) (x:V) (v vl vu:Value) (lo hi:Option Int) (sl:Addr) (Q:VK),Inv X pins σ H s→RelV x v→s.heap.IsSliceOf sl vl vu .none→IsPart vl lo→IsPart vu hi→r x lo hi H Q →
  ∃ T id,typeLookup (.type T) "__getitem__" = pure (some (.builtin id))∧s.TypeIs v T∧wpAny (model X.prog X.w) X.A (getItem v (.ref sl)) (EP X pins σ Q) X.xe s
def tSl (r:V→Option Int→Option Int→Hp→VK→Prop) (te:TE) (tl th:TO):TE:=fun σ H Q=>te σ H fun x H1=>tl σ H1 fun l H2=>th σ H2 fun u H3=>r x l u H3 Q
theorem YO {r:V→Option Int→Option Int→Hp→VK→Prop}(hr:SlR X r) (he:PE X e te) (hl:PO X lo tl) (hu:PO X hi th):PE X (.Subscript e (.Slice lo hi none p2) pos) (tSl r te tl th):=by
 intro pins s σ H Q I h
 refine Subscript_ (thn (he pins s σ H _ I h) fun v s1 hq0=>?_)
 obtain⟨x,H1,I1,r1,q1⟩:=hq0
 refine wpAny_Slice (thn (hl pins s1 σ H1 _ I1 q1) fun vl s2 ⟨l,H2,I2,pl,q2⟩=>thn (hu pins s2 σ H2 _ I2 q2) fun vu s3 hq0=>?_)
 obtain⟨u,H3,I3,pu,q3⟩:=hq0
 rw[evalPart_none]
 refine wpAny_pure ?_
 have I4:Inv X pins σ H3 { s3 with heap:=s3.heap.push { cls:=.type "slice",data:=.fields #[vl,vu,.none] } }:=I3.kept (t':=s3.toks) fun b ob q=>Heap.get?_push_of_some _ q
 obtain⟨T,id,hT,ht,hg⟩:=hr pins { s3 with heap:=s3.heap.push { cls:=.type "slice",data:=.fields #[vl,vu,.none] } } σ H3 x v vl vu l u s3.heap.objs.size Q I4 r1 (Heap.IsSliceOf.new ..) pl pu q3
 show wpAny (model X.prog X.w) X.A (subscriptTail e (.Slice lo hi none p2) v (.ref s3.heap.objs.size)) (EP X pins σ Q) X.xe { s3 with heap:=s3.heap.push { cls:=.type "slice",data:=.fields #[vl,vu,.none] } }
 exact tail_any (ops:=[.ref s3.heap.objs.size,v]) ht hT hg (by with_unfolding_all rfl)
def yV (xs:List V) (lo hi:Option Int):List V:=(xs.drop (HT.sIx xs.length 0 lo)).take (HT.sIx xs.length xs.length hi-HT.sIx xs.length 0 lo)
theorem yb (xs:List V) (lo hi:Option Int):(yV xs lo hi).length≤xs.length:=by
 unfold yV
 rw[List.length_take,List.length_drop]
 omega
end
noncomputable def ixN (n:Nat) (i:Int):Option Nat:=if 0≤i then(if i<n then some i.toNat else none) else if -(n:Int)≤i then some (i+n).toNat else none
def atI {α:Type}(xs:List α) (i:Int):Option α:=(ixN xs.length i).bind fun j=>xs[j]?
theorem VH {n:Nat}{i:Int}{j:Nat}(h:ixN n i=some j):seqIndex? i n=some j∧j<n∧-(n:Int)≤i∧i<n:=by
 unfold ixN at h
 by_cases h0:0≤i
 ·rw[if_pos h0] at h
  by_cases h1:i<n
  ·rw[if_pos h1] at h
   have e:i.toNat=j:=Option.some.inj h
   exact⟨by rw[seqIndex_of h0 h1,e],by omega,by omega,h1⟩
  ·rw[if_neg h1] at h;cases h
 ·rw[if_neg h0] at h
  by_cases h1 : -(n:Int)≤i
  ·rw[if_pos h1] at h
   have e:(i+n).toNat=j:=Option.some.inj h
   exact⟨by rw[seqIndex_neg (by omega) h1,e],by omega,h1,by omega⟩
  ·rw[if_neg h1] at h;cases h
theorem Yk {α:Type}{xs:List α}{i:Int}{v:α}(h:atI xs i=some v):∃ j,seqIndex? i xs.length=some j∧xs[j]?=some v∧j<xs.length∧-(xs.length:Int)≤i∧i<xs.length:=by
 unfold atI at h
 cases e:ixN xs.length i with
 |none=>rw[e] at h;cases h
 |some j =>
  rw[e] at h
  obtain⟨h1,h2,h3,h4⟩:=VH e
  exact⟨j,h1,h,h2,h3,h4⟩
theorem yc {α:Type}{xs:List α}{j:Nat}{v:α}(h:xs[j]?=some v):atI xs (j:Int)=some v:=by
 have hj:j<xs.length:=(List.getElem?_eq_some_iff.mp h).1
 have e:ixN xs.length (j:Int)=some j:=by
  unfold ixN
  rw[if_pos (by omega),if_pos (by omega)];simp
 unfold atI;rw[e];exact h
def Yo (b:Expr):Prop:=∀ o i,subscripted b false o i=operate [o,i] (getItem o i)
def IxR (X:Cx) (r:R2):Prop :=
 ∀ (value slice:Expr) (pins:List (Addr×Obj)) (s:Shared) (σ:St) (H:Hp) (x y:V) (v u:Value) (Q:VK),Inv X pins σ H s→RelV x v→RelV y u→r x y H Q →
  subscripted slice false v u=operate [v,u] (getItem v u)→wpAny (model X.prog X.w) X.A (subscriptTail value slice v u) (EP X pins σ Q) X.xe s
def MtR (X:Cx) (id:String) (r:V→List V→Hp→VK→Prop):Prop :=
 ∀ (pins:List (Addr×Obj)) (s:Shared) (σ:St) (H:Hp) (x:V) (xs:List V) (v:Value) (us:List Value) (Q:VK),Inv X pins σ H s→RelV x v→Vals xs us→r x xs H Q →
  wpAny (model X.prog X.w) X.A (call (.builtin id) (v::us)) (EP X pins σ Q) X.xe s
section
variable {X:Cx}{a b:Expr}{ta tb:TE}{pos:Pos}
theorem vW {r:R2}(hr:IxR X r) (ha:PE X a ta) (hb:PE X b tb) (hs:Yo b):PE X (.Subscript a b pos) (tOp r ta tb):=by
 intro pins s σ H Q I h
 exact Subscript_ (binT ha hb I h fun v u s2 x y H2 I2 rx ry q=>hr a b pins s2 σ H2 x y v u Q I2 rx ry q (hs _ _))
def zlD (K:PySem.W.Frag):R2:=fun x y H Q=>∃ p xs i v,x=.ref p∧y=.int i∧SqL K H p xs∧atI xs i=some v∧Q v H
def zlC (K:PySem.W.Frag):R2:=fun x y H Q=>∃ p xs i v,x=.ref p∧y=.int i∧SqT K H p xs∧atI xs i=some v∧Q v H
theorem zS:IxR X (zlD X.K):=by
 intro value slice pins s σ H x y v u Q I rx ry h hs
 obtain⟨p,xs,i,z,rfl,rfl,hq,he,q⟩:=h
 cases rx
 obtain⟨t,rfl⟩:=ry
 obtain⟨its,r,pl,hz⟩:=I.list hq
 obtain⟨j,h1,h2,h3,h4,h5⟩:=Yk he
 obtain⟨w,ew,rw'⟩:=r.get h2
 have hl:=r.length
 have hn:=ZW
 have fin:EP X pins σ Q w s:=⟨z,H,I,rw',q⟩
 by_cases h0:0≤i
 ·have hj:i.toNat=j:=by
   rw[seqIndex_of h0 h5] at h1
   exact Option.some.inj h1
  exact item_listR pl.isList h0 (by omega) (by rw[hj];simpa using ew) fin hs
 ·have hj:(i+(its.toArray.size:Int)).toNat=j:=by
   rw[seqIndex_neg (by omega) h4] at h1
   rw[List.size_toArray,← hl]
   exact Option.some.inj h1
  exact subscriptTail_builtinR (x:=w) pl.isList.typeIs slot_list_getitem.lookup
   (wpAny_getItem_list_neg (Q:=fun r s'=>r=w∧EP X pins σ Q r s') pl.isList (by omega) (by rw[List.size_toArray]<;>omega) (by omega) (by rw[hj];simpa using ew) ⟨rfl,fin⟩) hs
theorem yd:IxR X (zlC X.K):=by
 intro value slice pins s σ H x y v u Q I rx ry h hs
 obtain⟨p,xs,i,z,rfl,rfl,hq,he,q⟩:=h
 cases rx
 obtain⟨t,rfl⟩:=ry
 obtain⟨its,r,pl,hz⟩:=I.tuple hq
 obtain⟨j,h1,h2,h3,h4,h5⟩:=Yk he
 obtain⟨w,ew,rw'⟩:=r.get h2
 have hl:=r.length
 have hn:=ZW
 have fin:EP X pins σ Q w s:=⟨z,H,I,rw',q⟩
 exact subscriptTail_builtinR (x:=w) pl.typeIs slot_tuple_getitem.lookup
  (getItem_tuple (j:=j) (Q:=fun r s'=>r=w∧EP X pins σ Q r s') pl (by omega) (by omega) (by rw[List.size_toArray,← hl];exact h1) (by simpa using ew) ⟨rfl,fin⟩) hs
theorem vm (lo hi:Option Int) (n:Nat):(sliceBounds lo hi none n).1=((HT.sIx n 0 lo:Nat):Int)∧(sliceBounds lo hi none n).2.1=((HT.sIx n n hi:Nat):Int)∧(sliceBounds lo hi none n).2.2=1:=by
 refine⟨?_,?_,rfl⟩
 ·cases lo with
  |none=>simp[sliceBounds,HT.sIx]
  |some i =>
   simp only[sliceBounds,HT.sIx,Option.getD_none,show(1:Int)>0 by decide,if_true]
   by_cases h:i<0
   ·simp only[h,if_true]<;>omega
   ·simp only[h,if_false]<;>omega
 ·cases hi with
  |none=>simp[sliceBounds,HT.sIx]
  |some i =>
   simp only[sliceBounds,HT.sIx,Option.getD_none,show(1:Int)>0 by decide,if_true]
   by_cases h:i<0
   ·simp only[h,if_true]<;>omega
   ·simp only[h,if_false]<;>omega
theorem wO (its:List Value) (lo hi:Option Int):slicePick its.toArray lo hi none=((its.drop (HT.sIx its.length 0 lo)).take (HT.sIx its.length its.length hi-HT.sIx its.length 0 lo)).toArray:=by
 obtain⟨h1,h2,h3⟩:=vm lo hi its.toArray.size
 unfold slicePick
 rw[h1,h2,h3]
 simp only[sliceRange_one,pick_run,List.size_toArray]<;>rfl
def zlA (K:PySem.W.Frag):V→Option Int→Option Int→Hp→VK→Prop:=fun x lo hi H Q=>∃ a xs,x=.ref a∧SqL K H a xs∧∀ p,H p=none→Q (.ref p) (upd H p (.lst (yV xs lo hi)))
theorem yw:SlR X (zlA X.K):=by
 intro pins s σ H x v vl vu lo hi sl Q I rx hs pl pu h
 obtain⟨a,xs,rfl,hx,q⟩:=h
 cases rx
 obtain⟨its,r,ht,hz⟩:=I.list hx
 have hlen:=r.length
 refine⟨"list",_,slot_list_getitem.lookup,ht.isList.typeIs,?_⟩
 refine wpAny_getItem_list_slice ht.isList hs pl pu .none (by simp) ?_ (by rw[List.size_toArray]<;>omega)
 rw[wO,← hlen]
 refine⟨.ref s.heap.objs.size,_,I.laid (t':=s.toks) (o:=.lst (yV xs lo hi)) (fun b ob q=>Heap.get?_push_of_some _ q) (Nat.le_refl _) ?_,rfl,q _ (I.hok.fresh (Nat.le_refl _))⟩
 exact⟨Nat.le_trans (yb xs lo hi) hz,_,0,(r.drop (HT.sIx xs.length 0 lo)).take (HT.sIx xs.length xs.length hi-HT.sIx xs.length 0 lo),Heap.get?_push_size _ rfl⟩
noncomputable def wm:V→Bool
 |.non=>true
 |.bl _=>true
 |.int _=>true
 |.str _=>true
 |_=>false
noncomputable def eqV:V→V→Bool
 |.non,.non=>true
 |.bl a,.bl b=>a == b
 |.bl a,.int b=>(if a then 1 else 0) == b
 |.int a,.bl b=>a == (if b then 1 else 0)
 |.int a,.int b=>a == b
 |.str a,.str b=>a == b
 |_,_=>false
theorem eqAt_V {A:Around}{s:Shared}{y x:V}{u v:Value}(ry:RelV y u) (rx:RelV x v) (fy:wm y=true) (fx:wm x=true):SeqAt.EqAt A s u v (eqV y x):=by
 cases y with
 |non =>
  cases ry
  cases x with
  |non=>cases rx;exact SeqAt.EqAt.same _
  |bl b=>cases rx;exact SeqAt.EqAt.none_bool b
  |int b=>obtain⟨t,rfl⟩:=rx;exact SeqAt.EqAt.none_int b t
  |str b=>obtain⟨t,rfl⟩:=rx;exact SeqAt.EqAt.none_str b t
  |_=>exact absurd (show false=true from fx) Bool.false_ne_true
 |bl a =>
  cases ry
  cases x with
  |non=>cases rx;exact SeqAt.EqAt.bool_none a
  |bl b=>cases rx;exact SeqAt.EqAt.bool_bool a b
  |int b=>obtain⟨t,rfl⟩:=rx;exact SeqAt.EqAt.bool_int a b t
  |str b=>obtain⟨t,rfl⟩:=rx;exact SeqAt.EqAt.bool_str a b t
  |_=>exact absurd (show false=true from fx) Bool.false_ne_true
 |int a =>
  obtain⟨t',rfl⟩:=ry
  cases x with
  |non=>cases rx;exact SeqAt.EqAt.int_none a t'
  |bl b=>cases rx;exact SeqAt.EqAt.int_bool a t' b
  |int b=>obtain⟨t,rfl⟩:=rx;exact SeqAt.EqAt.int_int a t' b t
  |str b=>obtain⟨t,rfl⟩:=rx;exact SeqAt.EqAt.int_str a t' b t
  |_=>exact absurd (show false=true from fx) Bool.false_ne_true
 |str a =>
  obtain⟨t',rfl⟩:=ry
  cases x with
  |non=>cases rx;exact SeqAt.EqAt.str_none a t'
  |bl b=>cases rx;exact SeqAt.EqAt.str_bool a t' b
  |int b=>obtain⟨t,rfl⟩:=rx;exact SeqAt.EqAt.str_int a t' b t
  |str b=>obtain⟨t,rfl⟩:=rx;exact SeqAt.EqAt.str_str a t' b t
  |_=>exact absurd (show false=true from fx) Bool.false_ne_true
 |_=>exact absurd (show false=true from fy) Bool.false_ne_true
def eqU (x:V) (u:Value):Bool:=match u with
 |.none=>eqV .non x
 |.bool b=>eqV (.bl b) x
 |.int i _=>eqV (.int i) x
 |.str z _=>eqV (.str z) x
 |_=>false
theorem X0 {x y:V}{u:Value}(r:RelV y u) (f:wm y=true):eqU x u=eqV y x:=by
 cases y with
 |non=>cases r;rfl
 |bl b=>cases r;rfl
 |int i=>obtain⟨t,rfl⟩:=r;rfl
 |str z=>obtain⟨t,rfl⟩:=r;rfl
 |_=>exact absurd (show false=true from f) Bool.false_ne_true
theorem wo {x:V}:∀ {xs:List V}{us:List Value},Vals xs us→xs.all wm=true→us.any (eqU x)=xs.any fun y=>eqV y x
 |_,_,.nil,_=>rfl
 |y::xs,u::us,.cons r t,f=>by
  rw[List.all_cons,Bool.and_eq_true] at f
  rw[List.any_cons,List.any_cons,X0 r f.1,wo t f.2]
theorem xA {A:Around}{s:Shared}{x:V}{v:Value}(rx:RelV x v) (fx:wm x=true):∀ {xs:List V}{us:List Value},Vals xs us→xs.all wm=true→∀ u∈us,SeqAt.EqAt A s u v (eqU x u)
 |_,_,.nil,_=>fun u hu=>by cases hu
 |y::xs,u::us,.cons r t,f=>fun u' hu=>by
  rw[List.all_cons,Bool.and_eq_true] at f
  rcases List.mem_cons.mp hu with rfl | hu
  ·rw[X0 r f.1];exact eqAt_V r rx f.1 fx
  ·exact xA rx fx t f.2 u' hu
def inV (x:V) (xs:List V):Bool:=xs.any fun y=>eqV y x
def rIn (K:PySem.W.Frag) (neg:Bool):R2:=fun x y H Q=>∃ p xs,y=.ref p∧(SqL K H p xs∨SqT K H p xs)∧wm x=true∧xs.all wm=true∧Q (.bl (if neg then !inV x xs else inV x xs)) H
theorem wa:OpR X (compareOp .In) (rIn X.K false):=by
 intro pins s σ H x y v u Q I rx ry h
 obtain⟨p,xs,rfl,hq,fx,fs,q⟩:=h
 cases ry
 rcases hq with hq | hq
 ·obtain⟨its,r,pl,hz⟩:=I.list hq
  refine SeqAt.in_listAt (eqU x) pl.isList (fun w hw=>xA rx fx r fs w (by simpa using hw)) ⟨.bl _,H,I,rfl,?_⟩
  rw[show its.toArray.any (eqU x)=its.any (eqU x) by simp,wo r fs]
  exact q
 ·obtain⟨its,r,pl,hz⟩:=I.tuple hq
  refine SeqAt.in_tupleAt (eqU x) pl (fun w hw=>xA rx fx r fs w (by simpa using hw)) ⟨.bl _,H,I,rfl,?_⟩
  rw[show its.toArray.any (eqU x)=its.any (eqU x) by simp,wo r fs]
  exact q
theorem vy:OpR X (compareOp .NotIn) (rIn X.K true):=by
 intro pins s σ H x y v u Q I rx ry h
 obtain⟨p,xs,rfl,hq,fx,fs,q⟩:=h
 cases ry
 rcases hq with hq | hq
 ·obtain⟨its,r,pl,hz⟩:=I.list hq
  refine SeqAt.notIn_listAt (eqU x) pl.isList (fun w hw=>xA rx fx r fs w (by simpa using hw)) ⟨.bl _,H,I,rfl,?_⟩
  rw[show its.toArray.any (eqU x)=its.any (eqU x) by simp,wo r fs]
  exact q
 ·obtain⟨its,r,pl,hz⟩:=I.tuple hq
  refine SeqAt.notIn_tupleAt (eqU x) pl (fun w hw=>xA rx fx r fs w (by simpa using hw)) ⟨.bl _,H,I,rfl,?_⟩
  rw[show its.toArray.any (eqU x)=its.any (eqU x) by simp,wo r fs]
  exact q
theorem zw:xB X (.builtin "len") (fun xs H Q=>∃ p ys,xs=[.ref p]∧(SqL X.K H p ys∨SqT X.K H p ys)∧Q (.int ys.length) H):=by
 intro pins s σ H xs us Q I r h
 obtain⟨p,ys,rfl,hq,q⟩:=h
 obtain⟨u,rfl,rx⟩:=Yv r
 cases rx
 have hn:=ZW
 rcases hq with hq | hq
 ·obtain⟨its,r',pl,hz⟩:=I.list hq
  have hlen:=r'.length
  exact Calls.call_len_list pl.isList (by simp only[List.size_toArray]<;>omega) ⟨.int ys.length,H,I.tok _,⟨s.toks+1,by rw[List.size_toArray,hlen]⟩,q⟩
 ·obtain⟨its,r',pl,hz⟩:=I.tuple hq
  have hlen:=r'.length
  exact len_tuple pl (by simp only[List.size_toArray]<;>omega) ⟨.int ys.length,H,I.tok _,⟨s.toks+1,by rw[List.size_toArray,hlen]⟩,q⟩
theorem yu:xB X (.type "list") (fun xs H Q=>∃ p ys,xs=[.ref p]∧(SqL X.K H p ys∨SqT X.K H p ys)∧∀ l,H l=none→Q (.ref l) (upd H l (.lst ys))):=by
 intro pins s σ H xs us Q I r h
 obtain⟨p,ys,rfl,hq,q⟩:=h
 obtain⟨u,rfl,rx⟩:=Yv r
 cases rx
 have fin:∀ (its:List Value),Vals ys its→ys.length≤sizeLine→∀ (h':Heap) (c':Nat),(∀ b o',s.heap.get? b=some o'→h'.get? b=some o') →
   h'.get? s.heap.objs.size=some { cls:=.type "list",dict:=none,data:=.seq its.toArray c',slots:=#[] }→EP X pins σ Q (.ref s.heap.objs.size) { s with heap:=h' }:=fun its r' hz h' c' kp e =>
  ⟨.ref s.heap.objs.size,_,I.laid (t':=s.toks) kp (Nat.le_refl _) (show ObjOk X.prog X.w _ h' _ (.lst ys) from⟨hz,its,c',r',e⟩),rfl,q _ (I.hok.fresh (Nat.le_refl _))⟩
 rcases hq with hq | hq
 ·obtain⟨its,r',pl,hz⟩:=I.list hq
  have hlen:=r'.length
  obtain⟨o,ho,hc,n,hd⟩:=pl.isList
  exact call_list_seq p (.inl rfl) ho hc hd (fun h' c' kp e=>fin its r' hz h' c' kp e) (by simp only[List.size_toArray]<;>omega)
 ·obtain⟨its,r',pl,hz⟩:=I.tuple hq
  have hlen:=r'.length
  obtain⟨o,ho,hc,n,hd⟩:=pl
  exact call_list_seq p (.inr rfl) ho hc hd (fun h' c' kp e=>fin its r' hz h' c' kp e) (by simp only[List.size_toArray]<;>omega)
theorem yQ:xB X (.type "tuple") (fun xs H Q=>∃ p ys,xs=[.ref p]∧((SqL X.K H p ys∧∀ l,H l=none→Q (.ref l) (upd H l (.tup ys)))∨(SqT X.K H p ys∧Q (.ref p) H))):=by
 intro pins s σ H xs us Q I r h
 obtain⟨p,ys,rfl,h⟩:=h
 obtain⟨u,rfl,rx⟩:=Yv r
 cases rx
 rcases h with⟨hq,q⟩ | ⟨hq,q⟩
 ·obtain⟨its,r',pl,hz⟩:=I.list hq
  have hlen:=r'.length
  refine call_tuple_list pl.isList (fun h' kp=>?_) (by simp only[List.size_toArray]<;>omega)
  have I1:Inv X pins σ H { s with heap:=h' }:=I.kept (t':=s.toks) kp
  have I2:Inv X pins σ (upd H h'.objs.size (.tup ys)) { s with heap:=h'.push { cls:=.type "tuple",data:=.seq its.toArray } } :=
   I1.laid (t':=s.toks) (fun b o e=>Heap.get?_push_of_some _ e) (Nat.le_refl _) (show ObjOk X.prog X.w _ _ _ (.tup ys) from⟨hz,its,r',IsTup.new _ _⟩)
  exact⟨.ref h'.objs.size,_,I2,rfl,q _ (I1.hok.fresh (Nat.le_refl _))⟩
 ·obtain⟨its,r',pl,hz⟩:=I.tuple hq
  exact call_tuple_same pl ⟨.ref p,H,I,rfl,q⟩
def tyV (K:PySem.W.Frag) (T:String) (x:V) (H:Hp):Prop:=match x with
 |.str _=>T = "str"
 |.int _=>T = "int"
 |.ref p=>(T = "list" ∧ ∃ xs,SqL K H p xs)∨(T = "tuple" ∧ ∃ o,K.lookup p=some o∧o.cls=.type "tuple" ∧ o.dict=none) ∨
   (T = "dict" ∧ ((∃ kvs,H p=some (.dK kvs))∨∃ kvs,H p=some (.dT kvs)))∨(T = "set" ∧ ∃ S n,H p=some (.set S n))
 |_=>False
theorem Ua {pins:List (Addr×Obj)}{σ:St}{H:Hp}{s:Shared}{T:String}{x:V}{v:Value}(I:Inv X pins σ H s) (r:RelV x v) (ty:tyV X.K T x H) :
  s.TypeIs v T∧∀ a,v=.ref a→∃ ob,s.heap.get? a=some ob∧ob.dict=none:=by
 cases x with
 |str z =>
  obtain⟨t,rfl⟩:=r
  cases (show T = "str" from ty)
  exact⟨typeIs_str s z t,fun _ e=>nomatch e⟩
 |int i =>
  obtain⟨t,rfl⟩:=r
  cases (show T = "int" from ty)
  exact⟨typeIs_int s i t,fun _ e=>nomatch e⟩
 |ref p =>
  cases r
  rcases ty with⟨rfl,xs,hq⟩ | ⟨rfl,o,hk,hc,hd⟩ | ⟨rfl,hk⟩ | ⟨rfl,S,n,hk⟩
  ·obtain⟨its,_,pl,_⟩:=I.list hq
   refine⟨pl.isList.typeIs,fun a e=>?_⟩
   cases e
   obtain⟨o,n,e,c,hd,_⟩:=pl
   exact⟨o,e,hd⟩
  ·refine⟨⟨o,I.kIn p o hk,hc⟩,fun a e=>?_⟩
   cases e
   exact⟨o,I.kIn _ o hk,hd⟩
  ·have z:∃ o,s.heap.get? p=some o∧o.ExactDict:=by
    rcases hk with⟨kvs,hk⟩ | ⟨kvs,hk⟩
    ·obtain⟨_,_,_,_,o,_,_,e,ex,_⟩:=I.hok p _ hk
     exact⟨o,e,ex⟩
    ·obtain⟨_,_,_,_,o,_,_,e,ex,_⟩:=I.hok p _ hk
     exact⟨o,e,ex⟩
   obtain⟨o,e,ex⟩:=z
   refine⟨⟨o,e,ex.1⟩,fun a e2=>?_⟩
   cases e2
   exact⟨o,e,ex.2.1⟩
  ·obtain⟨o,_,_,_,e,ex,_⟩:=I.hok p _ hk
   refine⟨⟨o,e,ex.1⟩,fun a e2=>?_⟩
   cases e2
   exact⟨o,e,ex.2.1⟩
 |_=>exact False.elim ty
def tBM (K:PySem.W.Frag) (T:String) (r:V→List V→Hp→VK→Prop) (to:TE) (t:TA):TE:=fun σ H Q=>to σ H fun x H1=>tyV K T x H1∧t σ H1 fun xs H2=>r x xs H2 Q
variable {o e:Expr}{es:List Expr}{to:TE}{t:TA}{name:Str}{apos cpos:Pos}{T id:String}{r:V→List V→Hp→VK→Prop}
theorem Vt (pa:PlainAttrs T) (slot:Slot T name id) (hty:typeOf (.builtin id)=pure (.type "method_descriptor")) (hm:MtR X id r) (ho:PE X o to) (ha:PA X (e::es) t)
  (hbase:attributeBase o name X.env (eval o X.env)=eval o X.env:=by rfl)
  (hfew:((backTo cpos (starEach (e::es) X.env)).all (fun x=>!x.1)&&(backToKw cpos (keywordEach [] X.env)).all (fun x=>x.1.isSome)
   && decide ((e::es).length+([]:List Keyword).length+(if ([]:List Keyword).isEmpty then 0 else 1)<30))=true:=by rfl)
  (hline:(apos.endLine == cpos.line)=true:=by rfl) (hs:starEach (e::es) X.env=(false,eval e X.env)::starEach es X.env:=by rfl) (hplain:(backTo cpos (starEach es X.env)).any (·.1)=false:=by rfl) :
  PE X (.Call (.Attribute o name apos) (e::es) [] cpos) (tBM X.K T r to t):=by
 intro pins s σ H Q I h
 refine wpAny_Call_method_late hbase hfew hline rfl (thn (ho pins s σ H _ I h) fun v s1 hq0=>?_)
 obtain⟨x,H1,I1,r1,ty,q1⟩:=hq0
 obtain⟨h1,h2⟩:=Ua I1 r1 ty
 refine⟨T,id,pa,slot,hty,h1,h2,?_⟩
 have hA:=ha cpos pins s1 σ H1 _ I1 q1
 rw[hs] at hA ⊢
 refine Calls.callWith_builtin (by show(false||(backTo cpos (starEach es X.env)).any (·.1))=false;rw[hplain]<;>rfl) (Calls.evalArgs_plain ?_)
 exact thn hA fun us s2 ⟨vs,H2,I2,r2,q2⟩=>hm pins s2 σ H2 x vs v us Q I2 r1 r2 q2
end
def MtM (X:Cx) (id:String) (r:V→List V→Hp→VK→Prop):Prop :=
 ∀ (pins:List (Addr×Obj)) (s:Shared) (σ:St) (H:Hp) (x:V) (xs:List V) (v:Value) (us:List Value) (Q:VK),Inv X pins σ H s→RelV x v→Vals xs us→r x xs H Q →
  wpAny (model X.prog X.w) X.A (call (.builtin id) (v::us)) (EP X pins σ Q) X.xe s
theorem Vals.one:∀ {x:V}{us:List Value},Vals [x] us→∃ u,us=[u]∧RelV x u
 |_,_,.cons r .nil=>⟨_,rfl,r⟩
theorem Vals.two:∀ {x y:V}{us:List Value},Vals [x,y] us→∃ u v,us=[u,v]∧RelV x u∧RelV y v
 |_,_,_,.cons r (.cons q .nil)=>⟨_,_,rfl,r,q⟩
theorem Vals.eraseIdx:∀ {xs:List V}{us:List Value}(i:Nat),Vals xs us→Vals (xs.eraseIdx i) (us.eraseIdx i)
 |_,_,_,.nil=>.nil
 |_,_,0,.cons _ t=>t
 |_,_,i+1,.cons r t=>.cons r (Vals.eraseIdx i t)
theorem Vals.reverse {xs:List V}{us:List Value}(h:Vals xs us):Vals xs.reverse us.reverse:=by
 induction h with
 |nil=>exact .nil
 |cons r t ih=>rw[List.reverse_cons,List.reverse_cons];exact Vals.append ih (.cons r .nil)
theorem vC {α:Type}:∀ (l:List α) (i:Nat),(l.eraseIdx i).length≤l.length
 |[],_=>Nat.le_refl _
 |_::_,0=>Nat.le_succ _
 |_::r,i+1=>Nat.succ_le_succ (vC r i)
section
variable {X:Cx}{pins:List (Addr×Obj)}{σ:St}{H:Hp}{s:Shared}{l b:Addr}{xs ys zs:List V}
theorem Inv.lset {its its':List Value}{n:Nat}{f:Array Value→Array Value}{t':Nat}(I:Inv X pins σ H s) (hH:H l=some (.lst xs))
  (e:s.heap.get? l=some { cls:=.type "list",data:=.seq its.toArray n }) (hf:f its.toArray=its'.toArray) (hv:Vals ys its') (hz:ys.length≤sizeLine) :
  Inv X pins σ (upd H l (.lst ys)) { s with heap:=s.heap.update l (Obj.mapSeq f),toks:=t' }:=by
 have q:=PySem.IsL.update e f
 rw[hf] at q
 refine I.write (x:=l) (e:=l) (by rw[hH];exact trivial) (.inl rfl) (fun b' u hb hu=>(Heap.get?_update_other s.heap (Obj.mapSeq f) (Ne.symm hb)).trans hu) ⟨_,q⟩ ?_
 exact⟨hz,its',_,hv,q⟩
theorem Inv.lnew {its:List Value}{t':Nat}(I:Inv X pins σ H s) (hv:Vals ys its) (hz:ys.length≤sizeLine) :
  Inv X pins σ (upd H s.heap.objs.size (.lst ys)) { s with heap:=s.heap.push { cls:=.type "list",data:=.seq its.toArray },toks:=t' } :=
 I.laid (fun _ _ q=>Heap.get?_push_of_some _ q) (Nat.le_refl _) ⟨hz,its,0,hv,Heap.get?_push_size _ rfl⟩
theorem Inv.fresh (I:Inv X pins σ H s):H s.heap.objs.size=none:=I.hok.fresh (Nat.le_refl _)
theorem Inv.lstM (I:Inv X pins σ H s) (hH:H l=some (.lst xs)):xs.length≤sizeLine∧∃ (its:List Value) (n:Nat),Vals xs its∧xs.length=its.length∧s.heap.get? l=some { cls:=.type "list",data:=.seq its.toArray n }:=by
 obtain⟨z,its,n,r,e⟩:=I.hok l _ hH
 exact⟨z,its,n,r,r.length,e⟩
theorem YZ {n:Nat}(h:n≤sizeLine):Builtin.List.listTooLong n=false:=by
 unfold Builtin.List.listTooLong
 exact decide_eq_false (by omega)
end
section
variable {X:Cx}
def Ve:V→List V→Hp→VK→Prop:=fun x vs H Q=>∃ l xs y,x=.ref l∧vs=[y]∧H l=some (.lst xs)∧xs.length<sizeLine∧Q .non (upd H l (.lst (xs++[y])))
theorem zL:MtM X "list.append" Ve:=by
 intro pins s σ H x vs v us Q I rx rv h
 obtain⟨l,xs,y,rfl,rfl,hH,hz,q⟩:=h
 cases rx
 obtain⟨u,rfl,ru⟩:=rv.one
 obtain⟨z,its,n,r,hl,e⟩:=I.lstM hH
 refine call_meets F.slot_list_append ⟨_,e,rfl⟩ F.entry_list_append (F.args_list_append_2 _ _) (PySem.list_append l its.toArray n u (by rw[List.size_toArray];omega)) ⟨e,?_⟩
 refine⟨.non,_,I.lset (its':=its++[u]) hH e (by simp) (r.append (.cons ru .nil)) ?_,rfl,q⟩
 rw[List.length_append,List.length_singleton]
 omega
def Vd:V→List V→Hp→VK→Prop:=fun x vs H Q=>∃ l b xs zs,x=.ref l∧vs=[.ref b]∧H l=some (.lst xs)∧H b=some (.lst zs)∧xs.length+zs.length≤sizeLine∧Q .non (upd H l (.lst (xs++zs)))
theorem za0:MtM X "list.extend" Vd:=by
 intro pins s σ H x vs v us Q I rx rv h
 obtain⟨l,b,xs,zs,rfl,rfl,hH,hB,hz,q⟩:=h
 cases rx
 obtain⟨u,rfl,ru⟩:=rv.one
 cases ru
 obtain⟨z,its,n,r,hl,e⟩:=I.lstM hH
 obtain⟨z2,its2,n2,r2,hl2,e2⟩:=I.lstM hB
 have hsz:its.toArray.size+its2.toArray.size≤sizeLine:=by rw[List.size_toArray,List.size_toArray];omega
 have hlong:¬ (!its.toArray.isEmpty&&Builtin.List.listTooLong (its.toArray.size+its2.toArray.size))=true:=by
  rw[YZ hsz,Bool.and_false]
  exact Bool.false_ne_true
 refine call_meets F.slot_list_extend ⟨_,e,rfl⟩ F.entry_list_extend (F.args_list_extend_2 _ _)
  (AutoSeq1.list_extend_list_list_0 l its.toArray n b its2.toArray n2 hlong (by rw[List.size_toArray];omega) (by omega)) ⟨e,e2,?_⟩
 refine⟨.non,_,I.lset (its':=its++its2) hH e (by simp) (r.append r2) ?_,rfl,q⟩
 rw[List.length_append]
 omega
def UA:V→List V→Hp→VK→Prop:=fun x vs H Q=>∃ l xs i k y,x=.ref l∧vs=[.int i]∧H l=some (.lst xs)∧-(2 ^ 63)≤i∧i<2 ^ 63∧seqIndex? i xs.length=some k∧xs[k]?=some y∧Q y (upd H l (.lst (xs.eraseIdx k)))
theorem uy:MtM X "list.pop" UA:=by
 intro pins s σ H x vs v us Q I rx rv h
 obtain⟨l,xs,i,k,y,rfl,rfl,hH,h1,h2,hk,hy,q⟩:=h
 cases rx
 obtain⟨u,rfl,ru⟩:=rv.one
 obtain⟨t,rfl⟩:=ru
 obtain⟨z,its,n,r,hl,e⟩:=I.lstM hH
 obtain⟨w,hw,rw'⟩:=r.get hy
 refine call_meets F.slot_list_pop ⟨_,e,rfl⟩ F.entry_list_pop (F.args_list_pop_2 _ _)
  (MeetsSeq.list_pop_at l its.toArray n i t k w (fitsIndex_both h1 h2) (by rw[List.size_toArray,← hl];exact hk) (by rw[← Array.getElem?_toList];exact hw) (by rw[List.size_toArray];omega)) ⟨e,?_⟩
 refine⟨y,_,I.lset (its':=its.eraseIdx k) hH e ?_ (r.eraseIdx k) ?_,rw',q⟩
 ·show its.toArray.eraseIdxIfInBounds k=(its.eraseIdx k).toArray
  rw[List.eraseIdxIfInBounds_toArray]
 ·have:=vC xs k
  omega
def zlH:R2:=fun x y H Q=>∃ l b xs zs,x=.ref l∧y=.ref b∧H l=some (.lst xs)∧H b=some (.lst zs)∧xs.length+zs.length≤sizeLine∧∀ p,H p=none→Q (.ref p) (upd H p (.lst (xs++zs)))
theorem yT:OpR X (binaryOp .Add) zlH:=by
 intro pins s σ H x y v u Q I rx ry h
 obtain⟨l,b,xs,zs,rfl,rfl,hH,hB,hz,q⟩:=h
 cases rx
 cases ry
 obtain⟨z,its,n,r,hl,e⟩:=I.lstM hH
 obtain⟨z2,its2,n2,r2,hl2,e2⟩:=I.lstM hB
 refine PySem.P.add_list e e2 ?_ (by rw[List.size_toArray,List.size_toArray];omega)
 have ea:its.toArray++its2.toArray=(its++its2).toArray:=by simp
 rw[ea]
 exact⟨.ref _,_,I.lnew (t':=s.toks) (r.append r2) (by rw[List.length_append];omega),rfl,q _ I.fresh⟩
end
section
variable {κ:Type} [DecidableEq κ]
noncomputable def yK (kvs:List (κ×V)) (k:κ):Option V:=(kvs.find? fun kv=>decide (kv.1=k)).map (·.2)
def putK (kvs:List (κ×V)) (k:κ) (v:V):List (κ×V) :=
 if (kvs.any fun kv=>decide (kv.1=k))=true then kvs.map (fun kv=>if kv.1=k then(kv.1,v) else kv) else kvs++[(k,v)]
theorem xy {p:κ×V}{r:List (κ×V)}{k:κ}(e:p.1=k):yK (p::r) k=some p.2:=by simp[yK,List.find?_cons,e]
theorem xz {p:κ×V}{r:List (κ×V)}{k:κ}(e:¬ p.1=k):yK (p::r) k=yK r k:=by simp[yK,List.find?_cons,e]
theorem yH (k:κ):∀ kvs:List (κ×V),(kvs.any fun kv=>decide (kv.1=k))=(yK kvs k).isSome
 |[]=>rfl
 |p::r=>by
  rw[List.any_cons]
  by_cases e:p.1=k
  ·simp only[xy e,decide_eq_true e,Bool.true_or,Option.isSome_some]
  ·rw[xz e,decide_eq_false e,Bool.false_or];exact yH k r
theorem yE (kvs:List (κ×V)) (k:κ) (v:V):(putK kvs k v).length≤kvs.length+1:=by
 unfold putK
 split
 ·rw[List.length_map];omega
 ·rw[List.length_append,List.length_cons,List.length_nil];omega
theorem putK_new {kvs:List (κ×V)}{k:κ}(v:V) (h:yK kvs k=none):putK kvs k v=kvs++[(k,v)]:=by
 unfold putK
 rw[yH,h]
 exact if_neg (by decide)
theorem RelO.isSome_eq {o:Option V}{u:Option Value}(r:RelO o u):o.isSome=u.isSome:=by
 cases o with
 |none=>cases u with
  |none=>rfl
  |some _=>exact(show False from r).elim
 |some _=>cases u with
  |none=>exact(show False from r).elim
  |some _=>rfl
theorem RelO.getD {o:Option V}{u:Option Value}{d:V}{d':Value}(r:RelO o u) (rd:RelV d d'):RelV (o.getD d) (u.getD d'):=by
 cases o with
 |none=>cases u with
  |none=>exact rd
  |some _=>exact(show False from r).elim
 |some _=>cases u with
  |none=>exact(show False from r).elim
  |some _=>exact r
theorem KV.val {kvs:List (κ×V)}{vs:List (κ×Value)}(r:KV kvs vs) (k:κ):RelO (yK kvs k) (valueAt vs k):=by
 unfold KV at r
 induction r with
 |nil=>exact True.intro
 | @cons p q ps qs h t ih =>
  obtain⟨h1,h2⟩:=h
  by_cases e:p.1=k
  ·have e':q.1=k:=h1.symm.trans e
   have b:valueAt (q::qs) k=some q.2:=by simp[valueAt,List.find?_cons,e']
   rw[xy e,b];exact h2
  ·have e':¬ q.1=k:=fun z=>e (h1.trans z)
   have b:valueAt (q::qs) k=valueAt qs k:=by simp[valueAt,List.find?_cons,e']
   rw[xz e,b];exact ih
theorem KV.any {kvs:List (κ×V)}{vs:List (κ×Value)}(r:KV kvs vs) (k:κ):(kvs.any fun kv=>decide (kv.1=k))=vs.any fun kv=>decide (kv.1=k):=by
 unfold KV at r
 induction r with
 |nil=>rfl
 |cons h t ih=>rw[List.any_cons,List.any_cons,ih,h.1]
theorem KV.repl {kvs:List (κ×V)}{vs:List (κ×Value)}(r:KV kvs vs) (k:κ){y:V}{u:Value}(ry:RelV y u) :
  KV (kvs.map fun kv=>if kv.1=k then(kv.1,y) else kv) (vs.map fun kv=>if kv.1=k then(kv.1,u) else kv):=by
 unfold KV at r ⊢
 induction r with
 |nil=>exact .nil
 | @cons p q ps qs h t ih =>
  rw[List.map_cons,List.map_cons]
  refine .cons ?_ ih
  obtain⟨h1,h2⟩:=h
  by_cases e:p.1=k
  ·rw[if_pos e,if_pos (h1.symm.trans e)];exact⟨h1,ry⟩
  ·rw[if_neg e,if_neg (fun z=>e (h1.trans z))];exact⟨h1,h2⟩
theorem KV.put {kvs:List (κ×V)}{vs:List (κ×Value)}(r:KV kvs vs) (k:κ){y:V}{u:Value}(ry:RelV y u):KV (putK kvs k y) (stored vs k u):=by
 unfold putK stored
 rw[r.any k]
 by_cases e:(vs.any fun kv=>decide (kv.1=k))=true
 ·rw[if_pos e,if_pos e];exact r.repl k ry
 ·rw[if_neg e,if_neg e];exact Paired.snoc r ⟨rfl,ry⟩
theorem KV.length {kvs:List (κ×V)}{vs:List (κ×Value)}(r:KV kvs vs):kvs.length=vs.length:=Paired.length r
end
theorem wX {P:Program}{w:World}{k:Key}{u:Value}(r:RelV (kV k) u):(zr P w).is k u=true:=by
 cases k with
 |inl i=>obtain⟨t,e⟩:=(show ∃ t,u=Value.int i t from r);subst e;exact v4 P w i t
 |inr x=>obtain⟨t,e⟩:=(show ∃ t,u=Value.str x t from r);subst e;exact v3 P w x t
theorem vE {P:Program}{w:World}:∀ {ks:List Key}{us:List Value},Vals (ks.map kV) us→ItemsAre (zr P w) ks us
 |[],_,r=>by rw[List.map_nil] at r;cases r;exact .nil
 |k::ks,_,r=>by
  rw[List.map_cons] at r
  cases r with
  |cons h t=>exact .cons (wX h) (vE t)
abbrev KT (H:Hp):List (List Key×V)→List (List Key×Addr×Value)→Prop:=Paired fun p q=>p.1=q.1∧H q.2.1=some (.tup (p.1.map kV))∧RelV p.2 q.2.2
theorem KT.val {H:Hp}{kvs:List (List Key×V)}{xs:List (List Key×Addr×Value)}(r:KT H kvs xs) (k:List Key):RelO (yK kvs k) ((atKey xs k).map (·.2)):=by
 induction r with
 |nil=>exact True.intro
 | @cons p q ps qs h t ih =>
  obtain⟨h1,_,h2⟩:=h
  by_cases e:p.1=k
  ·have e':q.1=k:=h1.symm.trans e
   have b:atKey (q::qs) k=some q.2:=by simp[atKey,List.find?_cons,e']
   rw[xy e,b];exact h2
  ·have e':¬ q.1=k:=fun z=>e (h1.trans z)
   have b:atKey (q::qs) k=atKey qs k:=by simp[atKey,List.find?_cons,e']
   rw[xz e,b];exact ih
theorem KT.repl {H:Hp}{kvs:List (List Key×V)}{xs:List (List Key×Addr×Value)}(r:KT H kvs xs) (k:List Key){y:V}{u:Value}(ry:RelV y u) :
  KT H (kvs.map fun kv=>if kv.1=k then(kv.1,y) else kv) (xs.map (putAt k u)):=by
 induction r with
 |nil=>exact .nil
 | @cons p q ps qs h t ih =>
  rw[List.map_cons,List.map_cons]
  refine .cons ?_ ih
  obtain⟨h1,h2,h3⟩:=h
  unfold putAt
  by_cases e:p.1=k
  ·rw[if_pos e,if_pos (h1.symm.trans e)];exact⟨h1,h2,ry⟩
  ·rw[if_neg e,if_neg (fun z=>e (h1.trans z))];exact⟨h1,h2,h3⟩
theorem KT.put {H:Hp}{kvs:List (List Key×V)}{xs:List (List Key×Addr×Value)}(r:KT H kvs xs) (k:List Key){b:Addr}{y:V}{u:Value}(hb:H b=some (.tup (k.map kV))) (ry:RelV y u) :
  KT H (putK kvs k y) (storedH xs k b u):=by
 have e:(kvs.any fun kv=>decide (kv.1=k))=(atKey xs k).isSome:=by
  rw[yH,(r.val k).isSome_eq,Option.isSome_map]
 unfold putK storedH
 rw[e]
 by_cases q:(atKey xs k).isSome=true
 ·rw[if_pos q,if_pos q];exact r.repl k ry
 ·rw[if_neg q,if_neg q];exact Paired.snoc r ⟨rfl,hb,ry⟩
theorem KT.keeps {H H':Hp}{kvs:List (List Key×V)}{xs:List (List Key×Addr×Value)}(r:KT H kvs xs) (ht:∀ b ys,H b=some (.tup ys)→H' b=some (.tup ys)):KT H' kvs xs :=
 Paired.mapP r fun _ _ z=>⟨z.1,ht _ _ z.2.1,z.2.2⟩
section
variable {P:Program}{w:World}{H:Hp}{h:Heap}{a:Addr}
theorem Ux {u:HO}(ok:HOk P w H h) (e:Rd H a u):ObjOk P w H h a u:=e.ok ok
theorem w6 {kvs:List (Key×V)}(ok:HOk P w H h) (e:Rd H a (.dK kvs)):kvs.length≤sizeLine∧(a == sysModules)=false∧∃ vs,KV kvs vs∧h.DictOf (zr P w) a vs :=
 show ObjOk P w H h a (.dK kvs) from Ux ok e
theorem VM {kvs:List (Key×V)}(ok:HOk P w H h) (e:H a=some (.dK kvs)):kvs.length≤sizeLine∧(a == sysModules)=false∧∃ vs,KV kvs vs∧h.DictOf (zr P w) a vs:=w6 ok (.inl e)
theorem xp {ks:List Key}(ok:HOk P w H h) (e:H a=some (.tup (ks.map kV))):(tupleKind (zr P w)).is h ks a:=by
 obtain⟨_,its,r,o,h1,h2,n,h3⟩:=(show ObjOk P w H h a (.tup (ks.map kV)) from ok a _ e)
 exact⟨o,its.toArray,n,h1,h2,h3,by simpa using vE r⟩
theorem wu {kvs:List (List Key×V)}(ok:HOk P w H h) (e:Rd H a (.dT kvs)):kvs.length≤sizeLine∧(a == sysModules)=false ∧
  ∃ xs,KT H kvs xs∧h.DictOfH (tupleKind (zr P w)) a xs:=by
 obtain⟨z,y,xs,r,o,es,ep,h1,h2,h3,h4,h5⟩:=(show ObjOk P w H h a (.dT kvs) from Ux ok e)
 refine⟨z,y,xs,r,o,es,ep,h1,h2,h3,h4,fun x hx=>?_,h5⟩
 have all:∀ {l:List (List Key×V)}{m:List (List Key×Addr×Value)},KT H l m→∀ x∈m,(tupleKind (zr P w)).is h x.1 x.2.1:=by
  intro l m q
  induction q with
  |nil=>intro x hx;exact nomatch hx
  | @cons p q ps qs hq t ih =>
   intro x hx
   rcases List.mem_cons.mp hx with e | hx
   ·subst e
    exact xp ok (by rw[← hq.1];exact hq.2.1)
   ·exact ih x hx
 exact all r x hx
theorem uZ {kvs:List (List Key×V)}(ok:HOk P w H h) (e:H a=some (.dT kvs)):kvs.length≤sizeLine∧(a == sysModules)=false ∧
  ∃ xs,KT H kvs xs∧h.DictOfH (tupleKind (zr P w)) a xs:=wu ok (.inl e)
end
def DGet (H:Hp) (a:Addr) (y:V) (r:Option V):Prop :=
 (∃ kvs k,Rd H a (.dK kvs)∧y=kV k∧r=yK kvs k)∨∃ kvs k b,Rd H a (.dT kvs)∧y=.ref b∧H b=some (.tup (k.map kV))∧r=yK kvs k
def DPut (H:Hp) (a:Addr) (y v:V) (H':Hp):Prop :=
 (∃ kvs k,H a=some (.dK kvs)∧y=kV k∧kvs.length<sizeLine∧H'=upd H a (.dK (putK kvs k v))) ∨
 ∃ kvs k b,H a=some (.dT kvs)∧y=.ref b∧H b=some (.tup (k.map kV))∧kvs.length<sizeLine∧H'=upd H a (.dT (putK kvs k v))
theorem DGet.k {H:Hp}{a:Addr}{kvs:List (Key×V)}{k:Key}(e:H a=some (.dK kvs)):DGet H a (kV k) (yK kvs k):=.inl ⟨kvs,k,.inl e,rfl,rfl⟩
theorem DGet.t {H:Hp}{a b:Addr}{kvs:List (List Key×V)}{k:List Key}(e:H a=some (.dT kvs)) (eb:H b=some (.tup (k.map kV))):DGet H a (.ref b) (yK kvs k):=.inr ⟨kvs,k,b,.inl e,rfl,eb,rfl⟩
theorem DPut.k {H:Hp}{a:Addr}{kvs:List (Key×V)}{k:Key}{v:V}(e:H a=some (.dK kvs)) (hl:kvs.length<sizeLine):DPut H a (kV k) v (upd H a (.dK (putK kvs k v))):=.inl ⟨kvs,k,e,rfl,hl,rfl⟩
theorem DPut.t {H:Hp}{a b:Addr}{kvs:List (List Key×V)}{k:List Key}{v:V}(e:H a=some (.dT kvs)) (eb:H b=some (.tup (k.map kV))) (hl:kvs.length<sizeLine) :
  DPut H a (.ref b) v (upd H a (.dT (putK kvs k v))):=.inr ⟨kvs,k,b,e,rfl,eb,hl,rfl⟩
section
variable {X:Cx}{pins:List (Addr×Obj)}{σ:St}{H:Hp}{s:Shared}{a:Addr}{y v:V}{u r:Value}{o:Option V}{A:Around}{E:Value→Shared→Prop}
theorem Inv.big (I:Inv X pins σ H s):sysModules<s.heap.objs.size:=by
 have h:mainGlobals<s.heap.objs.size:=(I.mod.glob.keeps I.bk).lt
 exact Nat.lt_trans (by decide) h
theorem Yg {Q:Value→Shared→Prop}(hu:A.units+1<cLine) (I:Inv X pins σ H s) (g:DGet H a y (some v)) (ry:RelV y u) (h:∀ w' s',Inv X pins σ H s'→RelV v w'→Q w' s') :
  wpAny (model X.prog X.w) A (getItem (.ref a) u) Q E s:=by
 rcases g with⟨kvs,k,e,ey,l⟩ | ⟨kvs,k,b,e,ey,eb,l⟩
 ·subst ey
  obtain⟨z,hd,vs,rel,dd⟩:=w6 I.hok e
  obtain⟨w',hw,rw'⟩:=RelO.some_of (v:=v) (o:=valueAt vs k) (by rw[l];exact rel.val k)
  exact wpAny_getItem_of (wX ry) dd.mapOf hw (h w' _ (I.tok _) rw')
 ·subst ey
  cases (show u=Value.ref b from ry)
  obtain⟨z,hd,xs,rel,dd⟩:=wu I.hok e
  obtain⟨w',hw,rw'⟩:=RelO.some_of (v:=v) (o:=(atKey xs k).map (·.2)) (by rw[l];exact rel.val k)
  obtain⟨p,hp,hp2⟩:=Option.map_eq_some_iff.mp hw
  refine wpAny_getItem_heap (tupleKind_room_in1 hu) (xp I.hok eb) dd hp ?_
  rw[hp2]
  exact h w' _ (I.tok _) rw'
theorem zlU {Q:Value→Shared→Prop}(hu:A.units+1<cLine) (I:Inv X pins σ H s) (g:DGet H a y o) (ry:RelV y u) (h:∀ s',Inv X pins σ H s'→Q (.bool o.isSome) s') :
  wpAny (model X.prog X.w) A (compareOp .In u (.ref a)) Q E s:=by
 rcases g with⟨kvs,k,e,ey,l⟩ | ⟨kvs,k,b,e,ey,eb,l⟩
 ·subst ey
  obtain⟨z,hd,vs,rel,dd⟩:=w6 I.hok e
  refine wpAny_in_of (wX ry) hd dd.mapOf ?_
  rw[← (rel.val k).isSome_eq,← l]
  exact h _ (I.tok _)
 ·subst ey
  cases (show u=Value.ref b from ry)
  obtain⟨z,hd,xs,rel,dd⟩:=wu I.hok e
  refine wpAny_in_heap (tupleKind_room_in1 hu) (xp I.hok eb) hd dd ?_
  have q:=(rel.val k).isSome_eq
  rw[Option.isSome_map] at q
  rw[← q,← l]
  exact h _ (I.tok _)
theorem VN {Q:Value→Shared→Prop}(hu:A.units+1<cLine) (I:Inv X pins σ H s) (g:DGet H a y o) (ry:RelV y u) (h:∀ s',Inv X pins σ H s'→Q (.bool (!o.isSome)) s') :
  wpAny (model X.prog X.w) A (compareOp .NotIn u (.ref a)) Q E s:=by
 rcases g with⟨kvs,k,e,ey,l⟩ | ⟨kvs,k,b,e,ey,eb,l⟩
 ·subst ey
  obtain⟨z,hd,vs,rel,dd⟩:=w6 I.hok e
  refine wpAny_notIn_of (wX ry) hd dd.mapOf ?_
  rw[← (rel.val k).isSome_eq,← l]
  exact h _ (I.tok _)
 ·subst ey
  cases (show u=Value.ref b from ry)
  obtain⟨z,hd,xs,rel,dd⟩:=wu I.hok e
  refine wpAny_notIn_heap (tupleKind_room_in1 hu) (xp I.hok eb) hd dd ?_
  have q:=(rel.val k).isSome_eq
  rw[Option.isSome_map] at q
  rw[← q,← l]
  exact h _ (I.tok _)
theorem w8 {h':Heap}{t':Nat}{ob:HO}(I:Inv X pins σ H s) (mu:Mut (H a)) (hs:Heap.SameBut a s.heap h') (he:∃ q,h'.get? a=some q) (new:ObjOk X.prog X.w (upd H a ob) h' a ob) :
  Inv X pins σ (upd H a ob) { s with heap:=h',toks:=t' } :=
 I.write (x:=a) (e:=a) mu (.inl rfl) (fun b q hb z=>(hs.2 b hb).trans z) he new
theorem Yb {P:Program}{w:World}{H':Hp}{h':Heap}{kvs:List (Key×V)}{vs:List (Key×Value)}(z:kvs.length≤sizeLine) (hd:(a == sysModules)=false) (rel:KV kvs vs) (dd:h'.DictOf (zr P w) a vs) :
  ObjOk P w H' h' a (.dK kvs):=⟨z,hd,vs,rel,dd⟩
theorem Yf {H':Hp}{Q:Unit→Shared→Prop}(hu:A.units+1<cLine) (I:Inv X pins σ H s) (g:DPut H a y v H') (ry:RelV y u) (rv:RelV v r) (h:∀ s',Inv X pins σ H' s'→Q () s') :
  wpAny (model X.prog X.w) A (setItem (.ref a) u r) Q E s:=by
 rcases g with⟨kvs,k,e,ey,l,eH⟩ | ⟨kvs,k,b,e,ey,eb,l,eH⟩
 ·subst ey eH
  obtain⟨z,hd,vs,rel,dd⟩:=VM I.hok e
  have hz:vs.length≤sizeLine:=by rw[← rel.length];exact z
  have hl:(putK kvs k v).length≤sizeLine:=by have:=yE kvs k v;omega
  refine wpAny_setItem_pairs (hsz:=hz) (wX ry) dd fun h' dd' hs=>h _ ?_
  have he:∃ q,h'.get? a=some q:=let ⟨q,_,_,hq,_⟩:=dd';⟨q,hq⟩
  exact w8 I (by rw[e];exact True.intro) hs he (Yb hl hd (rel.put k rv) dd')
 ·subst ey eH
  cases (show u=Value.ref b from ry)
  obtain⟨z,hd,xs,rel,dd⟩:=uZ I.hok e
  have hz:xs.length≤sizeLine:=by rw[← Paired.length rel];exact z
  have hl:(putK kvs k v).length≤sizeLine:=by have:=yE kvs k v;omega
  refine wpAny_setItem_heap (hsz:=hz) (tupleKind_room_in1 hu) (xp I.hok eb) dd fun h' dd' hs=>h _ ?_
  obtain⟨q,es,ep,hq,h2,h3,h4,_,h5⟩:=dd'
  refine w8 I (by rw[e];exact True.intro) hs ⟨q,hq⟩ ⟨hl,hd,_,(rel.put k eb rv).keeps fun c ys ec=>?_,q,es,ep,hq,h2,h3,h4,h5⟩
  rw[upd_ne (VA ec e (fun z=>nomatch z))]
  exact ec
end
section
variable {X:Cx}{pins:List (Addr×Obj)}{σ:St}{H:Hp}{s:Shared}{a:Addr}{kvs:List (Key×V)}{k:Key}{u:Value}{A:Around}{E:Value→Shared→Prop}
theorem zf3 {Q:Value→Shared→Prop}(I:Inv X pins σ H s) (e:Rd H a (.dK kvs)) (h:∀ t s',Inv X pins σ H s'→Q (.int kvs.length t) s'):wpAny (model X.prog X.w) A (call (.builtin "len") [.ref a]) Q E s:=by
 obtain⟨z,hd,vs,rel,dd⟩:=w6 I.hok e
 refine call_len_dict hd dd (by rw[← rel.length];rw[sizeLine_eq] at z;omega) ?_
 rw[← rel.length]
 exact h _ _ (I.tok _)
end
def zf6 (i:Expr):Prop:=∀ ov iv,subscripted i false ov iv=operate [ov,iv] (getItem ov iv)
theorem subD_of {prog:Program}{w:World}{A:Around}{E:Value→Shared→Prop}{s:Shared}{env:Env}{value slice:Expr}{pos:Pos}{T id:String}{Q:Value→Shared→Prop}
  (hl:typeLookup (.type T) "__getitem__" = pure (some (.builtin id))) (hs:zf6 slice)
  (h:wpAny (model prog w) A (eval value env) (fun o s₁=>wpAny (model prog w) A (eval slice env) (fun i s₂=>s₂.TypeIs o T∧wpAny (model prog w) A (getItem o i) Q E s₂) E s₁) E s) :
  wpAny (model prog w) A (eval (.Subscript value slice pos) env) Q E s:=by
 refine Subscript_ (wpAny_mono h (fun o s₁ h₁=>wpAny_mono h₁ (fun i s₂ h₂=>?_) fun _ _ x=>x) fun _ _ x=>x)
 obtain⟨hT,h₂⟩:=h₂
 unfold subscriptTail
 refine wpAny_bind ?_
 rw[getitemInPython_of_ne hT.not_modules]
 refine wpAny_bind (wpAny_specialOf hT hl ?_)
 have fin:wpAny (model prog w) A (subscripted slice false o i) (fun r s₃=>wpAny (model prog w) A (letTemporaryGo value o r >>= fun _=>pure r) Q E s₃) E s₂:=by
  rw[hs o i]
  exact wpAny_operating (wpAny_mono h₂ (fun r s₃ h₃=>wpAny_bind (wpAny_letTemporaryGo (wpAny_pure h₃))) fun _ _ x=>x)
 first
  |exact wpAny_pure (wpAny_bind fin)
  |exact wpAny_bind (wpAny_pure (wpAny_bind fin))
  |exact wpAny_bind fin
theorem v8 {X:Cx}{pins:List (Addr×Obj)}{σ:St}{H:Hp}{s:Shared}{a:Addr}{y:V}{o:Option V}(I:Inv X pins σ H s) (g:DGet H a y o):s.TypeIs (.ref a) "dict" := by
 rcases g with⟨kvs,k,e,_,_⟩ | ⟨kvs,k,b,e,_,_,_⟩
 ·obtain⟨_,_,vs,_,dd⟩:=w6 I.hok e
  exact dd.typeIs
 ·obtain⟨_,_,xs,_,dd⟩:=wu I.hok e
  exact dd.typeIs
def Uo (td ty:TE):TE:=fun σ H Q=>td σ H fun x H1=>ty σ H1 fun y H2=>∃ a v,x=.ref a∧DGet H2 a y (some v)∧Q v H2
def zgn (ty td:TE):TE:=fun σ H Q=>ty σ H fun y H1=>td σ H1 fun x H2=>∃ a o,x=.ref a∧DGet H2 a y o∧Q (.bl o.isSome) H2
def Zj (ty td:TE):TE:=fun σ H Q=>ty σ H fun y H1=>td σ H1 fun x H2=>∃ a o,x=.ref a∧DGet H2 a y o∧Q (.bl (!o.isSome)) H2
def Ut (td ty tv:TE):TS:=fun D σ H=>tv σ H fun v H1=>td σ H1 fun x H2=>ty σ H2 fun y H3=>∃ a H4,x=.ref a∧DPut H3 a y v H4∧D.nx σ H4
section
variable {X:Cx}{o i e value:Expr}{pos pos' tpos:Pos}{td ty tv:TE}
theorem vY (hu:X.A.units+1<cLine) (ho:PE X o td) (hi:PE X i ty) (hs:zf6 i):PE X (.Subscript o i pos) (Uo td ty):=by
 intro pins s σ H Q I h
 refine subD_of PySem.F.slot_dict_getitem.lookup hs (thn (ho pins s σ H _ I h) fun u s1 ⟨x,H1,I1,rx,q1⟩=>thn (hi pins s1 σ H1 _ I1 q1) fun iv s2 hq0=>?_)
 obtain⟨y,H2,I2,ry,a,v,ex,g,q2⟩:=hq0
 subst ex
 obtain rfl:u=Value.ref a:=rx
 exact⟨v8 I2 g,Yg hu I2 g ry fun w' s3 I3 rw'=>⟨v,H2,I3,rw',q2⟩⟩
theorem XQ (hu:X.A.units+1<cLine) (hi:PE X i ty) (ho:PE X o td):PC X .In i o (zgn ty td):=by
 intro pins s σ H Q I h
 refine thn (hi pins s σ H _ I h) fun iv s1 ⟨y,H1,I1,ry,q1⟩=>thn (ho pins s1 σ H1 _ I1 q1) fun u s2 hq0=>?_
 obtain⟨x,H2,I2,rx,a,ov,ex,g,q2⟩:=hq0
 subst ex
 obtain rfl:u=Value.ref a:=rx
 exact zlU hu I2 g ry fun s3 I3=>⟨.bl ov.isSome,H2,I3,rfl,q2⟩
theorem ZG (hu:X.A.units+1<cLine) (hi:PE X i ty) (ho:PE X o td):PC X .NotIn i o (Zj ty td):=by
 intro pins s σ H Q I h
 refine thn (hi pins s σ H _ I h) fun iv s1 ⟨y,H1,I1,ry,q1⟩=>thn (ho pins s1 σ H1 _ I1 q1) fun u s2 hq0=>?_
 obtain⟨x,H2,I2,rx,a,ov,ex,g,q2⟩:=hq0
 subst ex
 obtain rfl:u=Value.ref a:=rx
 exact VN hu I2 g ry fun s3 I3=>⟨.bl (!ov.isSome),H2,I3,rfl,q2⟩
theorem vV (hu:X.A.units+1<cLine) (ho:PE X o td) (hi:PE X i ty) (hv:PE X value tv) (hs:swapsWith value (some (.Subscript o i pos')) pos.line X.env=pure false) :
  PS X (.Assign [.Subscript o i pos'] value pos) (Ut td ty tv):=by
 intro pins s σ H D I h
 refine wpAny_Assign_Subscript (thn (hv pins s σ H _ I h) fun r s1 ⟨v,H1,I1,rv,q1⟩=>thn (ho pins s1 σ H1 _ I1 q1) fun u s2 ⟨x,H2,I2,rx,q2⟩=>thn (hi pins s2 σ H2 _ I2 q2) fun iv s3 hq0=>?_) hs
 obtain⟨y,H3,I3,ry,a,H4,ex,g,q3⟩:=hq0
 subst ex
 obtain rfl:u=Value.ref a:=rx
 exact Yf hu I3 g ry rv fun s4 I4=>⟨σ,H4,I4,q3⟩
end
theorem Xk {P:Program}{w:World}{H:Hp}(h:Heap) (hb:sysModules<h.objs.size):ObjOk P w H (h.push { cls:=.type "dict",data:=.dict #[] }) h.objs.size (.dK []) :=
 ⟨Nat.zero_le _,beq_eq_false_iff_ne.mpr (Ne.symm (Nat.ne_of_lt hb)),[],.nil,Heap.DictOf.new h⟩
theorem Xi {P:Program}{w:World}{H:Hp}(h:Heap) (hb:sysModules<h.objs.size):ObjOk P w H (h.push { cls:=.type "dict",data:=.dict #[] }) h.objs.size (.dT []) :=
 ⟨Nat.zero_le _,beq_eq_false_iff_ne.mpr (Ne.symm (Nat.ne_of_lt hb)),[],.nil,_,#[],0,Heap.get?_push_size _ rfl,⟨rfl,rfl,rfl⟩,rfl,rfl,List.nodup_nil⟩
def XA:TE:=fun _ H Q=>∀ p,H p=none→Q (.ref p) (upd H p (.dK []))
def Xz:TE:=fun _ H Q=>∀ p,H p=none→Q (.ref p) (upd H p (.dT []))
section
variable {X:Cx}{pos:Pos}
theorem ut:PE X (.Dict [] [] pos) XA:=fun pins s σ H Q I h =>
 wpAny_Dict_empty ⟨.ref s.heap.objs.size,_,I.laid (a:=s.heap.objs.size) (o:=.dK []) (t':=s.toks) (fun _ _ q=>Heap.get?_push_of_some _ q) (Nat.le_refl _) (Xk s.heap I.big),rfl,h _ (I.hok.fresh (Nat.le_refl _))⟩
theorem ur:PE X (.Dict [] [] pos) Xz:=fun pins s σ H Q I h =>
 wpAny_Dict_empty ⟨.ref s.heap.objs.size,_,I.laid (a:=s.heap.objs.size) (o:=.dT []) (t':=s.toks) (fun _ _ q=>Heap.get?_push_of_some _ q) (Nat.le_refl _) (Xi s.heap I.big),rfl,h _ (I.hok.fresh (Nat.le_refl _))⟩
end
def mergeK (kvs more:List (Key×V)):List (Key×V):=more.foldl (fun acc kv=>putK acc kv.1 kv.2) kvs
theorem KV.merge:∀ {more:List (Key×V)}{rs:List (Key×Value)}{kvs:List (Key×V)}{vs:List (Key×Value)},KV more rs→KV kvs vs→KV (mergeK kvs more) (merged vs rs):=by
 intro more rs kvs vs r
 unfold KV at r
 induction r generalizing kvs vs with
 |nil=>intro q;exact q
 | @cons p q ps qs h t ih =>
  intro r0
  have e:KV (putK kvs p.1 p.2) (stored vs q.1 q.2):=by
   have:=r0.put p.1 h.2
   rw[← h.1];exact this
  exact ih e
structure M1 (X:Cx) (o:Expr) (m:Str) (apos:Pos) (e:Expr) (cpos:Pos):Prop where
 base:attributeBase o m X.env (eval o X.env)=eval o X.env
 few:((backTo cpos (starEach [e] X.env)).all (fun x=>!x.1)&&(backToKw cpos (keywordEach [] X.env)).all (fun x=>x.1.isSome)
  && decide (([e]:List Expr).length+([]:List Keyword).length+(if ([]:List Keyword).isEmpty then 0 else 1)<30))=true
 line:(apos.endLine == cpos.line)=true
 trees:backTo cpos (starEach [e] X.env)=[(false,eval e X.env)]
structure M2 (X:Cx) (o:Expr) (m:Str) (apos:Pos) (e f:Expr) (cpos:Pos):Prop where
 base:attributeBase o m X.env (eval o X.env)=eval o X.env
 few:((backTo cpos (starEach [e,f] X.env)).all (fun x=>!x.1)&&(backToKw cpos (keywordEach [] X.env)).all (fun x=>x.1.isSome)
  && decide (([e,f]:List Expr).length+([]:List Keyword).length+(if ([]:List Keyword).isEmpty then 0 else 1)<30))=true
 line:(apos.endLine == cpos.line)=true
 trees:backTo cpos (starEach [e,f] X.env)=[(false,eval e X.env),(false,eval f X.env)]
def IsD (H:Hp) (a:Addr):Prop:=(∃ kvs,Rd H a (.dK kvs))∨∃ kvs,Rd H a (.dT kvs)
theorem vF {X:Cx}{pins:List (Addr×Obj)}{σ:St}{H:Hp}{s:Shared}{a:Addr}(I:Inv X pins σ H s) (d:IsD H a) :
  s.TypeIs (.ref a) "dict" ∧ (∀ b,Value.ref a=.ref b→∃ ob,s.heap.get? b=some ob∧ob.dict=none)∧(a == sysModules)=false:=by
 rcases d with⟨kvs,e⟩ | ⟨kvs,e⟩
 ·obtain⟨_,hd,vs,_,dd⟩:=w6 I.hok e
  refine⟨dd.typeIs,fun b q=>?_,hd⟩
  cases q
  obtain⟨ob,_,_,h1,h2,_⟩:=dd
  exact⟨ob,h1,h2.2.1⟩
 ·obtain⟨_,hd,xs,_,dd⟩:=wu I.hok e
  refine⟨dd.typeIs,fun b q=>?_,hd⟩
  cases q
  obtain⟨ob,_,_,h1,h2,_⟩:=dd
  exact⟨ob,h1,h2.2.1⟩
section
variable {X:Cx}{pins:List (Addr×Obj)}{σ:St}{H:Hp}{s:Shared}{a:Addr}{y d:V}{u r:Value}{o:Option V}{A:Around}{E:Value→Shared→Prop}
theorem zbf {Q:Value→Shared→Prop}(hu:A.units+1<cLine) (I:Inv X pins σ H s) (g:DGet H a y o) (ry:RelV y u) (h:∀ w' s',Inv X pins σ H s'→RelV (o.getD .non) w'→Q w' s') :
  wpAny (model X.prog X.w) A (call (.builtin "dict.get") [.ref a,u]) Q E s:=by
 rcases g with⟨kvs,k,e,ey,l⟩ | ⟨kvs,k,b,e,ey,eb,l⟩
 ·subst ey
  obtain⟨z,hd,vs,rel,dd⟩:=w6 I.hok e
  refine call_meetsIn PySem.F.slot_dict_get dd.typeIs PySem.F.entry_dict_get (PySem.F.args_dict_get_2 _ _) (meets_dict_get (zr X.prog X.w) a (wX ry) hd) ⟨_,dd.mapOf,h _ _ (I.tok _) ?_⟩
  rw[l]
  exact(rel.val k).getD rfl
 ·subst ey
  cases (show u=Value.ref b from ry)
  obtain⟨z,hd,xs,rel,dd⟩:=wu I.hok e
  refine call_meetsIn PySem.F.slot_dict_get dd.typeIs PySem.F.entry_dict_get (PySem.F.args_dict_get_2 _ _) (meetsH_dict_get (tupleKind (zr X.prog X.w)) a b hd) ⟨tupleKind_room_in1 hu,k,xs,xp I.hok eb,dd,h _ _ (I.tok _) ?_⟩
  rw[l]
  exact(rel.val k).getD rfl
theorem zbe {Q:Value→Shared→Prop}(hu:A.units+1<cLine) (I:Inv X pins σ H s) (g:DGet H a y o) (ry:RelV y u) (rd:RelV d r) (h:∀ w' s',Inv X pins σ H s'→RelV (o.getD d) w'→Q w' s') :
  wpAny (model X.prog X.w) A (call (.builtin "dict.get") [.ref a,u,r]) Q E s:=by
 rcases g with⟨kvs,k,e,ey,l⟩ | ⟨kvs,k,b,e,ey,eb,l⟩
 ·subst ey
  obtain⟨z,hd,vs,rel,dd⟩:=w6 I.hok e
  refine call_meetsIn PySem.F.slot_dict_get dd.typeIs PySem.F.entry_dict_get (PySem.F.args_dict_get_3 _ _ _) (meets_dict_get_default (zr X.prog X.w) a (wX ry) hd r) ⟨_,dd.mapOf,h _ _ (I.tok _) ?_⟩
  rw[l]
  exact(rel.val k).getD rd
 ·subst ey
  cases (show u=Value.ref b from ry)
  obtain⟨z,hd,xs,rel,dd⟩:=wu I.hok e
  refine call_meetsIn PySem.F.slot_dict_get dd.typeIs PySem.F.entry_dict_get (PySem.F.args_dict_get_3 _ _ _) (meetsH_dict_get_default (tupleKind (zr X.prog X.w)) a b hd r) ⟨tupleKind_room_in1 hu,k,xs,xp I.hok eb,dd,h _ _ (I.tok _) ?_⟩
  rw[l]
  exact(rel.val k).getD rd
end
def XC (td ty:TE):TE:=fun σ H Q=>td σ H fun x H1=>∃ a,x=.ref a∧IsD H1 a∧ty σ H1 fun y H2=>∃ o,DGet H2 a y o∧Q (o.getD .non) H2
def XB (td ty tx:TE):TE:=fun σ H Q=>td σ H fun x H1=>∃ a,x=.ref a∧IsD H1 a∧ty σ H1 fun y H2=>tx σ H2 fun z H3=>∃ o,DGet H3 a y o∧Q (o.getD z) H3
section
variable {X:Cx}{o e f:Expr}{apos cpos:Pos}{td ty tx:TE}
theorem YS (hu:X.A.units+1<cLine) (ho:PE X o td) (he:PE X e ty) (m:M1 X o "get" apos e cpos):PE X (.Call (.Attribute o "get" apos) [e] [] cpos) (XC td ty):=by
 intro pins s σ H Q I h
 refine wpAny_Call_method m.base m.few m.line PySem.F.plainAttrs_dict PySem.F.slot_dict_get PySem.F.type_dict_get (thn (ho pins s σ H _ I h) fun u s1 hq0=>?_)
 obtain⟨x,H1,I1,rx,a,ex,d,q1⟩:=hq0
 subst ex
 obtain rfl:u=Value.ref a:=rx
 obtain⟨t1,t2,_⟩:=vF I1 d
 refine⟨t1,t2,?_⟩
 rw[m.trees]
 refine Calls.callWith_builtin rfl (Calls.evalArgs_plain (Calls.spliced_cons (thn (he pins s1 σ H1 _ I1 q1) fun iv s2 ⟨y,H2,I2,ry,ov,g,q2⟩=>Calls.spliced_nil ?_)))
 exact zbf hu I2 g ry fun w' s3 I3 rw'=>⟨_,H2,I3,rw',q2⟩
theorem YR (hu:X.A.units+1<cLine) (ho:PE X o td) (he:PE X e ty) (hf:PE X f tx) (m:M2 X o "get" apos e f cpos):PE X (.Call (.Attribute o "get" apos) [e,f] [] cpos) (XB td ty tx):=by
 intro pins s σ H Q I h
 refine wpAny_Call_method m.base m.few m.line PySem.F.plainAttrs_dict PySem.F.slot_dict_get PySem.F.type_dict_get (thn (ho pins s σ H _ I h) fun u s1 hq0=>?_)
 obtain⟨x,H1,I1,rx,a,ex,d,q1⟩:=hq0
 subst ex
 obtain rfl:u=Value.ref a:=rx
 obtain⟨t1,t2,_⟩:=vF I1 d
 refine⟨t1,t2,?_⟩
 rw[m.trees]
 refine Calls.callWith_builtin rfl (Calls.evalArgs_plain (Calls.spliced_cons (thn (he pins s1 σ H1 _ I1 q1) fun iv s2 ⟨y,H2,I2,ry,q2⟩ =>
  Calls.spliced_cons (thn (hf pins s2 σ H2 _ I2 q2) fun fv s3 ⟨z,H3,I3,rz,ov,g,q3⟩=>Calls.spliced_nil ?_))))
 exact zbe hu I3 g ry rz fun w' s4 I4 rw'=>⟨_,H3,I4,rw',q3⟩
end
end L2
namespace Att
open PySem PySem.W PySem.Calls PyProof.Rows
theorem wk {P:Params}{h:Heap}:∀ (ns:LI) (vs:List Value),WellAll P h vs (ns.map WData.int)→IntsAre vs ns:=by
 intro ns
 induction ns with
 |nil =>
  intro vs w
  rw[List.map_nil] at w
  cases w
  exact .nil
 |cons n ns ih =>
  intro vs w
  rw[List.map_cons] at w
  cases w with
  |cons a b =>
   cases a
   exact .cons _ _ (ih _ b)
theorem Zp {l:OpenLaw}{n:Nat}(hn:l.most=some n){P:Params}{h:Heap}{args:List WData}{vals:List Value}
  (hpre:l.row.toRowW.claim.pre args=true) (hwl:WellAll P h vals args) :
  ∃ a vs ns,vals=[Value.ref a]∧args=[WData.list (ns.map WData.int)]∧h.get? a=some { cls:=.type "list",data:=.seq vs.toArray }∧IntsAre vs ns∧ns.length≤n:=by
 have hsh:WShape.hasAll [] args [.list .int]=true:=(pre_splitW hpre).1
 have hc:l.pre.holds [] { args:=args }=true:=(pre_splitW hpre).2
 obtain⟨d,r,rfl,h1,h2⟩:=hasAllW_cons hsh
 obtain rfl:=hasAllW_nil h2
 obtain⟨xs,rfl,h3⟩:=hasW_list h1
 obtain⟨ns,rfl⟩:=items_int h3
 have hlen:ns.length≤n:=by
  unfold OpenLaw.pre at hc
  have h4:(WTm.not (.lt (.lit (.int (n:Int))) (.len (.arg 0)))).holds [] { args:=[.list (ns.map .int)] }=true:=by
   have h4:=(holds_andW hc).1
   rw[hn] at h4
   exact h4
  have h5:=condW_of h4 (w_not (w_lt w_lit (w_len_list (w_arg rfl))))
  rw[List.length_map] at h5
  refine Nat.le_of_not_lt fun q=>?_
  have q':(n:Int)<((ns.length:Nat):Int):=by omega
  first
   |(rw[decide_eq_true q'] at h5;exact absurd h5 (by decide))
   |(simp at h5;omega)
 cases hwl with
 |cons w1 w2 =>
  cases w2
  cases w1 with
  |list ho hall=>exact⟨_,_,ns,rfl,rfl,ho,wk ns _ hall,hlen⟩
theorem Zw (l:OpenLaw) (args:List WData):l.row.toRowW.claim.post args (.bool true) args=true :=
 postW_of (r:=l.row.toRowW) (X:=(true == true))
  (show WShape.has [] (.bool true) .bool=true by first | rfl | decide | simp[WShape.has,WShape.arms,WShape.armsAll])
  (show(WTm.eq .res (.lit (.bool true))).value [] { args:=args,res:=some (.bool true),after:=args }=some (.bool (true == true)) from w_eq_bool (w_res rfl) w_lit) rfl
theorem attach_call {l:OpenLaw}{n:Nat}{q:Program}{loose:List Str}{XP:(Str→Option Value)→Heap→Prop}{YP:World→Heap→Prop}{d:DefRec}
  (hn:l.most=some n) (hdf:d.params.defaults=[])
  (call:∀ (w:World) (s₀ s₁:Shared) (mg mb:Str→Option Value) (fa:Addr) (o:Obj) (pm cd doc:Value) (a:Addr) (vs:List Value) (ns:LI),
   Ground q loose [] XP w s₀ mg mb s₁.heap→YP w s₁.heap →
   s₁.heap.get? fa=some o→o.data=.func (docDef d.name d.params d.body d.scope pm cd doc)→s₁.heap.CodeRec cd d.name→mg d.name=some (.ref fa) →
   s₁.heap.get? a=some { cls:=.type "list",data:=.seq vs.toArray }→IntsAre vs ns→ns.length≤n→s₁.gens = #[] →
   codeAny (model l.prog w) callerA (.call (.ref fa) ⟨[.ref a],[]⟩) (fun r s'=>r=.ok (.ret (.bool true))∧OldK s₁.heap s'.heap∧s'.os=s₁.os∧AllBare s'.gens) s₁) :
  WalkO q loose XP YP l.row.toRowW d [] (fun f vs=>PySem.call f vs):=by
 intro w s₀ s₁ mg mb G Y fa o pm cd doc dV kV ho hd hcd hD hmg hg args vals as hpre hlay hrd hwl hlo
 obtain rfl:dV=.none:=Dflts.none hD hdf
 obtain rfl:kV=.none:=Dflts.noKw hD
 obtain⟨a,vs,ns,rfl,rfl,hobj,hints,hlen⟩:=Zp hn hpre hwl
 refine enter_call (codeAny_mono (call w s₀ s₁ mg mb fa o pm cd doc a vs ns G Y ho (fd_plain hd) hcd hmg hobj hints hlen hg) fun r s' hq=>?_)
 obtain⟨rfl,h2,h3,h4⟩:=hq
 exact⟨.inl ⟨.bool true,.bool true,[],rfl,fun _=>rfl,.bool true,Zw l _,fun _=>⟨List.Pairwise.nil,fun _ hm=>(nomatch hm)⟩⟩,h2,h3,h4⟩
end Att
namespace L2
open PySem PySem.Spec PyProof.Rows
theorem vh:∀ {vs:List Value}{ns:LI},IntsAre vs ns→Vals (ns.map V.int) vs
 |_,_,.nil=>.nil
 |_,_,.cons n t h=>.cons ⟨t,rfl⟩ (vh h)
def zbh (H:Hp):Prop:=∀ b,H b=none∨∃ o xs,H b=some (.frz o (.lst xs))
theorem Xd {P:Program}{w:World}{K:PySem.W.Frag}{mg mb:Str→Option Value}{CX:CXT}{k:Nat}{fa a:Addr}{fd:FuncData}{x:Str}{sp:Sp}{s₁:Shared}{vs:List Value}{ns:LI}
  (KX:K.In s₁.heap) (hns:s₁.heap.Ns mainGlobals mg) (hb:s₁.heap.Ns builtinsNs mb) (hbb:∀ x:Str,x ≠ "__name__" → mb x=bootBuiltins x) (hlim:s₁.heap.NoLimit) (hg:s₁.gens = #[])
  (ha:s₁.heap.get? a=some { cls:=.type "list",data:=.seq vs.toArray }) (hi:IntsAre vs ns) (hl:ns.length≤sizeLine) (hr:Room k callerA)
  (F:∀ base:Heap,K.In base→base.Ns mainGlobals mg→FnOk P w K mg base CX k fa fd [x] sp) (hbind:∀ (s:Shared) (u:Value),BindsTo s fd ⟨[u],[]⟩ [(x,u)])
  (hsp:∀ H:Hp,zbh H→SqL K H a (ns.map V.int)→sp [.ref a] H (fun v _=>v=.bl true) fun _ _ _=>False)
  (hCX:∀ H e s',CX [] H s₁ (fun _ _ _=>False) e s'→False) :
  codeAny (model P w) callerA (.call (.ref fa) ⟨[.ref a],[]⟩) (fun r s'=>r=.ok (.ret (.bool true))∧OldK s₁.heap s'.heap∧s'.os=s₁.os∧AllBare s'.gens) s₁:=by
 have rv:=vh hi
 have lenV:=hi.length
 -- from an abstract heap in which nothing but the script may be tracked
 have core:∀ H:Hp,zbh H→SqL K H a (ns.map V.int)→HOk P w H s₁.heap→(∀ b,H b≠none→b=a)→(H a≠none→K.lookup a=none) →
   codeAny (model P w) callerA (.call (.ref fa) ⟨[.ref a],[]⟩) (fun r s'=>r=.ok (.ret (.bool true))∧OldK s₁.heap s'.heap∧s'.os=s₁.os∧AllBare s'.gens) s₁:=by
  intro H hO hS hok hA hK
  have base_of:∀ {b:Addr}{o:Obj},s₁.heap.get? b=some o→H b=none→(Xf s₁.heap H).get? b=some o:=fun e n=>Xe e n
  have noA:∀ {b:Addr}{o:Obj}{es:Array DictEntry}{ep:Nat},s₁.heap.get? b=some o→o.data=.dict es ep→H b=none:=fun {b o es ep} e d=>by
   cases q:H b with
   |none=>rfl
   |some u =>
    have e':b=a:=hA b (by rw[q];simp)
    subst e'
    rw[ha] at e;cases e
    have d':Data.seq vs.toArray _=Data.dict es ep:=d
    cases d'
  have nsK:∀ {b:Addr}{m:Str→Option Value},s₁.heap.Ns b m→(Xf s₁.heap H).Ns b m:=fun {b m} ⟨o,es,ep,e,d,r⟩=>⟨o,es,ep,base_of e (noA e d),d,r⟩
  have hKb:K.In (Xf s₁.heap H):=fun b o e=>base_of (KX b o e) (by
   cases q:H b with
   |none=>rfl
   |some u =>
    have e':b=a:=hA b (by rw[q];simp)
    subst e'
    rw[hK (by rw[q];simp)] at e;cases e)
  have hM:Mod K mg (Xf s₁.heap H):=⟨hKb,nsK hns,⟨mb,nsK hb,hbb⟩,let ⟨mc,h1,h2⟩:=hlim;⟨mc,nsK h1,h2⟩⟩
  have e0:Env0 P w K mg (Xf s₁.heap H) callerA [] s₁ H:=⟨rfl,hM,fun b o e=>Vz e,Nat.le_of_eq (Z7 _ _),trivial,fun b hb=>absurd (show b∈([]:List Addr) from hb) (by simp),hok,.of_eq hg⟩
  refine codeAny_mono ((F _ hKb (nsK hns)).run callerA [] s₁ H ⟨[.ref a],[]⟩ [.ref a] [.ref a] _ _ hr e0 (hbind s₁ (.ref a)) (.cons rfl .nil) (hsp H hO hS)) fun r s' h=>?_
  cases r with
  |error e=>exact(hCX H e s' h).elim
  |ok fl =>
   cases fl with
   |next=>exact False.elim h
   |brk=>exact False.elim h
   |cont=>exact False.elim h
   |ret u =>
    obtain⟨v,H',os,bare,un,hok',r',q⟩:=h
    have q':v=.bl true:=q
    subst q'
    obtain rfl:u=Value.bool true:=r'
    refine⟨rfl,OldK.of_keep fun b o e=>?_,os,bare⟩
    cases q:H b with
    |none=>exact un.keep b o e q (by intro z;exact absurd (show b∈([]:List Addr) from z) (by simp)) (by simp)
    |some u =>
     rcases hO b with z | ⟨ob,xs,z⟩
     ·rw[q] at z;cases z
     ·have z2:=un.frzs b ob _ z
      obtain⟨e1,_⟩:=hok b _ z
      obtain⟨e2,_⟩:=hok' b _ z2
      rw[e] at e1;cases e1
      exact e2
 cases hk:K.lookup a with
 |some o =>
  -- the script is one of the module's own objects
  have e:=KX a o hk
  rw[ha] at e
  cases e
  refine core (fun _=>none) (fun _=>.inl rfl) (.inr ⟨_,vs.toArray,_,hk,rfl,rfl,rfl,by rw[List.size_toArray,lenV];exact hl,by simpa using rv⟩) (fun b u z=>by have z':(none:Option HO)=some u:=z;cases z') (fun b z=>absurd rfl z) fun z=>absurd rfl z
 |none =>
  refine core (fun b=>if b=a then some (.frz { cls:=.type "list",data:=.seq vs.toArray } (.lst (ns.map V.int))) else none) (fun b=>?_) (.inl (.inr ⟨{ cls:=.type "list",data:=.seq vs.toArray },if_pos rfl⟩)) (fun b u z=>?_) (fun b z=>?_) fun _=>hk
  ·by_cases hb:b=a
   ·exact .inr ⟨_,_,if_pos hb⟩
   ·exact .inl (if_neg hb)
  ·by_cases hb:b=a
   ·have z':=(if_pos hb).symm.trans z
    cases z'
    subst hb
    exact⟨ha,by rw[List.length_map];exact hl,vs,_,rv,ha⟩
   ·have z':=(if_neg hb).symm.trans z
    cases z'
  ·by_cases hb:b=a
   ·exact hb
   ·exact absurd (if_neg hb) z
noncomputable abbrev KOf {K:PySem.W.Frag}{h:Heap}(_:K.In h):PySem.W.Frag:=K
theorem X8 {l:PySem.W.OpenLaw}{n k:Nat}{q:Program}{loose:List Str}{XP:(Str→Option Value)→Heap→Prop}{YP:World→Heap→Prop}{d:DefRec}{K:Params→PySem.W.Frag}{CX:World→CXT}{sp:World→Sp}{x:Str}
  (hn:l.most=some n) (hn2:n≤sizeLine) (hdf:d.params.defaults=[]) (hr:Room k callerA)
  (hY:∀ (w:World) (h:Heap),YP w h→(K w.params).In h)
  (F:∀ (w:World) (mg:Str→Option Value) (fa:Addr) (h:Heap),(K w.params).In h→h.Ns mainGlobals mg→mg d.name=some (.ref fa) →
   ∃ fd:FuncData,(∀ (s:Shared) (u:Value),BindsTo s fd ⟨[u],[]⟩ [(x,u)]) ∧
    ∀ base:Heap,(K w.params).In base→base.Ns mainGlobals mg→FnOk l.prog w (K w.params) mg base (CX w) k fa fd [x] (sp w))
  (hsp:∀ (w:World) (H:Hp) (a:Addr) (ns:LI),ns.length≤n→zbh H→SqL (K w.params) H a (ns.map V.int)→sp w [.ref a] H (fun v _=>v=.bl true) fun _ _ _=>False)
  (hCX:∀ (w:World) (H:Hp) (s:Shared) (e:Value) (s':Shared),CX w [] H s (fun _ _ _=>False) e s'→False) :
  PySem.W.WalkO q loose XP YP l.row.toRowW d [] (fun f vs=>PySem.call f vs):=by
 refine Att.attach_call hn hdf fun w s₀ s₁ mg mb fa o pm cd doc a vs ns G Y ho hd hcd hmg hobj hints hlen hg=>?_
 have KX:=hY w _ Y
 obtain⟨fd,hb,hF⟩:=F w mg fa _ KX G.T.g hmg
 exact Xd KX G.T.g G.T.b G.T.builtins G.T.nolimit hg hobj hints (Nat.le_trans hlen hn2) hr hF hb (fun H hO hS=>hsp w H a ns hlen hO hS) fun H e s'=>hCX w H s₁ e s'
theorem walk_ofK {l:PySem.W.OpenLaw}{n k:Nat}{q:Program}{loose:List Str}{XP:(Str→Option Value)→Heap→Prop}{YP:World→Heap→Prop}{d:DefRec}{K:Params→PySem.W.Frag}{CX:CXT}{sp:PySem.W.Frag→Sp}{x:Str}
  (hn:l.most=some n) (hn2:n≤sizeLine) (hdf:d.params.defaults=[]) (hr:Room k callerA)
  (hY:∀ (w:World) (h:Heap),YP w h→(K w.params).In h)
  (F:∀ (w:World) (mg:Str→Option Value) (fa:Addr) (h:Heap),(K w.params).In h→h.Ns mainGlobals mg→mg d.name=some (.ref fa) →
   ∃ fd:FuncData,(∀ (s:Shared) (u:Value),BindsTo s fd ⟨[u],[]⟩ [(x,u)]) ∧
    ∀ base:Heap,(K w.params).In base→base.Ns mainGlobals mg→FnOk l.prog w (K w.params) mg base CX k fa fd [x] (sp (K w.params)))
  (hsp:∀ (K:PySem.W.Frag) (H:Hp) (a:Addr) (ns:LI),ns.length≤n→zbh H→SqL K H a (ns.map V.int)→sp K [.ref a] H (fun v _=>v=.bl true) fun _ _ _=>False)
  (hCX:∀ (H:Hp) (s:Shared) (e:Value) (s':Shared),CX [] H s (fun _ _ _=>False) e s'→False) :
  PySem.W.WalkO q loose XP YP l.row.toRowW d [] (fun f vs=>PySem.call f vs) :=
 X8 (K:=K) (CX:=fun _=>CX) (sp:=fun w=>sp (K w.params)) hn hn2 hdf hr hY F (fun w H a ns h1 h2 h3=>hsp (K w.params) H a ns h1 h2 h3) fun _ H s e s'=>hCX H s e s'
noncomputable def inClass (s:Stmt) (j:Nat):Stmt:=match s with
 |.ClassDef _ _ _ body _ _ _ _ _ _ _=>body.getD j (.Pass ⟨0,0,0,0⟩)
 |_=>.Pass ⟨0,0,0,0⟩
noncomputable def defArgs (s:Stmt):Arguments:=match s with
 |.FunctionDef _ a _ _ _ _ _ _ _ _=>a
 |_=>{ posonlyargs:=[],args:=[],vararg:=none,kwonlyargs:=[],kw_defaults:=[],kwarg:=none,defaults:=[] }
noncomputable def defBody (s:Stmt):List Stmt:=match s with
 |.FunctionDef _ _ b _ _ _ _ _ _ _=>b
 |_=>[]
noncomputable def defScope (s:Stmt):Scope:=match s with
 |.FunctionDef _ _ _ _ _ _ sc _ _ _=>sc
 |_=>{ kind:=.function,names:=[],isGenerator:=false,isCoroutine:=false }
abbrev CX0:CXT:=fun _ _ _ _ _ _=>False
abbrev E0:XK:=fun _ _ _=>False
theorem YT {X:Cx}:wp CX0 X E0:=fun _ _ _ _ _ _ _ h=>h.elim
structure Fun (K:PySem.W.Frag) (x qual:Str) (st:Stmt) (f:Addr) (fd:FuncData):Prop where
 ex:∃ (oc:Value) (od:Option Addr) (kV doc pm:Value) (an:Option Addr) (cdv ct:Value) (osl:Array (Option Value)),
  fd=PySem.W.fnOf x qual (defArgs st) (defBody st) (defScope st) .none kV doc pm an cdv ct∧K.lookup f=some ⟨oc,od,.func fd,osl⟩∧PySem.W.codeIn K cdv qual=true
 kp:PySem.W.keepIn K (.ref f)=true
section
variable {P:Program}{w:World}{K:PySem.W.Frag}{mg:Str→Option Value}{base:Heap}
theorem Fun.ok {x qual:Str}{st:Stmt}{f:Addr}{fd:FuncData}{N ps:List Str}{k:Nat}{sp:Sp}(F:Fun K x qual st f fd) (S:FnScope N ps (defScope st)) (len:∀ vs H Q E,sp vs H Q E→vs.length=ps.length)
  (hbody:∀ (cdv:Value) (A:Around) (outer:List Env) (s:Shared) (H:Hp) (vs:List V) (Q:VK) (E:XK),Room k (A.deeper (envOfC qual (defScope st) s.heap.objs.size f cdv))→sp vs H Q E →
   ∃ t,PSs (V7 CX0 P w K mg base N qual (defScope st) f cdv A outer s H E).nox (defBody st) t∧t { nx:=fun _ H'=>Q .non H',rt:=Q } (start N vs) H):FnOk P w K mg base CX0 (k+1) f fd ps sp:=by
 obtain⟨oc,od,kV,doc,pm,an,cdv,ct,osl,rfl,lk,hcd⟩:=F.ex
 refine zf1 lk hcd S len fun A outer s H vs Q E hr hsp=>?_
 obtain⟨t,h,q⟩:=hbody cdv A outer s H vs Q E hr hsp
 exact⟨t,h.nox,q⟩
theorem Fun.binds {x qual:Str}{st:Stmt}{f:Addr}{fd:FuncData}{ps:List Str}(F:Fun K x qual st f fd)
  (h:∀ (kV doc pm:Value) (an:Option Addr) (cdv ct:Value) (us:List Value),us.length=ps.length→bindArgs (PySem.W.fnOf x qual (defArgs st) (defBody st) (defScope st) .none kV doc pm an cdv ct) ⟨us,[]⟩=pure (ps.zip us)):Binds K fd ps []:=by
 obtain⟨oc,od,kV,doc,pm,an,cdv,ct,osl,rfl,lk,hcd⟩:=F.ex
 exact .all (h kV doc pm an cdv ct)
theorem fun_mk {x qual:Str}{st:Stmt}{f:Addr}{oc:Value}{od an:Option Addr}{osl:Array (Option Value)}{kV doc pm cdv ct:Value}(l:K.lookup f=some ⟨oc,od,.func (PySem.W.fnOf x qual (defArgs st) (defBody st) (defScope st) .none kV doc pm an cdv ct),osl⟩)
  (c:PySem.W.codeIn K cdv qual=true) (k:PySem.W.keepIn K (.ref f)=true):Fun K x qual st f (PySem.W.fnOf x qual (defArgs st) (defBody st) (defScope st) .none kV doc pm an cdv ct):=⟨⟨oc,od,kV,doc,pm,an,cdv,ct,osl,rfl,l,c⟩,k⟩
end
theorem xb {A:Around}{k:Nat}(hr:Room k A):A.units+1<cLine:=Nat.lt_of_le_of_lt (Nat.add_le_add_left (by decide:1≤64) _) hr.units
theorem zk {n:Nat}(h:n≤1000):n<sizeLine:=Nat.lt_of_le_of_lt h (by decide)
section
variable {X:Cx}
theorem pv (i:Nat){x:Str}{pos:Pos}(hN:X.N[i]?=some x:=by rfl) (hv:Vis X.env.scope x:=by first | exact Or.inl rfl | exact Or.inr (Or.inl rfl) | exact Or.inr (Or.inr rfl)) (hd:(x == ("__debug__" : Str))=false:=by decide)
  (hcd:(x == ("__classdict__" : Str))=false:=by decide):PE X (.Name x pos) (zcq i):=UH hN hv hd hcd
theorem vI:xB X (.builtin "len") (fun xs H Q=>∃ a kvs,xs=[V.ref a]∧H a=some (.dK kvs)∧Q (.int kvs.length) H):=by
 intro pins s σ H xs us Q I r h
 obtain⟨a,kvs,rfl,ha,q⟩:=h
 obtain⟨u,rfl,ru⟩:=Yv r
 cases ru
 exact zf3 I (.inl ha) fun t s' I'=>⟨.int kvs.length,H,I',⟨t,rfl⟩,q⟩
end
theorem zlS {A B:Prop}(h:B):if false=true then A else B:=by
 rw[if_neg Bool.false_ne_true]
 exact h
theorem xM {A B:Prop}(h:A):if true=true then A else B:=by
 rw[if_pos rfl]
 exact h
theorem ite2 {c A B:Prop} [Decidable c] (h1:c→A) (h2:¬ c→B):if c then A else B:=by
 by_cases h:c
 ·rw[if_pos h]
  exact h1 h
 ·rw[if_neg h]
  exact h2 h
def Same (H H':Hp):Prop:=∀ b o,H b=some o→H' b=some o
theorem Same.refl (H:Hp):Same H H:=fun _ _ h=>h
theorem Same.trans {H H1 H2:Hp}(a:Same H H1) (b:Same H1 H2):Same H H2:=fun c o h=>b c o (a c o h)
theorem Same.free {H H':Hp}(e:Same H H'){l:Addr}(h:H' l=Option.none):H l=Option.none:=by
 cases q:H l with
 |none=>rfl
 |some o =>
  rw[e l o q] at h
  cases h
section
variable {κ:Type} [DecidableEq κ]
theorem ug {kvs:List (κ×V)}{k:κ}(h:yK kvs k=none):¬ k∈kvs.map (·.1):=by
 intro m
 obtain⟨p,hp,e⟩:=List.mem_map.mp m
 have q:(kvs.any fun kv=>decide (kv.1=k))=true:=List.any_eq_true.mpr ⟨p,hp,decide_eq_true e⟩
 rw[yH,h] at q
 exact absurd q (by simp)
end
end L2
set_option maxHeartbeats 4000000
namespace L2
open PySem PySem.Spec PyProof.Rows
def Uf (t u:TS):TS:=fun D σ H=>∃ M:St→Hp→Prop,t { D with nx:=M } σ H∧∀ σ' H',M σ' H'→u D σ' H'
theorem Vi {X:Cx}{st:Stmt}{rest:List Stmt}{t u:TS}(h1:PS X st t) (h2:PSs X rest u):PSs X (st::rest) (Uf t u):=by
 intro pins s σ H D I h
 obtain⟨M,h,hM⟩:=h
 refine wpAny_execs_cons (thn (h1 pins s σ H { D with nx:=M } I h) fun f s1 q=>?_)
 cases f with
 |next =>
  obtain⟨σ',H',I',q⟩:=q
  exact h2 pins s1 σ' H' D I' (hM σ' H' q)
 |brk=>exact q
 |cont=>exact q
 |ret u=>exact q
theorem iteB {c:Bool}{A B:Prop}(hc:c=true) (h:A):if c=true then A else B:=by rw[if_pos hc];exact h
theorem iteN {c:Bool}{A B:Prop}(hc:c=false) (h:B):if c=true then A else B:=by rw[hc];exact zlS h
def PTs (X:Cx) (ifs:List Expr) (t:TT):Prop :=
 ∀ (pins:List (Addr×Obj)) (s:Shared) (σ:St) (H:Hp) (Q:Bool→Hp→Prop),Inv X pins σ H s→t σ H Q →
  wpAny (model X.prog X.w) X.A (forIn ifs true fun c r=>if r=true then do let ok ← isTrue c X.env (eval c X.env);pure (ForInStep.yield ok) else pure (ForInStep.yield r)) (TP X pins σ Q) X.xe s
def zbi:TT:=fun _ H Q=>Q true H
theorem yes_if {τ:St}{H:Hp}{A B:Hp→Prop}(h:A H):zbi τ H (fun b H5=>if b=true then A H5 else B H5):=by
 show if true=true then A H else B H
 exact xM h
theorem Vh {X:Cx}:PTs X [] zbi:=fun _ _ _ H _ I h=>wpAny_tests_nil ⟨H,I,h⟩
theorem Vg {X:Cx}{c:Expr}{t:TT}(h:PT X c t):PTs X [c] t:=fun pins s σ H Q I hw=>wpAny_tests_one (h pins s σ H Q I hw)
section
variable {prog:Program}{w:World}{A:Around}{R:Result→Shared→Prop}{s:Shared}
abbrev NoE:Value→Shared→Prop:=fun _ _=>False
theorem zdA {α:Type}{m:Sem α}{Q:α→Shared→Prop}{E:Value→Shared→Prop}{s:Shared}(h:wpAny (model prog w) A m Q NoE s):wpAny (model prog w) A m Q E s :=
 wpAny_mono h (fun _ _ q=>q) fun _ _ z=>z.elim
def Ym (prog:Program) (w:World) (A:Around) (env:Env) (tg:Expr) (ifs:List Expr) (elt:Expr) (it acc:Value) (again:Shared→Prop) (v:Value) (s1:Shared):Prop :=
 wpAny (model prog w) A (letOwnedTupleGo tg it v) (fun _ s2=>wpAny (model prog w) A (assign tg env v) (fun _ s3 =>
  wpAny (model prog w) A (forIn ifs true fun c r=>if r=true then do let ok ← isTrue c env (eval c env);pure (ForInStep.yield ok) else pure (ForInStep.yield r)) (fun ok s4 =>
   if ok=true then wpAny (model prog w) A (eval elt env) (fun x s5=>wpAny (model prog w) A (call (.builtin "list.append") [acc,x]) (fun _ s6=>again s6) NoE s5) NoE s4
   else again s4) NoE s3) NoE s2) NoE s1
theorem u7 {elt tg iter:Expr}{ifs:List Expr}{scope:Scope}{pos:Pos}{it acc:Value}{env:Env}(J:Nat→Shared→Prop)
  (turn:∀ n s,J n s→wpAny (model prog w) A (pyNext it) (fun r s1=>match r with
   |none=>R (.ok .next) s1
   |some v=>Ym prog w A env tg ifs elt it acc (fun s6=>∃ m,m<n∧J m s6) v s1) NoE s)
  (n:Nat) (h:J n s):codeAny (model prog w) A (.compLoop (.ListComp elt [⟨tg,iter,ifs,0⟩] scope pos) 0 it acc env) R s:=by
 refine codeAny_loop rfl J (fun n s hJ=>?_) n h
 show wpAny _ A ((compTurn (.ListComp elt [⟨tg,iter,ifs,0⟩] scope pos) 0 it acc env).onRaise (fun x=>do noteFrame x env;theTreesLotGoes x)) _ _ s
 refine wpAny_noted (zdA ?_)
 rw[compTurn_list]
 refine wpAny_bind (wpAny_standAt (wpAny_bind (thn (turn n s hJ) fun r s1 h1=>?_)))
 cases r with
 |none=>exact wpAny_pure h1
 |some v =>
  refine wpAny_bind (thn h1 fun _ s2 h2=>wpAny_bind (thn h2 fun _ s3 h3=>wpAny_bind (thn h3 fun ok s4 h4=>?_)))
  cases ok with
  |false=>exact wpAny_pure ⟨rfl,h4⟩
  |true=>exact wpAny_bind (wpAny_bind (thn h4 fun x s5 h5=>wpAny_bind (thn h5 fun _ s6 h6=>wpAny_pure (wpAny_pure ⟨rfl,h6⟩))))
end
theorem v9 {env:Env}:∀ (names:List (Str×NameKind)) (acc:List (Str×Addr)),(∀ y∈names,y.2=.free→∃ c,env.cells.lookup y.1=some c)→(∀ x c,acc.lookup x=some c→env.cells.lookup x=some c) →
  ∃ cl,(forIn names acc (fun(y:Str×NameKind) (cs:List (Str×Addr))=>(if (y.2 == NameKind.free)=true then(do let c ← cellOf env y.1;pure (ForInStep.yield ((y.1,c)::cs))) else pure (ForInStep.yield cs):Sem (ForInStep (List (Str×Addr))))))=(pure cl:Sem (List (Str×Addr))) ∧
   (∀ x c,cl.lookup x=some c→env.cells.lookup x=some c)∧(∀ x,(acc.lookup x).isSome=true→(cl.lookup x).isSome=true)∧(∀ y∈names,y.2=.free→(cl.lookup y.1).isSome=true)
 |[],acc,_,h2=>⟨acc,rfl,h2,fun _ h=>h,fun y hy=>by cases hy⟩
 |(n,k)::r,acc,h1,h2=>by
  have h1':∀ y∈r,y.2=.free→∃ c,env.cells.lookup y.1=some c:=fun y hy=>h1 y (List.mem_cons_of_mem _ hy)
  by_cases hk:k=.free
  ·subst hk
   obtain⟨c,hc⟩:=h1 (n,.free) List.mem_cons_self rfl
   have h2':∀ x c',(((n,c)::acc:List (Str×Addr)).lookup x)=some c'→env.cells.lookup x=some c':=fun x c' e=>by
    rw[List.lookup_cons] at e
    by_cases hx:(x == n)=true
    ·rw[hx] at e
     cases e
     rw[beq_iff_eq.mp hx]
     exact hc
    ·rw[Bool.not_eq_true] at hx
     rw[hx] at e
     exact h2 x c' e
   obtain⟨cl,e,p1,p2,p3⟩:=v9 r ((n,c)::acc) h1' h2'
   refine⟨cl,?_,p1,fun x hx=>p2 x ?_,fun y hy hf=>?_⟩
   ·rw[List.forIn_cons]
    have q:cellOf env n=pure c:=by unfold cellOf;rw[hc]
    simp only[beq_self_eq_true,if_true,q,pure_bind]
    exact e
   ·rw[List.lookup_cons]
    cases q:x == n with
    |true=>rfl
    |false=>exact hx
   ·rcases List.mem_cons.mp hy with rfl | hy
    ·exact p2 n (by rw[List.lookup_cons,beq_self_eq_true];rfl)
    ·exact p3 y hy hf
  ·obtain⟨cl,e,p1,p2,p3⟩:=v9 r acc h1' h2
   have hb:(k == NameKind.free)=false:=by simpa using hk
   refine⟨cl,?_,p1,p2,fun y hy hf=>?_⟩
   ·rw[List.forIn_cons]
    simp only[hb,Bool.false_eq_true,if_false,pure_bind]
    exact e
   ·rcases List.mem_cons.mp hy with rfl | hy
    ·exact absurd hf hk
    ·exact p3 y hy hf
structure Clos (env:Env) (scope:Scope) (cl:List (Str×Addr)):Prop where
 eq:closureFor scope env=pure cl
 sub:∀ x c,cl.lookup x=some c→env.cells.lookup x=some c
 all:∀ y∈scope.names,y.2=.free→(cl.lookup y.1).isSome=true
theorem Yi {env:Env}{scope:Scope}(h:∀ y∈scope.names,y.2=.free→∃ c,env.cells.lookup y.1=some c):∃ cl,Clos env scope cl:=by
 obtain⟨cl,e,p1,p2,p3⟩:=v9 (env:=env) scope.names [] h (fun x c z=>by simp at z)
 refine⟨cl,⟨?_,p1,p3⟩⟩
 have q:closureFor scope env=(forIn scope.names [] (fun(y:Str×NameKind) (cs:List (Str×Addr))=>(if (y.2 == NameKind.free)=true then(do let c ← cellOf env y.1;pure (ForInStep.yield ((y.1,c)::cs))) else pure (ForInStep.yield cs):Sem (ForInStep (List (Str×Addr))))) >>= fun s=>pure s):=rfl
 rw[q,e,pure_bind]
noncomputable abbrev xq (X:Cx) (scope:Scope) (N':List Str) (cl:List (Str×Addr)) (C:Addr) (s₀:Shared) (H₀:Hp) (fp:List Addr):Cx :=
 { X with N:=N',s₀:=s₀,H₀:=H₀,env:=compEnvC scope cl C X.env,outer:=X.stack,ex:=fp,fn:=fun _=>false,pn:=[],xe:=NoE }
structure Blk where
 cl:List (Str×Addr)
 C:Addr
 s₀:Shared
 H₀:Hp
 fp:List Addr
abbrev cxB (X:Cx) (scope:Scope) (N':List Str) (b:Blk):Cx:=xq X scope N' b.cl b.C b.s₀ b.H₀ b.fp
noncomputable def Z4:Option NameKind→Bool
 |some .cell=>true
 |some .free=>true
 |_=>false
theorem xR {k:Option NameKind}(h:Z4 k=true):k=some .cell∨k=some .free:=by
 cases k with
 |none=>cases h
 |some k=>cases k<;>first | exact .inl rfl | exact .inr rfl | cases h
def Xr (N:List Str) (kd kd':Str→Option NameKind) (N':List Str) (t:Nat):List Nat→Nat→Bool
 |[],k=>N'.length == t+k
 |j::r,k=>(match N[j]?,N'[t+k]? with
  |some x,some y=>(x == y)&&Z4 (kd x)&&Z4 (kd' x)
  |_,_=>false)&&Xr N kd kd' N' t r (k+1)
theorem vH {N:List Str}{kd kd':Str→Option NameKind}{N':List Str}{t:Nat}:∀ {caps:List Nat}{k:Nat},Xr N kd kd' N' t caps k=true→N'.length=t+k+caps.length
 |[],k,h=>by
  have:=beq_iff_eq.mp h
  simpa using this
 |j::r,k,h=>by
  have:=vH (Bool.and_eq_true_iff.mp h).2
  rw[List.length_cons]
  omega
theorem uD {N:List Str}{kd kd':Str→Option NameKind}{N':List Str}{t:Nat}:∀ {caps:List Nat}{k i j:Nat},Xr N kd kd' N' t caps k=true→caps[i]?=some j →
  ∃ x,N[j]?=some x∧N'[t+k+i]?=some x∧Z4 (kd x)=true∧Z4 (kd' x)=true
 |[],_,_,_,_,e=>by simp at e
 |j::r,k,0,j',h,e=>by
  simp at e
  subst e
  have h1:=(Bool.and_eq_true_iff.mp h).1
  cases q:N[j]? with
  |none=>rw[q] at h1;cases h1
  |some x =>
   cases q':N'[t+k]? with
   |none=>rw[q,q'] at h1;cases h1
   |some y =>
    rw[q,q'] at h1
    obtain⟨h2,h3⟩:=Bool.and_eq_true_iff.mp h1
    obtain⟨h4,h5⟩:=Bool.and_eq_true_iff.mp h2
    obtain rfl:x=y:=beq_iff_eq.mp h4
    exact⟨x,rfl,rfl,h5,h3⟩
 |j::r,k,i+1,j',h,e=>by
  obtain⟨x,a,b,c,d⟩:=uD (i:=i) (Bool.and_eq_true_iff.mp h).2 (by simpa using e)
  refine⟨x,a,?_,c,d⟩
  have q:t+(k+1)+i=t+k+(i+1):=by omega
  rw[← q]
  exact b
structure CompOk (X:Cx) (scope:Scope) (N':List Str) (t:Nat) (caps:List Nat):Prop where
 kind:scope.kind=.function
 shape:(scope.names.all fun y=>(y.2 == .local&&scope.names.lookup y.1 == some .local)||(y.2 == .free&&Z4 (X.env.kindOf y.1))||(y.2 == .globalImplicit))=true
 cap:Xr X.N X.env.kindOf (compEnvC scope [] 0 X.env).kindOf N' t caps 0=true
theorem CompOk.at {X:Cx}{scope:Scope}{N':List Str}{t:Nat}{caps:List Nat}(S:CompOk X scope N' t caps){y:Str×NameKind}(hy:y∈scope.names) :
  y.2≠.cell∧(y.2=.local→scope.names.lookup y.1=some .local)∧(y.2=.free→Z4 (X.env.kindOf y.1)=true):=by
 have h:=List.all_eq_true.mp S.shape y hy
 obtain⟨n,k⟩:=y
 cases k<;>simp at h<;>simp[h]
def zbg (t:Nat) (caps:List Nat) (σ:St):St:=List.replicate t none++caps.map fun j=>(σ[j]?).join
theorem xC {scope:Scope}{env:Env}{x:Str}:∀ {names:List (Str×NameKind)},(∀ y∈names,y.2≠.cell)→Z4 ((names.map fun(y:Str×NameKind)=>if (y.2 == NameKind.free&&env.scope.kind == .function&&env.kindOf y.1 == some .cell)=true then(y.1,NameKind.cell) else(y.1,y.2)).lookup x)=true →
  (x,NameKind.free)∈names
 |[],_,h=>by simp[Z4] at h
 |(n,k)::r,hn,h=>by
  have hr:∀ y∈r,y.2≠.cell:=fun y hy=>hn y (List.mem_cons_of_mem _ hy)
  have hk:k≠.cell:=hn (n,k) List.mem_cons_self
  rw[List.map_cons] at h
  by_cases hx:(x == n)=true
  ·obtain rfl:x=n:=beq_iff_eq.mp hx
   have q:k=.free:=by
    by_cases hf:k=.free
    ·exact hf
    ·exfalso
     have hb:(k == NameKind.free)=false:=by simpa using hf
     simp only[hb,Bool.false_and,Bool.false_eq_true,if_false,List.lookup_cons,beq_self_eq_true] at h
     cases k<;>simp[Z4] at h hk hf
   subst q
   exact List.mem_cons_self
  ·rw[Bool.not_eq_true] at hx
   refine List.mem_cons_of_mem _ (xC (scope:=scope) (env:=env) hr ?_)
   by_cases hc:(k == NameKind.free&&env.scope.kind == .function&&env.kindOf n == some .cell)=true
   ·simp only[hc,if_true,List.lookup_cons,hx] at h
    exact h
   ·rw[Bool.not_eq_true] at hc
    simp only[hc,Bool.false_eq_true,if_false,List.lookup_cons,hx] at h
    exact h
def ua (J:It) (g:TG) (tc:TT) (te:TE) (Q:VK) (D:Addr) (τ0:St) (H0:Hp):Prop :=
 ∃ W:Nat→Nat→List V→St→Hp→Prop,(∃ m,W 0 m [] τ0 H0)∧∀ i m ys τ H,W i m ys τ H →
  (J.stop i H∧Q (.ref D) H)∨(J.go i H∧∃ N:List V→St→Hp→Prop,(∀ zs τ' H',N zs τ' H'→∃ m',m'<m∧W (i+1) m' zs τ' H')∧∀ x H3,J.yld i H x H3→g x τ H3 fun τ2 H4=>tc τ2 H4 fun b H5 =>
   if b=true then te τ2 H5 fun y H6=>H6 D=some (.lst ys)∧ys.length<sizeLine∧N (ys++[y]) τ2 (upd H6 D (.lst (ys++[y]))) else N ys τ2 H5)
def YB (wi:TI) (g:Blk→TG) (tc:Blk→TT) (te:Blk→TE) (t:Nat) (caps:List Nat):TE:=fun σ H Q =>
 wi σ H fun J H1=>∀ D,H1 D=none→∀ b:Blk,ua J (g b) (tc b) (te b) Q D (zbg t caps σ) (upd H1 D (.lst []))
theorem va {J:It}{g:TG}{tc:TT}{te:TE}{Q:VK}{D:Addr}{τ0:St}{H0:Hp}(n:Nat) (Pv:Nat→List V→St→Hp→Prop) (h0:Pv 0 [] τ0 H0)
  (hst:∀ zs τ H,Pv n zs τ H→J.stop n H∧Q (.ref D) H)
  (hgo:∀ i zs τ H,i<n→Pv i zs τ H→J.go i H∧∀ x H3,J.yld i H x H3→g x τ H3 fun τ2 H4=>tc τ2 H4 fun b H5 =>
   if b=true then te τ2 H5 fun y H6=>H6 D=some (.lst zs)∧zs.length<sizeLine∧Pv (i+1) (zs++[y]) τ2 (upd H6 D (.lst (zs++[y]))) else Pv (i+1) zs τ2 H5):ua J g tc te Q D τ0 H0:=by
 refine⟨fun i m zs τ H=>m=n-i∧i≤n∧Pv i zs τ H,⟨n,by simp,Nat.zero_le _,h0⟩,?_⟩
 rintro i m zs τ H ⟨rfl,hi,p⟩
 by_cases hlt:i<n
 ·obtain⟨go,step⟩:=hgo i zs τ H hlt p
  exact .inr ⟨go,Pv (i+1),fun zs' τ' H' p'=>⟨n-(i+1),by omega,rfl,hlt,p'⟩,step⟩
 ·have e:i=n:=by omega
  subst e
  exact .inl (hst zs τ H p)
theorem yF {K:PySem.W.Frag}{a:Addr}{xs:List V}{g:TG}{tc:TT}{te:TE}{Q:VK}{D:Addr}{τ0:St}{H0:Hp}(Pv:Nat→List V→St→Hp→Prop) (h0:Pv 0 [] τ0 H0) (hl:∀ i zs τ H,Pv i zs τ H→SqL K H a xs)
  (hs:∀ i x zs τ H,xs[i]?=some x→Pv i zs τ H→g x τ H fun τ2 H4=>tc τ2 H4 fun b H5 =>
   if b=true then te τ2 H5 fun y H6=>H6 D=some (.lst zs)∧zs.length<sizeLine∧Pv (i+1) (zs++[y]) τ2 (upd H6 D (.lst (zs++[y]))) else Pv (i+1) zs τ2 H5)
  (hd:∀ zs τ H,Pv xs.length zs τ H→Q (.ref D) H):ua (Itl K a) g tc te Q D τ0 H0 :=
 va xs.length Pv h0 (fun zs τ H p=>⟨⟨xs,hl _ _ _ _ p,Nat.le_refl _⟩,hd zs τ H p⟩) fun i zs τ H hi p=>⟨⟨xs,xs[i],hl _ _ _ _ p,by simp[hi]⟩,fun x H3 y=>by
  obtain⟨e,y⟩:=y
  subst e
  exact hs i x zs τ _ (y xs (hl _ _ _ _ p)) p⟩
theorem Xp {K:PySem.W.Frag}{a:Addr}{xs:List V}{g:TG}{tc:TT}{te:TE}{Q:VK}{D:Addr}{τ0:St}{H0:Hp}(Pv:Nat→List V→St→Hp→Prop) (h0:Pv 0 [] τ0 H0) (hl:∀ i zs τ H,Pv i zs τ H→SqT K H a xs)
  (hs:∀ i x zs τ H,xs[i]?=some x→Pv i zs τ H→g x τ H fun τ2 H4=>tc τ2 H4 fun b H5 =>
   if b=true then te τ2 H5 fun y H6=>H6 D=some (.lst zs)∧zs.length<sizeLine∧Pv (i+1) (zs++[y]) τ2 (upd H6 D (.lst (zs++[y]))) else Pv (i+1) zs τ2 H5)
  (hd:∀ zs τ H,Pv xs.length zs τ H→Q (.ref D) H):ua (Itt K a) g tc te Q D τ0 H0 :=
 va xs.length Pv h0 (fun zs τ H p=>⟨⟨xs,hl _ _ _ _ p,Nat.le_refl _⟩,hd zs τ H p⟩) fun i zs τ H hi p=>⟨⟨xs,xs[i],hl _ _ _ _ p,by simp[hi]⟩,fun x H3 y=>by
  obtain⟨e,y⟩:=y
  subst e
  exact hs i x zs τ _ (y xs (hl _ _ _ _ p)) p⟩
section
variable {X:Cx}{tg iter elt:Expr}{ifs:List Expr}{scope:Scope}{pos:Pos}{N':List Str}{t:Nat}{caps:List Nat}{g:Blk→TG}{tc:Blk→TT}{te:Blk→TE}{wi:TI}
theorem FpOk.heap {pins:List (Addr×Obj)}{H H':Hp}{b:Addr}(f:FpOk X pins H b) (h:H' b=none):FpOk X pins H' b:=⟨h,f.2⟩
theorem vG {cl:List (Str×Addr)}{J:It}{fp:List Addr}{it:Addr}{tn:Nat→Heap→Prop}{pins:List (Addr×Obj)}{σ:St}{H2:Hp}{s2:Shared}{Q:VK}{E:Value→Shared→Prop}
  (hc:X.calm=true) (S:CompOk X scope N' t caps) (L:Clos X.env scope cl)
  (hg:∀ b,PG (cxB X scope N' b) tg (g b)) (ht:∀ b,PTs (cxB X scope N' b) ifs (tc b)) (he:∀ b,PE (cxB X scope N' b) elt (te b))
  (I2:Inv X pins σ H2 s2) (T:Turn X.prog X.w X.K tg J fp it tn) (st2:tn 0 s2.heap) (f2:∀ b∈fp,FpOk X pins H2 b)
  (R:∀ D,H2 D=none→∀ b,ua J (g b) (tc b) (te b) Q D (zbg t caps σ) (upd H2 D (.lst []))) :
  wpAny (model X.prog X.w) X.A (newList []) (fun acc s3=>wpAny (model X.prog X.w) X.A (newFunctionEnv scope X.env.globals cl [] X.env.qual none .none (some X.env)) (fun cenv s4 =>
   codeAny (model X.prog X.w) X.A (.compStart (.ListComp elt [⟨tg,iter,ifs,0⟩] scope pos) 0 (.ref it) acc { cenv with scope:=relabel scope X.env })
    (fun r s'=>∃ (D:Addr) (H':Hp) (m:Str→Option Value),acc=.ref D∧r=.ok .next∧Inv X pins σ H' s'∧s'.heap.Ns cenv.locals m∧FpOk X pins H' cenv.locals∧Q (.ref D) H') s4) E s3) E s2:=by
 refine wpAny_newObj_type ?_
 have I3:Inv X pins σ (upd H2 s2.heap.objs.size (.lst [])) { s2 with heap:=s2.heap.push { cls:=.type "list",data:=.seq ([]:List Value).toArray } }:=I2.lnew (t':=s2.toks) .nil (Nat.zero_le _)
 have hD:H2 s2.heap.objs.size=none:=I2.fresh
 have R:=R _ hD
 generalize hs3:({ s2 with heap:=s2.heap.push { cls:=.type "list",data:=.seq ([]:List Value).toArray } }:Shared)=s3 at I3 ⊢
 generalize hH3:upd H2 s2.heap.objs.size (.lst [])=H3 at I3 R
 generalize hDD:s2.heap.objs.size=D at R ⊢
 have k3:∀ b o,s2.heap.get? b=some o→s3.heap.get? b=some o:=fun b o e=>by rw[← hs3];exact Heap.get?_push_of_some _ e
 have st3:tn 0 s3.heap:=T.keep 0 _ _ st2 fun b _ o e=>k3 b o e
 have fpn:∀ b∈fp,H3 b=none:=fun b hb=>by
  obtain⟨o,e,_⟩:=T.obj 0 _ st2 b hb
  rw[← hH3,upd_ne (Nat.ne_of_lt (Heap.lt_size e))]
  exact(f2 b hb).1
 have f3:∀ b∈fp,FpOk X pins H3 b:=fun b hb=>(f2 b hb).heap (fpn b hb)
 refine wpAny_newFunctionEnv (fun y hy=>(S.at hy).1) (by intro y hy;simp at hy) (fun h4 hns hsb=>?_) S.kind
 generalize hC:s3.heap.objs.size=C at hns hsb ⊢
 have k4:∀ b o,s3.heap.get? b=some o→h4.get? b=some o:=fun b o e=>hsb.extBut b o (by rw[← hC];exact Nat.ne_of_lt (Heap.lt_size e)) (Heap.get?_push_of_some _ e)
 have cellsub:∀ x c,(xq X scope N' cl C s3 H3 fp).env.cells.lookup x=some c→X.env.cells.lookup x=some c:=L.sub
 have hnc:∀ y∈scope.names,y.2≠.cell:=fun y hy=>(S.at hy).1
 have fC:∀ {H':Hp},H' C=none→FpOk X pins H' C:=fun h=>by rw[← hC] at h ⊢;exact I3.fpOk (Nat.le_refl _) h
 have I4:Inv (xq X scope N' cl C s3 H3 fp) [] (zbg t caps σ) H3 { s3 with heap:=h4,toks:=s3.toks+([]:List (Str×Value)).length }:=by
  refine⟨⟨I3.ok.mod,S.kind,I3.ok.glob,I3.ok.blt,Nat.le_of_eq hC,fun x y c h1 h2=>I3.ok.inj x y c (L.sub _ _ h1) (L.sub _ _ h2),fun x hx=>?_,fun x c h _=>absurd (show false=true from h) Bool.false_ne_true,I3.ok.hd,I3.ok.frames,.inl rfl,fun b hb=>⟨?_,fun x c e=>(f3 b hb).2.2.2.2.1 x c (L.sub x c e)⟩,
    I3.bs,Nat.le_trans I3.ok.bsz I3.sz,fun b o e hb=>?_,fun b hb z=>?_,I3.stack,I3.stkFree⟩,
   rfl,I3.bare,Un.kept k4,⟨_,hns,fun i x v e1 e2 e3=>?_⟩,fun x c e=>?_,(by rw[← hC];exact I3.fresh),fun x c e=>I3.freeC x c (L.sub x c e),fun p hp=>?_,I3.hok.kept k4,?_⟩
  ·have hx':Z4 ((relabel scope X.env).names.lookup x)=true:=by
    rcases hx with q | q
    ·rw[show(relabel scope X.env).names.lookup x=some .cell from q];rfl
    ·rw[show(relabel scope X.env).names.lookup x=some .free from q];rfl
   exact Option.isSome_iff_exists.mp (L.all _ (xC (scope:=scope) hnc hx') rfl)
  ·obtain⟨o,e,_⟩:=T.obj 0 _ st3 b hb
   rw[← hC]
   exact Nat.ne_of_lt (Heap.lt_size e)
  ·rcases(f3 b hb).2.2.2.1 with z | z
   ·exact I3.ok.noex b o e z
   ·exact absurd (Nat.lt_of_lt_of_le (Nat.lt_of_lt_of_le (Heap.lt_size e) I3.ok.bsz) z) (Nat.lt_irrefl _)
  ·rcases List.mem_cons.mp (I3.stkSub b z) with q | q
   ·exact(f3 b hb).2.1 q
   ·exact(f3 b hb).2.2.1 q
  ·-- a name that was taken over
   unfold zbg at e2
   by_cases hi:i<t
   ·rw[List.getElem?_append_left (by simpa using hi),List.getElem?_replicate] at e2
    simp[hi] at e2
   ·rw[List.getElem?_append_right (by simpa using hi),List.length_replicate,List.getElem?_map] at e2
    cases q:caps[i-t]? with
    |none=>rw[q] at e2;simp at e2
    |some j =>
     rw[q] at e2
     obtain⟨y,c1,c2,c3,c4⟩:=uD S.cap q
     have ei:t+0+(i-t)=i:=by omega
     rw[ei] at c2
     have exy:x=y:=Option.some.inj ((show N'[i]?=some x from e1).symm.trans c2)
     subst exy
     have e2':σ[j]?=some (some v):=by
      have e2:(σ[j]?).join=some v:=Option.some.inj e2
      cases r:σ[j]? with
      |none=>rw[r] at e2;cases e2
      |some z =>
       rw[r] at e2
       have e2:z=some v:=e2
       rw[e2]
     obtain⟨m,hn,hl⟩:=I3.loc
     have cf:=xR c3
     obtain⟨u,ru,lk⟩:=hl j x v c1 e2' (.inr (by
      rcases cf with z | z
      ·exact .inl z
      ·exact .inr z))
     refine⟨u,ru,.inr ⟨xR c4,?_⟩⟩
     rcases lk with⟨z,_⟩ | ⟨_,c,ec,zc⟩
     ·rcases cf with w | w<;>(rw[z] at w;cases w)
     ·have hfree:=xC (scope:=scope) (env:=X.env) (x:=x) hnc c4
      obtain⟨c',ec'⟩:=Option.isSome_iff_exists.mp (L.all _ hfree rfl)
      have:=L.sub _ _ ec'
      rw[show X.env.cells.lookup x=some c from ec] at this
      cases this
      obtain⟨o,ho,hd⟩:=zc
      exact⟨c,ec',o,k4 _ _ ho,hd⟩
  ·obtain⟨v,o,ho,hd⟩:=I3.cell x c (L.sub x c e)
   exact⟨v,o,k4 _ _ ho,hd⟩
  ·exact absurd (show p∈([]:List (Addr×Obj)) from hp) (by simp)
  ·unfold zbg
   rw[List.length_append,List.length_replicate,List.length_map,vH S.cap]
   omega
 obtain⟨W,⟨m0,w0⟩,turn⟩:=R ⟨cl,C,s3,H3,fp⟩
 -- back to the frame outside
 have back:∀ {τ:St}{H':Hp}{s':Shared},Inv (xq X scope N' cl C s3 H3 fp) [] τ H' s'→Inv X pins σ H' s':=fun {τ H' s'} J=>by
  refine I3.call' (ch:=fp) (J.os.trans ?_) J.base J.hok J.bare fun b hb=>⟨(f3 b hb).2.2.2.1,(f3 b hb).2.1,(f3 b hb).2.2.2.2.1,(f3 b hb).2.2.2.2.2⟩
  rfl
 have stat:∀ {H':Hp},(∀ b∈fp,H' b=none)→∀ b∈fp,FpOk (xq X scope N' cl C s3 H3 fp) [] H' b:=fun {H'} hn b hb=>by
  refine⟨hn b hb,(I4.ok.exf b hb).1,I4.ok.exfs b hb,.inl hb,(I4.ok.exf b hb).2,fun p hp=>?_⟩
  exact absurd (show p∈([]:List (Addr×Obj)) from hp) (by simp)
 have loop:codeAny (model X.prog X.w) X.A (.compLoop (.ListComp elt [⟨tg,iter,ifs,0⟩] scope pos) 0 (.ref it) (.ref D) (compEnvC scope cl C X.env))
   (fun r s'=>∃ (D':Addr) (H':Hp) (m:Str→Option Value),Value.ref D=.ref D'∧r=.ok .next∧Inv X pins σ H' s'∧s'.heap.Ns C m∧FpOk X pins H' C∧Q (.ref D') H') { s3 with heap:=h4,toks:=s3.toks+([]:List (Str×Value)).length }:=by
  refine u7 (fun n s'=>∃ i ys τ H',Inv (xq X scope N' cl C s3 H3 fp) [] τ H' s'∧tn i s'.heap∧(∀ b∈fp,H' b=none)∧W i n ys τ H') ?_ m0 ⟨0,[],_,H3,I4,T.keep 0 _ _ st3 fun b _ o e=>k4 b o e,fpn,w0⟩
  rintro n s5 ⟨i,ys,τ,H5,I5,st5,fr5,w5⟩
  rcases turn i n ys τ H5 w5 with⟨stop,q⟩ | ⟨go,N,hN,step⟩
  ·refine thn (T.done (xq X scope N' cl C s3 H3 fp) rfl rfl rfl hc i [] s5 τ H5 NoE I5 (stat fr5) st5 stop) fun r s6 ⟨hr,I6⟩=>?_
   subst hr
   obtain⟨m,hm,_⟩:=id I6.loc
   exact⟨D,H5,m,rfl,rfl,back I6,hm,fC I6.free,q⟩
  ·refine thn (T.item (xq X scope N' cl C s3 H3 fp) rfl rfl rfl hc i [] s5 τ H5 NoE I5 (stat fr5) st5 go) fun r s6 ⟨u,hr,h6⟩=>?_
   subst hr
   refine thn h6 fun _ s7 hq0=>?_
   obtain⟨x,H7,I7,r7,y7,st7,fr7⟩:=hq0
   have I7':=I7.pinned (stat fr7) (T.obj _ _ st7)
   have again:∀ {τ9:St}{H9:Hp}{s9:Shared}{ys9:List V}{m':Nat},Inv (xq X scope N' cl C s3 H3 fp) ([]++vt fp s7.heap) τ9 H9 s9→m'<n→W (i+1) m' ys9 τ9 H9 →
     ∃ m,m<n∧∃ i ys τ H',Inv (xq X scope N' cl C s3 H3 fp) [] τ H' s9∧tn i s9.heap∧(∀ b∈fp,H' b=none)∧W i m ys τ H':=fun {τ9 H9 s9 ys9 m'} I9 hm w9=>by
    refine⟨m',hm,i+1,ys9,τ9,H9,I9.unpinned,T.keep _ _ _ st7 fun b hb o e=>(I9.pin (b,o) (List.mem_append_right _ (List.mem_append_right _ (xi hb e)))).1,fun b hb=>?_,w9⟩
    obtain⟨o,e,_⟩:=T.obj _ _ st7 b hb
    exact(I9.pin (b,o) (List.mem_append_right _ (List.mem_append_right _ (xi hb e)))).2.1
   refine thn (hg ⟨cl,C,s3,H3,fp⟩ _ s7 τ H7 x u _ I7' r7 (step x H7 y7)) fun _ s8 hq0=>?_
   obtain⟨τ8,H8,I8,q8⟩:=hq0
   refine thn (ht ⟨cl,C,s3,H3,fp⟩ _ s8 τ8 H8 _ I8 q8) fun ok s9 hq0=>?_
   obtain⟨H9,I9,q9⟩:=hq0
   cases ok with
   |false =>
    obtain⟨m',hm,w9⟩:=hN _ _ _ (show N ys τ8 H9 from q9)
    exact again I9 hm w9
   |true =>
    refine thn (he ⟨cl,C,s3,H3,fp⟩ _ s9 τ8 H9 _ I9 q9) fun y s10 hq0=>?_
    obtain⟨z,H10,I10,r10,hl,hz,q10⟩:=hq0
    refine thn (zL _ s10 τ8 H10 (.ref D) [z] (.ref D) [y] (fun v H11=>v=.non∧H11=upd H10 D (.lst (ys++[z]))) I10 rfl (.cons r10 .nil) ⟨D,ys,z,rfl,rfl,hl,hz,rfl,rfl⟩) fun _ s11 hq0=>?_
    obtain⟨v,H11,I11,_,_,e11⟩:=hq0
    subst e11
    obtain⟨m',hm,w10⟩:=hN _ _ _ q10
    exact again I11 hm w10
 exact codeAny_compStart_list loop (T.self _ 0 _ _ _ (T.keep 0 _ _ st3 fun b _ o e=>k4 b o e) loop)
theorem Vr (hc:X.calm=true) (S:CompOk X scope N' t caps) (hi:PI X tg iter wi)
  (hg:∀ b,PG (cxB X scope N' b) tg (g b)) (ht:∀ b,PTs (cxB X scope N' b) ifs (tc b)) (he:∀ b,PE (cxB X scope N' b) elt (te b))
  (hs:∀ x,foldedSetIterable iter X.env x=pure x:=by intro _;rfl):PE X (.ListComp elt [⟨tg,iter,ifs,0⟩] scope pos) (YB wi g tc te t caps):=by
 intro pins s σ H Q I h
 obtain⟨cl,L⟩:=Yi (env:=X.env) (scope:=scope) fun y hy hf=>I.ok.has y.1 (xR ((S.at hy).2.2 hf))
 rw[eval_ListComp]
 refine wpAny_comprehension_free (use:=none) rfl hs L.eq S.kind (fun y hy=>(S.at hy).2.1) (thn (hi pins s σ H _ I h) fun x s1 h1=>thn h1 fun itv s2 h2=>?_)
 obtain⟨it,fp,tn,J,H2,rfl,I2,T,st2,f2,R⟩:=h2
 refine thn (vG hc S L hg ht he I2 T st2 f2 R) fun acc s3 h3=>thn h3 fun cenv s4 h4=>codeAny_mono h4 fun r s' hr=>?_
 obtain⟨D,H',m,rfl,rfl,I',hm,fC,q⟩:=hr
 obtain⟨c0,c1,c2,c3,c4,c5⟩:=fC
 exact⟨m,hm,fun h' sb=>⟨.ref D,H',I'.turned (t':=s'.toks) (fun b o hb e=>sb.extBut b o hb e) c0 c1 c3 c4 c5,rfl,q⟩⟩
theorem uQ {i:Nat}{y:Str}{py spos:Pos}(hc:X.calm=true) (hN:X.N.Nodup) (hiy:X.N[i]?=some y) (hy:Loc X.env.scope y) (S:CompOk X scope N' t caps) (hi:PI X tg iter wi)
  (hg:∀ b,PG (cxB X scope N' b) tg (g b)) (ht:∀ b,PTs (cxB X scope N' b) ifs (tc b)) (he:∀ b,PE (cxB X scope N' b) elt (te b))
  (hsw:swapsWith (.ListComp elt [⟨tg,iter,ifs,0⟩] scope pos) (some (.Name y py)) spos.line X.env=pure true:=by rfl)
  (hs:∀ x,foldedSetIterable iter X.env x=pure x:=by intro _;rfl) (hf:X.fn y=true∨X.env.scope.names.lookup y=some .local:=by first | exact .inl rfl | exact .inr rfl | assumption) :
  PS X (.Assign [.Name y py] (.ListComp elt [⟨tg,iter,ifs,0⟩] scope pos) spos) (VO (YB wi g tc te t caps) (v7 i)):=by
 intro pins s σ H D' I h
 obtain⟨cl,L⟩:=Yi (env:=X.env) (scope:=scope) fun y hy hf=>I.ok.has y.1 (xR ((S.at hy).2.2 hf))
 rw[exec_Assign_Name_used _ _ _ _ hsw]
 refine wpAny_bind (wpAny_standAt (wpAny_bind ?_))
 show wpAny _ X.A (comprehension (.ListComp elt [⟨tg,iter,ifs,0⟩] scope pos) scope X.env _ (newList []) false (eval iter X.env) (some (assign (.Name y py) X.env)) >>= fun _=>pure ()) _ _ s
 refine wpAny_bind (thn (Q:=fun _ s'=>SP X pins D' .next s') ?_ fun _ s' hq=>wpAny_pure (wpAny_pure hq))
 refine wpAny_comprehension_free (use:=some (assign (.Name y py) X.env)) rfl hs L.eq S.kind (fun y hy=>(S.at hy).2.1) (thn (hi pins s σ H _ I h) fun x s1 h1=>thn h1 fun itv s2 h2=>?_)
 obtain⟨it,fp,tn,J,H2,rfl,I2,T,st2,f2,R⟩:=h2
 refine thn (vG hc S L hg ht he I2 T st2 f2 R) fun acc s3 h3=>thn h3 fun cenv s4 h4=>codeAny_mono h4 fun r s' hr=>?_
 obtain⟨D,H',m,rfl,rfl,I',hm,fC,q⟩:=hr
 obtain⟨c0,c1,c2,c3,c4,c5⟩:=fC
 show wpAny _ X.A (assign (.Name y py) X.env (.ref D)) _ _ _
 refine wpAny_assign_Name (vj I' hN hiy hy (show RelV (.ref D) (.ref D) from rfl) (fun s'' I'' hq0=>?_) hf)
 obtain⟨a,sb,ha⟩:=hq0
 have hne:cenv.locals≠a:=by
  rcases ha with z | z
  ·rw[z];exact c1
  ·exact fun z'=>c4 y a z z'.symm
 refine⟨m,hm.sameBut sb hne,fun h' sb'=>?_⟩
 exact⟨_,H',I''.turned (t':=s''.toks) (fun b o hb e=>sb'.extBut b o hb e) c0 c1 c3 c4 c5,q⟩
end
def zf8 (i j:Int):Prop:=0<j∧j.natAbs.log2<9000
section
variable {X:Cx}
theorem xO:OpR X (binaryOp .FloorDiv) (rI zf8 fun i j=>.int (i/j)):=opI fun i j _ _ _ _ _ hc q=>by
 have e:i.fdiv j=i/j:=Int.fdiv_eq_ediv_of_nonneg i (Int.le_of_lt hc.1)
 exact floordiv_int (Ne.symm (Int.ne_of_lt hc.1)) (by rw[e];exact q) (.inl (PyProof.noPylong_of_log2 hc.2))
noncomputable def zf5:V→Option Value
 |.ty n=>some (.type n)
 |.ref a=>some (.ref a)
 |_=>none
theorem Xq {c:V}{cv u:Value}(h:zf5 c=some cv) (r:RelV c u):u=cv:=by
 cases c<;>simp[zf5] at h
 ·exact(show u=Value.ref _ from r).trans h
 ·exact(show u=Value.type _ from r).trans h
def zlE (K:PySem.W.Frag):List V→Hp→VK→Prop:=fun xs H Q=>∃ x c t cv b,xs=[x,c]∧zf5 c=some cv∧TyOf K H x t∧PySem.W.kitOne K t cv=some b∧Q (.bl b) H
theorem zR:xB X (.builtin "isinstance") (zlE X.K):=by
 intro pins s σ H xs us Q I r h
 obtain⟨x,c,t,cv,b,rfl,hc,ty,e,q⟩:=h
 obtain⟨u,v,rfl,r1,r2⟩:=r.two
 obtain rfl:=Xq hc r2
 exact Z3 I r1 ty e fun tk=>⟨.bl b,H,I.tok tk,rfl,q⟩
inductive EqD (K:PySem.W.Frag) (H:Hp):V→V→Bool→Nat→Prop where
 |flat {x y:V}{n:Nat}(fx:wm x=true) (fy:wm y=true):EqD K H x y (eqV x y) n
 |same {a:Addr}{n:Nat}:EqD K H (.ref a) (.ref a) true n
 |lst {a b:Addr}{xs ys:List V}{e:Nat→Bool}{n:Nat}(hne:a≠b) (ha:SqL K H a xs) (hb:SqL K H b ys) (hl:xs.length=ys.length) (h:∀ (j:Nat) x y,xs[j]?=some x→ys[j]?=some y→EqD K H x y (e j) n) :
   EqD K H (.ref a) (.ref b) ((List.range xs.length).all e) (n+1)
 |tup {a b:Addr}{xs ys:List V}{e:Nat→Bool}{n:Nat}(hne:a≠b) (ha:SqT K H a xs) (hb:SqT K H b ys) (hl:xs.length=ys.length) (h:∀ (j:Nat) x y,xs[j]?=some x→ys[j]?=some y→EqD K H x y (e j) n) :
   EqD K H (.ref a) (.ref b) ((List.range xs.length).all e) (n+1)
theorem yt (A:Around):A.in1.units=A.units+1:=rfl
theorem EqD.at {pins:List (Addr×Obj)}{σ:St}{H:Hp}{s:Shared}{x y:V}{b:Bool}{n:Nat}(I:Inv X pins σ H s) (h:EqD X.K H x y b n) :
  ∀ (A:Around) (u v:Value),A.units+n<cLine→RelV x u→RelV y v→SeqAt.EqAt A s u v b:=by
 induction h with
 |flat fx fy=>intro A u v _ rx ry;exact eqAt_V rx ry fx fy
 |same=>intro A u v _ rx ry;cases rx;cases ry;exact SeqAt.EqAt.same _
 | @lst a b xs ys e n hne ha hb hl h ih =>
  intro A u v hu rx ry
  cases rx;cases ry
  obtain⟨i1,r1,p1,_⟩:=I.list ha
  obtain⟨i2,r2,p2,_⟩:=I.list hb
  have l1:=r1.length
  have l2:=r2.length
  refine SeqAt.EqAt.of_refs hne ?_
  have q:=SeqAt.RcAt.lists (A:=A) (s:=s) (e:=e) p1.isList p2.isList (by simp;omega) (by omega) (fun j h1 h2=>?_)
  ·rw[List.size_toArray,← l1] at q
   exact q
  ·have g1:j<xs.length:=by rw[l1];simpa using h1
   have g2:j<ys.length:=by rw[l2];simpa using h2
   obtain⟨u1,e1,q1⟩:=r1.get (i:=j) (x:=xs[j]) (by simp[g1])
   obtain⟨u2,e2,q2⟩:=r2.get (i:=j) (x:=ys[j]) (by simp[g2])
   have f1:i1.toArray[j]=u1:=by
    have:=List.getElem?_eq_some_iff.mp e1
    obtain⟨_,z⟩:=this
    simpa using z
   have f2:i2.toArray[j]=u2:=by
    have:=List.getElem?_eq_some_iff.mp e2
    obtain⟨_,z⟩:=this
    simpa using z
   rw[f1,f2]
   exact ih j _ _ (by simp[g1]) (by simp[g2]) A.in1 u1 u2 (by rw[yt];omega) q1 q2
 | @tup a b xs ys e n hne ha hb hl h ih =>
  intro A u v hu rx ry
  cases rx;cases ry
  obtain⟨i1,r1,p1,_⟩:=I.tuple ha
  obtain⟨i2,r2,p2,_⟩:=I.tuple hb
  have l1:=r1.length
  have l2:=r2.length
  refine SeqAt.EqAt.of_refs hne ?_
  have q:=SeqAt.RcAt.tuples (A:=A) (s:=s) (e:=e) (show s.heap.IsTuple a i1.toArray from p1) (show s.heap.IsTuple b i2.toArray from p2) (by omega) (fun j h1 h2=>?_)
  ·have z:i1.toArray.size=i2.toArray.size:=by simp;omega
   rw[← z,Nat.min_self,beq_self_eq_true,Bool.and_true,List.size_toArray,← l1] at q
   exact q
  ·have g1:j<xs.length:=by rw[l1];simpa using h1
   have g2:j<ys.length:=by rw[l2];simpa using h2
   obtain⟨u1,e1,q1⟩:=r1.get (i:=j) (x:=xs[j]) (by simp[g1])
   obtain⟨u2,e2,q2⟩:=r2.get (i:=j) (x:=ys[j]) (by simp[g2])
   have f1:i1.toArray[j]=u1:=by
    have:=List.getElem?_eq_some_iff.mp e1
    obtain⟨_,z⟩:=this
    simpa using z
   have f2:i2.toArray[j]=u2:=by
    have:=List.getElem?_eq_some_iff.mp e2
    obtain⟨_,z⟩:=this
    simpa using z
   rw[f1,f2]
   exact ih j _ _ (by simp[g1]) (by simp[g2]) A.in1 u1 u2 (by rw[yt];omega) q1 q2
def zjA (K:PySem.W.Frag) (A:Around) (neg:Bool):R2:=fun x y H Q=>∃ (a b:Addr) (xs ys:List V) (e:Nat→Bool) (n:Nat),x=.ref a∧y=.ref b∧((SqL K H a xs∧SqL K H b ys)∨(SqT K H a xs∧SqT K H b ys))∧xs.length=ys.length ∧
 A.units+n+2<cLine∧(∀ (j:Nat) x y,xs[j]?=some x→ys[j]?=some y→EqD K H x y (e j) n)∧Q (.bl (if neg then !(List.range xs.length).all e else(List.range xs.length).all e)) H
theorem xQ {pins:List (Addr×Obj)}{σ:St}{H:Hp}{s:Shared}{A:Around}{xs ys:List V}{i1 i2:List Value}{e:Nat→Bool}{n:Nat}(I:Inv X pins σ H s) (r1:Vals xs i1) (r2:Vals ys i2) (hu:A.units+n+2<cLine)
  (h:∀ (j:Nat) x y,xs[j]?=some x→ys[j]?=some y→EqD X.K H x y (e j) n):∀ (j:Nat) (h1:j<i1.toArray.size) (h2:j<i2.toArray.size),SeqAt.EqAt A.in1 s i1.toArray[j] i2.toArray[j] (e j):=fun j h1 h2=>by
 have g1:j<xs.length:=by rw[r1.length];simpa using h1
 have g2:j<ys.length:=by rw[r2.length];simpa using h2
 obtain⟨u1,e1,q1⟩:=r1.get (i:=j) (x:=xs[j]) (by simp[g1])
 obtain⟨u2,e2,q2⟩:=r2.get (i:=j) (x:=ys[j]) (by simp[g2])
 have f1:i1.toArray[j]=u1:=by
  obtain⟨_,z⟩:=List.getElem?_eq_some_iff.mp e1
  simpa using z
 have f2:i2.toArray[j]=u2:=by
  obtain⟨_,z⟩:=List.getElem?_eq_some_iff.mp e2
  simpa using z
 rw[f1,f2]
 exact(h j _ _ (by simp[g1]) (by simp[g2])).at I A.in1 u1 u2 (by rw[yt];omega) q1 q2
theorem UR:OpR X (compareOp .Eq) (zjA X.K X.A false):=by
 intro pins s σ H x y v u Q I rx ry h
 obtain⟨a,b,xs,ys,e,n,rfl,rfl,hq,hl,hu,hi,q⟩:=h
 cases rx;cases ry
 rcases hq with⟨h1,h2⟩ | ⟨h1,h2⟩
 ·obtain⟨i1,r1,p1,_⟩:=I.list h1
  obtain⟨i2,r2,p2,_⟩:=I.list h2
  refine SeqAt.eq_listAt p1.isList p2.isList (by simp;rw[← r1.length,← r2.length,hl]) (by omega) (xQ I r1 r2 hu hi) ⟨.bl _,H,I,rfl,?_⟩
  rw[List.size_toArray,← r1.length]
  exact q
 ·obtain⟨i1,r1,p1,_⟩:=I.tuple h1
  obtain⟨i2,r2,p2,_⟩:=I.tuple h2
  have z:i1.toArray.size=i2.toArray.size:=by simp;rw[← r1.length,← r2.length,hl]
  refine SeqAt.eq_tupleAt (show s.heap.IsTuple a i1.toArray from p1) (show s.heap.IsTuple b i2.toArray from p2) (by omega) (xQ I r1 r2 hu hi) ⟨.bl _,H,I,rfl,?_⟩
  rw[← z,Nat.min_self,beq_self_eq_true,Bool.and_true,List.size_toArray,← r1.length]
  exact q
theorem XT:OpR X (compareOp .NotEq) (zjA X.K X.A true):=by
 intro pins s σ H x y v u Q I rx ry h
 obtain⟨a,b,xs,ys,e,n,rfl,rfl,hq,hl,hu,hi,q⟩:=h
 cases rx;cases ry
 rcases hq with⟨h1,h2⟩ | ⟨h1,h2⟩
 ·obtain⟨i1,r1,p1,_⟩:=I.list h1
  obtain⟨i2,r2,p2,_⟩:=I.list h2
  refine SeqAt.RcNeAt.lists p1.isList p2.isList (by simp;rw[← r1.length,← r2.length,hl]) (by omega) (xQ I r1 r2 hu hi) _ _ _ _ ⟨.bl _,H,I,rfl,?_⟩
  rw[List.size_toArray,← r1.length]
  exact q
 ·obtain⟨i1,r1,p1,_⟩:=I.tuple h1
  obtain⟨i2,r2,p2,_⟩:=I.tuple h2
  have z:i1.toArray.size=i2.toArray.size:=by simp;rw[← r1.length,← r2.length,hl]
  refine SeqAt.RcNeAt.tuples (show s.heap.IsTuple a i1.toArray from p1) (show s.heap.IsTuple b i2.toArray from p2) (by omega) (xQ I r1 r2 hu hi) _ _ _ _ ⟨.bl _,H,I,rfl,?_⟩
  rw[← z,Nat.min_self,beq_self_eq_true,Bool.and_true,List.size_toArray,← r1.length]
  exact q
theorem uh {κ:Type} [DecidableEq κ]:∀ {kvs:List (κ×V)}{k:κ}{v:V},(kvs.map (·.1)).Nodup→(k,v)∈kvs→yK kvs k=some v
 |(k',v')::r,k,v,nd,h=>by
  rw[List.map_cons] at nd
  obtain⟨n1,n2⟩:=List.nodup_cons.mp nd
  rcases List.mem_cons.mp h with e | h
  ·cases e
   exact xy (p:=(k',v')) rfl
  ·have hk:¬ k'=k:=fun z=>n1 (List.mem_map.mpr ⟨(k,v),h,z.symm⟩)
   rw[xz (p:=(k',v')) hk]
   exact uh n2 h
end
structure Callee (P:Program) (w:World) (K:PySem.W.Frag) (mg:Str→Option Value) (base:Heap) (x:Str) (f:Addr) (fd:FuncData) (ps:List Str) (k:Nat) (sp:Sp):Prop where
 ok:FnOk P w K mg base CX0 k f fd ps sp
 g:mg x=some (.ref f)
 kp:PySem.W.keepIn K (.ref f)=true
 b:Binds K fd ps []
structure Maker (P:Program) (w:World) (K:PySem.W.Frag) (mg:Str→Option Value) (base:Heap) (x:Str) (C f:Addr) (fd:FuncData) (ps:List Str) (k:Nat) (sp:Sp):Prop where
 ok:FnOk P w K mg base CX0 k f fd ps sp
 g:mg x=some (.ref C)
 mm:Mk K C f
 b:Binds K fd ps []
section
variable {X:Cx}{k:Nat}{f C:Addr}{fd:FuncData}{ps:List Str}{sp:Sp}{x m:Str}{p pos apos:Pos}{e o:Expr}{es:List Expr}{ta:TE}{t:TA}
theorem XO (c:Callee X.prog X.w X.K X.mg X.base x f fd ps k sp) (hr:Room k X.A) (ha:PA X (e::es) t) (hg:Gl X x:=by rfl) (hdb:(x == ("__debug__" : Str))=false:=by decide)
  (he:starEach (e::es) X.env=(false,eval e X.env)::starEach es X.env:=by rfl) (hpl:(backTo pos (starEach es X.env)).any (·.1)=false:=by rfl):PE X (.Call (.Name x p) (e::es) [] pos) (We sp [] E0 t) :=
 Vs c.ok hr hg c.g c.kp c.b .nil YT ha hdb he hpl
theorem zlI (c:Maker X.prog X.w X.K X.mg X.base x C f fd ps k sp) (hr:Room (k+1) X.A) (ha:PA X (e::es) t) (hg:Gl X x:=by rfl) (hdb:(x == ("__debug__" : Str))=false:=by decide)
  (he:starEach (e::es) X.env=(false,eval e X.env)::starEach es X.env:=by rfl) (hpl:(backTo pos (starEach es X.env)).any (·.1)=false:=by rfl):PE X (.Call (.Name x p) (e::es) [] pos) (Wd C sp [] E0 t) :=
 Vp c.mm c.ok hr hg c.g c.b .nil YT ha hdb he hpl
def ui (X:Cx) (m:Str) (ta:TE) (t:TA):TE:=fun σ H Q=>ta σ H fun x H1=>∃ (a C dx:Addr) (fs:List (Str×V)) (f:Addr) (fd:FuncData) (ps:List Str) (k:Nat) (sp:Sp),x=.ref a∧H1 a=some (.ins C dx fs)∧fs.lookup m=none∧Cls X.K C∧Meth X.K C m f ∧
 FnOk X.prog X.w X.K X.mg X.base CX0 k f fd ps sp∧Room k X.A∧Binds X.K fd ps []∧t σ H1 fun vs H2=>sp (x::(vs++[])) H2 Q E0
theorem YQ {pl:Sem Bool}(he:PE X o ta) (ha:PA X (e::es) t)
  (hst:starEach (e::es) X.env=(false,eval e X.env)::starEach es X.env:=by rfl) (hpl:(backTo pos (starEach es X.env)).any (·.1)=false:=by rfl)
  (ht:eval (.Call (.Attribute o m apos) (e::es) [] pos) X.env=(do
   let ov ← eval o X.env
   standAt apos.atName
   let (f,first) ← holding [ov] (getMethod ov m pl)
   callWith pos f first (backTo pos (starEach (e::es) X.env)) (backToKw pos (keywordEach [] X.env))):=by rfl) :
  PE X (.Call (.Attribute o m apos) (e::es) [] pos) (ui X m ta t):=by
 intro pins s σ H Q I h
 refine PySem.W.methodCall_KW (pl:=pl) (thn (he pins s σ H _ I h) fun u s1 hq0=>?_) ht
 obtain⟨x,H1,I1,rx,a,C,dx,fs,f,fd,ps,k,sp,ex,ea,l,cl,hm,F,hr,hb,q⟩:=hq0
 subst ex
 obtain rfl:u=Value.ref a:=rx
 refine xj I1 ea cl hm l ?_
 refine PySem.W.callWith_K (first:=[.ref a]) (h₀:=X.base) I.ok.mod.kin hm.kp (thn (ha pos pins s1 σ H1 _ I1 q) fun us s2 ⟨vs,H2,I2,r,q2⟩=>⟨I2.kIn,?_⟩) hst hpl
 exact uj (us:=.ref a::us) (vs:=.ref a::vs) F hr hb .nil YT I2 (.cons rfl r) q2
theorem ZF {pl:Sem Bool}(he:PE X o ta)
  (ht:eval (.Call (.Attribute o m apos) [] [] pos) X.env=(do
   let ov ← eval o X.env
   standAt apos.atName
   let (f,first) ← holding [ov] (getMethod ov m pl)
   callWith pos f first (backTo pos (starEach [] X.env)) (backToKw pos (keywordEach [] X.env))):=by rfl) :
  PE X (.Call (.Attribute o m apos) [] [] pos) (ui X m ta zbk):=by
 intro pins s σ H Q I h
 refine PySem.W.methodCall_KW (pl:=pl) (thn (he pins s σ H _ I h) fun u s1 hq0=>?_) ht
 obtain⟨x,H1,I1,rx,a,C,dx,fs,f,fd,ps,k,sp,ex,ea,l,cl,hm,F,hr,hb,q⟩:=hq0
 subst ex
 obtain rfl:u=Value.ref a:=rx
 refine xj I1 ea cl hm l ?_
 exact PySem.W.callWith_K0 (first:=[.ref a]) I1.kIn hm.kp (uj (us:=[.ref a]) (vs:=[.ref a]) F hr hb .nil YT I1 (.cons rfl .nil) q)
end
section
variable {X:Cx}{pins:List (Addr×Obj)}{σ:St}{H:Hp}{s:Shared}{a b:Addr}{xs ys:List V}
theorem Inv.turnedLaid {h':Heap}{t':Nat}{ch:List Addr}{T:Addr}{o:HO}(I:Inv X pins σ H s) (hf:∀ b∈ch,FpOk X pins H b) (k:∀ b u,b∉ch→s.heap.get? b=some u→h'.get? b=some u) (hT:s.heap.objs.size≤T)
  (new:ObjOk X.prog X.w (upd H T o) h' T o):Inv X pins σ (upd H T o) { s with heap:=h',toks:=t' }:=by
 have hn:H T=none:=I.hok.fresh hT
 have nch:∀ b u,H b=some u→b∉ch:=fun b u e hb=>by rw[(hf b hb).1] at e;cases e
 have neT:∀ b u,s.heap.get? b=some u→b≠T:=fun b u e=>Nat.ne_of_lt (Nat.lt_of_lt_of_le (Heap.lt_size e) hT)
 refine I.step (g':=s.gens) (d':=s.drawn) (ch:=ch) (fun b hb=>?_) (fun b u _ _ hc e _=>k b u hc e) (fun b u _ _ hc e _=>⟨u.slots,k b u hc e⟩) (fun b u _ e n=>?_) (fun b u hc e=>⟨u,k b u hc e⟩)
  (fun b zs e=>?_) (fun b ob u e=>?_) (fun b ps e=>⟨#[],?_⟩) (fun m hm=>?_) (fun b u e=>?_) I.bare
 ·exact⟨(hf b hb).2.2.2.1,(hf b hb).2.1,(hf b hb).2.2.2.2.1,(hf b hb).2.2.2.2.2⟩
 ·rw[upd_ne (neT b u e)];exact n
 ·rw[upd_ne (ne_of_none e hn)];exact e
 ·rw[upd_ne (ne_of_none e hn)];exact e
 ·rw[upd_ne (ne_of_none e hn),e];simp
 ·obtain⟨ob,es,ep,ho,r⟩:=hm
  exact⟨ob,es,ep,k _ ob (fun hb=>(hf _ hb).2.1 rfl) ho,r⟩
 ·by_cases hb:b=T
  ·subst hb
   rw[upd_same] at e
   cases e
   exact new
  ·rw[upd_ne hb] at e
   refine(I.hok b u e).stay (fun c v hc q=>k c v ?_ q) (fun c q=>by rw[upd_ne (ne_of_none q hn)];exact q) fun c zs q=>by rw[upd_ne (ne_of_none q hn)];exact q
   rcases hc with z | z
   ·rw[z];exact nch b u e
   ·exact nch c _ z
end
theorem UO {X:Cx}{x:Str}{C:Addr}{pos:Pos}(hm:X.mg x=some (.ref C)) (hg:Gl X x:=by rfl) (hd:(x == ("__debug__" : Str))=false:=by decide):PE X (.Name x pos) (tC (.ref C)):=vX hg hm rfl hd
theorem wB {X:Cx}{x:Str}{n:String}{pos:Pos}(hm:X.mg x=none) (hv:bootBuiltins x=some (.type n)) (hg:Gl X x:=by rfl) (hn:x ≠ "__name__" := by decide) (hd:(x == ("__debug__" : Str))=false:=by decide):PE X (.Name x pos) (tC (.ty n)):=Vu hg hm hv rfl hn hd
theorem yi:bootBuiltins "len" = some (.builtin "len"):=by decide +kernel
theorem X7:bootBuiltins "int" = some (.type "int"):=by decide +kernel
theorem zv:bootBuiltins "isinstance" = some (.builtin "isinstance"):=by decide +kernel
theorem bt_list:bootBuiltins "list" = some (.type "list"):=by decide +kernel
theorem wn:bootBuiltins "dict" = some (.type "dict"):=by decide +kernel
theorem yM:bootBuiltins "sorted" = some (.builtin "sorted"):=by decide +kernel
theorem Yj:bootBuiltins "bool" = some (.type "bool"):=by decide +kernel
theorem yR:bootBuiltins "tuple" = some (.type "tuple"):=by decide +kernel
section
variable {X:Cx}
theorem wY:∀ {ns:LI}{its:List Value},Vals (ns.map V.int) its→IntsAre its ns
 |[],_,r=>by cases r;exact .nil
 |n::ns,_,r=>by
  cases r with
  |cons h t =>
   obtain⟨k,rfl⟩:=h
   exact .cons _ _ (wY t)
theorem ZP:∀ {ns:LI}{its:List Value},IntsAre its ns→Vals (ns.map V.int) its
 |_,_,.nil=>.nil
 |_,_,.cons _ _ t=>.cons ⟨_,rfl⟩ (ZP t)
def Uz (K:PySem.W.Frag):List V→Hp→VK→Prop:=fun xs H Q=>∃ (a:Addr) (ns:LI),xs=[V.ref a]∧SqL K H a (ns.map V.int)∧ns.length<64∧∀ (p:Addr) (ms:LI),H p=none→ms.Perm ns→ms.Pairwise (· ≤ ·)→Q (.ref p) (upd H p (.lst (ms.map V.int)))
theorem xH:xB X (.builtin "sorted") (Uz X.K):=by
 intro pins s σ H xs us Q I r h
 obtain⟨a,ns,rfl,ha,h64,q⟩:=h
 obtain⟨u,rfl,ru⟩:=r.one
 cases ru
 obtain⟨its,rv,p,hz⟩:=I.list ha
 have hl:=rv.length
 rw[List.length_map] at hl hz
 refine sorted_ints p.isList (wY rv) (by omega) fun out ms a1 a2 a3=>?_
 have hn:H (s.heap.objs.size+1)=none:=I.hok.fresh (Nat.le_succ _)
 obtain⟨c,hc⟩:=sortedAll_at s.heap its out
 refine⟨.ref _,_,I.laid (a:=s.heap.objs.size+1) (o:=.lst (ms.map V.int)) (t':=s.toks) (fun _ _ e=>sortedAll_old e) (Nat.le_succ _) ⟨?_,out.toList,c,ZP a1,?_⟩,rfl,q _ ms hn a2 a3⟩
 ·rw[List.length_map,a2.length_eq];exact hz
 ·exact hc
def zlB (K:PySem.W.Frag) (A:Around):R2:=fun x y H Q=>∃ (a b:Addr) (xs ys:List V),x=.ref a∧y=.ref b∧SqL K H a xs∧SqL K H b ys∧xs.length≠ys.length∧A.units<cLine∧Q (.bl true) H
theorem XU:OpR X (compareOp .NotEq) (zlB X.K X.A):=by
 intro pins s σ H x y v u Q I rx ry h
 obtain⟨a,b,xs,ys,rfl,rfl,h1,h2,hl,hu,q⟩:=h
 cases rx;cases ry
 obtain⟨i1,r1,p1,_⟩:=I.list h1
 obtain⟨i2,r2,p2,_⟩:=I.list h2
 exact SeqAt.RcNeAt.lists_lengths p1.isList p2.isList (by simp;rw[← r1.length,← r2.length];exact hl) hu _ _ _ _ ⟨.bl _,H,I,rfl,q⟩
end
theorem ZL {X:Cx}{f:Value→Value→Sem Value}{r1 r2:R2}(h1:OpR X f r1) (h2:OpR X f r2):OpR X f (fun x y H Q=>r1 x y H Q∨r2 x y H Q):=by
 intro pins s σ H x y v u Q I rx ry h
 rcases h with h | h
 ·exact h1 pins s σ H x y v u Q I rx ry h
 ·exact h2 pins s σ H x y v u Q I rx ry h
end L2
namespace K04
open PySem L2
def Ext (l:Addr) (H H':Hp):Prop:=∀ b o,H b=some o→b≠l→H' b=some o
theorem Ext.refl {l:Addr}{H:Hp}:Ext l H H:=fun _ _ e _=>e
theorem Ext.trans {l:Addr}{H H1 H2:Hp}(a:Ext l H H1) (b:Ext l H1 H2):Ext l H H2:=fun c o e n=>b c o (a c o e n) n
theorem Ext.same {l:Addr}{H H':Hp}(a:Same H H'):Ext l H H':=fun c o e _=>a c o e
theorem Ext.new {l p:Addr}{H:Hp}{o:HO}(h:H p=none):Ext l H (upd H p o):=fun c u e _=>by rw[upd_ne (ne_of_none e h)];exact e
theorem Ext.at {l:Addr}{H:Hp}{o:HO}:Ext l H (upd H l o):=fun c u e n=>by rw[upd_ne n];exact e
theorem Same.new {p:Addr}{H:Hp}{o:HO}(h:H p=none):Same H (upd H p o):=fun c u e=>by rw[upd_ne (ne_of_none e h)];exact e
theorem Z9 {i:Nat}{v:V}{τ:St}{H:Hp}{A B:St→Hp→Prop}(h:A (τ.set i (some v)) H):v7 i v τ H fun τ2 H4=>zbi τ2 H4 fun b H5=>if b=true then A τ2 H5 else B τ2 H5:=by
 show if true=true then A (τ.set i (some v)) H else B (τ.set i (some v)) H
 exact xM h
theorem Xn {ns:LI}{lo hi:Option Int}{i:Nat}{y:V}(h:(yV (ns.map V.int) lo hi)[i]?=some y):∃ c,y=.int c:=by
 have hm:=List.mem_of_getElem? h
 unfold yV at hm
 obtain⟨c,_,e⟩:=List.mem_map.mp (List.mem_of_mem_drop (List.mem_of_mem_take hm))
 exact⟨c,e.symm⟩
theorem Xc:((1009:Int).natAbs.log2<9000):=by decide
theorem Xb:((2003:Int).natAbs.log2<9000):=by decide
end K04
namespace L2
open PySem
section
variable {X:Cx}{es:List Expr}{t:TA}{te:TE}
theorem zlL {c j pos}(ha:PE X (.Constant c j pos) te) (hr:PA X es t):PA X (.Constant c j pos::es) (xL te t):=yY ha hr rfl
theorem zlJ {xs c pos}(ha:PE X (.Tuple xs c pos) te) (hr:PA X es t):PA X (.Tuple xs c pos::es) (xL te t):=yY ha hr rfl
theorem zlK {f xs ks pos}(ha:PE X (.Call f xs ks pos) te) (hr:PA X es t):PA X (.Call f xs ks pos::es) (xL te t):=yY ha hr rfl
theorem zlM {l o r pos}(ha:PE X (.BinOp l o r pos) te) (hr:PA X es t):PA X (.BinOp l o r pos::es) (xL te t):=yY ha hr rfl
theorem xJ {x pos}(ha:PE X (.Name x pos) te) (hr:PA X es t):PA X (.Name x pos::es) (xL te t):=yY ha hr rfl
end
end L2
namespace L2
open PySem PySem.Spec PyProof.Rows
section
variable {X:Cx}
def zgg (K:PySem.W.Frag) (te ts:TE):TE:=fun σ H Q=>te σ H fun x H1=>ts σ H1 fun y H2=>y=.int (-1)∧∃ a xs,x=.ref a∧SqL K H2 a xs∧∀ p,H2 p=none→Q (.ref p) (upd H2 p (.lst xs.reverse))
theorem UK {e st:Expr}{te ts:TE}{p2 pos:Pos}(he:PE X e te) (hs:PE X st ts):PE X (.Subscript e (.Slice none none (some st) p2) pos) (zgg X.K te ts):=by
 intro pins s σ H Q I h
 refine Subscript_ (thn (he pins s σ H _ I h) fun v s1 hq0=>?_)
 obtain⟨x,H1,I1,r1,q1⟩:=hq0
 refine wpAny_Slice ?_
 rw[evalPart_none]
 refine wpAny_pure (wpAny_pure ?_)
 rw[evalPart_some]
 refine thn (hs pins s1 σ H1 _ I1 q1) fun w s3 hq0=>?_
 obtain⟨y,H3,I3,r3,ey,a,xs,ex,hx,q⟩:=hq0
 subst ey
 subst ex
 obtain⟨t,rfl⟩:=r3
 cases r1
 have I4:Inv X pins σ H3 { s3 with heap:=s3.heap.push { cls:=.type "slice",data:=.fields #[.none,.none,.int (-1) t] } }:=I3.kept (t':=s3.toks) fun b ob q=>Heap.get?_push_of_some _ q
 obtain⟨its,r,ht,hz⟩:=I4.list hx
 have hlen:=r.length
 refine tail_any (T := "list") (ops:=[.ref a,.ref s3.heap.objs.size]) ht.isList.typeIs slot_list_getitem.lookup ?_ (by with_unfolding_all rfl)
 refine wpAny_getItem_list_slice ht.isList (Heap.IsSliceOf.new ..) .none .none (.int (-1) t) (by simp) ?_ (by rw[List.size_toArray]<;>omega)
 rw[PySem.W.krv_pick]
 refine⟨.ref _,_,I4.laid (t':=s3.toks) (o:=.lst xs.reverse) (fun b ob q=>Heap.get?_push_of_some _ q) (Nat.le_refl _) ?_,rfl,q _ (I4.hok.fresh (Nat.le_refl _))⟩
 exact⟨by rw[List.length_reverse];exact hz,_,0,r.reverse,Heap.get?_push_size _ rfl⟩
end
section
variable {X:Cx}{tg:Expr}
theorem vb:bootBuiltins "reversed" = some (.type "reversed"):=by decide +kernel
end
theorem entry_dul:entryFor table "dict.update.loop" = some Builtin.«dict.update.loop»:=entryFor_of_tree (by kernel_rfl)
theorem plain_dul:plainId "dict.update.loop" = true:=by decide +kernel
theorem ZZ:typeLookup (.type "list") "keys" = pure none:=am_miss_of_fast (by kernel_rfl)
section
variable {P:Program}{w:World}{A:Around}{E:Value→Shared→Prop}{s:Shared}
theorem ZQ {a:Addr}{xs:Array Value}{Q:Option Value→Shared→Prop}(hl:PlainL s.heap a xs) (hA:A.handled=none)
  (q:∀ h' tk,(∀ b o,s.heap.get? b=some o→h'.get? b=some o)→Q none { s with heap:=h',toks:=tk }):wpAny (model P w) A (getAttr? (.ref a) "keys") Q E s:=by
 obtain⟨o,n,hx,hc,hd,hs⟩:=hl
 obtain⟨c,dct,dat,sl⟩:=o
 dsimp only at hc hd hs
 subst hc hd hs
 obtain⟨hp,g,dr,tk0,os⟩:=s
 have hT:∀ tk',(⟨hp,g,dr,tk',os⟩:Shared).TypeIs (.ref a) "list" := fun _=>⟨_,hx,rfl⟩
 have f1:=sub_AttributeError
 have f3:=F.slot_list_getattribute.lookup
 have f4:=F.slot_list_getattribute.bind (.ref a)
 have f5:=am_list_getattr_none
 unfold getAttr? getAttrBy? getAttrBy
 repeat (any_goals (first | assumption | exact hT _ | ((with_reducible show wpAny _ _ (call (Value.builtin "list.__getattribute__") _ _) _ _ _);refine call_meets F.slot_list_getattribute (hT _) am_entry_list_getattribute (F.args_list_getattribute_2 _ _) (meets_getattribute_miss_list a xs n sl "keys" _ ZZ (by decide +kernel) (by decide +kernel)) ⟨hx,hA,fun h1 tk1 e1 ne=>?_⟩) | wp_step))
 obtain⟨t',u',he⟩:=ne.there
 show wpAny _ _ (getattributeRaised _ _ _ _ _ _ _) _ _ _
 unfold getattributeRaised hookOrError attributeErrorLeaves
 repeat (any_goals (first | assumption | wp_step))
 exact q _ _ ne.keeps
variable {K:Type} [DecidableEq K]{knd:KeyKind P w K}
theorem zbd {d I:Addr}{fp wr:List Addr}{n:Nat}{Is:Nat→Value→Prop}{St:Nat→Heap→Prop}{R:Except Value Flow→Shared→Prop}(W:Walks P w A.in1 I fp wr n Is St) (nf:d∉fp) (kvs:List (K×Value)) (hk:kvs.length=n) (hz:n≤1000)
  (h0:Heap) (hI:∀ i v,Is i v→∃ q k,v=.ref q∧(∃ o x,h0.get? q=some o∧o.cls=.type "tuple" ∧ o.data=.seq #[k,(kvs[i]?.map (·.2)).getD .none] x)∧∃ kk,(kvs[i]?.map (·.1))=some kk∧knd.is kk k=true)
  (hq:∀ i v q,Is i v→v=.ref q→q∉wr∧q≠d) :
  ∀ (r j:Nat) (t:Shared) (tk0:Tok),j+r=n→St j t.heap→t.heap.DictOf knd d (merged [] (kvs.take j))→(∀ b o,b∉wr→b≠d→h0.get? b=some o→t.heap.get? b=some o) →
   (∀ h' tk,h'.DictOf knd d (merged [] kvs)→(∀ b o,b∉wr→b≠d→t.heap.get? b=some o→h'.get? b=some o)→R (.ok (.ret .none)) { t with heap:=h',toks:=tk }) →
   codeAny (model P w) A (.builtin "dict.update.loop" ⟨[.ref d,.ref I,.int (j:Int) tk0,.none],[]⟩) R t:=by
 have nw:d∉wr:=fun z=>nf (W.sub _ z)
 intro r
 induction r with
 |zero =>
  intro j t tk0 hj st hd keep fin
  have ej:j=n:=by omega
  subst ej
  refine codeAny_builtin entry_dul (by
   rw[Around.under_plainId plain_dul _]
   show wpAny _ A.in1 (pyNext (.ref I) >>= _) _ _ t
   refine wpAny_bind (W.done t _ _ st fun h1 tk kk=>?_)
   show wpAny _ A.in1 (Builtin.Dict.addKeywords d [] >>= _) _ _ _
   rw[← hk,List.take_length] at hd
   obtain⟨o,ho,hdo⟩:=Heap.dictOf_iff.mp hd
   exact wpAny_bind (wpAny_pure (wpAny_pure (fin h1 tk (Heap.dictOf_iff.mpr ⟨o,kk d o nw ho,hdo⟩) fun b o n1 _ e=>kk b o n1 e))))
 |succ r ih =>
  intro j t tk0 hj st hd keep fin
  refine codeAny_builtin entry_dul (by
   rw[Around.under_plainId plain_dul _]
   show wpAny _ A.in1 (pyNext (.ref I) >>= _) _ _ t
   refine wpAny_bind (W.item j t _ _ (by omega) st fun v h1 tk iv st1 kk=>?_)
   obtain⟨q,k,rfl,⟨o,x,hq0,hc,hs⟩,kx,hkx,hki⟩:=hI j v iv
   obtain⟨nq1,nq2⟩:=hq j _ q iv rfl
   have hq1:=kk q o nq1 (keep q o nq1 nq2 hq0)
   obtain⟨od,hod,hdo⟩:=Heap.dictOf_iff.mp hd
   have hd1:h1.DictOf knd d (merged [] (kvs.take j)):=Heap.dictOf_iff.mpr ⟨od,kk d od nw hod,hdo⟩
   obtain⟨⟨k2,v2⟩,hkv⟩:∃ kv,kvs[j]?=some kv:=⟨kvs[j]'(by omega),by simp[show j<kvs.length by omega]⟩
   rw[hkv] at hs hkx
   cases hkx
   show wpAny _ A.in1 (holding [Value.ref q] (tryCatch (Builtin.Dict.pairItems (Value.ref q)) _ >>= _) >>= _) _ _ _
   refine wpAny_bind (wpAny_holding (wpAny_bind (wpAny_tryCatch ?_)))
   unfold Builtin.Dict.pairItems
   refine wpAny_bind (wpAny_typeOf (T := "tuple") ⟨o,hq1,hc⟩ ?_)
   rw[if_pos (by decide)]
   refine wpAny_bind (wpAny_seqItems hq1 hs (wpAny_pure ?_))
   show wpAny _ A.in1 (holding [k,v2] (dictSet d k v2)) _ _ _
   refine wpAny_holding (wpAny_dictSet_pairs hki hd1 (fun h2 hd2 sb=>?_) ?_)
   ·show wpAny _ A.in1 (pure _) _ _ _
    have hm:=merged_take_succ ([]:List (K×Value)) kvs j (k2,v2) hkv
    refine wpAny_pure ⟨plainId_quiet plain_dul _,ih (j+1) _ _ (by omega) (W.frame _ _ _ st1 fun b hb o e=>?_) (by rw[hm];exact hd2) (fun b o n1 n2 e=>?_) fun h3 tk3 hd3 kk3=>fin h3 tk3 hd3 fun b o n1 n2 e=>kk3 b o n1 n2 ?_⟩
    ·exact(sb.2 b fun z=>nf (z ▸ hb)).trans e
    ·exact(sb.2 b n2).trans (kk b o n1 (keep b o n1 n2 e))
    ·exact(sb.2 b n2).trans (kk b o n1 e)
   ·have:=merged_length_le ([]:List (K×Value)) (kvs.take j)
    rw[List.length_take] at this
    simp only[List.length_nil] at this
    exact Nat.le_trans (show _≤1000 by omega) (by decide))
end
section
variable {X:Cx}
theorem wI:∀ {xs:List V}{us:List Value}{i:Nat}{u:Value},Vals xs us→us[i]?=some u→∃ x,xs[i]?=some x∧RelV x u
 |_,_,0,_,.cons r _,h=>by cases h;exact⟨_,rfl,r⟩
 |_,_,i+1,_,.cons _ t,h=>by
  obtain⟨x,e,r⟩:=wI t (by simpa using h)
  exact⟨x,by simpa using e,r⟩
theorem uv {pins:List (Addr×Obj)}{σ:St}{H:Hp}{s:Shared}(I:Inv X pins σ H s):∀ (qs:List Addr) (kvs:List (Key×V)),qs.length=kvs.length→(∀ (i:Nat) (q:Addr) (kv:Key×V),qs[i]?=some q→kvs[i]?=some kv→H q=some (.tup [kV kv.1,kv.2])) →
  ∃ vs:List (Key×Value),KV kvs vs∧∀ (i:Nat) (q:Addr),qs[i]?=some q→∃ o x k kv,s.heap.get? q=some o∧o.cls=.type "tuple" ∧ o.data=.seq #[k,kv.2] x∧vs[i]?=some kv∧(zr X.prog X.w).is kv.1 k=true
 |[],[],_,_=>⟨[],.nil,fun i q h=>by simp at h⟩
 |q::qs,kv::kvs,hl,h=>by
  obtain⟨vs,r,hv⟩:=uv I qs kvs (by simpa using hl) fun i q' kv' h1 h2=>h (i+1) q' kv' (by simpa using h1) (by simpa using h2)
  have h0:=h 0 q kv rfl rfl
  obtain⟨its,rv,it,_⟩:=I.tuple (SqT.of h0)
  obtain⟨uk,ux,rfl,rk,rx⟩:∃ uk ux,its=[uk,ux]∧RelV (kV kv.1) uk∧RelV kv.2 ux:=by
   cases rv with | cons r1 rv =>
   cases rv with | cons r2 rv =>
   cases rv
   exact⟨_,_,rfl,r1,r2⟩
  obtain⟨o,e,oc,n,od⟩:=it
  refine⟨(kv.1,ux)::vs,.cons ⟨rfl,rx⟩ r,fun i q' hi=>?_⟩
  cases i with
  |zero =>
   cases hi
   exact⟨o,n,uk,(kv.1,ux),e,oc,od,rfl,wX rk⟩
  |succ i=>exact hv i q' (by simpa using hi)
def UC (K:PySem.W.Frag):List V→Hp→VK→Prop:=fun xs H Q=>∃ (a:Addr) (qs:List Addr) (kvs:List (Key×V)),xs=[V.ref a]∧H a=some (.lst (qs.map V.ref))∧qs.length=kvs.length∧kvs.length≤1000∧(∀ (i:Nat) (q:Addr) (kv:Key×V),qs[i]?=some q→kvs[i]?=some kv→H q=some (.tup [kV kv.1,kv.2])) ∧
 ∀ p,H p=none→Q (.ref p) (upd H p (.dK (mergeK [] kvs)))
theorem u6 (hc:X.calm=true):xB X (.type "dict") (UC X.K):=by
 intro pins s σ H xs us Q I r h
 obtain⟨a,qs,kvs,rfl,ha,hl,hz,hq,k⟩:=h
 obtain⟨u,rfl,ru⟩:=r.one
 cases ru
 obtain⟨its,rv,pl,_⟩:=I.list (SqL.of ha)
 have hA:X.A.handled=none:=I.ok.hd hc
 refine callType_codes (Q₁:=fun obj s₁=>obj=.ref s.heap.objs.size∧s₁={ s with heap:=s.heap.push { cls:=.type "dict",data:=.dict #[] } }) F.kt_called_dict (F.kt_typeCall_dict_1 _) F.entry_dict_init (kt_code_dict_new _ ⟨rfl,rfl⟩) ?_
 rintro obj s₁ ⟨rfl,rfl⟩
 have hnew:(s.heap.push { cls:=.type "dict",data:=.dict #[] }).DictOf (zr X.prog X.w) s.heap.objs.size []:=Heap.DictOf.new s.heap
 have lt:a<s.heap.objs.size:=by
  obtain⟨_,e,_⟩:=pl.isList
  exact Heap.lt_size e
 have pl1:PlainL (s.heap.push { cls:=.type "dict",data:=.dict #[] }) a its.toArray:=by
  obtain⟨o,n,e,r⟩:=pl
  exact⟨o,n,Heap.get?_push_of_some _ e,r⟩
 refine⟨hnew.typeIs,F.args_dict_init_2 _ _,?_⟩
 unfold Builtin.«dict.__init__»
 refine wpAny_bind ?_
 unfold Builtin.Dict.selfAndRest
 refine wpAny_bind (wpAny_notOrdered_dict hnew.typeIs ?_)
 show wpAny _ _ (pure (s.heap.objs.size,[Value.ref a])) _ _ _
 refine wpAny_pure ?_
 show wpAny _ _ (Builtin.Dict.updateFrom "dict.__init__" s.heap.objs.size (.ref a) [] .none) _ _ _
 unfold Builtin.Dict.updateFrom
 obtain⟨o,n,e,oc,od,os⟩:=pl1
 refine wpAny_bind (wpAny_typeOf (T := "list") ⟨o,e,oc⟩ ?_)
 rw[if_pos (by decide)]
 refine wpAny_bind (ZQ ⟨o,n,e,oc,od,os⟩ hA fun h1 tk1 kk1=>?_)
 obtain⟨vs,rel,hvs⟩:=uv I qs kvs hl hq
 have hl1:h1.IsList a its.toArray:=⟨o,kk1 _ _ e,oc,n,os⟩
 show wpAny _ _ (rule _ >>= _) _ _ _
 refine wpAny_bind (wpAny_rule (wpAny_bind (wpAny_pyIter_list hl1 ?_)))
 have nd0:(s.heap.push { cls:=.type "dict",data:=.dict #[] }).get? s.heap.objs.size=some { cls:=.type "dict",data:=.dict #[] }:=Heap.get?_push_size _ rfl
 have nd1:=kk1 _ _ nd0
 have ltd:s.heap.objs.size<h1.objs.size:=Heap.lt_size nd1
 have lta:a<h1.objs.size:=Nat.lt_trans lt ltd
 have len:its.toArray.size=vs.length:=by
  have e1:=rv.length
  rw[List.length_map] at e1
  have e2:=rel.length
  simp
  omega
 have lvs:vs.length=kvs.length:=(rel.length).symm
 have W:=Walks.list (prog:=X.prog) (w:=X.w) (A:=X.A.in1.in1) hA h1.objs.size a (Nat.ne_of_lt lta) its.toArray
 have st:((h1.push { cls:=.type "list_iterator",data:=.fields #[.ref a,.int 0 0] }).IsListIter h1.objs.size a 0∧(h1.push { cls:=.type "list_iterator",data:=.fields #[.ref a,.int 0 0] }).IsList a its.toArray):=⟨⟨_,Heap.get?_push_size _ rfl,rfl,rfl⟩,hl1.push _⟩
 have nf:s.heap.objs.size∉[h1.objs.size,a]:=by
  intro z
  rcases List.mem_cons.mp z with z | z
  ·exact Nat.lt_irrefl _ (z ▸ ltd)
  ·exact Nat.lt_irrefl _ ((List.mem_singleton.mp z) ▸ lt)
 have item:∀ (i:Nat) (v:Value),its.toArray[i]?=some v→∃ q:Addr,v=Value.ref q∧qs[i]?=some q:=fun i v hv=>by
  have hv:its[i]?=some v:=by simpa using hv
  obtain⟨x,hx,rx⟩:=wI rv hv
  rw[List.getElem?_map] at hx
  obtain⟨q,hq,rfl⟩:=Option.map_eq_some_iff.mp hx
  exact⟨q,rx,hq⟩
 have hd0:(h1.push { cls:=.type "list_iterator",data:=.fields #[.ref a,.int 0 0] }).DictOf (zr X.prog X.w) s.heap.objs.size []:=by
  obtain⟨od,hod,hdo⟩:=Heap.dictOf_iff.mp hnew
  exact Heap.dictOf_iff.mpr ⟨od,Heap.get?_push_of_some _ (kk1 _ _ hod),hdo⟩
 refine wpAny_pure ⟨plainId_quiet plain_dul _,zbd (A:=X.A.in1) (knd:=zr X.prog X.w) W nf vs len.symm (by omega) s.heap ?_ ?_ its.toArray.size 0 _ 0 (by omega) st hd0 ?_ ?_⟩
 ·intro i v hv
  obtain⟨q,rfl,hq'⟩:=item i v hv
  obtain⟨o,x,k',kv,e1,e2,e3,e4,e5⟩:=hvs i q hq'
  exact⟨q,k',rfl,⟨o,x,e1,e2,by rw[e4];exact e3⟩,kv.1,by rw[e4];rfl,e5⟩
 ·intro i v q hv ev
  obtain⟨q',rfl,hq'⟩:=item i v hv
  cases ev
  obtain⟨o,x,k',kv,e1,_⟩:=hvs i _ hq'
  have l1:=Heap.lt_size e1
  exact⟨fun z=>by rw[List.mem_singleton.mp z] at l1;exact Nat.lt_irrefl _ (Nat.lt_trans l1 ltd),fun z=>by rw[z] at l1;exact Nat.lt_irrefl _ l1⟩
 ·intro b o n1 n2 e
  exact Heap.get?_push_of_some _ (kk1 _ _ (Heap.get?_push_of_some _ e))
 ·intro h' tk hd' kk'
  refine⟨rfl,?_⟩
  refine⟨.ref s.heap.objs.size,_,I.laid (a:=s.heap.objs.size) (o:=.dK (mergeK [] kvs)) (t':=tk) (fun b o e=>?_) (Nat.le_refl _) (Yb ?_ (beq_eq_false_iff_ne.mpr (Ne.symm (Nat.ne_of_lt I.big))) (KV.merge rel .nil) hd'),rfl,k _ (I.hok.fresh (Nat.le_refl _))⟩
  ·have l1:=Heap.lt_size e
   refine kk' b o (fun z=>?_) (fun z=>?_) (Heap.get?_push_of_some _ (kk1 _ _ (Heap.get?_push_of_some _ e)))
   ·rw[List.mem_singleton.mp z] at l1
    exact Nat.lt_irrefl _ (Nat.lt_trans l1 ltd)
   ·rw[z] at l1
    exact Nat.lt_irrefl _ l1
  ·have e1:=(KV.merge rel (.nil:KV ([]:List (Key×V)) [])).length
   have e2:=merged_length_le ([]:List (Key×Value)) vs
   simp only[List.length_nil] at e2
   exact Nat.le_trans (show _≤1000 by omega) (by decide)
end
section
variable {X:Cx}{pins:List (Addr×Obj)}{σ:St}{H G:Hp}{s:Shared}{d:Addr}{od:Obj}{kvs:List (Key×V)}
theorem Inv.froz (I:Inv X pins σ H s) (e:H d=some (.dK kvs)) (q0:s.heap.get? d=some od):Inv X pins σ (upd H d (.frz od (.dK kvs))) s:=by
 have ne:∀ {b:Addr}{o:HO},H b=some o→(∀ kvs,o≠.dK kvs)→upd H d (.frz od (.dK kvs)) b=some o:=fun {b o} q n=>by
  rw[upd_ne (fun z=>by rw[z,e] at q;injection q with q;exact n _ q.symm)];exact q
 have no:∀ {b:Addr},H b=none→upd H d (.frz od (.dK kvs)) b=none:=fun {b} q=>by
  rw[upd_ne (fun z=>by rw[z,e] at q;cases q)];exact q
 refine⟨I.ok,I.os,I.bare,⟨I.base.keep,I.base.slot,fun b o q n x=>no (I.base.free b o q n x),I.base.there,fun b xs q=>ne (I.base.tups b xs q) (fun _ z=>by cases z),fun b o u q=>ne (I.base.frzs b o u q) (fun _ z=>by cases z),fun b ps q=>?_⟩,I.loc,I.cell,no I.free,fun x c q=>no (I.freeC x c q),fun p hp=>?_,fun b o q=>?_,I.len⟩
 ·obtain⟨m,q⟩:=I.base.tbls b ps q
  exact⟨m,ne q (fun _ z=>by cases z)⟩
 ·obtain⟨p1,p2,p3⟩:=I.pin p hp
  exact⟨p1,no p2,p3⟩
 ·have st:∀ {b:Addr}{o:HO},H b=some o→ObjOk X.prog X.w (upd H d (.frz od (.dK kvs))) s.heap b o:=fun {b o} q=>(I.hok b o q).stay (fun c u _ q=>q) (fun c q=>ne q (fun _ z=>by cases z)) fun c xs q=>ne q (fun _ z=>by cases z)
  by_cases c:b=d
  ·subst c
   rw[upd_same] at q
   cases q
   exact⟨q0,st e⟩
  ·rw[upd_ne c] at q
   exact st q
theorem Inv.thaw (I:Inv X pins σ G s) (S:∀ o u,X.H₀ d≠some (.frz o u)) (g:G d=some (.frz od (.dK kvs))):Inv X pins σ (upd G d (.dK kvs)) s:=by
 have ne:∀ {b:Addr}{o:HO},G b=some o→(∀ ob u,o≠.frz ob u)→upd G d (.dK kvs) b=some o:=fun {b o} q n=>by
  rw[upd_ne (fun z=>by rw[z,g] at q;injection q with q;exact n _ _ q.symm)];exact q
 have no:∀ {b:Addr},G b=none→upd G d (.dK kvs) b=none:=fun {b} q=>by
  rw[upd_ne (fun z=>by rw[z,g] at q;cases q)];exact q
 refine⟨I.ok,I.os,I.bare,⟨I.base.keep,I.base.slot,fun b o q n x=>no (I.base.free b o q n x),I.base.there,fun b xs q=>ne (I.base.tups b xs q) (fun _ _ z=>by cases z),fun b o u q=>?_,fun b ps q=>?_⟩,I.loc,I.cell,no I.free,fun x c q=>no (I.freeC x c q),fun p hp=>?_,fun b o q=>?_,I.len⟩
 ·rw[upd_ne (fun(z:b=d)=>S o u (by rw[← z];exact q))]
  exact I.base.frzs b o u q
 ·obtain⟨m,q⟩:=I.base.tbls b ps q
  exact⟨m,ne q (fun _ _ z=>by cases z)⟩
 ·obtain⟨p1,p2,p3⟩:=I.pin p hp
  exact⟨p1,no p2,p3⟩
 ·have st:∀ {b:Addr}{o:HO},ObjOk X.prog X.w G s.heap b o→ObjOk X.prog X.w (upd G d (.dK kvs)) s.heap b o:=fun {b o} q=>q.stay (fun c u _ q=>q) (fun c q=>ne q (fun _ _ z=>by cases z)) fun c xs q=>ne q (fun _ _ z=>by cases z)
  by_cases c:b=d
  ·subst c
   rw[upd_same] at q
   cases q
   exact st (I.hok b _ g).2
  ·rw[upd_ne c] at q
   exact st (I.hok b o q)
theorem KV.getAt:∀ {kvs:List (Key×V)}{vs:List (Key×Value)},KV kvs vs→∀ {i:Nat}{p:Key×V},kvs[i]?=some p→∃ u,vs[i]?=some (p.1,u)∧RelV p.2 u
 |_,_,.nil,i,p,h=>by cases h
 |_,_,.cons (b:=q) r t,0,p,h=>by
  cases h
  exact⟨q.2,by rw[r.1];rfl,r.2⟩
 |_,_,.cons r t,i+1,p,h=>KV.getAt t (i:=i) h
end
section
variable {X:Cx}
def zlG (K:PySem.W.Frag) (A:Around):R2:=fun x y H Q=>∃ (a b:Addr) (xs ys:List V),x=.ref a∧y=.ref b∧SqL K H a xs∧SqL K H b ys∧xs.length≠ys.length∧A.units<cLine∧Q (.bl false) H
theorem US:OpR X (compareOp .Eq) (zlG X.K X.A):=by
 intro pins s σ H x y v u Q I rx ry h
 obtain⟨a,b,xs,ys,rfl,rfl,h1,h2,hl,hu,q⟩:=h
 cases rx;cases ry
 obtain⟨i1,r1,p1,_⟩:=I.list h1
 obtain⟨i2,r2,p2,_⟩:=I.list h2
 exact SeqAt.RcAt.lists_lengths p1.isList p2.isList (by simp;rw[← r1.length,← r2.length];exact hl) hu _ _ _ _ ⟨.bl _,H,I,rfl,q⟩
def EqP (X:Cx) (H:Hp) (x y:V) (b:Bool) (n:Nat):Prop:=∀ (pins:List (Addr×Obj)) (σ:St) (s:Shared),Inv X pins σ H s→∀ (A:Around) (u v:Value),A.units+n<cLine→RelV x u→RelV y v→SeqAt.EqAt A s u v b
theorem EqP.of {H:Hp}{x y:V}{b:Bool}{n:Nat}(h:EqD X.K H x y b n):EqP X H x y b n:=fun pins σ s I A u v hu r1 r2=>h.at I A u v hu r1 r2
theorem EqP.same {H:Hp}{a:Addr}{n:Nat}:EqP X H (.ref a) (.ref a) true n:=fun pins σ s I A u v hu rx ry=>by
 cases rx;cases ry
 exact SeqAt.EqAt.same _
theorem wE {pins:List (Addr×Obj)}{σ:St}{H:Hp}{s:Shared}{A:Around}{xs ys:List V}{i1 i2:List Value}{e:Nat→Bool}{n:Nat}(I:Inv X pins σ H s) (r1:Vals xs i1) (r2:Vals ys i2) (hu:A.units+n+2<cLine)
  (h:∀ (j:Nat) x y,xs[j]?=some x→ys[j]?=some y→EqP X H x y (e j) n):∀ (j:Nat) (h1:j<i1.toArray.size) (h2:j<i2.toArray.size),SeqAt.EqAt A.in1 s i1.toArray[j] i2.toArray[j] (e j):=fun j h1 h2=>by
 have g1:j<xs.length:=by rw[r1.length];simpa using h1
 have g2:j<ys.length:=by rw[r2.length];simpa using h2
 obtain⟨u1,e1,q1⟩:=r1.get (i:=j) (x:=xs[j]) (by simp[g1])
 obtain⟨u2,e2,q2⟩:=r2.get (i:=j) (x:=ys[j]) (by simp[g2])
 have f1:i1.toArray[j]=u1:=by
  obtain⟨_,z⟩:=List.getElem?_eq_some_iff.mp e1
  simpa using z
 have f2:i2.toArray[j]=u2:=by
  obtain⟨_,z⟩:=List.getElem?_eq_some_iff.mp e2
  simpa using z
 rw[f1,f2]
 exact(h j _ _ (by simp[g1]) (by simp[g2])) _ _ _ I A.in1 u1 u2 (by rw[yt];omega) q1 q2
theorem EqP.lst {H:Hp}{a b:Addr}{xs ys:List V}{n:Nat}(ha:SqL X.K H a xs) (hb:SqL X.K H b ys) (hl:xs.length=ys.length) (h:∀ (j:Nat) x y,xs[j]?=some x→ys[j]?=some y→EqP X H x y true n):EqP X H (.ref a) (.ref b) true (n+2):=fun pins σ s I A u v hu rx ry=>by
 by_cases hne:a=b
 ·subst hne;exact EqP.same _ _ _ I A u v hu rx ry
 ·cases rx;cases ry
  obtain⟨i1,r1,p1,_⟩:=I.list ha
  obtain⟨i2,r2,p2,_⟩:=I.list hb
  have l1:=r1.length
  have l2:=r2.length
  refine SeqAt.EqAt.of_refs hne ?_
  have q:=SeqAt.RcAt.lists (A:=A) (s:=s) (e:=fun _=>true) p1.isList p2.isList (by simp;omega) (by omega) (wE I r1 r2 (by omega) h)
  have e:((List.range i1.toArray.size).all fun _=>true)=true:=by simp
  rw[e] at q
  exact q
theorem EqP.tup {H:Hp}{a b:Addr}{xs ys:List V}{n:Nat}(ha:SqT X.K H a xs) (hb:SqT X.K H b ys) (hl:xs.length=ys.length) (h:∀ (j:Nat) x y,xs[j]?=some x→ys[j]?=some y→EqP X H x y true n):EqP X H (.ref a) (.ref b) true (n+2):=fun pins σ s I A u v hu rx ry=>by
 by_cases hne:a=b
 ·subst hne;exact EqP.same _ _ _ I A u v hu rx ry
 ·cases rx;cases ry
  obtain⟨i1,r1,p1,_⟩:=I.tuple ha
  obtain⟨i2,r2,p2,_⟩:=I.tuple hb
  have l1:=r1.length
  have l2:=r2.length
  refine SeqAt.EqAt.of_refs hne ?_
  have q:=SeqAt.RcAt.tuples (A:=A) (s:=s) (e:=fun _=>true) (show s.heap.IsTuple a i1.toArray from p1) (show s.heap.IsTuple b i2.toArray from p2) (by omega) (wE I r1 r2 (by omega) h)
  have z:i1.toArray.size=i2.toArray.size:=by simp;omega
  have e:((List.range i1.toArray.size).all fun _=>true)=true:=by simp
  rw[← z,Nat.min_self,beq_self_eq_true,Bool.and_true,e] at q
  exact q
def zjB (X:Cx) (neg:Bool):R2:=fun x y H Q=>∃ (a b:Addr) (xs ys:List V) (n:Nat),x=.ref a∧y=.ref b∧((SqL X.K H a xs∧SqL X.K H b ys)∨(SqT X.K H a xs∧SqT X.K H b ys))∧xs.length=ys.length∧X.A.units+n+2<cLine ∧
 (∀ (j:Nat) x y,xs[j]?=some x→ys[j]?=some y→EqP X H x y true n)∧Q (.bl (!neg)) H
theorem zjD:OpR X (compareOp .Eq) (zjB X false):=by
 intro pins s σ H x y v u Q I rx ry h
 obtain⟨a,b,xs,ys,n,rfl,rfl,hq,hl,hu,hi,q⟩:=h
 cases rx;cases ry
 rcases hq with⟨h1,h2⟩ | ⟨h1,h2⟩
 ·obtain⟨i1,r1,p1,_⟩:=I.list h1
  obtain⟨i2,r2,p2,_⟩:=I.list h2
  refine SeqAt.eq_listAt (e:=fun _=>true) p1.isList p2.isList (by simp;rw[← r1.length,← r2.length,hl]) (by omega) (wE I r1 r2 hu hi) ⟨.bl true,H,I,?_,q⟩
  have e:((List.range i1.toArray.size).all fun _=>true)=true:=by simp
  rw[e]
  rfl
 ·obtain⟨i1,r1,p1,_⟩:=I.tuple h1
  obtain⟨i2,r2,p2,_⟩:=I.tuple h2
  have z:i1.toArray.size=i2.toArray.size:=by simp;rw[← r1.length,← r2.length,hl]
  refine SeqAt.eq_tupleAt (e:=fun _=>true) (show s.heap.IsTuple a i1.toArray from p1) (show s.heap.IsTuple b i2.toArray from p2) (by omega) (wE I r1 r2 hu hi) ⟨.bl true,H,I,?_,q⟩
  have e:((List.range i1.toArray.size).all fun _=>true)=true:=by simp
  rw[← z,Nat.min_self,beq_self_eq_true,Bool.and_true,e]
  rfl
theorem UQ:OpR X (compareOp .NotEq) (zjB X true):=by
 intro pins s σ H x y v u Q I rx ry h
 obtain⟨a,b,xs,ys,n,rfl,rfl,hq,hl,hu,hi,q⟩:=h
 cases rx;cases ry
 rcases hq with⟨h1,h2⟩ | ⟨h1,h2⟩
 ·obtain⟨i1,r1,p1,_⟩:=I.list h1
  obtain⟨i2,r2,p2,_⟩:=I.list h2
  refine SeqAt.RcNeAt.lists (e:=fun _=>true) p1.isList p2.isList (by simp;rw[← r1.length,← r2.length,hl]) (by omega) (wE I r1 r2 hu hi) _ _ _ _ ⟨.bl false,H,I,?_,q⟩
  have e:((List.range i1.toArray.size).all fun _=>true)=true:=by simp
  rw[e]
  rfl
 ·obtain⟨i1,r1,p1,_⟩:=I.tuple h1
  obtain⟨i2,r2,p2,_⟩:=I.tuple h2
  have z:i1.toArray.size=i2.toArray.size:=by simp;rw[← r1.length,← r2.length,hl]
  refine SeqAt.RcNeAt.tuples (e:=fun _=>true) (show s.heap.IsTuple a i1.toArray from p1) (show s.heap.IsTuple b i2.toArray from p2) (by omega) (wE I r1 r2 hu hi) _ _ _ _ ⟨.bl false,H,I,?_,q⟩
  have e:((List.range i1.toArray.size).all fun _=>true)=true:=by simp
  rw[← z,Nat.min_self,beq_self_eq_true,Bool.and_true,e]
  rfl
end
structure Bx (p:Prop):Prop where
 of:p
theorem zT {X:Cx}{body:List Stmt}{q:TS→Prop}{t:TS}(h:Bx (PSs X body t)) (k:q t):∃ t,PSs X body t∧q t:=⟨t,h.of,k⟩
theorem vc {X:Cx}{e:Expr}{t:TT}(h:Bx (PW X e t)):Bx (PT X e t):=⟨h.of.pt⟩
section
variable {X:Cx}
theorem zf {i j pos}:Bx (PE X (.Constant (.int i) j pos) (tC (.int i))):=⟨xn⟩
theorem zD {b j pos}:Bx (PE X (.Constant (.bool b) j pos) (tC (.bl b))):=⟨wq⟩
theorem yO {j pos}:Bx (PE X (.Constant .none j pos) (tC .non)):=⟨UL⟩
variable {a b:Expr}{ta tb:TE}{pos:Pos}
theorem Ys {op:CmpOp}{t:TE}(h:Bx (PC X op a b t)) (h1:behindInMarks op b=false:=by first | exact nobehind _ (by decide) (by decide) | rfl):Bx (PE X (.Compare a [op] [b] pos) t):=⟨UN h.of h1⟩
theorem xN {op:CmpOp}{t:TE}(h:Bx (PC X op a b t)) (h1:behindInMarks op b=false:=by first | exact nobehind _ (by decide) (by decide) | rfl):Bx (PT X (.Compare a [op] [b] pos) (tB t)):=⟨XI h.of h1⟩
theorem zF {e:Expr}{t:TE}(h:Bx (PE X e t)) (he:∀ whole,isTrue e X.env whole=(do let v ← whole;standAt e.pos;holding [v] (truthy v)):=by intro _;rfl):Bx (PT X e (tB t)):=⟨xl h.of he⟩
variable {a b:Expr}{ta tb:TE}{pos:Pos}
variable {tA tB':TT}{rest:List Expr}
theorem yB (ha:Bx (PT X a tA)):Bx (PW X (.BoolOp .And [a] pos) tA):=⟨Vf ha.of⟩
theorem yj (ha:Bx (PT X a tA)):Bx (PW X (.BoolOp .Or [a] pos) tA):=⟨wA ha.of⟩
theorem yN (ha:Bx (PT X a tA)) (hb:Bx (PW X (.BoolOp .And (b::rest) pos) tB')):Bx (PW X (.BoolOp .And (a::b::rest) pos) (zgo tA tB')):=⟨UD ha.of hb.of⟩
theorem yo (ha:Bx (PT X a tA)) (hb:Bx (PW X (.BoolOp .Or (b::rest) pos) tB')):Bx (PW X (.BoolOp .Or (a::b::rest) pos) (tOr tA tB')):=⟨vo ha.of hb.of⟩
theorem zI (ha:Bx (PT X a tA)):Bx (PT X (.UnaryOp .Not a pos) (zgi tA)):=⟨xm ha.of⟩
theorem xh {op}{t:TE}(h:Bx (PE X a t)):Bx (PE X (.BoolOp op [a] pos) t):=⟨ZE h.of⟩
theorem xw (ha:Bx (PE X a ta)) (hb:Bx (PE X (.BoolOp .And (b::rest) pos) tb)):Bx (PE X (.BoolOp .And (a::b::rest) pos) (tAndV ta tb)):=⟨uu ha.of hb.of⟩
theorem Zd (ha:Bx (PE X a ta)) (hb:Bx (PE X (.BoolOp .Or (b::rest) pos) tb)):Bx (PE X (.BoolOp .Or (a::b::rest) pos) (zbj ta tb)):=⟨zdc ha.of hb.of⟩
theorem Yr (ha:Bx (PE X a ta)):Bx (PE X (.UnaryOp .Not a pos) (Uh ta)):=⟨XM ha.of⟩
end
section
variable {X:Cx}{st:Stmt}{rest:List Stmt}{t u:TS}{e:Expr}{te:TE}{pos:Pos}
theorem zo  : Bx (PSs X [] Ui):=⟨yP⟩
theorem zb (h1:Bx (PS X st t)) (h2:Bx (PSs X rest u)):Bx (PSs X (st::rest) (zgf t u)):=⟨zK h1.of h2.of⟩
theorem ze (h1:Bx (PS X st t)):Bx (PSs X [st] t):=⟨zY h1.of⟩
theorem zP (he:Bx (PE X e te)) (hs:swapsWith e none pos.line X.env=pure false:=by rfl):Bx (PS X (.Expr e pos) (Ul te)):=⟨vU he.of hs⟩
theorem zh (he:Bx (PE X e te)):Bx (PS X (.Return (some e) pos) (zgh te)):=⟨yS he.of⟩
theorem zy {c:Expr}{a b:List Stmt}{tc:TT}(hc:Bx (PT X c tc)) (ha:Bx (PSs X a t)) (hb:Bx (PSs X b u)):Bx (PS X (.If c a b pos) (zgk tc t u)):=⟨wQ hc.of ha.of hb.of⟩
theorem uH  : Bx (PS X st Xy):=⟨wP⟩
end
section
variable {X:Cx}{pos:Pos}
theorem zi {i:Nat}{x:Str}(hN:X.N.Nodup) (hi:X.N[i]?=some x) (hx:Loc X.env.scope x) (hf:X.fn x=true∨X.env.scope.names.lookup x=some .local:=by first | exact .inl rfl | exact .inr rfl | assumption):Bx (PG X (.Name x pos) (v7 i)):=⟨xE hN hi hx hf⟩
theorem zH  : Bx (PGs X [] gNil):=⟨ZC⟩
theorem zm {e:Expr}{es:List Expr}{t:TG}{u:TGs}(h1:Bx (PG X e t)) (h2:Bx (PGs X es u)) (hs:(assignEach (e::es) X.env).map (·.2)=assign e X.env::(assignEach es X.env).map (·.2):=by rfl):Bx (PGs X (e::es) (zbb t u)):=⟨wS h1.of h2.of hs⟩
theorem zU {es:List Expr}{k:Nat}{t:TGs}{n:Nat}(hc:X.calm=true) (h:Bx (PGs X es t)) (hn:(assignEach es X.env).length=n:=by rfl) (hst:(assignEach es X.env).findIdx? (·.1)=none:=by rfl):Bx (PG X (.Tuple es k pos) (zkM X.K n t)):=⟨XJ hc h.of hn hst⟩
theorem ud {tg e:Expr}{te:TE}{g:TG}(he:Bx (PE X e te)) (hg:Bx (PG X tg g)) (hs:swapsWithSole [tg] e pos.line X.env=pure false:=by rfl) (hw:swappedStores [tg] e X.env=pure none:=by rfl) (h1:(assignEach [tg] X.env).map (·.2)=[assign tg X.env]:=by rfl):Bx (PS X (.Assign [tg] e pos) (VO te g)):=⟨UE he.of hg.of hs hw h1⟩
theorem zj {i:Nat}{x:Str}{e:Expr}{te:TE}{pos':Pos}(hN:X.N.Nodup) (hi:X.N[i]?=some x) (hx:Loc X.env.scope x) (he:Bx (PE X e te)) (hs:swapsWith e (some (.Name x pos')) pos.line X.env=pure false:=by rfl) (hf:X.fn x=true∨X.env.scope.names.lookup x=some .local:=by first | exact .inl rfl | exact .inr rfl | assumption):Bx (PS X (.Assign [.Name x pos'] e pos) (VO te (v7 i))):=⟨vp hN hi hx he.of hs hf⟩
theorem xg {c:Expr}{body:List Stmt}{tc:TT}{tb:TS}(hp:PassesOwn (model X.prog X.w) X.A X.env X.xe) (hc:Bx (PT X c tc)) (hb:Bx (PSs X body tb)):Bx (PS X (.While c body [] pos) (Xx tc tb)):=⟨YK hp hc.of hb.of⟩
end
section
variable {X:Cx}{tg:Expr}
theorem zC {l:Expr}{tl:TE}(hl:Bx (PE X l tl)):Bx (PI X tg l (zba X.K tl)):=⟨xZ hl.of⟩
theorem ue {l:Expr}{tl:TE}(hl:Bx (PE X l tl)):Bx (PI X tg l (zkJ X.K tl)):=⟨UF hl.of⟩
theorem yD {a:Expr}{ta:TA}{p pos:Pos}(hg:Gl X "range") (hm:X.mg "range" = none) (ha:Bx (PA X [a] ta)) (hs:starEach [a] X.env=[(false,eval a X.env)]:=by rfl):Bx (PI X tg (.Call (.Name "range" p) [a] [] pos) (za9 ta)):=⟨Zx hg hm ha.of hs⟩
theorem zG {iter:Expr}{body:List Stmt}{wi:TI}{g:TG}{tb:TS}{pos:Pos}(hp:PassesOwn (model X.prog X.w) X.A X.env X.xe) (hc:X.calm=true) (hi:Bx (PI X tg iter wi)) (hg:Bx (PG X tg g)) (hb:Bx (PSs X body tb)) (hs:∀ x,foldedSetIterable iter X.env x=pure x:=by intro _;rfl):Bx (PS X (.For tg iter body [] pos) (zgl wi g tb)):=⟨vq hp hc hi.of hg.of hb.of hs⟩
end
section
variable {X:Cx}{a b c:Expr}{ta tb tc:TE}{pos:Pos}
theorem zq {op:Operator}{r:R2}(ho:OpR X (binaryOp op) r) (ha:Bx (PE X a ta)) (hb:Bx (PE X b tb)):Bx (PE X (.BinOp a op b pos) (tOp r ta tb)):=⟨zdd ho ha.of hb.of⟩
theorem yp {op:UnaryOp}{r:V→Hp→VK→Prop}(ho:UnR X (unaryOp op) r) (ha:Bx (PE X a ta)):Bx (PE X (.UnaryOp op a pos) (tUn r ta)):=⟨UI ho ha.of⟩
theorem yf {op:CmpOp}{r:R2}(ho:OpR X (compareOp op) r) (ha:Bx (PE X a ta)) (hb:Bx (PE X b tb)) (hm:behindInMarks op b=false):Bx (PE X (.Compare a [op] [b] pos) (tOp r ta tb)):=⟨wT ho ha.of hb.of hm⟩
theorem zn {op:CmpOp}{r:R2}(ho:OpR X (compareOp op) r) (ha:Bx (PE X a ta)) (hb:Bx (PE X b tb)) (hm:behindInMarks op b=false):Bx (PT X (.Compare a [op] [b] pos) (Ue (tOp r ta tb))):=⟨xD ho ha.of hb.of hm⟩
end
section
variable {X:Cx}{o e value:Expr}{f:Str}{pos pos' tpos:Pos}{ta tv:TE}
theorem yx (he:Bx (PE X e ta)) (hb:attributeBase e f X.env (eval e X.env)=eval e X.env):Bx (PE X (.Attribute e f pos) (zgm X.K ta f)):=⟨UM he.of hb⟩
theorem uc (ha:Bx (PE X o ta)) (hv:Bx (PE X value tv)) (hs:swapsWith value (some (.Attribute o f pos')) pos.line X.env=pure false):Bx (PS X (.Assign [.Attribute o f pos'] value pos) (zjy X.K ta tv f)):=⟨ul ha.of hv.of hs⟩
end
section
variable {X:Cx}{e:Expr}{es:List Expr}{te:TE}{t:TA}{pos:Pos}
theorem za  : Bx (PA X [] zbk):=⟨yh⟩
theorem zu (ha:Bx (PE X e te)) (hr:Bx (PA X es t)) (hs:starEach (e::es) X.env=(false,eval e X.env)::starEach es X.env:=by rfl):Bx (PA X (e::es) (xL te t)):=⟨yY ha.of hr.of hs⟩
theorem zJ {x1}(h:Bx (PA X es t)):Bx (PE X (.Tuple es x1 pos) (zga t)):=⟨UJ h.of⟩
theorem zE (h:Bx (PA X es t)):Bx (PE X (.List es pos) (zgj t)):=⟨XN h.of⟩
end
section
variable {X:Cx}{CX:CXT}{k:Nat}{f C:Addr}{fd:FuncData}{ps:List Str}{sp:Sp}{dvs:List V}{ds:List Value}{E:XK}{x m:Str}{p pos apos:Pos}{e o:Expr}{es:List Expr}{ta:TE}{t:TA}
theorem V8 {pl:Sem Bool}(he:Bx (PE X o ta)) (c:Cls X.K C) (hm:Meth X.K C m f) (F:FnOk X.prog X.w X.K X.mg X.base CX k f fd ps sp) (hr:Room k X.A) (hb:Binds X.K fd ps ds) (hd:Vals dvs ds) (hx:wp CX X E) (ha:Bx (PA X (e::es) t)) (hst:starEach (e::es) X.env=(false,eval e X.env)::starEach es X.env:=by rfl) (hpl:(backTo pos (starEach es X.env)).any (·.1)=false:=by rfl) (ht:eval (.Call (.Attribute o m apos) (e::es) [] pos) X.env=(do
   let ov ← eval o X.env
   standAt apos.atName
   let (f,first) ← holding [ov] (getMethod ov m pl)
   callWith pos f first (backTo pos (starEach (e::es) X.env)) (backToKw pos (keywordEach [] X.env))):=by rfl):Bx (PE X (.Call (.Attribute o m apos) (e::es) [] pos) (Uj C m sp dvs E ta t)):=⟨Vo he.of c hm F hr hb hd hx ha.of hst hpl ht⟩
end
section
variable {X:Cx}{x:Str}{p pos:Pos}{e:Expr}{es:List Expr}{t:TA}{id T:String}{r:List V→Hp→VK→Prop}
theorem zl (hc:xB X (.builtin id) r) (hg:Gl X x) (hm:X.mg x=none) (hv:bootBuiltins x=some (.builtin id)) (ha:Bx (PA X (e::es) t)) (hn:x ≠ "__name__" := by decide) (hdb:(x == ("__debug__" : Str))=false:=by decide) (he:starEach (e::es) X.env=(false,eval e X.env)::starEach es X.env:=by rfl) (hpl:(backTo pos (starEach es X.env)).any (·.1)=false:=by rfl):Bx (PE X (.Call (.Name x p) (e::es) [] pos) (tCB r t)):=⟨yq hc hg hm hv ha.of hn hdb he hpl⟩
theorem zX (hc:xB X (.type T) r) (hg:Gl X x) (hm:X.mg x=none) (hv:bootBuiltins x=some (.type T)) (ha:Bx (PA X (e::es) t)) (hn:x ≠ "__name__" := by decide) (hdb:(x == ("__debug__" : Str))=false:=by decide) (he:starEach (e::es) X.env=(false,eval e X.env)::starEach es X.env:=by rfl) (hpl:(backTo pos (starEach es X.env)).any (·.1)=false:=by rfl):Bx (PE X (.Call (.Name x p) (e::es) [] pos) (tCB r t)):=⟨vv hc hg hm hv ha.of hn hdb he hpl⟩
end
section
variable {X:Cx}{e:Expr}{te:TE}{lo hi:Option Expr}{tl th:TO}{pos p2:Pos}
theorem ya  : Bx (PO X none Zi):=⟨Vm⟩
theorem zV (h:Bx (PE X e te)):Bx (PO X (some e) (Ug te)):=⟨po_some h.of⟩
theorem zO {r:V→Option Int→Option Int→Hp→VK→Prop}(hr:SlR X r) (he:Bx (PE X e te)) (hl:Bx (PO X lo tl)) (hu:Bx (PO X hi th)):Bx (PE X (.Subscript e (.Slice lo hi none p2) pos) (tSl r te tl th)):=⟨YO hr he.of hl.of hu.of⟩
end
section
variable {X:Cx}{a b:Expr}{ta tb:TE}{pos:Pos}
theorem zx {r:R2}(hr:IxR X r) (ha:Bx (PE X a ta)) (hb:Bx (PE X b tb)) (hs:Yo b):Bx (PE X (.Subscript a b pos) (tOp r ta tb)):=⟨vW hr ha.of hb.of hs⟩
variable {o e:Expr}{es:List Expr}{to:TE}{t:TA}{name:Str}{apos cpos:Pos}{T id:String}{r:V→List V→Hp→VK→Prop}
theorem ym (pa:PlainAttrs T) (slot:Slot T name id) (hty:typeOf (.builtin id)=pure (.type "method_descriptor")) (hm:MtR X id r) (ho:Bx (PE X o to)) (ha:Bx (PA X (e::es) t)) (hbase:attributeBase o name X.env (eval o X.env)=eval o X.env:=by rfl) (hfew:((backTo cpos (starEach (e::es) X.env)).all (fun x=>!x.1)&&(backToKw cpos (keywordEach [] X.env)).all (fun x=>x.1.isSome)
   && decide ((e::es).length+([]:List Keyword).length+(if ([]:List Keyword).isEmpty then 0 else 1)<30))=true:=by rfl) (hline:(apos.endLine == cpos.line)=true:=by rfl) (hs:starEach (e::es) X.env=(false,eval e X.env)::starEach es X.env:=by rfl) (hplain:(backTo cpos (starEach es X.env)).any (·.1)=false:=by rfl):Bx (PE X (.Call (.Attribute o name apos) (e::es) [] cpos) (tBM X.K T r to t)):=⟨Vt pa slot hty hm ho.of ha.of hbase hfew hline hs hplain⟩
end
section
variable {X:Cx}{o i e value:Expr}{pos pos' tpos:Pos}{td ty tv:TE}
theorem xv (hu:X.A.units+1<cLine) (ho:Bx (PE X o td)) (hi:Bx (PE X i ty)) (hs:zf6 i):Bx (PE X (.Subscript o i pos) (Uo td ty)):=⟨vY hu ho.of hi.of hs⟩
theorem wG (hu:X.A.units+1<cLine) (hi:Bx (PE X i ty)) (ho:Bx (PE X o td)):Bx (PC X .In i o (zgn ty td)):=⟨XQ hu hi.of ho.of⟩
theorem xU (hu:X.A.units+1<cLine) (hi:Bx (PE X i ty)) (ho:Bx (PE X o td)):Bx (PC X .NotIn i o (Zj ty td)):=⟨ZG hu hi.of ho.of⟩
theorem yL (hu:X.A.units+1<cLine) (ho:Bx (PE X o td)) (hi:Bx (PE X i ty)) (hv:Bx (PE X value tv)) (hs:swapsWith value (some (.Subscript o i pos')) pos.line X.env=pure false):Bx (PS X (.Assign [.Subscript o i pos'] value pos) (Ut td ty tv)):=⟨vV hu ho.of hi.of hv.of hs⟩
end
section
variable {X:Cx}{pos:Pos}
theorem uJ  : Bx (PE X (.Dict [] [] pos) XA):=⟨ut⟩
theorem yA  : Bx (PE X (.Dict [] [] pos) Xz):=⟨ur⟩
end
section
variable {X:Cx}{o e f:Expr}{apos cpos:Pos}{td ty tx:TE}
theorem wv (hu:X.A.units+1<cLine) (ho:Bx (PE X o td)) (he:Bx (PE X e ty)) (m:M1 X o "get" apos e cpos):Bx (PE X (.Call (.Attribute o "get" apos) [e] [] cpos) (XC td ty)):=⟨YS hu ho.of he.of m⟩
theorem uK (hu:X.A.units+1<cLine) (ho:Bx (PE X o td)) (he:Bx (PE X e ty)) (hf:Bx (PE X f tx)) (m:M2 X o "get" apos e f cpos):Bx (PE X (.Call (.Attribute o "get" apos) [e,f] [] cpos) (XB td ty tx)):=⟨YR hu ho.of he.of hf.of m⟩
end
section
variable {X:Cx}
theorem zg (i:Nat){x:Str}{pos:Pos}(hN:X.N[i]?=some x:=by rfl) (hv:Vis X.env.scope x:=by first | exact Or.inl rfl | exact Or.inr (Or.inl rfl) | exact Or.inr (Or.inr rfl)) (hd:(x == ("__debug__" : Str))=false:=by decide) (hcd:(x == ("__classdict__" : Str))=false:=by decide):Bx (PE X (.Name x pos) (zcq i)):=⟨pv i hN hv hd hcd⟩
end
section
theorem vd {X:Cx}{st:Stmt}{rest:List Stmt}{t u:TS}(h1:Bx (PS X st t)) (h2:Bx (PSs X rest u)):Bx (PSs X (st::rest) (Uf t u)):=⟨Vi h1.of h2.of⟩
theorem yC {X:Cx}:Bx (PTs X [] zbi):=⟨Vh⟩
theorem xS {X:Cx}{c:Expr}{t:TT}(h:Bx (PT X c t)):Bx (PTs X [c] t):=⟨Vg h.of⟩
end
section
variable {X:Cx}{tg iter elt:Expr}{ifs:List Expr}{scope:Scope}{pos:Pos}{N':List Str}{t:Nat}{caps:List Nat}{g:Blk→TG}{tc:Blk→TT}{te:Blk→TE}{wi:TI}
theorem yr (hc:X.calm=true) (S:CompOk X scope N' t caps) (hi:Bx (PI X tg iter wi)) (hg:∀ b,Bx (PG (cxB X scope N' b) tg (g b))) (ht:∀ b,Bx (PTs (cxB X scope N' b) ifs (tc b))) (he:∀ b,Bx (PE (cxB X scope N' b) elt (te b))) (hs:∀ x,foldedSetIterable iter X.env x=pure x:=by intro _;rfl):Bx (PE X (.ListComp elt [⟨tg,iter,ifs,0⟩] scope pos) (YB wi g tc te t caps)):=⟨Vr hc S hi.of (fun x0=>(hg x0).of) (fun x0=>(ht x0).of) (fun x0=>(he x0).of) hs⟩
theorem xI {i:Nat}{y:Str}{py spos:Pos}(hc:X.calm=true) (hN:X.N.Nodup) (hiy:X.N[i]?=some y) (hy:Loc X.env.scope y) (S:CompOk X scope N' t caps) (hi:Bx (PI X tg iter wi)) (hg:∀ b,Bx (PG (cxB X scope N' b) tg (g b))) (ht:∀ b,Bx (PTs (cxB X scope N' b) ifs (tc b))) (he:∀ b,Bx (PE (cxB X scope N' b) elt (te b))) (hsw:swapsWith (.ListComp elt [⟨tg,iter,ifs,0⟩] scope pos) (some (.Name y py)) spos.line X.env=pure true:=by rfl) (hs:∀ x,foldedSetIterable iter X.env x=pure x:=by intro _;rfl) (hf:X.fn y=true∨X.env.scope.names.lookup y=some .local:=by first | exact .inl rfl | exact .inr rfl | assumption):Bx (PS X (.Assign [.Name y py] (.ListComp elt [⟨tg,iter,ifs,0⟩] scope pos) spos) (VO (YB wi g tc te t caps) (v7 i))):=⟨uQ hc hN hiy hy S hi.of (fun x0=>(hg x0).of) (fun x0=>(ht x0).of) (fun x0=>(he x0).of) hsw hs hf⟩
end
section
variable {X:Cx}{k:Nat}{f C:Addr}{fd:FuncData}{ps:List Str}{sp:Sp}{x m:Str}{p pos apos:Pos}{e o:Expr}{es:List Expr}{ta:TE}{t:TA}
theorem zp (c:Callee X.prog X.w X.K X.mg X.base x f fd ps k sp) (hr:Room k X.A) (ha:Bx (PA X (e::es) t)) (hg:Gl X x:=by rfl) (hdb:(x == ("__debug__" : Str))=false:=by decide) (he:starEach (e::es) X.env=(false,eval e X.env)::starEach es X.env:=by rfl) (hpl:(backTo pos (starEach es X.env)).any (·.1)=false:=by rfl):Bx (PE X (.Call (.Name x p) (e::es) [] pos) (We sp [] E0 t)):=⟨XO c hr ha.of hg hdb he hpl⟩
theorem Ze (c:Maker X.prog X.w X.K X.mg X.base x C f fd ps k sp) (hr:Room (k+1) X.A) (ha:Bx (PA X (e::es) t)) (hg:Gl X x:=by rfl) (hdb:(x == ("__debug__" : Str))=false:=by decide) (he:starEach (e::es) X.env=(false,eval e X.env)::starEach es X.env:=by rfl) (hpl:(backTo pos (starEach es X.env)).any (·.1)=false:=by rfl):Bx (PE X (.Call (.Name x p) (e::es) [] pos) (Wd C sp [] E0 t)):=⟨zlI c hr ha.of hg hdb he hpl⟩
theorem zA {pl:Sem Bool}(he:Bx (PE X o ta)) (ha:Bx (PA X (e::es) t)) (hst:starEach (e::es) X.env=(false,eval e X.env)::starEach es X.env:=by rfl) (hpl:(backTo pos (starEach es X.env)).any (·.1)=false:=by rfl) (ht:eval (.Call (.Attribute o m apos) (e::es) [] pos) X.env=(do
   let ov ← eval o X.env
   standAt apos.atName
   let (f,first) ← holding [ov] (getMethod ov m pl)
   callWith pos f first (backTo pos (starEach (e::es) X.env)) (backToKw pos (keywordEach [] X.env))):=by rfl):Bx (PE X (.Call (.Attribute o m apos) (e::es) [] pos) (ui X m ta t)):=⟨YQ he.of ha.of hst hpl ht⟩
theorem zW {pl:Sem Bool}(he:Bx (PE X o ta)) (ht:eval (.Call (.Attribute o m apos) [] [] pos) X.env=(do
   let ov ← eval o X.env
   standAt apos.atName
   let (f,first) ← holding [ov] (getMethod ov m pl)
   callWith pos f first (backTo pos (starEach [] X.env)) (backToKw pos (keywordEach [] X.env))):=by rfl):Bx (PE X (.Call (.Attribute o m apos) [] [] pos) (ui X m ta zbk)):=⟨ZF he.of ht⟩
end
section
theorem Yt {X:Cx}{x:Str}{C:Addr}{pos:Pos}(hm:X.mg x=some (.ref C)) (hg:Gl X x:=by rfl) (hd:(x == ("__debug__" : Str))=false:=by decide):Bx (PE X (.Name x pos) (tC (.ref C))):=⟨UO hm hg hd⟩
theorem yk {X:Cx}{x:Str}{n:String}{pos:Pos}(hm:X.mg x=none) (hv:bootBuiltins x=some (.type n)) (hg:Gl X x:=by rfl) (hn:x ≠ "__name__" := by decide) (hd:(x == ("__debug__" : Str))=false:=by decide):Bx (PE X (.Name x pos) (tC (.ty n))):=⟨wB hm hv hg hn hd⟩
end
section
variable {X:Cx}{es:List Expr}{t:TA}{te:TE}
theorem yg {c j pos}(ha:Bx (PE X (.Constant c j pos) te)) (hr:Bx (PA X es t)):Bx (PA X (.Constant c j pos::es) (xL te t)):=⟨zlL ha.of hr.of⟩
theorem xV {xs c pos}(ha:Bx (PE X (.Tuple xs c pos) te)) (hr:Bx (PA X es t)):Bx (PA X (.Tuple xs c pos::es) (xL te t)):=⟨zlJ ha.of hr.of⟩
theorem zN {f xs ks pos}(ha:Bx (PE X (.Call f xs ks pos) te)) (hr:Bx (PA X es t)):Bx (PA X (.Call f xs ks pos::es) (xL te t)):=⟨zlK ha.of hr.of⟩
theorem xk {l o r pos}(ha:Bx (PE X (.BinOp l o r pos) te)) (hr:Bx (PA X es t)):Bx (PA X (.BinOp l o r pos::es) (xL te t)):=⟨zlM ha.of hr.of⟩
theorem zd {x pos}(ha:Bx (PE X (.Name x pos) te)) (hr:Bx (PA X es t)):Bx (PA X (.Name x pos::es) (xL te t)):=⟨xJ ha.of hr.of⟩
end
section
variable {X:Cx}
theorem wF {e st:Expr}{te ts:TE}{p2 pos:Pos}(he:Bx (PE X e te)) (hs:Bx (PE X st ts)):Bx (PE X (.Subscript e (.Slice none none (some st) p2) pos) (zgg X.K te ts)):=⟨UK he.of hs.of⟩
end
def Th (G:Hp) (Q:Hp→Prop) (H:Hp):Prop:=Q H∨∃ (d:Addr) (od:Obj) (kvs:List (Key×V)),(∀ o u,G d≠some (.frz o u))∧H d=some (.frz od (.dK kvs))∧Q (upd H d (.dK kvs))
def zge (G:Hp) (t:TE):TE:=fun σ H Q=>t σ H fun v=>Th G (Q v)
def zgd (G:Hp) (t:TS):TS:=fun D σ H=>t ⟨fun σ=>Th G (D.nx σ),fun v=>Th G (D.rt v),fun σ=>Th G (D.bk σ),fun σ=>Th G (D.ct σ)⟩ σ H
section
variable {X:Cx}{pins:List (Addr×Obj)}{σ:St}{H G:Hp}{s:Shared}{d:Addr}{od:Obj}{kvs:List (Key×V)}
theorem Th.inv {Q:Hp→Prop}(I:Inv X pins σ H s) (h:Th X.H₀ Q H):∃ H',Inv X pins σ H' s∧Q H':=by
 rcases h with h | ⟨d,od,kvs,S,g,h⟩
 ·exact⟨_,I,h⟩
 ·exact⟨_,I.thaw S g,h⟩
theorem Vn {e:Expr}{t:TE}(h:PE X e t):PE X e (zge X.H₀ t):=by
 intro pins s σ H Q I q
 refine thn (h pins s σ H _ I q) fun u s' hq0=>?_
 obtain⟨v,H',I',r,q'⟩:=hq0
 obtain⟨H2,I2,q2⟩:=Th.inv I' q'
 exact⟨v,H2,I2,r,q2⟩
theorem Vj {st:Stmt}{t:TS}(h:PS X st t):PS X st (zgd X.H₀ t):=by
 intro pins s σ H D I q
 refine thn (h pins s σ H _ I q) fun f s' q'=>?_
 cases f with
 |next=>obtain⟨σ',H',I',q'⟩:=q';obtain⟨H2,I2,q2⟩:=Th.inv I' q';exact⟨_,_,I2,q2⟩
 |cont=>obtain⟨σ',H',I',q'⟩:=q';obtain⟨H2,I2,q2⟩:=Th.inv I' q';exact⟨_,_,I2,q2⟩
 |brk=>obtain⟨σ',H',I',q'⟩:=q';obtain⟨H2,I2,q2⟩:=Th.inv I' q';exact⟨_,_,I2,q2⟩
 |ret v=>obtain⟨x,σ',H',I',r,q'⟩:=q';obtain⟨H2,I2,q2⟩:=Th.inv I' q';exact⟨_,_,_,I2,r,q2⟩
theorem VF {P:Program}{w:World}{k:Key}{u:Value}(h:(zr P w).is k u=true):RelV (kV k) u:=by
 rw[uU] at h
 cases k with
 |inl i=>cases u<;>simp[wW,Value.isInt] at h<;>(subst h;exact⟨_,rfl⟩)
 |inr x=>cases u<;>simp[wW,Value.isStrOf] at h<;>(subst h;exact⟨_,rfl⟩)
theorem xu:entryFor table "dict_itemiterator.__iter__" = some Builtin.«dict_keyiterator.__iter__» :=
 entryFor_alias (id' := "dict_keyiterator.__iter__") (by kernel_rfl) rfl (by decide +kernel) (by kernel_rfl)
theorem yX {prog:Program}{w:World}{A:Around}{E:Value→Shared→Prop}{s:Shared}{it d:Addr}{i n ep:Nat}{ok ov:Value}{Q:Value→Shared→Prop}(hit:IsItemIter s.heap it d i n ep ok ov) (h:Q (.ref it) s):wpAny (model prog w) A (pyIter (.ref it)) Q E s:=by
 have ti:s.TypeIs (.ref it) "dict_itemiterator" := ⟨_,hit,rfl⟩
 refine wpAny_pyIter_slot ti F.slot_dict_itemiterator_iter (wpAny_call_entry F.slot_dict_itemiterator_iter ti xu ?_ (F.args_dict_itemiterator_iter_1 _))
 show wpAny _ _ (ret (.ref it)) _ _ s
 exact wpAny_pure ⟨_,rfl, "dict_itemiterator",_,ti,F.slot_dict_itemiterator_next.lookup,h⟩
abbrev YL:=Key×V→V→Hp→Hp→Prop
def yI:YL:=fun kv x H H'=>∃ p,H p=none∧x=.ref p∧H'=upd H p (.tup [kV kv.1,kv.2])
noncomputable def Itd (yl:YL) (d:Addr) (od:Obj) (kvs:List (Key×V)):It :=
 ⟨fun i H=>H d=some (.frz od (.dK kvs))∧i<kvs.length,fun i H x H'=>∃ kv,kvs[i]?=some kv∧yl kv x H H',fun i H=>H d=some (.frz od (.dK kvs))∧kvs.length≤i⟩
theorem vR {P:Program}{w:World}{K:PySem.W.Frag}{es:List Expr}{n:Nat}{tp:Pos}{it d:Addr}{od:Obj}{kvs:List (Key×V)}{vs:List (Key×Value)}{ep:Nat}(rel:KV kvs vs)
  (da:∀ h:Heap,h.get? d=some od→Heap.DictAt (zr P w) h d vs ep):Turn P w K (.Tuple es n tp) (Itd yI d od kvs) [it] it (fun i h=>∃ ok ov,IsItemIter h it d i vs.length ep ok ov) where
 mem:=by simp
 obj:=fun i h ⟨ok,ov,st⟩ b hb=>by
  rw[List.mem_singleton.mp hb]
  exact⟨_,st,fun v z=>by
   have z':Data.fields _=Data.cell v:=z
   cases z'⟩
 keep:=fun i h h' ⟨ok,ov,st⟩ k=>⟨ok,ov,k it (by simp) _ st⟩
 item:=by
  intro X hP hw hK hc i pins s σ H E I hf st hg
  subst hP hw hK
  obtain⟨ok,ov,st⟩:=st
  have fi:=hf it (by simp)
  have d3:=(I.hok d _ hg.1).1
  have hx:kvs[i]?=some (kvs[i]'hg.2):=List.getElem?_eq_getElem hg.2
  obtain⟨u,hu,ru⟩:=rel.getAt hx
  refine wpAny_pyNext_items_item st (da _ d3) hu fun key h1 hkey O1 T1 z1 kk=>?_
  refine⟨_,rfl,wpAny_letOwnedTupleGo_items (s:={ s with heap:=h1 }) O1 fun h2 E2 sb=>?_⟩
  have te:s.heap.objs.size≠it:=(Nat.ne_of_lt (Heap.lt_size st)).symm
  have T2:=sb.extBut _ _ te T1
  have k2:∀ c o,c∉[it]→s.heap.get? c=some o→h2.get? c=some o:=fun c o hc q=>by
   have hc:c≠it:=by simpa using hc
   exact sb.extBut c o hc (kk c o hc q)
  have hn:H s.heap.objs.size=none:=I.fresh
  refine⟨.ref s.heap.objs.size,upd H s.heap.objs.size (.tup [kV (kvs[i]'hg.2).1,(kvs[i]'hg.2).2]),I.turnedLaid (t':=s.toks) (ch:=[it]) hf k2 (Nat.le_refl _) ⟨by show 2≤sizeLine;decide,[key,u],.cons (VF hkey) (.cons ru .nil),⟨_,T2,rfl,_,rfl⟩⟩,rfl,
   ⟨_,hx,_,hn,rfl,rfl⟩,⟨_,_,E2⟩,fun c hc=>?_⟩
  rw[List.mem_singleton.mp hc,upd_ne te.symm]
  exact fi.1
 done:=by
  intro X hP hw hK hc i pins s σ H E I hf st hg
  subst hP hw hK
  obtain⟨ok,ov,st⟩:=st
  obtain⟨f0,f1,f2,f3,f4,f5⟩:=hf it (by simp)
  have d3:=(I.hok d _ hg.1).1
  have lv:=rel.length
  exact wpAny_pyNext_items_end (I.ok.hd hc) st (da _ d3) (List.getElem?_eq_none (by have:=hg.2;omega)) fun h' kk=>⟨rfl,I.turned (t':=s.toks) (fun b o hb q=>kk b o hb q) f0 f1 f3 f4 f5⟩
 self:=fun _ _ _ _ _ ⟨_,_,st⟩ h=>yX st h
def zkK (yl:YL) (G:Hp) (td:TE):TI:=fun σ H R=>td σ H fun x H1=>∃ (d:Addr) (kvs:List (Key×V)),x=.ref d∧H1 d=some (.dK kvs)∧∀ od:Obj,(∀ o u,G d≠some (.frz o u))→R (Itd yl d od kvs) (upd H1 d (.frz od (.dK kvs)))
theorem VJ {x:Addr}(I:Inv X pins σ H s) (e:H d=some (.dK kvs)):∀ o u,X.H₀ d≠some (.frz o u):=fun o u z=>by
 have:=I.base.frzs d o u z
 rw[e] at this;cases this
theorem ZB {o:Expr}{es:List Expr}{n:Nat}{tp:Pos}{td:TE}{apos cpos:Pos}(ho:PE X o td)
  (hbase:attributeBase o "items" X.env (eval o X.env)=eval o X.env:=by rfl) (hline:(apos.endLine == cpos.line)=true:=by rfl):PI X (.Tuple es n tp) (.Call (.Attribute o "items" apos) [] [] cpos) (zkK yI X.H₀ td):=by
 intro pins s σ H R I h
 refine wpAny_Call_method0_late hbase hline (thn (ho pins s σ H _ I h) fun v s1 hq0=>?_)
 obtain⟨x,H1,I1,rx,d,kvs,ex,e,q⟩:=hq0
 subst ex
 obtain rfl:v=Value.ref d:=rx
 obtain⟨t1,t2,_⟩:=vF I1 (.inl ⟨_,.inl e⟩)
 obtain⟨z,hd,vs,rel,dd⟩:=VM I1.hok e
 refine⟨"dict", "dict.items",PySem.F.plainAttrs_dict,PySem.F.slot_dict_items,PySem.F.type_dict_items,t1,t2,Calls.callWith_builtin rfl (PySem.evalArgs_none ?_)⟩
 refine call_meetsIn PySem.F.slot_dict_items dd.typeIs PySem.F.entry_dict_items (PySem.F.args_dict_items_1 _) (meets_dict_items (zr X.prog X.w) d hd) ⟨⟨vs,dd⟩,?_⟩
 obtain⟨od,es',ep,q1,q2,q3,q4,q5,q6⟩:=dd
 have da:∀ h':Heap,h'.get? d=some od→Heap.DictAt (zr X.prog X.w) h' d vs ep:=fun _ q=>⟨od,es',q,q2,q3,q4,q5,q6⟩
 refine wpAny_pyIter_items (s:={ s1 with heap:=s1.heap.push _ }) (d:=d) ⟨_,Heap.get?_push_size _ rfl,rfl,rfl⟩ (da _ (Heap.get?_push_of_some _ q1)) ?_
 have hle:s1.heap.objs.size≤(s1.heap.push { cls:=.type "dict_items",data:=.fields #[.ref d] }).objs.size:=by rw[Heap.size_push];exact Nat.le_succ _
 have I1f:=I1.froz e q1
 refine⟨_,[(s1.heap.push { cls:=.type "dict_items",data:=.fields #[.ref d] }).objs.size],_,_,_,rfl,I1f.kept (t':=s1.toks) fun b u q=>Heap.get?_push_of_some _ (Heap.get?_push_of_some _ q),vR rel da,⟨_,_,Heap.get?_push_size _ rfl⟩,fun b hb=>?_,q od (VJ (x:=d) I1 e)⟩
 rw[List.mem_singleton.mp hb]
 exact I1f.fpOk hle (I1f.hok.fresh hle)
end
theorem uB {yl:YL}{d:Addr}{od:Obj}{kvs:List (Key×V)}{g:TG}{tb:TS}{D:Ends}{σ:St}{H:Hp}(Pv:Nat→St→Hp→Prop) (h0:Pv 0 σ H) (hf:∀ i σ H,Pv i σ H→H d=some (.frz od (.dK kvs)))
  (hs:∀ i kv x σ H H',kvs[i]?=some kv→Pv i σ H→yl kv x H H'→g x σ H' fun σ2 H2=>tb { D with nx:=Pv (i+1),ct:=Pv (i+1),bk:=D.nx } σ2 H2) (hd:∀ σ H,Pv kvs.length σ H→D.nx σ H) :
  ∃ W:Nat→Nat→St→Hp→Prop,(∃ m,W 0 m σ H)∧∀ i m σ H,W i m σ H →
   ((Itd yl d od kvs).stop i H∧D.nx σ H)∨((Itd yl d od kvs).go i H∧∃ N:St→Hp→Prop,(∀ σ' H',N σ' H'→∃ m',m'<m∧W (i+1) m' σ' H')∧∀ x H',(Itd yl d od kvs).yld i H x H'→g x σ H' fun σ2 H2=>tb { D with nx:=N,ct:=N,bk:=D.nx } σ2 H2):=by
 refine⟨fun i m σ H=>m=kvs.length-i∧i≤kvs.length∧Pv i σ H,⟨_,rfl,Nat.zero_le _,h0⟩,?_⟩
 rintro i m σ H ⟨rfl,hi,p⟩
 have q:=hf i σ H p
 by_cases hlt:i<kvs.length
 ·refine .inr ⟨⟨q,hlt⟩,Pv (i+1),fun σ' H' z=>⟨_,by omega,rfl,hlt,z⟩,fun x H' ⟨kv,hk,y⟩=>hs i kv x σ H H' hk p y⟩
 ·have e:i=kvs.length:=by omega
  subst e
  exact .inl ⟨⟨q,Nat.le_refl _⟩,hd σ H p⟩
theorem Yh {yl:YL}{d:Addr}{od:Obj}{kvs:List (Key×V)}{g:TG}{tc:TT}{te:TE}{Q:VK}{D:Addr}{τ0:St}{H0:Hp}(Pv:Nat→List V→St→Hp→Prop) (h0:Pv 0 [] τ0 H0) (hf:∀ i zs τ H,Pv i zs τ H→H d=some (.frz od (.dK kvs)))
  (hs:∀ i kv x zs τ H H',kvs[i]?=some kv→Pv i zs τ H→yl kv x H H'→g x τ H' fun τ2 H4=>tc τ2 H4 fun b H5 =>
   if b=true then te τ2 H5 fun y H6=>H6 D=some (.lst zs)∧zs.length<sizeLine∧Pv (i+1) (zs++[y]) τ2 (upd H6 D (.lst (zs++[y]))) else Pv (i+1) zs τ2 H5)
  (hd:∀ zs τ H,Pv kvs.length zs τ H→Q (.ref D) H):ua (Itd yl d od kvs) g tc te Q D τ0 H0 :=
 va kvs.length Pv h0 (fun zs τ H p=>⟨⟨hf _ _ _ _ p,Nat.le_refl _⟩,hd zs τ H p⟩) fun i zs τ H hi p=>⟨⟨hf _ _ _ _ p,hi⟩,fun x H3 ⟨kv,hk,y⟩=>hs i kv x zs τ H H3 hk p y⟩
theorem u9 {K:Type} [DecidableEq K]{xs:List (K×Addr×Value)}{k:K}(h:∀ (j:Nat) (p:Addr×Value),xs[j]?≠some (k,p)):atKey xs k=none:=by
 unfold atKey
 rw[Option.map_eq_none_iff,List.find?_eq_none]
 intro x hx e
 obtain⟨j,hj⟩:=List.getElem?_of_mem hx
 have e:x.1=k:=by simpa using e
 exact h j x.2 (by rw[hj,← e])
theorem u8 {K:Type} [DecidableEq K]{xs:List (K×Addr×Value)}{k:K}{j:Nat}{p:Addr×Value}(nd:(xs.map (·.1)).Nodup) (h:xs[j]?=some (k,p)):atKey xs k=some p:=by
 unfold atKey
 have hm:=List.mem_of_getElem? h
 cases hf:xs.find? (fun x=>decide (x.1=k)) with
 |none =>
  rw[List.find?_eq_none] at hf
  exact absurd (hf _ hm) (by simp)
 |some y =>
  have h1:=List.find?_some hf
  have h2:=List.mem_of_find?_eq_some hf
  have e:y.1=k:=by simpa using h1
  obtain⟨i,hi⟩:=List.getElem?_of_mem h2
  have z:i=j:=by
   have a1:(xs.map (·.1))[i]?=some k:=by rw[List.getElem?_map,hi,← e];rfl
   have a2:(xs.map (·.1))[j]?=some k:=by rw[List.getElem?_map,h];rfl
   obtain⟨l1,q1⟩:=List.getElem?_eq_some_iff.mp a1
   obtain⟨l2,q2⟩:=List.getElem?_eq_some_iff.mp a2
   exact(List.getElem?_inj l1 nd).mp (a1.trans a2.symm)
  subst z
  rw[hi] at h
  cases h
  rfl
theorem Xj {prog:Program}{w:World}{K:Type} [DecidableEq K]{knd:HeapKind prog w K}{A:Around}{E:Value→Shared→Prop}{s:Shared}{d a:Addr}{xs:List (K×Addr×Value)}{k:K}{v:Value}{Q:Value→Shared→Prop}
  (hr:knd.room A) (hk:knd.is s.heap k a) (hd:Heap.DictOfH knd s.heap d xs)
  (h1:∀ p,atKey xs k=some p→Q p.2 { s with toks:=s.toks+knd.draws k })
  (h2:atKey xs k=none→∀ h',Heap.DictOfH knd h' d (storedH xs k a v)→Heap.SameBut d s.heap h'→Q v { s with heap:=h',toks:=s.toks+knd.draws k })
  (hz:xs.length≤sizeLine):wpAny (model prog w) A (dictSetDefault d (.ref a) v) Q E s:=by
 obtain⟨o,es,ep,ho,ex,hdat,hes,his,nd⟩:=hd
 unfold dictSetDefault
 refine wpAny_holding (wpAny_bind (knd.pyHash hr hk ?_))
 refine wpAny_bind (wpAny_dictFind_heap hr (s:={ s with toks:=s.toks+knd.draws k }) hk ho hdat hes his nd (fun hn=>?_) fun j p hj=>?_)
 ·have hn':=u9 hn
  refine wpAny_bind (wpAny_rule (wpAny_bind (wpAny_updateDictKeys (s:={ s with toks:=s.toks+knd.draws k }) ho hdat (wpAny_pure (h2 hn' _ ?_ ?_)) ?_ ?_)))
  ·have sb:Heap.SameBut d s.heap (s.heap.update d (Obj.mapDictKeys fun x=>x.push { hash:=knd.hash k,key:=.ref a,val:=v })):=⟨Heap.size_update _ _ _,fun b hb=>Heap.get?_update_ne _ _ _ _ hb⟩
   refine⟨_,es.push { hash:=knd.hash k,key:=.ref a,val:=v },ep+1,Heap.get?_update_self _ ho (by obtain⟨c,dd,dt,sl⟩:=o;cases hdat;rfl),?_,?_,?_,?_,?_⟩
   ·obtain⟨c,dd,dt,sl⟩:=o
    cases hdat
    exact ex
   ·obtain⟨c,dd,dt,sl⟩:=o
    cases hdat
    rfl
   ·rw[storedH_new hn',Array.toList_push,hes,List.map_append]
    rfl
   ·rw[storedH_new hn']
    intro x hx
    rcases List.mem_append.mp hx with z | z
    ·exact knd.keeps (his x z) ho hdat sb
    ·rw[List.mem_singleton.mp z]
     exact knd.keeps hk ho hdat sb
   ·rw[storedH_new hn',List.map_append,List.nodup_append]
    refine⟨nd,by simp,fun x hx y hy e=>?_⟩
    have hy:y=k:=by simpa using hy
    obtain⟨z,hz1,hz2⟩:=List.mem_map.mp hx
    obtain⟨j,hj⟩:=List.getElem?_of_mem hz1
    exact hn j z.2 (by rw[hj,← hy,← e,← hz2])
  ·exact⟨Heap.size_update _ _ _,fun b hb=>Heap.get?_update_ne _ _ _ _ hb⟩
  ·have:es.size=xs.length:=by
    rw[← Array.length_toList,hes,List.length_map]
   omega
  ·simp
 ·have e1:=u8 nd hj
  refine wpAny_bind (wpAny_dictEntries (s:={ s with toks:=s.toks+knd.draws k }) ho hdat ?_)
  have:es[j]?=some (entryOfKey knd (k,p)):=by
   rw[← Array.getElem?_toList,hes,List.getElem?_map,hj]
   rfl
  rw[this]
  exact wpAny_bind (wpAny_rule (wpAny_pure (h1 p e1)))
theorem yU {prog:Program}{w:World}{K:Type} [DecidableEq K] (knd:HeapKind prog w K) (d a:Addr) (hd:(d == sysModules)=false) (v:Value) :
  MeetsIn prog w (Builtin.«dict.setdefault» ⟨[.ref d,.ref a,v],[]⟩) fun A R s=>knd.room A.in1∧s.TypeIs (.ref d) "dict" ∧ ∃ k xs,knd.is s.heap k a∧Heap.DictOfH knd s.heap d xs∧xs.length≤sizeLine ∧
   (∀ p,atKey xs k=some p→R (.ok (.ret p.2)) { s with toks:=s.toks+knd.draws k }) ∧
   (atKey xs k=none→∀ h',Heap.DictOfH knd h' d (storedH xs k a v)→Heap.SameBut d s.heap h'→R (.ok (.ret v)) { s with heap:=h',toks:=s.toks+knd.draws k }):=by
 intro A R s ⟨hr,ht,k,xs,hk,hx,hz,h1,h2⟩
 unfold Builtin.«dict.setdefault»
 refine wpAny_bind ?_
 unfold Builtin.Dict.keyAndDefault
 refine wpAny_bind (wpAny_notOrdered_dict ht ?_)
 show wpAny _ _ (pure (d,Value.ref a,some v)) _ _ _
 refine wpAny_pure ?_
 show wpAny _ _ (if (d == sysModules)=true then _ else _) _ _ _
 rw[if_neg (by rw[hd];simp)]
 refine wpAny_bind (Xj hr hk hx (fun p hp=>?_) (fun hn h' hh sb=>?_) hz)
 ·exact wpAny_pure (h1 p hp)
 ·exact wpAny_pure (h2 hn h' hh sb)
def zf7 (H:Hp) (a:Addr) (y v:V) (Q:V→Hp→Prop):Prop :=
 (∃ kvs k,H a=some (.dK kvs)∧y=kV k∧kvs.length<sizeLine∧(∀ x,yK kvs k=some x→Q x H)∧(yK kvs k=none→Q v (upd H a (.dK (putK kvs k v))))) ∨
 ∃ kvs k b,H a=some (.dT kvs)∧y=.ref b∧H b=some (.tup (k.map kV))∧kvs.length<sizeLine∧(∀ x,yK kvs k=some x→Q x H)∧(yK kvs k=none→Q v (upd H a (.dT (putK kvs k v))))
section
variable {X:Cx}{pins:List (Addr×Obj)}{σ:St}{H:Hp}{s:Shared}{a:Addr}{y v:V}{u r:Value}{A:Around}{E:Value→Shared→Prop}
theorem Xl {Q:Value→Shared→Prop}{C:V→Hp→Prop}(hu:A.units+1<cLine) (I:Inv X pins σ H s) (g:zf7 H a y v C) (ry:RelV y u) (rv:RelV v r) (h:∀ x H' w' s',C x H'→Inv X pins σ H' s'→RelV x w'→Q w' s') :
  wpAny (model X.prog X.w) A (call (.builtin "dict.setdefault") [.ref a,u,r]) Q E s:=by
 rcases g with⟨kvs,k,e,ey,l,c1,c2⟩ | ⟨kvs,k,b,e,ey,eb,l,c1,c2⟩
 ·subst ey
  obtain⟨z,hd,vs,rel,dd⟩:=VM I.hok e
  have hz:vs.length≤sizeLine:=by rw[← rel.length];exact z
  have hl:(putK kvs k v).length≤sizeLine:=by have:=yE kvs k v;omega
  refine call_meetsIn PySem.F.slot_dict_setdefault dd.typeIs PySem.F.entry_dict_setdefault (PySem.F.args_dict_setdefault_3 _ _ _) (kt_meets_setdefault (zr X.prog X.w) a (wX ry) hd r) ⟨vs,dd,hz,fun w' hw=>?_,fun hn h' dd' hs=>?_⟩
  ·have q:=rel.val k
   rw[hw] at q
   cases hv:yK kvs k with
   |none=>rw[hv] at q;exact False.elim q
   |some x =>
    rw[hv] at q
    exact h x H w' _ (c1 x hv) (I.tok _) q
  ·have q:=rel.val k
   rw[hn] at q
   cases hv:yK kvs k with
   |some x=>rw[hv] at q;exact False.elim q
   |none =>
    have he:∃ q,h'.get? a=some q:=let ⟨q,_,_,hq,_⟩:=dd';⟨q,hq⟩
    exact h v _ r _ (c2 hv) (w8 I (by rw[e];exact True.intro) hs he (Yb hl hd (rel.put k rv) dd')) rv
 ·subst ey
  cases (show u=Value.ref b from ry)
  obtain⟨z,hd,xs,rel,dd⟩:=uZ I.hok e
  have hz:xs.length≤sizeLine:=by rw[← Paired.length rel];exact z
  have hl:(putK kvs k v).length≤sizeLine:=by have:=yE kvs k v;omega
  refine call_meetsIn PySem.F.slot_dict_setdefault dd.typeIs PySem.F.entry_dict_setdefault (PySem.F.args_dict_setdefault_3 _ _ _) (yU (tupleKind (zr X.prog X.w)) a b hd r) ⟨tupleKind_room_in1 hu,dd.typeIs,k,xs,xp I.hok eb,dd,hz,fun p hp=>?_,fun hn h' dd' hs=>?_⟩
  ·have q:=rel.val k
   rw[hp] at q
   cases hv:yK kvs k with
   |none=>rw[hv] at q;exact False.elim q
   |some x =>
    rw[hv] at q
    exact h x H p.2 _ (c1 x hv) (I.tok _) q
  ·have q:=rel.val k
   rw[hn] at q
   cases hv:yK kvs k with
   |some x=>rw[hv] at q;exact False.elim q
   |none =>
    obtain⟨q,es,ep,hq,h2,h3,h4,_,h5⟩:=dd'
    refine h v _ r _ (c2 hv) (w8 I (by rw[e];exact True.intro) hs ⟨q,hq⟩ ⟨hl,hd,_,(rel.put k eb rv).keeps fun c ys ec=>?_,q,es,ep,hq,h2,h3,h4,h5⟩) rv
    rw[upd_ne (VA ec e (fun z=>nomatch z))]
    exact ec
end
def Um (td ty tx:TE):TE:=fun σ H Q=>td σ H fun x H1=>∃ a,x=.ref a∧IsD H1 a∧ty σ H1 fun y H2=>tx σ H2 fun z H3=>zf7 H3 a y z Q
section
variable {X:Cx}{o e f:Expr}{apos cpos:Pos}{td ty tx:TE}
theorem Vq (hu:X.A.units+1<cLine) (ho:PE X o td) (he:PE X e ty) (hf:PE X f tx) (m:M2 X o "setdefault" apos e f cpos):PE X (.Call (.Attribute o "setdefault" apos) [e,f] [] cpos) (Um td ty tx):=by
 intro pins s σ H Q I h
 refine wpAny_Call_method m.base m.few m.line PySem.F.plainAttrs_dict PySem.F.slot_dict_setdefault PySem.F.type_dict_setdefault (thn (ho pins s σ H _ I h) fun u s1 hq0=>?_)
 obtain⟨x,H1,I1,rx,a,ex,d,q1⟩:=hq0
 subst ex
 obtain rfl:u=Value.ref a:=rx
 obtain⟨t1,t2,_⟩:=vF I1 d
 refine⟨t1,t2,?_⟩
 rw[m.trees]
 refine Calls.callWith_builtin rfl (Calls.evalArgs_plain (Calls.spliced_cons (thn (he pins s1 σ H1 _ I1 q1) fun iv s2 ⟨y,H2,I2,ry,q2⟩ =>
  Calls.spliced_cons (thn (hf pins s2 σ H2 _ I2 q2) fun fv s3 ⟨z,H3,I3,rz,g⟩=>Calls.spliced_nil ?_))))
 exact Xl hu I3 g ry rz fun x H' w' s4 c I4 rw'=>⟨x,H',I4,rw',c⟩
end
end L2
namespace L2
namespace Sco
open PySem PyProof.Rows
section
variable {rk:Value→Int}
noncomputable def kf (rk:Value→Int) (l:List Keyed) (i:Nat):Int:=(l[i]?.map fun x=>rk x.1).getD 0
theorem VE {l:List Keyed}{i:Nat}(h:i<l.length):kf rk l i=rk l[i].1:=by
 unfold kf
 rw[List.getElem?_eq_getElem h]
 rfl
theorem XZ {a:Array Keyed}{i:Nat}(h:i<a.size):rk a[i].1=kf rk a.toList i:=by
 rw[VE (by simpa using h)]
 simp
def SA (rk:Value→Int) (l:List Keyed):Prop:=l.Pairwise fun x y=>rk x.1≤rk y.1
theorem SA.of {l:List Keyed}(h:∀ i j,i<j→j<l.length→kf rk l i≤kf rk l j):SA rk l:=by
 refine List.pairwise_iff_getElem.mpr fun i j hi hj hij=>?_
 have:=h i j hij hj
 rw[VE hi,VE hj] at this
 exact this
end
section
variable {prog:Program}{w:World}{A:Around}{E:Value→Shared→Prop}{s:Shared}{it:List Keyed}{κ:SortKind}{rk:Value→Int}
def Cmp (prog:Program) (w:World) (A:Around) (s:Shared) (it:List Keyed) (κ:SortKind) (rk:Value→Int):Prop :=
 ∀ x∈it,∀ y∈it,∀ (Q:Bool→Shared→Prop) (E:Value→Shared→Prop),Q (decide (rk x.1<rk y.1)) s→wpAny (model prog w) A (keyLt' κ x.1 y.1) Q E s
theorem zkP (C:Cmp prog w A s it κ rk){st:SortSt}(hk:kindOf st=κ){x y:Keyed}(hx:x∈it) (hy:y∈it){Q:Option Bool→SortSt→Prop}(h:Q (some (decide (rk x.1<rk y.1))) st):wpS (model prog w) A E s (lt' x y) Q st:=by
 rw[lt'_eq]
 refine wpS_bind (wpS_get ?_)
 rw[hk]
 refine wpS_bind (wpS_lift (wpAny_attempt (C x hx y hy _ _ ⟨rfl,?_⟩)))
 exact wpS_pure h
theorem Xw {st:SortSt}{arr:Array Keyed}{i:Nat}(hi:i<arr.size){Q:Keyed→SortSt→Prop}(h:Q arr[i] st):wpS (model prog w) A E s (elem' arr i) Q st:=by
 rw[elem'_eq,getElem?_pos arr i hi]
 exact wpS_pure h
def In (it:List Keyed) (o:Array Keyed):Prop:=∀ x∈o,x∈it
theorem In.at {o:Array Keyed}{i:Nat}(h:In it o) (hi:i<o.size):o[i]∈it:=h _ (Array.getElem_mem hi)
end
section
variable {prog:Program}{w:World}{A:Around}{E:Value→Shared→Prop}{s:Shared}{it T:List Keyed}{κ:SortKind}{n:Nat}{rk:Value→Int}
structure TB (it T:List Keyed) (κ:SortKind) (n:Nat) (st:SortSt):Prop where
 z:(arrOf st).size=n
 p:(arrOf st).toList.Perm T
 i:In it (arrOf st)
 k:kindOf st=κ
 f:failedOf st=none
theorem TB.perm {st:SortSt}(t:TB it T κ n st){xs:Array Keyed}(p:xs.Perm (arrOf st)):TB it T κ n (setArr st xs) :=
 ⟨p.size_eq.trans t.z,(Array.perm_iff_toList_perm.mp p).trans t.p,fun x hx=>t.i x (Array.mem_def.mpr ((Array.perm_iff_toList_perm.mp p).mem_iff.mp (Array.mem_def.mp hx))),t.k,t.f⟩
def ks (rk:Value→Int) (st:SortSt) (i:Nat):Int:=kf rk (arrOf st).toList i
theorem ZY {st st':SortSt}{i j:Nat}(h:(arrOf st')[i]?=(arrOf st)[j]?):ks rk st' i=ks rk st j:=by
 unfold ks kf
 rw[Array.getElem?_toList,Array.getElem?_toList,h]
def Sg (rk:Value→Int) (st:SortSt) (lo hi:Nat):Prop:=∀ i j,lo≤i→i≤j→j<hi→ks rk st i≤ks rk st j
theorem t_ltAt (C:Cmp prog w A s it κ rk){st:SortSt}(t:TB it T κ n st){i j:Nat}(hi:i<n) (hj:j<n){Q:Option Bool→SortSt→Prop}(h:Q (some (decide (ks rk st i<ks rk st j))) st):wpS (model prog w) A E s (ltAt' i j) Q st:=by
 rw[ltAt'_eq]
 refine wpS_bind (wpS_get ?_)
 have hi:i<(arrOf st).size:=by rw[t.z];exact hi
 have hj:j<(arrOf st).size:=by rw[t.z];exact hj
 refine wpS_bind (Xw hi (wpS_bind (Xw hj (zkP C t.k (t.i.at hi) (t.i.at hj) ?_))))
 rw[XZ (rk:=rk) hi,XZ (rk:=rk) hj]
 exact h
structure Od (rk:Value→Int) (it T:List Keyed) (κ:SortKind) (n:Nat) (p:Array (Nat×Nat×Nat)) (lo:Nat) (f:Nat→Int) (st:SortSt):Prop where
 t:TB it T κ n st
 p:pendingOf st=p
 l:∀ i,i<lo→ks rk st i=f i
variable {p:Array (Nat×Nat×Nat)}{lo:Nat}{f:Nat→Int}
theorem t_rev {st:SortSt}(o:Od rk it T κ n p lo f st){i j:Nat}(hi:lo≤i) (hj:j≤n){Q:Unit→SortSt→Prop}(h:∀ st',Od rk it T κ n p lo f st'→(∀ k,ks rk st' k=if i≤k∧k<j then ks rk st (i+j-1-k) else ks rk st k)→Q () st'):wpS (model prog w) A E s (reverseSlice' i j) Q st:=by
 rw[reverseSlice'_eq]
 have hk:∀ k,ks rk (setArr st (mirror (arrOf st) i j ((j-i)/2))) k=if i≤k∧k<j then ks rk st (i+j-1-k) else ks rk st k:=fun k=>by
  have e:=getElem?_mirror_all (xs:=arrOf st) (i:=i) (j:=j) (by rw[o.t.z];exact hj) k
  by_cases q:i≤k∧k<j
  ·rw[if_pos q] at e ⊢
   exact ZY e
  ·rw[if_neg q] at e ⊢
   exact ZY e
 refine wpS_modify (h _ ⟨o.t.perm (mirror_perm _ _ _ _),o.p,fun k hk'=>?_⟩ hk)
 rw[hk k,if_neg (by omega)]
 exact o.l k hk'
theorem t_move {st:SortSt}(o:Od rk it T κ n p lo f st){i j:Nat}(hj:lo≤j) (hji:j≤i) (hi:i<n){Q:Unit→SortSt→Prop}(h:∀ st',Od rk it T κ n p lo f st'→(∀ k,ks rk st' k=if k=j then ks rk st i else if j<k∧k≤i then ks rk st (k-1) else ks rk st k)→Q () st'):wpS (model prog w) A E s (moveDown' i j) Q st:=by
 rw[moveDown'_eq]
 have hk:∀ k,ks rk (setArr st (bubble (arrOf st) i (i-j))) k=if k=j then ks rk st i else if j<k∧k≤i then ks rk st (k-1) else ks rk st k:=fun k=>by
  have e:=getElem?_bubble (xs:=arrOf st) (src:=i) (by rw[o.t.z];exact hi) (i-j) (by omega) k
  rw[show i-(i-j)=j by omega] at e
  by_cases q:k=j
  ·rw[if_pos q] at e ⊢
   exact ZY e
  ·rw[if_neg q] at e ⊢
   by_cases q2:j<k∧k≤i
   ·rw[if_pos q2] at e ⊢
    exact ZY e
   ·rw[if_neg q2] at e ⊢
    exact ZY e
 refine wpS_modify (h _ ⟨o.t.perm (bubble_perm _ _ _),o.p,fun k hk'=>?_⟩ hk)
 rw[hk k,if_neg (by omega),if_neg (by omega)]
 exact o.l k hk'
theorem zcp (C:Cmp prog w A s it κ rk){st:SortSt}(o:Od rk it T κ n p lo f st){m ok:Nat}(hm:lo+m≤n) (hok:ok≤m) (hm1:1≤m) (sg:Sg rk st lo (lo+ok)){Q:Bool→SortSt→Prop}(h:∀ st',Od rk it T κ n p lo f st'→Sg rk st' lo (lo+m)→Q true st'):wpS (model prog w) A E s (binarySort' lo m ok) Q st:=by
 rw[binarySort'_eq]
 refine wpS_bind (wpS_mono (wpS_forRange (I:=fun k c st'=>c=(none,())∧Od rk it T κ n p lo f st'∧Sg rk st' lo (lo+k)) (Q:=fun c st'=>c=(none,())∧Od rk it T κ n p lo f st'∧Sg rk st' lo (lo+m)) ?_ ?_ ⟨rfl,o,?_⟩) ?_)
 ·rintro k c st1 hk1 hk ⟨rfl,o1,sg1⟩
  dsimp only
  refine wpS_bind (wpS_mono (wpS_forRange (I:=fun jj c st'=>st'=st1∧∃ l r,c=(none,l,r)∧l≤r∧r≤k∧r≤l+(k-jj)∧(∀ i,i<l→ks rk st1 (lo+i)≤ks rk st1 (lo+k))∧(∀ i,r≤i→i<k→ks rk st1 (lo+k)≤ks rk st1 (lo+i))) (Q:=fun c st'=>st'=st1∧∃ l r,c=(none,l,r)∧l≤k∧(∀ i,i<l→ks rk st1 (lo+i)≤ks rk st1 (lo+k))∧(∀ i,l≤i→i<k→ks rk st1 (lo+k)≤ks rk st1 (lo+i))) ?_ ?_ ⟨rfl,_,_,rfl,by omega,Nat.le_refl _,by omega,fun i hi=>by omega,fun i h1 h2=>by omega⟩) ?_)
  ·rintro j c st2 _ hj ⟨rfl,l,r,rfl,hlr,hr,hf,g1,g2⟩
   dsimp only
   by_cases q:l≥r
   ·rw[if_pos q]
    exact wpS_pure ⟨rfl,_,_,rfl,by omega,g1,fun i h1 h2=>g2 i (by omega) h2⟩
   ·rw[if_neg q]
    refine wpS_bind (t_ltAt C o1.t (by omega) (by omega) ?_)
    by_cases z:ks rk st2 (lo+k)<ks rk st2 (lo+(l+r)/2)
    ·rw[decide_eq_true z]
     refine wpS_pure ⟨rfl,_,_,rfl,by omega,by omega,by omega,g1,fun i h1 h2=>?_⟩
     have:=sg1 (lo+(l+r)/2) (lo+i) (by omega) (by omega) (by omega)
     omega
    ·rw[decide_eq_false z]
     refine wpS_pure ⟨rfl,_,_,rfl,by omega,by omega,by omega,fun i h1=>?_,g2⟩
     have:=sg1 (lo+i) (lo+(l+r)/2) (by omega) (by omega) (by omega)
     omega
  ·rintro c st2 ⟨rfl,l,r,rfl,hlr,hr,hf,g1,g2⟩
   have e:max 0 k=k:=by omega
   rw[e] at hf
   exact⟨rfl,_,_,rfl,by omega,g1,fun i h1 h2=>g2 i (by omega) h2⟩
  ·rintro c st2 ⟨rfl,l,r,rfl,hl,g1,g2⟩
   dsimp only
   refine wpS_bind (t_move o1 (by omega) (by omega) (by omega) fun st3 o3 e3=>wpS_pure ⟨rfl,o3,fun i j h1 h2 h3=>?_⟩)
   rw[e3 i,e3 j]
   have ge:∀ x,lo≤x→x<lo+l→ks rk st2 x≤ks rk st2 (lo+k):=fun x a1 a2=>by
    have:=g1 (x-lo) (by omega)
    rw[show lo+(x-lo)=x by omega] at this
    exact this
   have le:∀ x,lo+l≤x→x<lo+k→ks rk st2 (lo+k)≤ks rk st2 x:=fun x a1 a2=>by
    have:=g2 (x-lo) (by omega) (by omega)
    rw[show lo+(x-lo)=x by omega] at this
    exact this
   by_cases c1:i=lo+l
   ·rw[if_pos c1]
    by_cases c2:j=lo+l
    ·rw[if_pos c2];exact Int.le_refl _
    ·rw[if_neg c2,if_pos (by omega)]
     exact le (j-1) (by omega) (by omega)
   ·rw[if_neg c1]
    by_cases c3:lo+l<i∧i≤lo+k
    ·rw[if_pos c3,if_neg (by omega),if_pos (by omega)]
     exact sg1 _ _ (by omega) (by omega) (by omega)
    ·rw[if_neg c3]
     by_cases c2:j=lo+l
     ·rw[if_pos c2]
      exact ge i h1 (by omega)
     ·rw[if_neg c2]
      by_cases c4:lo+l<j∧j≤lo+k
      ·rw[if_pos c4]
       exact sg1 _ _ h1 (by omega) (by omega)
      ·rw[if_neg c4]
       exact sg1 _ _ h1 h2 (by omega)
 ·rintro c st' ⟨rfl,o1,sg1⟩
  refine⟨rfl,o1,?_⟩
  rw[show max (max ok 1) m=m by omega] at sg1
  exact sg1
 ·intro i j h1 h2 h3
  by_cases q:ok=0
  ·have:i=j:=by omega
   rw[this]
   exact Int.le_refl _
  ·exact sg i j h1 h2 (by omega)
 ·rintro c st1 ⟨rfl,o1,sg1⟩
  exact wpS_pure (h st1 o1 sg1)
def Dn (rk:Value→Int) (st:SortSt) (lo m g:Nat):Prop:=(∀ i j,lo≤i→i≤j→j<lo+m→ks rk st j≤ks rk st i)∧g+1≤m∧∀ i,lo+m≤i+g+1→i<lo+m→ks rk st i=ks rk st (lo+m-1)
theorem zf9 (C:Cmp prog w A s it κ rk){st:SortSt}(o:Od rk it T κ n p lo f st){m k:Nat}(hm:lo+m≤n) (hk1:1≤k) (hk:k≤m) (sg:Sg rk st lo (lo+k)){c0:Option (Option Nat)×Nat}(hc:c0=(none,k)){g:Nat→Option (Option Nat)×Nat→StateT SortSt Sem (ForInStep (Option (Option Nat)×Nat))}
  (hg:∀ (x i:Nat) (R:ForInStep (Option (Option Nat)×Nat)→SortSt→Prop),1≤i→i<m→(ks rk st (lo+i)<ks rk st (lo+i-1)→R (.done (none,i)) st)→(¬ ks rk st (lo+i)<ks rk st (lo+i-1)→R (.yield (none,i+1)) st)→wpS (model prog w) A E s (g x (none,i)) R st){Q:Option (Option Nat)×Nat→SortSt→Prop}
  (h:∀ j,k≤j→j≤m→Sg rk st lo (lo+j)→(j=m∨ks rk st (lo+j)<ks rk st (lo+j-1))→Q (none,j) st):wpS (model prog w) A E s (forIn [k:m] c0 g) Q st:=by
 subst hc
 refine wpS_mono (wpS_forRange (I:=fun i c st'=>st'=st∧c=(none,i)∧Sg rk st lo (lo+i)) (Q:=fun c st'=>st'=st∧∃ j,c=(none,j)∧k≤j∧j≤m∧Sg rk st lo (lo+j)∧(j=m∨ks rk st (lo+j)<ks rk st (lo+j-1))) ?_ ?_ ⟨rfl,rfl,sg⟩) ?_
 ·rintro i c st1 hi1 hi ⟨rfl,rfl,sg1⟩
  refine hg i i _ (by omega) hi (fun z=>⟨rfl,i,rfl,hi1,by omega,sg1,.inr z⟩) fun z=>⟨rfl,rfl,fun a b h1 h2 h3=>?_⟩
  by_cases e:b=lo+i
  ·subst e
   by_cases e2:a=lo+i
   ·subst e2;exact Int.le_refl _
   ·have:=sg1 a (lo+i-1) h1 (by omega) (by omega)
    omega
  ·exact sg1 a b h1 h2 (by omega)
 ·rintro c st1 ⟨rfl,rfl,sg1⟩
  rw[show max k m=m by omega] at sg1 ⊢
  exact⟨rfl,m,rfl,hk,Nat.le_refl _,sg1,.inl rfl⟩
 ·rintro c st1 ⟨rfl,j,rfl,h1,h2,h3,h4⟩
  exact h j h1 h2 h3 h4
theorem jn3 {α:Type}{H:α→Prop}{G:Prop}(h:∃ P:α→Prop,(∀ m,H m→P m)∧((∀ m,H m→P m)→G)):G:=by
 obtain⟨P,J,k⟩:=h
 exact k J
theorem Wc (C:Cmp prog w A s it κ rk){st:SortSt}(o:Od rk it T κ n p lo f st){m:Nat}(h1:1≤m) (hm:lo+m≤n){Q:Option Nat→SortSt→Prop}(h:∀ k st',1≤k→k≤m→Od rk it T κ n p lo f st'→Sg rk st' lo (lo+k)→Q (some k) st'):wpS (model prog w) A E s (countRun' lo m) Q st:=by
 rw[countRun'_eq]
 refine wpS_bind (zf9 C o hm (Nat.le_refl _) h1 (fun i j a b c=>by rw[show i=j by omega];exact Int.le_refl _) rfl (fun x i R i1 i2 y1 y2=>wpS_bind (t_ltAt C o.t (by omega) (by omega) (by
  dsimp only
  by_cases z:ks rk st (lo+i)<ks rk st (lo+i-1)
  ·rw[decide_eq_true z]
   exact wpS_pure (y1 z)
  ·rw[decide_eq_false z]
   exact wpS_pure (y2 z)))) fun k k1 k2 sg k3=>?_)
 dsimp only
 by_cases q:(k == m)=true
 ·rw[if_pos q]
  exact wpS_pure (h k st k1 k2 o sg)
 rw[if_neg q]
 have q:k≠m:=fun z=>q (by simp[z])
 have k3:ks rk st (lo+k)<ks rk st (lo+k-1):=k3.resolve_left q
 refine jn3 (H:=fun st2=>Od rk it T κ n p lo f st2∧Dn rk st2 lo (k+1) 0) ?_
 apply Exists.intro
 apply And.intro
 case right =>
  intro J
  by_cases qk:k>1
  ·rw[if_pos qk]
   refine wpS_bind (t_ltAt C o.t (by omega) (by omega) ?_)
   by_cases z:ks rk st lo<ks rk st (lo+k-1)
   ·rw[decide_eq_true z]
    exact wpS_pure (h k st k1 k2 o sg)
   ·rw[decide_eq_false z]
    simp only[Bool.false_eq_true,if_false]
    refine wpS_bind (t_rev o (by omega) (by omega) fun st2 o2 e2=>J st2 ⟨o2,fun i j a1 a2 a3=>?_,by omega,fun i a1 a2=>by rw[show i=lo+(k+1)-1 by omega]⟩)
    have eq:∀ x,lo≤x→x<lo+k→ks rk st x=ks rk st lo:=fun x b1 b2=>by
     have c1:=sg lo x (Nat.le_refl _) b1 b2
     have c2:=sg x (lo+k-1) b1 (by omega) (by omega)
     omega
    have eq2:∀ x,lo≤x→x<lo+k→ks rk st2 x=ks rk st lo:=fun x b1 b2=>by
     rw[e2 x,if_pos ⟨b1,b2⟩]
     exact eq _ (by omega) (by omega)
    have e4:ks rk st2 (lo+k)=ks rk st (lo+k):=by rw[e2,if_neg (by omega)]
    have e5:=eq (lo+k-1) (by omega) (by omega)
    by_cases c:j=lo+k
    ·subst c
     by_cases c2:i=lo+k
     ·subst c2;exact Int.le_refl _
     ·rw[e4,eq2 i a1 (by omega)]
      omega
    ·rw[eq2 j (by omega) (by omega),eq2 i a1 (by omega)]
     exact Int.le_refl _
  ·rw[if_neg qk]
   have:k=1:=by omega
   subst this
   refine J st ⟨o,fun i j a1 a2 a3=>?_,by omega,fun i a1 a2=>by rw[show i=lo+(1+1)-1 by omega]⟩
   rcases Nat.lt_or_eq_of_le a2 with c | c
   ·rw[show i=lo by omega,show j=lo+1 by omega]
    rw[Nat.add_sub_cancel] at k3
    omega
   ·subst c;exact Int.le_refl _
 case left =>
  intro st2 ⟨o2,d2⟩
  refine wpS_bind (wpS_lift (wpAny_rule ⟨rfl,?_⟩))
  refine wpS_bind (wpS_mono (wpS_forRange (I:=fun i c st'=>Od rk it T κ n p lo f st'∧∃ g,c=(none,i,g)∧Dn rk st' lo i g) (Q:=fun c st'=>Od rk it T κ n p lo f st'∧∃ j g,c=(none,j,g)∧k+1≤j∧j≤m∧Dn rk st' lo j g) ?_ ?_ ⟨o2,_,rfl,d2⟩) ?_)
  ·rintro i c st3 hi1 hi ⟨o3,g,rfl,⟨d1,d2,d3⟩⟩
   dsimp only
   refine wpS_bind (t_ltAt C o3.t (by omega) (by omega) ?_)
   by_cases z:ks rk st3 (lo+i)<ks rk st3 (lo+i-1)
   ·rw[decide_eq_true z]
    simp only[if_true]
    by_cases qg:g>0
    ·rw[if_pos qg]
     refine wpS_bind (t_rev o3 (by omega) (by omega) fun st4 o4 e4=>wpS_pure ⟨o4,_,rfl,?_⟩)
     have same:∀ x,lo≤x→x<n→ks rk st4 x=ks rk st3 x:=fun x b1 b2=>by
      rw[e4 x]
      by_cases c:lo+i-(g+1)≤x∧x<lo+i
      ·rw[if_pos c,d3 (lo+i-(g+1)+(lo+i)-1-x) (by omega) (by omega),d3 x (by omega) (by omega)]
      ·rw[if_neg c]
     refine⟨fun a b a1 a2 a3=>?_,by omega,fun x a1 a2=>by rw[show x=lo+(i+1)-1 by omega]⟩
     rw[same a a1 (by omega),same b (by omega) (by omega)]
     by_cases c:b=lo+i
     ·subst c
      by_cases c2:a=lo+i
      ·subst c2;exact Int.le_refl _
      ·have:=d1 a (lo+i-1) a1 (by omega) (by omega)
       omega
     ·exact d1 a b a1 a2 (by omega)
    ·rw[if_neg qg]
     refine wpS_pure ⟨o3,_,rfl,fun a b a1 a2 a3=>?_,by omega,fun x a1 a2=>by rw[show x=lo+(i+1)-1 by omega]⟩
     by_cases c:b=lo+i
     ·subst c
      by_cases c2:a=lo+i
      ·subst c2;exact Int.le_refl _
      ·have:=d1 a (lo+i-1) a1 (by omega) (by omega)
       omega
     ·exact d1 a b a1 a2 (by omega)
   ·rw[decide_eq_false z]
    simp only[Bool.false_eq_true,if_false]
    refine wpS_bind (t_ltAt C o3.t (by omega) (by omega) ?_)
    by_cases z2:ks rk st3 (lo+i-1)<ks rk st3 (lo+i)
    ·rw[decide_eq_true z2]
     exact wpS_pure ⟨o3,_,_,rfl,hi1,by omega,d1,d2,d3⟩
    ·rw[decide_eq_false z2]
     refine wpS_pure ⟨o3,_,rfl,fun a b a1 a2 a3=>?_,by omega,fun x a1 a2=>?_⟩
     ·by_cases c:b=lo+i
      ·subst c
       by_cases c2:a=lo+i
       ·subst c2;exact Int.le_refl _
       ·have:=d1 a (lo+i-1) a1 (by omega) (by omega)
        omega
      ·exact d1 a b a1 a2 (by omega)
     ·rw[show lo+(i+1)-1=lo+i by omega]
      by_cases c:x=lo+i
      ·rw[c]
      ·have:=d3 x (by omega) (by omega)
       omega
  ·rintro c st3 ⟨o3,g,rfl,d3⟩
   rw[show max (k+1) m=m by omega] at d3 ⊢
   exact⟨o3,_,_,rfl,by omega,Nat.le_refl _,d3⟩
  ·rintro c st3 ⟨o3,j,g,rfl,j1,j2,d3⟩
   dsimp only
   refine jn3 (H:=fun st4=>Od rk it T κ n p lo f st4∧∀ i j',lo≤i→i≤j'→j'<lo+j→ks rk st4 j'≤ks rk st4 i) ?_
   apply Exists.intro
   apply And.intro
   case right =>
    intro J
    by_cases qg:g>0
    ·rw[if_pos qg]
     refine wpS_bind (t_rev o3 (by have:=d3.2.1;omega) (by omega) fun st4 o4 e4=>J st4 ⟨o4,fun a b a1 a2 a3=>?_⟩)
     have same:∀ x,lo≤x→x<n→ks rk st4 x=ks rk st3 x:=fun x b1 b2=>by
      have:=d3.2.1
      rw[e4 x]
      by_cases c:lo+j-(g+1)≤x∧x<lo+j
      ·rw[if_pos c,d3.2.2 (lo+j-(g+1)+(lo+j)-1-x) (by omega) (by omega),d3.2.2 x (by omega) (by omega)]
      ·rw[if_neg c]
     rw[same a a1 (by omega),same b (by omega) (by omega)]
     exact d3.1 a b a1 a2 a3
    ·rw[if_neg qg]
     exact J st3 ⟨o3,d3.1⟩
   case left =>
    intro st4 ⟨o4,d4⟩
    refine wpS_bind (t_rev o4 (by omega) (by omega) fun st5 o5 e5=>?_)
    have sg5:Sg rk st5 lo (lo+j):=fun a b a1 a2 a3=>by
     rw[e5 a,e5 b,if_pos ⟨a1,by omega⟩,if_pos ⟨by omega,a3⟩]
     exact d4 _ _ (by omega) (by omega) (by omega)
    refine wpS_bind (zf9 C o5 hm (by omega) j2 sg5 rfl (fun x i R i1 i2 y1 y2=>wpS_bind (t_ltAt C o5.t (by omega) (by omega) (by
     dsimp only
     by_cases z:ks rk st5 (lo+i)<ks rk st5 (lo+i-1)
     ·rw[decide_eq_true z]
      exact wpS_pure (y1 z)
     ·rw[decide_eq_false z]
      exact wpS_pure (y2 z)))) fun k' b1 b2 b3 b4=>?_)
    exact wpS_pure (h k' st5 (by omega) b2 o5 b3)
theorem Sg.sa {st:SortSt}(h:Sg rk st 0 (arrOf st).size):SA rk (arrOf st).toList:=SA.of fun i j hij hj=>h i j (Nat.zero_le _) (by omega) (by simpa using hj)
end
end Sco
namespace Sco
open PySem PyProof.Rows PySem.W
section
variable {prog:Program}{w:World}{A:Around}{E:Value→Shared→Prop}{s:Shared}{it T:List Keyed}{κ:SortKind}{n:Nat}{rk:Value→Int}
theorem ZT:∀ z,z≤63→2≤z→minRun' z z 0=z:=by decide
theorem Ud (C:Cmp prog w A s it κ rk){st:SortSt}(t:TB it T κ n st) (hp:pendingOf st = #[]) (h2:2≤n) (h66:n≤63){Q:Unit→SortSt→Prop}(h:∀ st',TB it T κ n st'→Sg rk st' 0 n→Q () st'):wpS (model prog w) A E s sortRuns' Q st:=by
 have r1:=ZT n h66 h2
 rw[sortRuns'_eq]
 refine wpS_bind (wpS_get ?_)
 rw[t.z]
 dsimp only
 refine wpS_bind (wpS_mono (wpS_forRange (I:=fun i c st'=>TB it T κ n st'∧∃ lo,c=(none,lo)∧i≤lo∧((lo=0∧pendingOf st' = #[])∨(lo=n∧Sg rk st' 0 n∧∃ p1,pendingOf st' = #[(0,n,p1)])))
  (Q:=fun c st'=>TB it T κ n st'∧∃ lo,c=(none,lo)∧Sg rk st' 0 n∧∃ p1,pendingOf st' = #[(0,n,p1)]) ?_ ?_ ⟨t,0,rfl,Nat.le_refl _,.inl ⟨rfl,hp⟩⟩) ?_)
 ·rintro i c st1 _ hi ⟨t1,lo,rfl,hil,hc⟩
  dsimp only
  rcases hc with⟨rfl,hpd⟩ | ⟨rfl,s1,hpd⟩
  ·rw[if_neg (by omega)]
   refine wpS_bind (Wc (p:=pendingOf st1) (f:=ks rk st1) C ⟨t1,rfl,fun _ _=>rfl⟩ (by omega) (by omega) fun fd st0 f1 f2 o0 s0=>?_)
   dsimp only
   rw[Nat.zero_add] at s0
   rw[r1]
   by_cases q2:fd<n
   ·rw[if_pos q2]
    refine wpS_bind (wpS_lift (wpAny_rule ⟨rfl,?_⟩))
    refine wpS_bind (zcp C o0 (by omega) (by omega) (by omega) (by rw[Nat.zero_add];exact s0) fun st2 o2 s2=>?_)
    simp only[Bool.not_true,Bool.false_eq_true,if_false]
    refine wpS_bind (wpS_get ?_)
    rw[o2.p,hpd]
    refine wpS_bind (wpS_modify (wpS_pure ⟨⟨o2.t.z,o2.t.p,o2.t.i,o2.t.k,o2.t.f⟩,_,rfl,by omega,.inr ⟨by omega,?_,0,?_⟩⟩))
    ·have e:0+min (n-0) n=n:=by omega
     rw[e] at s2
     exact s2
    ·show(pendingOf st2).push _=_
     rw[o2.p,hpd,Nat.sub_zero,Nat.min_self]
     rfl
   ·rw[if_neg q2]
    have ef:fd=n:=by omega
    refine wpS_bind (wpS_get ?_)
    rw[o0.p,hpd]
    refine wpS_bind (wpS_modify (wpS_pure ⟨⟨o0.t.z,o0.t.p,o0.t.i,o0.t.k,o0.t.f⟩,_,rfl,by omega,.inr ⟨by omega,by rw[ef] at s0;exact s0,0,?_⟩⟩))
    show(pendingOf st0).push _=_
    rw[o0.p,hpd,ef]
    rfl
  ·rw[if_pos (Nat.le_refl _)]
   exact wpS_pure ⟨t1,_,rfl,s1,hpd⟩
 ·rintro c st1 ⟨t1,lo,rfl,hil,hc⟩
  rcases hc with⟨l0,_⟩ | ⟨_,h⟩
  ·omega
  ·exact⟨t1,lo,rfl,h⟩
 ·rintro c st1 ⟨t1,lo,rfl,sf,p1,hpd⟩
  dsimp only
  refine wpS_bind (wpS_mono (wpS_forRange (I:=fun i c st'=>st'=st1∧c=(none,())) (Q:=fun c st'=>st'=st1∧c=(none,())) ?_ (fun _ _ h=>h) ⟨rfl,rfl⟩) ?_)
  ·rintro i c st2 _ hi ⟨rfl,rfl⟩
   refine wpS_bind (wpS_get ?_)
   rw[hpd]
   exact wpS_pure ⟨rfl,rfl⟩
  ·rintro c st2 ⟨rfl,rfl⟩
   exact wpS_pure (h st2 t1 sf)
end
def PrV (h:Heap) (v:Value) (p:Int×Int):Prop:=∃ x o t u n,v=.ref x∧h.get? x=some o∧o.cls=.type "tuple" ∧ o.data=.seq #[.int p.1 t,.int p.2 u] n
noncomputable def rkP (p:Int×Int):Int:=p.1*1000+p.2
section
variable {prog:Program}{w:World}{A:Around}{E:Value→Shared→Prop}{s:Shared}
theorem zda {x y:Value}{p q:Int×Int}(hx:PrV s.heap x p) (hy:PrV s.heap y q) (bp:0≤p.2∧p.2<1000) (bq:0≤q.2∧q.2<1000){Q:Bool→Shared→Prop}(h:Q (decide (rkP p<rkP q)) s):wpAny (model prog w) A (keyLt' (tuples' true) x y) Q E s:=by
 obtain⟨x,o,t,u,n,rfl,ho,_,hd⟩:=hx
 obtain⟨y,o',t',u',n',rfl,ho',_,hd'⟩:=hy
 unfold rkP at h
 refine kat_lt ho hd ho' hd' (kat_cons (wpAny_eqBool_int ?_))
 by_cases e1:p.1=q.1
 ·refine kat_go (fun _=>kat_yes (kat_cons (wpAny_eqBool_int ?_))) fun z=>absurd e1 (by simpa using z)
  by_cases e2:p.2=q.2
  ·refine kat_go (fun _=>kat_yes (kat_nil ?_)) fun z=>absurd e2 (by simpa using z)
   have e:decide (p.1*1000+p.2<q.1*1000+q.2)=false:=decide_eq_false (by omega)
   rw[e] at h
   exact h
  ·refine kat_go (fun z=>absurd (by simpa using z) e2) fun _=>kat_no (kat_one _ _ (lt_int ?_))
   have e:decide (p.1*1000+p.2<q.1*1000+q.2)=decide (p.2<q.2):=decide_eq_decide.mpr (by omega)
   rw[e] at h
   exact h
 ·refine kat_go (fun z=>absurd (by simpa using z) e1) fun _=>kat_no (oneLt_int ?_)
  have e:decide (p.1*1000+p.2<q.1*1000+q.2)=decide (p.1<q.1):=decide_eq_decide.mpr (by omega)
  rw[e] at h
  exact h
theorem Zv:∀ {vs:List Value},(∀ v∈vs,(∃ p,PrV s.heap v p))→∃ fs:List Value,KatTups s.heap vs fs∧fs.length=vs.length∧∀ f∈fs,∃ i t,f=.int i t
 |[],_=>⟨[],.nil,rfl,fun f hf=>by cases hf⟩
 |v::vs,h=>by
  obtain⟨fs,k,hl,hi⟩:=Zv (vs:=vs) fun v hv=>h v (List.mem_cons_of_mem _ hv)
  obtain⟨⟨i,j⟩,x,o,t,u,n,rfl,ho,hc,hd⟩:=h v List.mem_cons_self
  refine⟨.int i t::fs,.cons ho hc hd rfl k,by simp[hl],fun f hf=>?_⟩
  rcases List.mem_cons.mp hf with rfl | hf
  ·exact⟨i,t,rfl⟩
  ·exact hi f hf
theorem Vl {vs:List Value}(h:∀ v∈vs,(∃ p,PrV s.heap v p)) (hne:0<vs.length){Q:SortKind→Shared→Prop}(q:Q (tuples' true) s):wpAny (model prog w) A (keyKind' vs.toArray) Q E s:=by
 obtain⟨fs,k,hl,hi⟩:=Zv h
 refine kat_kind (T:=.type "int") k (by omega) (fun v hv=>?_) rfl q
 obtain⟨i,t,rfl⟩:=hi v hv
 exact Looks.of_pure rfl
theorem uz {vs:List Value}{p:Keyed}(h:p∈vs.toArray.zip vs.toArray):p.1∈vs∧p.2∈vs:=by
 have h:p∈(vs.toArray.zip vs.toArray).toList:=Array.mem_def.mp h
 rw[Array.toList_zip] at h
 obtain⟨a,b⟩:=p
 exact List.of_mem_zip h
theorem PrV.keeps {h h':Heap}{v:Value}{p:Int×Int}(q:PrV h v p) (k:∀ b o,h.get? b=some o→o.cls=.type "tuple" → h'.get? b=some o):PrV h' v p:=by
 obtain⟨x,o,t,u,n,e,ho,hc,hd⟩:=q
 exact⟨x,o,t,u,n,e,k _ _ ho hc,hc,hd⟩
theorem Za:∀ vs:List Value,(vs.toArray.zip vs.toArray).toList.map (fun p:Keyed=>p.2)=vs:=fun vs=>by
 rw[Array.toList_zip]
 exact List.map_snd_zip (Nat.le_refl _)
theorem ub {vs:List Value}{p:Keyed}(h:p∈(vs.toArray.zip vs.toArray).toList):p.1=p.2:=by
 rw[Array.toList_zip] at h
 obtain⟨i,hi,e⟩:=List.getElem_of_mem h
 rw[List.getElem_zip] at e
 rw[← e]
theorem Vk {vs:List Value}{val:Value→Int×Int}(h:∀ v∈vs,PrV s.heap v (val v)) (hb:∀ v∈vs,0≤(val v).2∧(val v).2<1000) (h2:2≤vs.length) (h66:vs.length≤63){Q:Unit→SortSt→Prop}
  (q:∀ st':SortSt,failedOf st'=none→((arrOf st').map (·.2)).toList.Perm vs→((arrOf st').map (·.2)).toList.Pairwise (fun x y=>rkP (val x)≤rkP (val y))→Q () st') :
  wpS (model prog w) A E s sortRuns' Q (SortSt.mk' (tuples' true) (vs.toArray.zip vs.toArray) #[] 7 none):=by
 have hz:(vs.toArray.zip vs.toArray).size=vs.length:=by simp
 refine Ud (it:=(vs.toArray.zip vs.toArray).toList) (T:=(vs.toArray.zip vs.toArray).toList) (κ:=tuples' true) (n:=vs.length) (rk:=fun v=>rkP (val v)) (fun x hx y hy Q E hq=>?_) ⟨hz,List.Perm.refl _,fun x hx=>Array.mem_def.mp hx,rfl,rfl⟩ rfl h2 h66 fun st' t sg=>q st' t.f ?_ ?_
 ·have mx:=(uz (Array.mem_def.mpr hx)).1
  have my:=(uz (Array.mem_def.mpr hy)).1
  exact zda (h _ mx) (h _ my) (hb _ mx) (hb _ my) hq
 ·rw[Array.toList_map]
  have:=t.p.map (fun p:Keyed=>p.2)
  rw[Za] at this
  exact this
 ·rw[Array.toList_map,List.pairwise_map]
  have sa:SA (fun v=>rkP (val v)) (arrOf st').toList:=Sg.sa (by rw[t.z];exact sg)
  refine sa.imp_of_mem fun {x y} hx hy hxy=>?_
  rw[← ub (t.p.mem_iff.mp hx),← ub (t.p.mem_iff.mp hy)]
  exact hxy
theorem uN {a:Addr}{vs:List Value}{n:Nat}{P:PySem.Fin→Shared→Prop}(ho:s.heap.get? a=some (seqObj "list" vs.toArray n)){val:Value→Int×Int}(hp:∀ v∈vs,PrV s.heap v (val v)) (hb:∀ v∈vs,0≤(val v).2∧(val v).2<1000) (h66:vs.length≤63)
  (h:∀ o:Array Value,o.toList.Perm vs→o.toList.Pairwise (fun x y=>rkP (val x)≤rkP (val y))→P (.done (.ret .none)) { s with heap:=sortedHeap s.heap a vs o }):wpAny (model prog w) A (Builtin.«list.sort» ⟨[.ref a],[]⟩) P E s:=by
 have big:63≤sizeLine:=by decide
 have ha:=Heap.lt_size ho
 rw[list_sort_plain]
 refine wpAny_bind (listItems_at ho rfl (wpAny_bind (listUpdate_at ho rfl ?_ (by simp;omega) (Nat.zero_le _))))
 have o1:=get?_update_seq ho (fun _=>(#[]:Array Value))
 refine wpAny_bind (seqEpoch_at o1 rfl (wpAny_bind (wpAny_newTuple (wpAny_bind (wpAny_newList (wpAny_holding ?_) (Nat.zero_le _))) (by show vs.length≤_;omega))))
 generalize hH:Heap.push (Heap.push (s.heap.update a (Obj.mapSeq fun _=>(#[]:Array Value))) (seqObj "tuple" vs.toArray 0)) (seqObj "list" #[] 0)=H6
 have hs:∀ o:Array Value,sortedHeap s.heap a vs o=H6.update a (Obj.mapSeq fun _=>o):=fun o=>by rw[← hH];rfl
 have o6:=Heap.get?_push_of_some (seqObj "list" #[] 0) (Heap.get?_push_of_some (seqObj "tuple" vs.toArray 0) o1)
 rw[hH] at o6
 have hp6:∀ v∈vs,PrV H6 v (val v):=fun v hv=>(hp v hv).keeps fun b o e hc=>by
  have hb:a≠b:=fun z=>by
   rw[← z,ho] at e
   cases e
   have hc:Value.type "list" = .type "tuple" := hc
   injection hc with hc
   exact absurd hc (by decide)
  rw[← hH]
  refine Heap.get?_push_of_some _ (Heap.get?_push_of_some _ ?_)
  rw[Heap.get?_update_other _ _ hb]
  exact e
 have e6:({ s with heap:=Heap.push (Heap.push (s.heap.update a (Obj.mapSeq fun _=>(#[]:Array Value))) (seqObj "tuple" vs.toArray 0)) (seqObj "list" #[] 0) }:Shared)={ s with heap:=H6 }:=by rw[hH]
 refine(show wpAny (model prog w) A _ P E { s with heap:=H6 } from ?_)
 dsimp only
 have hz0:((vs.toArray.zip vs.toArray).map (fun p:Keyed=>p.2)).size=vs.length:=by simp
 by_cases q:vs.toArray.size<2
 ·rw[if_pos q,if_pos q]
  refine wpAny_bind (wpAny_pure ?_)
  rw[StateT.run_pure]
  refine wpAny_bind (wpAny_pure (wpAny_bind (seqEpoch_at o6 rfl (wpAny_bind (listUpdate_at o6 rfl ?_ (Nat.zero_le _) (by show((vs.toArray.zip vs.toArray).map (fun p:Keyed=>p.2)).size≤_;omega))))))
  simp only[bne_self_eq_false,Bool.false_eq_true,if_false]
  refine wpAny_pure ?_
  rw[← hs]
  have e:((vs.toArray.zip vs.toArray).map (fun p:Keyed=>p.2)).toList=vs:=by rw[Array.toList_map];exact Za vs
  refine h _ (by rw[e]) ?_
  rw[e]
  have q:vs.length<2:=by simpa using q
  match vs,q with
  |[],_=>exact List.Pairwise.nil
  |[x],_=>exact List.pairwise_singleton _ _
 ·rw[if_neg q,if_neg q]
  have q:2≤vs.length:=by simp at q;omega
  refine wpAny_bind (Vl (fun v hv=>⟨_,hp6 v hv⟩) (by omega) ?_)
  refine wpAny_bind (wpAny_mono (Vk (s:={ s with heap:=H6 }) hp6 hb q h66 (Q:=fun _ st'=>failedOf st'=none∧((arrOf st').map (·.2)).toList.Perm vs∧((arrOf st').map (·.2)).toList.Pairwise (fun x y=>rkP (val x)≤rkP (val y))) fun st' a1 a2 a3=>⟨a1,a2,a3⟩) ?_ fun _ _ e=>e)
  rintro⟨⟨⟩,st'⟩ s' ⟨rfl,hf,hz,hm⟩
  have hz':((arrOf st').map (·.2)).size=vs.length:=by rw[← Array.length_toList,hz.length_eq]
  refine wpAny_bind (seqEpoch_at o6 rfl (wpAny_bind (listUpdate_at o6 rfl ?_ (Nat.zero_le _) (by show((arrOf st').map (·.2)).size≤_;omega))))
  rw[hf]
  simp only[bne_self_eq_false,Bool.false_eq_true,if_false]
  refine wpAny_pure ?_
  rw[← hs]
  exact h _ hz hm
theorem vk {l:Addr}{vs:List Value}{Q:Value→Shared→Prop}(hl:s.heap.IsList l vs.toArray){val:Value→Int×Int}(hp:∀ v∈vs,PrV s.heap v (val v)) (hb:∀ v∈vs,0≤(val v).2∧(val v).2<1000) (h66:vs.length≤63)
  (h:∀ o:Array Value,o.toList.Perm vs→o.toList.Pairwise (fun x y=>rkP (val x)≤rkP (val y))→Q (.ref (s.heap.objs.size+1)) { s with heap:=sortedAll s.heap vs o }):wpAny (model prog w) A (call (.builtin "sorted") [.ref l]) Q E s:=by
 have big:63≤sizeLine:=by decide
 refine Calls.call_function_entry kind_sorted plain_sorted entry_sorted (args_sorted1 _) ?_
 unfold Builtin.«sorted»
 refine wpAny_bind (m:=checkCount "sorted" 1 1 _) (wpAny_pure (wpAny_bind (collect_list hl (wpAny_bind (wpAny_newList ?_ (by show vs.length≤_;omega))) (by omega))))
 have hz:(Heap.update (Heap.push s.heap (seqObj "list" #[] 0)) s.heap.objs.size (Obj.mapSeq fun x=>x++vs.toArray)).objs.size=s.heap.objs.size+1:=(Heap.size_update _ _ _).trans (size_push' _ _)
 have hk:∀ b o,s.heap.get? b=some o→(Heap.push (Heap.update (Heap.push s.heap (seqObj "list" #[] 0)) s.heap.objs.size (Obj.mapSeq fun x=>x++vs.toArray)) (seqObj "list" vs.toArray 0)).get? b=some o:=fun b o e=>by
  refine Heap.get?_push_of_some _ ?_
  rw[Heap.get?_update_other _ _ (Nat.ne_of_gt (Heap.lt_size e))]
  exact Heap.get?_push_of_some _ e
 have ho:=Heap.get?_push_size (Heap.update (Heap.push s.heap (seqObj "list" #[] 0)) s.heap.objs.size (Obj.mapSeq fun x=>x++vs.toArray)) (o:=seqObj "list" vs.toArray 0) rfl
 refine(show wpAny _ _ _ _ _ { s with heap:=Heap.push (Heap.update (Heap.push s.heap (seqObj "list" #[] 0)) s.heap.objs.size (Obj.mapSeq fun x=>x++vs.toArray)) (seqObj "list" vs.toArray 0) } from ?_)
 rw[hz] at ho ⊢
 refine wpAny_bind (wpAny_holding (wpAny_call_entry slot_list_sort ⟨_,ho,rfl⟩ entry_list_sort ?_ (args_list_sort _)))
 refine uN ho (fun v hv=>(hp v hv).keeps fun b o e _=>hk b o e) hb h66 fun o z m=>⟨_,rfl,wpAny_pure ⟨_,rfl,h o z m⟩⟩
end
section
variable {X:Cx}
abbrev PT:=Addr×Int×Int
theorem ZD {α β:Type}{f:α→β}:∀ {l m:List β},l.Perm m→∀ ps:List α,ps.map f=m→∃ qs:List α,qs.Perm ps∧qs.map f=l:=by
 intro l m h
 induction h with
 |nil =>
  intro ps e
  exact⟨ps,List.Perm.refl _,e⟩
 | @cons x l m _ ih =>
  intro ps e
  cases ps with
  |nil=>cases e
  |cons p ps =>
   rw[List.map_cons] at e
   injection e with e1 e2
   obtain⟨qs,h1,h2⟩:=ih ps e2
   exact⟨p::qs,h1.cons p,by rw[List.map_cons,h2,e1]⟩
 |swap x y l =>
  intro ps e
  match ps,e with
  |p::q::ps,e =>
   rw[List.map_cons,List.map_cons] at e
   injection e with e1 e2
   injection e2 with e2 e3
   exact⟨q::p::ps,List.Perm.swap _ _ _,by rw[List.map_cons,List.map_cons,e1,e2,e3]⟩
 |trans _ _ ih1 ih2 =>
  intro ps e
  obtain⟨qs,h1,h2⟩:=ih2 ps e
  obtain⟨rs,h3,h4⟩:=ih1 qs h2
  exact⟨rs,h3.trans h1,h4⟩
noncomputable def vlH (H:Hp):Value→Int×Int
 |.ref a=>match H a with
  |some (.tup [.int i,.int j])=>(i,j)
  |_=>(0,0)
 |_=>(0,0)
def PsAt (H:Hp) (ps:List PT):Prop:=∀ p∈ps,H p.1=some (.tup [.int p.2.1,.int p.2.2])∧0≤p.2.2∧p.2.2<1000
theorem PsAt.vl {H:Hp}{ps:List PT}(h:PsAt H ps){p:PT}(hp:p∈ps):vlH H (.ref p.1)=p.2:=by
 show(match H p.1 with
  |some (.tup [.int i,.int j])=>(i,j)
  |_=>(0,0))=p.2
 rw[(h p hp).1]
theorem PsAt.prv {pins:List (Addr×Obj)}{σ:St}{H:Hp}{s:Shared}{ps:List PT}(I:Inv X pins σ H s) (h:PsAt H ps):∀ v∈ps.map (fun p=>Value.ref p.1),PrV s.heap v (vlH H v):=fun v hv=>by
 obtain⟨p,hp,rfl⟩:=List.mem_map.mp hv
 rw[h.vl hp]
 obtain⟨_,vs,rr,ob,e1,e2,n,e3⟩:=(show ObjOk X.prog X.w H s.heap p.1 (.tup [.int p.2.1,.int p.2.2]) from I.hok p.1 _ (h p hp).1)
 cases rr with
 |cons r1 rr =>
  cases rr with
  |cons r2 rr =>
   cases rr
   obtain⟨t1,rfl⟩:=r1
   obtain⟨t2,rfl⟩:=r2
   exact⟨p.1,ob,t1,t2,n,rfl,e1,e2,e3⟩
theorem vg:∀ {ps:List PT}{us:List Value},Vals (ps.map fun p=>V.ref p.1) us→us=ps.map fun p=>Value.ref p.1
 |[],_,h=>by cases h;rfl
 |p::ps,_,h=>by
  cases h with
  |cons r t =>
   cases r
   rw[List.map_cons,vg t]
theorem vn:∀ (ps:List PT),Vals (ps.map fun p=>V.ref p.1) (ps.map fun p=>Value.ref p.1)
 |[]=>.nil
 |p::ps=>.cons rfl (vn ps)
def Uy (K:PySem.W.Frag):List V→Hp→VK→Prop:=fun xs H Q=>∃ (a:Addr) (ps:List PT),xs=[V.ref a]∧SqL K H a (ps.map fun p=>V.ref p.1)∧ps.length≤63∧PsAt H ps ∧
 ∀ (l:Addr) (qs:List PT),H l=none→qs.Perm ps→qs.Pairwise (fun x y=>rkP x.2≤rkP y.2)→Q (.ref l) (upd H l (.lst (qs.map fun p=>V.ref p.1)))
theorem Zn {H:Hp}{ps:List PT}(h:PsAt H ps){o:Array Value}(po:o.toList.Perm (ps.map fun p=>Value.ref p.1)) (so:o.toList.Pairwise (fun x y=>rkP (vlH H x)≤rkP (vlH H y))):∃ qs:List PT,qs.Perm ps∧qs.Pairwise (fun x y=>rkP x.2≤rkP y.2)∧o.toList=qs.map fun p=>Value.ref p.1:=by
 obtain⟨qs,h1,h2⟩:=ZD po ps rfl
 refine⟨qs,h1,?_,h2.symm⟩
 rw[← h2,List.pairwise_map] at so
 refine so.imp_of_mem fun {x y} hx hy hxy=>?_
 rw[h.vl (h1.mem_iff.mp hx),h.vl (h1.mem_iff.mp hy)] at hxy
 exact hxy
theorem call_sortX:xB X (.builtin "sorted") (Uy X.K):=by
 intro pins s σ H xs us Q I r h
 obtain⟨a,ps,rfl,ha,h66,hy,q⟩:=h
 obtain⟨u,rfl,ru⟩:=r.one
 cases ru
 obtain⟨its,rv,p,hz⟩:=I.list ha
 have hl:=vg rv
 subst hl
 refine vk p.isList (hy.prv I) (fun v hv=>?_) (by rw[List.length_map];exact h66) fun o z m=>?_
 ·obtain⟨p,hp,rfl⟩:=List.mem_map.mp hv
  rw[hy.vl hp]
  exact(hy p hp).2
 ·obtain⟨qs,h1,h2,h3⟩:=Zn hy z m
  have hn:H (s.heap.objs.size+1)=none:=I.hok.fresh (Nat.le_succ _)
  obtain⟨c,hc⟩:=sortedAll_at s.heap (ps.map fun p=>Value.ref p.1) o
  refine⟨.ref _,_,I.laid (a:=s.heap.objs.size+1) (o:=.lst (qs.map fun p=>V.ref p.1)) (t':=s.toks) (fun _ _ e=>sortedAll_old e) (Nat.le_succ _) ⟨by rw[List.length_map,h1.length_eq];rw[List.length_map] at hz;exact hz,o.toList,c,by rw[h3];exact vn qs,hc⟩,rfl,q _ qs hn h1 h2⟩
end
end Sco
end L2
namespace L2
open PySem PySem.Spec PyProof.Rows
def Yp (h:Heap) (d:Addr) (es:Array DictEntry) (ep:Nat):Prop:=∃ o,h.get? d=some o∧o.ExactDict∧o.data=.dict es ep
section
variable {X:Cx}
theorem vZ:OpR X (compareOp .IsNot) (fun x y H Q=>∃ b,x=.bl b∧y=.bl true∧Q (.bl (!b)) H):=by
 intro pins s σ H x y v u Q I rx ry h
 obtain⟨b,rfl,rfl,q⟩:=h
 cases rx
 cases ry
 have e:compareOp .IsNot (.bool b) (.bool true)=pure (.bool (!b)):=by cases b<;>rfl
 rw[e]
 exact wpAny_pure ⟨.bl (!b),H,I,rfl,q⟩
end
def KIt (h:Heap) (it d:Addr) (i n ep:Nat):Prop:=h.get? it=some { cls:=.type "dict_keyiterator",data:=.fields #[.ref d,.int i 0,.int n 0,.int ep 0] }
section
variable {prog:Program}{w:World}{A:Around}{E:Value→Shared→Prop}{s:Shared}
theorem X9 {it d:Addr}{i ep:Nat}{es:Array DictEntry}{e:DictEntry}{Q:PySem.Fin→Shared→Prop}(hi:KIt s.heap it d i es.size ep) (hd:Yp s.heap d es ep) (he:es[i]?=some e)
  (h:∀ h',KIt h' it d (i+1) es.size ep→Heap.SameBut it s.heap h'→Q (.done (.ret e.key)) { s with heap:=h' }):wpAny (model prog w) A (Builtin.«dict_keyiterator.__next__» ⟨[.ref it],[]⟩) Q E s:=by
 obtain⟨⟨c,dct,dat,sl⟩,ho,ex,hdat⟩:=hd
 cases hdat
 have hT:s.TypeIs (.ref it) "dict_keyiterator" := ⟨_,hi,rfl⟩
 refine wpAny_bind (m:=Builtin.Dict_items.slot0 "__next__" _) (wpAny_pure ?_)
 refine wpAny_bind ?_
 refine wpAny_bind ?_
 have z1:((es.size:Int) != (es.size:Int))=false:=by simp
 have z2:((ep:Int) != (ep:Int))=false:=by simp
 repeat (any_goals (first | assumption | (simp only[z1,z2,Bool.false_eq_true,if_false]) | wp_step))
 have z3:(if (i:Int)<0 then none else es[((i:Int)).toNat]?)=some e:=by
  rw[if_neg (by omega)]
  exact he
 rw[z3]
 refine wpAny_bind ?_
 refine wpAny_bind (m:=typeNameOfWhole (.ref it)) ?_
 repeat (any_goals (first | assumption | wp_step))
 refine h _ ((Heap.get?_update_self _ hi (by kernel_rfl)).trans (congrArg some ?_)) ⟨Heap.size_update _ _ _,fun b hb=>Heap.get?_update_ne _ _ _ _ hb⟩
 kernel_rfl
theorem V9 {it d:Addr}{ep:Nat}{es:Array DictEntry}{Q:PySem.Fin→Shared→Prop}(hh:A.handled=none){i:Nat}(hi:KIt s.heap it d i es.size ep) (hle:es.size≤i) (hd:Yp s.heap d es ep)
  (h:∀ h' e,Heap.ExtBut it s.heap h'→(∃ o,h'.get? e=some o∧o.cls=.type "StopIteration")→E (.ref e) { s with heap:=h' }):wpAny (model prog w) A (Builtin.«dict_keyiterator.__next__» ⟨[.ref it],[]⟩) Q E s:=by
 obtain⟨⟨c,dct,dat,sl⟩,ho,ex,hdat⟩:=hd
 cases hdat
 have hT:s.TypeIs (.ref it) "dict_keyiterator" := ⟨_,hi,rfl⟩
 refine wpAny_bind (m:=Builtin.Dict_items.slot0 "__next__" _) (wpAny_pure ?_)
 refine wpAny_bind ?_
 refine wpAny_bind ?_
 have z1:((es.size:Int) != (es.size:Int))=false:=by simp
 have z2:((ep:Int) != (ep:Int))=false:=by simp
 repeat (any_goals (first | assumption | (simp only[z1,z2,Bool.false_eq_true,if_false]) | wp_step))
 have z3:(if (i:Int)<0 then none else es[((i:Int)).toNat]?)=none:=by
  rw[if_neg (by omega)]
  show es[i]?=none
  simp[hle]
 rw[z3]
 refine wpAny_bind ?_
 refine wpAny_bind (m:=typeNameOfWhole (.ref it)) ?_
 repeat (any_goals (first | assumption | wp_step))
 refine wpAny_raiseNew_none hh ?_
 refine h _ _ (fun b o hb e=>?_) ⟨_,Heap.get?_push_size _ rfl,rfl⟩
 exact Heap.get?_push_of_some _ (Heap.get?_push_of_some _ ((Heap.get?_update_ne _ _ _ _ hb).trans e))
theorem Zf {it d:Addr}{i ep:Nat}{es:Array DictEntry}{e:DictEntry}{Q:Option Value→Shared→Prop}(hi:KIt s.heap it d i es.size ep) (hd:Yp s.heap d es ep) (he:es[i]?=some e)
  (h:∀ h',KIt h' it d (i+1) es.size ep→Heap.SameBut it s.heap h'→Q (some e.key) { s with heap:=h' }):wpAny (model prog w) A (pyNext (.ref it)) Q E s:=by
 have hT:s.TypeIs (.ref it) "dict_keyiterator" := ⟨_,hi,rfl⟩
 unfold pyNext
 exact wpAny_bind (wpAny_attempt (wpAny_callSpecial?_slot (name:=Str.ofString "__next__") hT F.slot_dict_keyiterator_next (wpAny_call_entry F.slot_dict_keyiterator_next hT F.entry_dict_keyiterator_next (X9 hi hd he fun h' a1 a2=>⟨_,rfl,wpAny_pure (h h' a1 a2)⟩) (F.args_dict_keyiterator_next_1 _))))
theorem Yu {it d:Addr}{ep:Nat}{es:Array DictEntry}{Q:Option Value→Shared→Prop}(hh:A.handled=none){i:Nat}(hi:KIt s.heap it d i es.size ep) (hle:es.size≤i) (hd:Yp s.heap d es ep)
  (h:∀ h',Heap.ExtBut it s.heap h'→Q none { s with heap:=h' }):wpAny (model prog w) A (pyNext (.ref it)) Q E s:=by
 have hT:s.TypeIs (.ref it) "dict_keyiterator" := ⟨_,hi,rfl⟩
 unfold pyNext
 refine wpAny_bind (wpAny_attempt (wpAny_callSpecial?_slot (name:=Str.ofString "__next__") hT F.slot_dict_keyiterator_next (wpAny_call_entry F.slot_dict_keyiterator_next hT F.entry_dict_keyiterator_next (V9 hh hi hle hd fun h' e hk he=>?_) (F.args_dict_keyiterator_next_1 _))))
 obtain⟨o,ho,hc⟩:=he
 exact wpAny_bind (wpAny_isInstance (T := "StopIteration") (b:=true) ⟨o,ho,hc⟩ isSubtype_stop (wpAny_pure (h _ hk)))
theorem Zg {d:Addr}{ep:Nat}{es:Array DictEntry}{Q:Value→Shared→Prop}(hd:Yp s.heap d es ep) (hm:(d == sysModules)=false)
  (q:Q (.ref s.heap.objs.size) { s with heap:=s.heap.push { cls:=.type "dict_keyiterator",data:=.fields #[.ref d,.int 0 0,.int es.size 0,.int ep 0] } }):wpAny (model prog w) A (pyIter (.ref d)) Q E s:=by
 obtain⟨⟨c,dct,dat,sl⟩,ho,ex,hdat⟩:=hd
 cases hdat
 have hT:s.TypeIs (.ref d) "dict" := ⟨_,ho,ex.1⟩
 refine wpAny_pyIter_slot hT F.slot_dict_iter (wpAny_call_entry F.slot_dict_iter hT F.entry_dict_iter ?_ (F.args_dict_iter_1 _))
 unfold Builtin.«dict.__iter__»
 refine wpAny_bind ?_
 unfold Builtin.Dict.dictSlotNone
 refine wpAny_bind (wpAny_notOrdered_dict hT ?_)
 show wpAny _ _ (pure (Value.ref d)) _ _ _
 refine wpAny_pure ?_
 have e:Builtin.Dict.showsAll d=pure ():=by
  unfold Builtin.Dict.showsAll
  rw[if_neg (by rw[hm];simp)]
 refine wpAny_bind (m:=Builtin.Dict.addrOf (.ref d)) (wpAny_pure ?_)
 rw[e]
 repeat (any_goals (first | assumption | wp_step))
 refine⟨_,rfl, "dict_keyiterator",_,⟨_,Heap.get?_push_size _ rfl,rfl⟩,F.slot_dict_keyiterator_next.lookup,?_⟩
 exact q
end
section
variable {X:Cx}{pins:List (Addr×Obj)}{σ:St}{H G:Hp}{s:Shared}{d:Addr}{od:Obj}{kvs:List (List Key×V)}
theorem Inv.frozT (I:Inv X pins σ H s) (e:H d=some (.dT kvs)) (q0:s.heap.get? d=some od):Inv X pins σ (upd H d (.frz od (.dT kvs))) s:=by
 have ne:∀ {b:Addr}{o:HO},H b=some o→(∀ kvs,o≠.dT kvs)→upd H d (.frz od (.dT kvs)) b=some o:=fun {b o} q n=>by
  rw[upd_ne (fun z=>by rw[z,e] at q;injection q with q;exact n _ q.symm)];exact q
 have no:∀ {b:Addr},H b=none→upd H d (.frz od (.dT kvs)) b=none:=fun {b} q=>by
  rw[upd_ne (fun z=>by rw[z,e] at q;cases q)];exact q
 refine⟨I.ok,I.os,I.bare,⟨I.base.keep,I.base.slot,fun b o q n x=>no (I.base.free b o q n x),I.base.there,fun b xs q=>ne (I.base.tups b xs q) (fun _ z=>by cases z),fun b o u q=>ne (I.base.frzs b o u q) (fun _ z=>by cases z),fun b ps q=>?_⟩,I.loc,I.cell,no I.free,fun x c q=>no (I.freeC x c q),fun p hp=>?_,fun b o q=>?_,I.len⟩
 ·obtain⟨m,q⟩:=I.base.tbls b ps q
  exact⟨m,ne q (fun _ z=>by cases z)⟩
 ·obtain⟨p1,p2,p3⟩:=I.pin p hp
  exact⟨p1,no p2,p3⟩
 ·have st:∀ {b:Addr}{o:HO},H b=some o→ObjOk X.prog X.w (upd H d (.frz od (.dT kvs))) s.heap b o:=fun {b o} q=>(I.hok b o q).stay (fun c u _ q=>q) (fun c q=>ne q (fun _ z=>by cases z)) fun c xs q=>ne q (fun _ z=>by cases z)
  by_cases c:b=d
  ·subst c
   rw[upd_same] at q
   cases q
   exact⟨q0,st e⟩
  ·rw[upd_ne c] at q
   exact st q
noncomputable def ItT (d:Addr) (od:Obj) (kvs:List (List Key×V)):It :=
 ⟨fun i H=>H d=some (.frz od (.dT kvs))∧i<kvs.length,fun i H x H'=>H'=H∧∃ kv b,kvs[i]?=some kv∧x=.ref b∧H b=some (.tup (kv.1.map kV)),fun i H=>H d=some (.frz od (.dT kvs))∧kvs.length≤i⟩
theorem KT.getAt {H:Hp}:∀ {kvs:List (List Key×V)}{xs:List (List Key×Addr×Value)},KT H kvs xs→∀ {i:Nat}{p:List Key×V},kvs[i]?=some p→∃ x,xs[i]?=some x∧p.1=x.1∧H x.2.1=some (.tup (p.1.map kV))
 |_,_,.cons h t,0,p,e=>by cases e;exact⟨_,rfl,h.1,h.2.1⟩
 |_,_,.cons h t,i+1,p,e=>by
  obtain⟨x,h1,h2⟩:=KT.getAt t (i:=i) (p:=p) (by simpa using e)
  exact⟨x,by simpa using h1,h2⟩
 |_,_,.nil,i,p,e=>by simp at e
theorem xX {P:Program}{w:World}{K:PySem.W.Frag}{tg:Expr}{it d:Addr}{od:Obj}{kvs:List (List Key×V)}{es:Array DictEntry}{ep:Nat}(hed:od.ExactDict) (hda:od.data=.dict es ep) (hle:es.size=kvs.length) :
  Turn P w K tg (ItT d od kvs) [it] it (fun i h=>KIt h it d i es.size ep) where
 mem:=by simp
 obj:=fun i h o1 b hb=>by
  rw[List.mem_singleton.mp hb]
  exact⟨_,o1,fun v z=>by
   have z':Data.fields _=Data.cell v:=z
   cases z'⟩
 keep:=fun i h h' st k=>k it (by simp) _ st
 item:=by
  intro X hP hw hK hc i pins s σ H E I hf st hg
  subst hP hw hK
  obtain⟨f0,f1,f2,f3,f4,f5⟩:=hf it (by simp)
  obtain⟨d3,d4⟩:=I.hok d _ hg.1
  have hx:kvs[i]?=some (kvs[i]'hg.2):=List.getElem?_eq_getElem hg.2
  obtain⟨z,y,xs,rel,o,es2,ep2,h1,h2,h3,h4,h5⟩:=(show ObjOk X.prog X.w H s.heap d (.dT kvs) from d4)
  rw[d3] at h1
  cases h1
  rw[hda] at h3
  cases h3
  obtain⟨x,hxi,e1,e2⟩:=KT.getAt rel hx
  have he:es[i]?=some (entryOfKey (tupleKind (zr X.prog X.w)) x):=by
   rw[← Array.getElem?_toList,h4,List.getElem?_map,hxi]
   rfl
  refine Zf st ⟨od,d3,hed,hda⟩ he fun h' st4 sb=>?_
  refine⟨_,rfl,Xg (s:={ s with heap:=h' }) (n := "dict_keyiterator") st4 rfl rfl (by decide) ⟨.ref x.2.1,H,I.turned (t':=s.toks) (fun b o hb q=>sb.extBut b o hb q) f0 f1 f3 f4 f5,rfl,⟨rfl,_,x.2.1,hx,rfl,e2⟩,st4,fun b hb=>(hf b hb).1⟩⟩
 done:=by
  intro X hP hw hK hc i pins s σ H E I hf st hg
  subst hP hw hK
  obtain⟨f0,f1,f2,f3,f4,f5⟩:=hf it (by simp)
  have d3:=(I.hok d _ hg.1).1
  exact Yu (I.ok.hd hc) st (by have:=hg.2;omega) ⟨od,d3,hed,hda⟩ fun h' kk=>⟨rfl,I.turned (t':=s.toks) (fun b o hb q=>kk b o hb q) f0 f1 f3 f4 f5⟩
 self:=fun _ i s _ _ st h=>wpAny_pyIter_keyiter (it:=it) (d:=d) (i:=i) (n:=es.size) (ep:=ep) ⟨_,st,rfl,rfl⟩ h
def zkL (td:TE):TI:=fun σ H R=>td σ H fun x H1=>∃ (d:Addr) (kvs:List (List Key×V)),x=.ref d∧H1 d=some (.dT kvs)∧∀ od:Obj,R (ItT d od kvs) (upd H1 d (.frz od (.dT kvs)))
theorem ZA {tg l:Expr}{td:TE}(hl:PE X l td):PI X tg l (zkL td):=by
 intro pins s σ H R I h
 refine thn (hl pins s σ H _ I h) fun v s1 hq0=>?_
 obtain⟨x,H1,I1,rx,d,kvs,ex,e,q⟩:=hq0
 subst ex
 obtain rfl:v=Value.ref d:=rx
 obtain⟨z,hd,xs,rel,dd⟩:=uZ I1.hok e
 obtain⟨od,es',ep,q1,q2,q3,q4,q5,q6⟩:=dd
 refine Zg ⟨od,q1,q2,q3⟩ hd ?_
 have I1f:=I1.frozT e q1
 have hle:es'.size=kvs.length:=by
  rw[← Array.length_toList,q4,List.length_map]
  exact(Paired.length rel).symm
 refine⟨_,[s1.heap.objs.size],_,_,_,rfl,I1f.kept (t':=s1.toks) fun b u q=>Heap.get?_push_of_some _ q,xX q2 q3 hle,Heap.get?_push_size _ rfl,fun b hb=>?_,q od⟩
 rw[List.mem_singleton.mp hb]
 exact I1f.fpOk (Nat.le_refl _) (I1f.hok.fresh (Nat.le_refl _))
end
theorem for_keysT {d:Addr}{od:Obj}{kvs:List (List Key×V)}{g:TG}{tb:TS}{D:Ends}{σ:St}{H:Hp}(Pv:Nat→St→Hp→Prop) (h0:Pv 0 σ H) (hf:∀ i σ H,Pv i σ H→H d=some (.frz od (.dT kvs)))
  (hs:∀ i kv b σ H,kvs[i]?=some kv→H b=some (.tup (kv.1.map kV))→Pv i σ H→g (.ref b) σ H fun σ2 H2=>tb { D with nx:=Pv (i+1),ct:=Pv (i+1),bk:=D.nx } σ2 H2) (hd:∀ σ H,Pv kvs.length σ H→D.nx σ H) :
  ∃ W:Nat→Nat→St→Hp→Prop,(∃ m,W 0 m σ H)∧∀ i m σ H,W i m σ H →
   ((ItT d od kvs).stop i H∧D.nx σ H)∨((ItT d od kvs).go i H∧∃ N:St→Hp→Prop,(∀ σ' H',N σ' H'→∃ m',m'<m∧W (i+1) m' σ' H')∧∀ x H',(ItT d od kvs).yld i H x H'→g x σ H' fun σ2 H2=>tb { D with nx:=N,ct:=N,bk:=D.nx } σ2 H2):=by
 refine⟨fun i m σ H=>m=kvs.length-i∧i≤kvs.length∧Pv i σ H,⟨_,rfl,Nat.zero_le _,h0⟩,?_⟩
 rintro i m σ H ⟨rfl,hi,p⟩
 by_cases hlt:i<kvs.length
 ·refine .inr ⟨⟨hf i σ H p,hlt⟩,Pv (i+1),fun σ' H' p'=>⟨_,by omega,rfl,hlt,p'⟩,fun x H' y=>?_⟩
  obtain⟨rfl,kv,b,hk,rfl,hb⟩:=y
  exact hs i kv b σ _ hk hb p
 ·have e:i=kvs.length:=by omega
  subst e
  exact .inl ⟨⟨hf _ σ H p,Nat.le_refl _⟩,hd σ H p⟩
section
variable {X:Cx}{pins:List (Addr×Obj)}{σ:St}{H G:Hp}{s:Shared}{d:Addr}{od:Obj}{kvs:List (Key×V)}
theorem Zc {e:Expr}{t:TE}(h:Bx (PE X e t)):Bx (PE X e (zge X.H₀ t)):=⟨Vn h.of⟩
theorem ve {st:Stmt}{t:TS}(h:Bx (PS X st t)):Bx (PS X st (zgd X.H₀ t)):=⟨Vj h.of⟩
theorem xr {o:Expr}{es:List Expr}{n:Nat}{tp:Pos}{td:TE}{apos cpos:Pos}(ho:Bx (PE X o td)) (hbase:attributeBase o "items" X.env (eval o X.env)=eval o X.env:=by rfl) (hline:(apos.endLine == cpos.line)=true:=by rfl):Bx (PI X (.Tuple es n tp) (.Call (.Attribute o "items" apos) [] [] cpos) (zkK yI X.H₀ td)):=⟨ZB ho.of hbase hline⟩
end
section
variable {X:Cx}{o e f:Expr}{apos cpos:Pos}{td ty tx:TE}
theorem xT (hu:X.A.units+1<cLine) (ho:Bx (PE X o td)) (he:Bx (PE X e ty)) (hf:Bx (PE X f tx)) (m:M2 X o "setdefault" apos e f cpos):Bx (PE X (.Call (.Attribute o "setdefault" apos) [e,f] [] cpos) (Um td ty tx)):=⟨Vq hu ho.of he.of hf.of m⟩
end
section
variable {X:Cx}{pins:List (Addr×Obj)}{σ:St}{H G:Hp}{s:Shared}{d:Addr}{od:Obj}{kvs:List (List Key×V)}
theorem vP {tg l:Expr}{td:TE}(hl:Bx (PE X l td)):Bx (PI X tg l (zkL td)):=⟨ZA hl.of⟩
end
section
variable {X:Cx}
theorem ZH {H:Hp}{q t:Addr}{i j i' j':Int}(hq:H q=some (.tup [.int i',.int j'])) (ht:H t=some (.tup [.int i,.int j])):EqP X H (.ref q) (.ref t) (decide ((i',j')=(i,j))) 1:=by
 by_cases z:q=t
 ·subst z
  rw[hq] at ht
  cases ht
  rw[decide_eq_true rfl]
  exact EqP.same
 ·refine EqP.of ?_
  have e:decide ((i',j')=(i,j))=(List.range 2).all (fun k=>if k=0 then i' == i else j' == j):=by
   show decide ((i',j')=(i,j))=((i' == i)&&((j' == j)&&true))
   by_cases h1:i'=i
   ·by_cases h2:j'=j
    ·subst h1 h2;simp
    ·subst h1;simp[h2]
   ·simp[h1]
  rw[e]
  refine EqD.tup (xs:=[.int i',.int j']) (ys:=[.int i,.int j]) (e:=fun k=>if k=0 then i' == i else j' == j) (n:=0) z (SqT.of hq) (SqT.of ht) rfl fun k x y e1 e2=>?_
  match k,e1,e2 with
  |0,e1,e2=>cases e1;cases e2;exact EqD.flat (x:=.int i') (y:=.int i) rfl rfl
  |1,e1,e2=>cases e1;cases e2;exact EqD.flat (x:=.int j') (y:=.int j) rfl rfl
  |_+2,e1,e2=>simp at e1
noncomputable def prO (ps:List (Addr×Int×Int)) (v:Value):Int×Int:=match v with
 |.ref t=>((ps.find? fun p=>p.1=t).map (·.2)).getD (0,0)
 |_=>(0,0)
theorem uq {H:Hp}{ps:List (Addr×Int×Int)}(hy:∀ p∈ps,H p.1=some (.tup [.int p.2.1,.int p.2.2])){p:Addr×Int×Int}(hm:p∈ps):prO ps (.ref p.1)=p.2:=by
 obtain⟨t,i,j⟩:=p
 have ht:=hy _ hm
 show((ps.find? fun p=>p.1=t).map (·.2)).getD (0,0)=(i,j)
 cases hf:ps.find? fun p=>p.1=t with
 |none =>
  have:=List.find?_eq_none.mp hf (t,i,j) hm
  simp at this
 |some p' =>
  have e1:p'.1=t:=by simpa using List.find?_some hf
  have h2:=hy p' (List.mem_of_find?_eq_some hf)
  rw[e1] at h2
  rw[h2] at ht
  injection ht with ht
  injection ht with ht
  obtain⟨c,i',j'⟩:=p'
  simp at ht
  simp[ht]
theorem wH:∀ {ps:List (Addr×Int×Int)}{us:List Value},Vals (ps.map fun p=>V.ref p.1) us→us=ps.map fun p=>Value.ref p.1
 |[],_,.nil=>rfl
 |p::ps,_,.cons r t=>by rw[wH t];cases r;rfl
def zjz (K:PySem.W.Frag) (A:Around) (neg:Bool):R2:=fun x y H Q=>∃ (l t:Addr) (ps:List (Addr×Int×Int)) (i j:Int),x=.ref t∧y=.ref l∧SqL K H l (ps.map fun p=>V.ref p.1)∧(∀ p∈ps,H p.1=some (.tup [.int p.2.1,.int p.2.2]))∧H t=some (.tup [.int i,.int j])∧A.units+5<cLine ∧
 Q (.bl (if neg then !decide ((i,j)∈ps.map (·.2)) else decide ((i,j)∈ps.map (·.2)))) H
theorem Yl {H:Hp}{ps:List (Addr×Int×Int)}{i j:Int}(hps:∀ p∈ps,H p.1=some (.tup [.int p.2.1,.int p.2.2])):((ps.map fun p=>Value.ref p.1).toArray.any fun v=>decide (prO ps v=(i,j)))=decide ((i,j)∈ps.map (·.2)):=by
 rw[Bool.eq_iff_iff,decide_eq_true_eq]
 simp only[List.any_toArray,List.any_eq_true,decide_eq_true_eq]
 constructor
 ·rintro⟨v,hv,e⟩
  obtain⟨p,hp,rfl⟩:=List.mem_map.mp hv
  rw[uq hps hp] at e
  exact List.mem_map.mpr ⟨p,hp,e⟩
 ·intro hm
  obtain⟨p,hp,e⟩:=List.mem_map.mp hm
  exact⟨_,List.mem_map.mpr ⟨p,hp,rfl⟩,by rw[uq hps hp];exact e⟩
theorem zjC:OpR X (compareOp .In) (zjz X.K X.A false):=by
 intro pins s σ H x y v u Q I rx ry h
 obtain⟨l,t,ps,i,j,rfl,rfl,hl,hps,ht,hu,q⟩:=h
 cases rx
 cases ry
 obtain⟨its,r,pl,hz⟩:=I.list hl
 obtain rfl:=wH r
 refine SeqAt.in_listAt (fun v=>decide (prO ps v=(i,j))) pl.isList (fun w hw=>?_) ⟨.bl _,H,I,rfl,?_⟩
 ·obtain⟨p,hp,rfl⟩:=List.mem_map.mp (List.mem_toArray.mp hw)
  rw[uq hps hp]
  exact ZH (X:=X) (hps p hp) ht pins σ s I X.A.in1 _ _ (by rw[yt];omega) rfl rfl
 ·rw[Yl hps]
  exact q
theorem ZJ:OpR X (compareOp .NotIn) (zjz X.K X.A true):=by
 intro pins s σ H x y v u Q I rx ry h
 obtain⟨l,t,ps,i,j,rfl,rfl,hl,hps,ht,hu,q⟩:=h
 cases rx
 cases ry
 obtain⟨its,r,pl,hz⟩:=I.list hl
 obtain rfl:=wH r
 refine SeqAt.notIn_listAt (fun v=>decide (prO ps v=(i,j))) pl.isList (fun w hw=>?_) ⟨.bl _,H,I,rfl,?_⟩
 ·obtain⟨p,hp,rfl⟩:=List.mem_map.mp (List.mem_toArray.mp hw)
  rw[uq hps hp]
  exact ZH (X:=X) (hps p hp) ht pins σ s I X.A.in1 _ _ (by rw[yt];omega) rfl rfl
 ·rw[Yl hps]
  exact q
end
section
variable {prog:Program}{w:World}{KK:Type} [DecidableEq KK]{knd:HeapKind prog w KK}{A:Around}{E:Value→Shared→Prop}{s:Shared}
theorem Zq {nm:String}{a b:Addr}{xs ys:List (KK×Addr×Value)}{Q:Bool→Shared→Prop}(hu:knd.room A) (ha:(a == sysModules)=false) (hb:(b == sysModules)=false)
  (da:s.heap.DictOfH knd a xs) (db:s.heap.DictOfH knd b ys) (hl:xs.length=ys.length) (hits:∀ x∈xs,∃ p,(x.1,p)∈ys∧SeqAt.EqAt A s x.2.2 p.2 true) (h:Q true s) :
  wpAny (model prog w) A (Builtin.Dict.samePairs nm a b) Q E s:=by
 obtain⟨oa,es,ep,hoa,_,hda,hea,hia,hna⟩:=da
 obtain⟨ob,es',ep',hob,_,hdb,heb,hib,hnb⟩:=db
 have hla:=size_of_entries hea
 have hlb:=size_of_entries heb
 unfold Builtin.Dict.samePairs Builtin.Dict.showsAll
 rw[if_neg (show ¬ (a == sysModules)=true by rw[ha];exact Bool.false_ne_true),if_neg (show ¬ (b == sysModules)=true by rw[hb];exact Bool.false_ne_true)]
 refine wpAny_bind (wpAny_pure (wpAny_bind (wpAny_pure ?_)))
 refine wpAny_bind (wpAny_dictEntries hoa hda ?_)
 dsimp only
 refine wpAny_bind (wpAny_dictEntries hob hdb ?_)
 rw[if_neg (by rw[hla,hlb,hl];simp)]
 refine wpAny_bind (wpAny_dictEpoch hoa hda ?_)
 refine wpAny_bind ?_
 rw[Std.Legacy.Range.forIn_eq_forIn_range']
 simp only[Std.Legacy.Range.size,Nat.sub_zero,Nat.add_sub_cancel,Nat.div_one]
 refine wpAny_forIn_list _ (fun rest q s'=>s'=s∧q=(none,())∧∃ i,rest=List.range' i (es.size-i)∧i≤es.size) _ ?_ ?_ _ _ ⟨rfl,rfl,0,by simp,Nat.zero_le _⟩
 ·rintro x rest q s' ⟨rfl,rfl,i,hr,hi⟩
  have hlt:i<es.size:=by
   rcases Nat.lt_or_ge i es.size with h | h
   ·exact h
   ·rw[Nat.sub_eq_zero_of_le h] at hr;simp at hr
  obtain⟨rfl,hrest⟩:x=i∧rest=List.range' (i+1) (es.size-(i+1)):=by
   have e:es.size-i=(es.size-(i+1))+1:=by omega
   rw[e,List.range'_succ] at hr
   injection hr with h1 h2
   exact⟨h1,h2⟩
  have hlt':x<xs.length:=by rw[← hla];exact hlt
  have hxx:xs[x]?=some xs[x]:=List.getElem?_eq_getElem hlt'
  have hxm:xs[x]∈xs:=List.getElem_mem hlt'
  refine wpAny_bind (wpAny_dictEntries hoa hda ?_)
  rw[entry_at hea x,hxx]
  generalize xs[x]=y at *
  obtain⟨k,ad,v⟩:=y
  obtain⟨p,hpm,he⟩:=hits _ hxm
  have hkey:=hia _ hxm
  dsimp only at hpm he hkey
  show wpAny _ _ (holding [Value.ref ad,v] _ >>= _) _ _ _
  refine wpAny_bind (wpAny_holding (wpAny_bind (wpAny_dictFind_heap hu hkey hob hdb heb hib hnb ?_ ?_)))
  ·intro hno
   obtain⟨j,hj⟩:=List.getElem?_of_mem hpm
   exact absurd hj (hno j p)
  ·intro j p' hj
   have ep:p'=p:=by
    have h1:=atKey_of_get hnb hj
    obtain⟨j2,hj2⟩:=List.getElem?_of_mem hpm
    have h2:=atKey_of_get hnb hj2
    rw[h1] at h2
    injection h2
   subst ep
   refine wpAny_bind (wpAny_dictEntries hob hdb ?_)
   rw[entry_at heb j,hj]
   refine wpAny_holding (he prog w _ _ ?_)
   show wpAny _ _ (if (!true)=true then _ else _) _ _ _
   rw[if_neg (by decide)]
   refine wpAny_bind (wpAny_dictEpoch hoa hda ?_)
   rw[if_neg (by simp)]
   exact wpAny_pure ⟨rfl,rfl,x+1,hrest,hlt⟩
 ·rintro q s' ⟨rfl,rfl,i,hr,hi⟩
  exact wpAny_pure h
theorem ne_heap {a b:Addr}{xs ys:List (KK×Addr×Value)}{Q:Value→Shared→Prop}(hr:knd.room A.in1) (ha:(a == sysModules)=false) (hb:(b == sysModules)=false)
  (da:s.heap.DictOfH knd a xs) (db:s.heap.DictOfH knd b ys) (hu:A.units<cLine) (hl:xs.length=ys.length) (hits:∀ x∈xs,∃ p,(x.1,p)∈ys∧SeqAt.EqAt A.in1 s x.2.2 p.2 true) (h:Q (.bool false) s) :
  wpAny (model prog w) A (compareOp .NotEq (.ref a) (.ref b)) Q E s:=by
 refine wpAny_richCompare_same_room (op:=.NotEq) da.typeIs db.typeIs PySem.F.slot_dict_ne (wpAny_call_entry PySem.F.slot_dict_ne da.typeIs PySem.F.entry_dict_ne ?_ (PySem.F.args_dict_ne_2 _ _)) hu
 show wpAny _ _ (Builtin.Dict.dictSlotArgs "__ne__" ⟨[.ref a,.ref b],[]⟩ >>= _) _ _ s
 refine wpAny_bind ?_
 unfold Builtin.Dict.dictSlotArgs
 refine wpAny_bind (wpAny_notOrdered_dict da.typeIs ?_)
 show wpAny _ _ (pure (Value.ref a,Value.ref b)) _ _ s
 refine wpAny_pure ?_
 refine wpAny_bind (wpAny_isInstance (T := "dict") db.typeIs PySem.F.sub_dict_dict ?_)
 simp only[Bool.not_true,Bool.false_eq_true,if_false]
 refine wpAny_bind (wpAny_pure (wpAny_bind (wpAny_pure ?_)))
 refine wpAny_bind (Zq hr ha hb da db hl hits ?_)
 refine wpAny_pure ⟨_,rfl,?_,?_⟩
 ·exact fun x=>nomatch x
 ·simpa using h
end
section
variable {X:Cx}
def zc8 (X:Cx):R2:=fun x y H Q=>∃ (a b:Addr) (kva kvb:List (List Key×V)) (n:Nat),x=.ref a∧y=.ref b∧H a=some (.dT kva)∧H b=some (.dT kvb)∧kva.length=kvb.length∧X.A.units+n+2<cLine ∧
 (∀ p∈kva,∃ y,(p.1,y)∈kvb∧EqP X H p.2 y true n)∧Q (.bl false) H
theorem KT.get1 {H:Hp}{kvs:List (List Key×V)}{xs:List (List Key×Addr×Value)}(r:KT H kvs xs):∀ {x},x∈xs→∃ p∈kvs,p.1=x.1∧RelV p.2 x.2.2:=by
 induction r with
 |nil=>intro x hx;exact nomatch hx
 | @cons p q ps qs hq t ih =>
  intro x hx
  rcases List.mem_cons.mp hx with z | z
  ·exact⟨p,List.mem_cons_self,by rw[z];exact hq.1,by rw[z];exact hq.2.2⟩
  ·obtain⟨p',h1,h2⟩:=ih z
   exact⟨p',List.mem_cons_of_mem _ h1,h2⟩
theorem KT.get2 {H:Hp}{kvs:List (List Key×V)}{xs:List (List Key×Addr×Value)}(r:KT H kvs xs):∀ {p},p∈kvs→∃ x∈xs,p.1=x.1∧RelV p.2 x.2.2:=by
 induction r with
 |nil=>intro x hx;exact nomatch hx
 | @cons p q ps qs hq t ih =>
  intro x hx
  rcases List.mem_cons.mp hx with z | z
  ·exact⟨q,List.mem_cons_self,by rw[z];exact hq.1,by rw[z];exact hq.2.2⟩
  ·obtain⟨p',h1,h2⟩:=ih z
   exact⟨p',List.mem_cons_of_mem _ h1,h2⟩
theorem Vv:OpR X (compareOp .NotEq) (zc8 X):=by
 intro pins s σ H x y v u Q I rx ry h
 obtain⟨a,b,kva,kvb,n,rfl,rfl,ha,hb,hl,hu,hi,q⟩:=h
 cases rx;cases ry
 obtain⟨z1,d1,xs,r1,o1⟩:=wu I.hok (.inl ha)
 obtain⟨z2,d2,ys,r2,o2⟩:=wu I.hok (.inl hb)
 refine ne_heap (tupleKind_room_in1 (by omega)) d1 d2 o1 o2 (by omega) (by rw[← r1.length,← r2.length,hl]) (fun x hx=>?_) ⟨.bl false,H,I,rfl,q⟩
 obtain⟨p,hp,e1,rv⟩:=r1.get1 hx
 obtain⟨y,hy,he⟩:=hi p hp
 obtain⟨x',hx',e2,rv2⟩:=r2.get2 hy
 refine⟨x'.2,?_,he pins σ s I _ _ _ (by rw[yt];omega) rv rv2⟩
 have:(x.1,x'.2)=x':=by rw[← e1,e2]
 rw[this]
 exact hx'
end
section
variable {prog:Program}{w:World}{A:Around}{E:Value→Shared→Prop}{s:Shared}
theorem YI (d:Addr) (hd:(d == sysModules)=false) :
  MeetsIn prog w (Builtin.«dict.items» ⟨[.ref d],[]⟩) (fun _ R s=>s.TypeIs (.ref d) "dict" ∧
   R (.ok (.ret (.ref s.heap.objs.size))) { s with heap:=s.heap.push { cls:=.type "dict_items",data:=.fields #[.ref d] } }) :=
 .of_wp fun A R s ⟨hm,h⟩=>by
  unfold Builtin.«dict.items»
  refine wpAny_bind ?_
  unfold Builtin.Dict.noArgs
  refine wpAny_bind (wpAny_notOrdered_dict hm ?_)
  show wpAny _ _ (pure d) _ _ s
  refine wpAny_pure ?_
  show wpAny _ _ (Builtin.Dict.showsAll d >>= _) _ _ s
  unfold Builtin.Dict.showsAll
  rw[if_neg (by rw[hd];exact Bool.false_ne_true)]
  refine wpAny_bind (wpAny_pure ?_)
  exact wpAny_bind (wpAny_newObj_type (wpAny_pure ⟨_,rfl,h⟩))
theorem Vb {v d:Addr}{es:Array DictEntry}{ep:Nat}{Q:Value→Shared→Prop}(hv:s.heap.IsItemsView v d) (hm:Yp s.heap d es ep)
  (hQ:Q (.ref s.heap.objs.size) { s with heap:=s.heap.push { cls:=.type "dict_itemiterator",data:=.fields #[.none,.bool false,.ref d,.int 0 0,.int es.size 0,.int ep 0,.none,.none] } }) :
  wpAny (model prog w) A (pyIter (.ref v)) Q E s:=by
 obtain⟨ov,hov,hcv,hdv⟩:=id hv
 obtain⟨o,ho,hc,hdat⟩:=id hm
 refine wpAny_pyIter_slot hv.typeIs F.slot_dict_items_iter (wpAny_call_entry F.slot_dict_items_iter hv.typeIs F.entry_dict_items_iter ?_ (F.args_dict_items_iter_1 _))
 unfold Builtin.«dict_items.__iter__»
 refine wpAny_bind (wpAny_pure ?_)
 refine wpAny_bind ?_
 unfold Builtin.Dict_items.dictOf
 refine wpAny_bind (wpAny_field hov hdv (x:=.ref d) rfl (wpAny_pure ?_))
 refine wpAny_bind ?_
 unfold Builtin.Dict_items.newIterator
 refine wpAny_bind (wpAny_dictEntries ho hdat ?_)
 refine wpAny_bind (wpAny_dictEpoch ho hdat ?_)
 have hown:Builtin.Dict_items.ownsTuple "dict_itemiterator" = true:=by decide
 simp only[hown,if_true]
 refine wpAny_newObj_type (wpAny_pure ⟨_,rfl, "dict_itemiterator",_,⟨_,Heap.get?_push_size _ rfl,rfl⟩,F.slot_dict_itemiterator_next.lookup,?_⟩)
  (by simp only[sizeOk,Builtin.Dict_items.ownedTupleFields,List.size_toArray,List.length_append,List.length_cons,List.length_nil,sizeLine_eq];omega)
 simpa[rawInt,Builtin.Dict_items.ownedTupleFields] using hQ
theorem Va {it d:Addr}{i ep:Nat}{es:Array DictEntry}{e:DictEntry}{ok ov:Value}{Q:Option Value→Shared→Prop}(hit:IsItemIter s.heap it d i es.size ep ok ov)
  (hm:Yp s.heap d es ep) (hx:es[i]?=some e)
  (hQ:∀ h',IsItemIterOut h' it d (i+1) es.size ep e.key e.val s.heap.objs.size →
   h'.get? s.heap.objs.size=some { cls:=.type "tuple",data:=.seq #[e.key,e.val] }→h'.objs.size=s.heap.objs.size+1 →
   (∀ b o,b≠it→s.heap.get? b=some o→h'.get? b=some o)→Q (some (.ref s.heap.objs.size)) { s with heap:=h' }) :
  wpAny (model prog w) A (pyNext (.ref it)) Q E s:=by
 obtain⟨hp,g,dr,tk,os⟩:=s
 obtain⟨od,hod,hcd,hdd⟩:=id hm
 have hT:Shared.TypeIs ⟨hp,g,dr,tk,os⟩ (.ref it) "dict_itemiterator" := ⟨_,hit,rfl⟩
 unfold pyNext
 refine wpAny_bind (wpAny_attempt (wpAny_callSpecial?_slot (name:=Str.ofString "__next__") hT F.slot_dict_itemiterator_next
  (wpAny_call_entry F.slot_dict_itemiterator_next hT F.entry_dict_itemiterator_next ?_ (F.args_dict_itemiterator_next_1 _))))
 refine wpAny_bind (wpAny_pure ?_)
 refine wpAny_bind ?_
 refine wpAny_bind ?_
 first | refine wpAny_bind (wpAny_typeNameOfWhole_itemiter hT (wpAny_pure ?_)) | refine wpAny_bind (wpAny_typeNameOf_itemiter hT (wpAny_pure ?_))
 refine wpAny_bind (wpAny_fieldsOf hit rfl ?_)
 have hown:Builtin.Dict_items.ownsTuple "dict_itemiterator" = true:=by decide
 simp only[hown,if_true]
 show wpAny _ _ (if (Value.ref d == Value.none)=true then _ else _) _ _ _
 rw[if_neg (show ¬ ((Value.ref d == Value.none)=true) from Bool.false_ne_true)]
 refine wpAny_bind (wpAny_pure ?_)
 refine wpAny_bind (wpAny_dictEntries hod hdd ?_)
 rw[if_neg (by simp)]
 refine wpAny_bind (wpAny_pure ?_)
 refine wpAny_bind (wpAny_dictEpoch hod hdd ?_)
 rw[if_neg (by simp)]
 refine wpAny_pure ?_
 simp only[show ¬ ((i:Int)<0) from by omega,if_false,Int.toNat_natCast,hx]
 refine wpAny_bind ?_
 first | refine wpAny_bind (wpAny_typeNameOfWhole_itemiter hT (wpAny_pure ?_)) | refine wpAny_bind (wpAny_typeNameOf_itemiter hT (wpAny_pure ?_))
 refine wpAny_bind (wpAny_isOneOf_itemiter hT ?_)
 show wpAny _ _ (setField (.ref it) 3 (rawInt ((i:Int)+1)) >>= _) _ _ ⟨hp,g,dr,tk,os⟩
 refine wpAny_bind (wpAny_setField_rec hit (by simp) fun h₁ he₁ hs₁=>?_)
 replace hs₁:Heap.SameBut it hp h₁:=hs₁
 replace he₁:IsItemIter h₁ it d (i+1) es.size ep ok ov:=by
  have e:((i+1:Nat):Int)=(i:Int)+1:=by omega
  unfold IsItemIter;rw[e];simpa[rawInt] using he₁
 have hT₁:Shared.TypeIs ⟨h₁,g,dr,tk,os⟩ (.ref it) "dict_itemiterator" := ⟨_,he₁,rfl⟩
 refine wpAny_bind (wpAny_holding ?_)
 refine wpAny_bind (wpAny_isOneOf_itemiter hT₁ ?_)
 refine wpAny_bind (wpAny_isOneOf_itemiter hT₁ ?_)
 show wpAny _ _ (Builtin.Dict_items.pairFromOwner (.ref it) 6 e.key e.val) _ _ ⟨h₁,g,dr,tk,os⟩
 unfold Builtin.Dict_items.pairFromOwner
 refine wpAny_bind (wpAny_newTuple ?_)
 have he₂:IsItemIter (h₁.push { cls:=.type "tuple",data:=.seq #[e.key,e.val] }) it d (i+1) es.size ep ok ov:=Heap.get?_push_of_some _ he₁
 generalize hh₂:h₁.push { cls:=.type "tuple",data:=.seq #[e.key,e.val] }=h₂ at he₂
 have hz₁:h₁.objs.size=hp.objs.size:=hs₁.1
 have hil:it<hp.objs.size:=Heap.lt_size hit
 have ht₂:h₂.get? hp.objs.size=some { cls:=.type "tuple",data:=.seq #[e.key,e.val] }:=by rw[← hh₂,← hz₁];exact Heap.get?_push_size _ rfl
 have hz₂:h₂.objs.size=hp.objs.size+1:=by rw[← hh₂,Heap.size_push,hz₁]
 have hk₂:∀ b o,b≠it→hp.get? b=some o→h₂.get? b=some o:=fun b o hb e=>by rw[← hh₂];exact Heap.get?_push_of_some _ (hs₁.extBut b o hb e)
 show wpAny _ _ (Builtin.Dict_items.ownedTupleIsFree (.ref it) >>= _) _ _ ⟨h₂,g,dr,tk,os⟩
 rw[hz₁]
 clear hh₂ he₁ hs₁ hT₁ hz₁ h₁
 refine wpAny_bind ?_
 unfold Builtin.Dict_items.ownedTupleIsFree
 refine wpAny_bind (wpAny_field he₂ rfl (x:=.none) rfl (wpAny_pure ?_))
 simp only[if_true]
 refine wpAny_bind (wpAny_field he₂ rfl (x:=ok) rfl ?_)
 refine wpAny_bind (wpAny_field he₂ rfl (x:=ov) rfl ?_)
 refine wpAny_bind (wpAny_setField_rec he₂ (by simp) fun h₃ he₃ hs₃=>?_)
 replace hs₃:Heap.SameBut it h₂ h₃:=hs₃
 replace he₃:IsItemIter h₃ it d (i+1) es.size ep e.key ov:=he₃
 refine wpAny_bind (wpAny_setField_rec he₃ (by simp) fun h₄ he₄ hs₄=>?_)
 replace hs₄:Heap.SameBut it h₃ h₄:=hs₄
 replace he₄:IsItemIter h₄ it d (i+1) es.size ep e.key e.val:=he₄
 refine wpAny_bind (wpAny_setField_rec he₄ (by simp) fun h₅ he₅ hs₅=>?_)
 replace hs₅:Heap.SameBut it h₄ h₅:=hs₅
 replace he₅:IsItemIterOut h₅ it d (i+1) es.size ep e.key e.val hp.objs.size:=he₅
 refine wpAny_bind (wpAny_setField_rec he₅ (by simp) fun h₆ he₆ hs₆=>?_)
 replace hs₆:Heap.SameBut it h₅ h₆:=hs₆
 replace he₆:IsItemIterOut h₆ it d (i+1) es.size ep e.key e.val hp.objs.size:=he₆
 refine wpAny_bind (wpAny_letGo (wpAny_pure (wpAny_pure ⟨_,rfl,wpAny_pure (hQ h₆ he₆ ?_ ?_ ?_)⟩)))
 ·exact hs₆.extBut _ _ (Nat.ne_of_gt hil) (hs₅.extBut _ _ (Nat.ne_of_gt hil) (hs₄.extBut _ _ (Nat.ne_of_gt hil) (hs₃.extBut _ _ (Nat.ne_of_gt hil) ht₂)))
 ·show h₆.objs.size=hp.objs.size+1
  rw[hs₆.1,hs₅.1,hs₄.1,hs₃.1,hz₂]
 ·exact fun b o hb e=>hs₆.extBut b o hb (hs₅.extBut b o hb (hs₄.extBut b o hb (hs₃.extBut b o hb (hk₂ b o hb e))))
theorem Uu {it d:Addr}{i ep:Nat}{es:Array DictEntry}{ok ov:Value}{Q:Option Value→Shared→Prop}(hh:A.handled=none) (hit:IsItemIter s.heap it d i es.size ep ok ov)
  (hm:Yp s.heap d es ep) (hge:es.size≤i)
  (hQ:∀ h',Heap.ExtBut it s.heap h'→Q none { s with heap:=h' }):wpAny (model prog w) A (pyNext (.ref it)) Q E s:=by
 obtain⟨od,hod,hcd,hdd⟩:=id hm
 have hT:s.TypeIs (.ref it) "dict_itemiterator" := ⟨_,hit,rfl⟩
 unfold pyNext
 refine wpAny_bind (wpAny_attempt (wpAny_callSpecial?_slot (name:=Str.ofString "__next__") hT F.slot_dict_itemiterator_next
  (wpAny_call_entry F.slot_dict_itemiterator_next hT F.entry_dict_itemiterator_next ?_ (F.args_dict_itemiterator_next_1 _))))
 refine wpAny_bind (wpAny_pure ?_)
 refine wpAny_bind ?_
 refine wpAny_bind ?_
 first | refine wpAny_bind (wpAny_typeNameOfWhole_itemiter hT (wpAny_pure ?_)) | refine wpAny_bind (wpAny_typeNameOf_itemiter hT (wpAny_pure ?_))
 refine wpAny_bind (wpAny_fieldsOf hit rfl ?_)
 have hown:Builtin.Dict_items.ownsTuple "dict_itemiterator" = true:=by decide
 simp only[hown,if_true]
 show wpAny _ _ (if (Value.ref d == Value.none)=true then _ else _) _ _ s
 rw[if_neg (show ¬ ((Value.ref d == Value.none)=true) from Bool.false_ne_true)]
 refine wpAny_bind (wpAny_pure ?_)
 refine wpAny_bind (wpAny_dictEntries hod hdd ?_)
 rw[if_neg (by simp)]
 refine wpAny_bind (wpAny_pure ?_)
 refine wpAny_bind (wpAny_dictEpoch hod hdd ?_)
 rw[if_neg (by simp)]
 refine wpAny_pure ?_
 simp only[show ¬ ((i:Int)<0) from by omega,if_false,Int.toNat_natCast,Array.getElem?_eq_none hge]
 refine wpAny_bind ?_
 first | refine wpAny_bind (wpAny_typeNameOfWhole_itemiter hT (wpAny_pure ?_)) | refine wpAny_bind (wpAny_typeNameOf_itemiter hT (wpAny_pure ?_))
 show wpAny _ _ (setField (.ref it) 2 .none >>= _) _ _ s
 refine wpAny_bind (wpAny_setField hit rfl (by simp) ?_)
 show wpAny _ _ (newExc (.type "StopIteration") [] >>= _) _ _ _
 refine wpAny_bind ?_
 simp only[newExc,newTuple]
 refine wpAny_bind (wpAny_newObj_type ?_ (by size_fits))
 refine wpAny_bind (m:=firstArgMember _ _) (wpAny_of_eq (a:=Value.none) (by first | rfl | (simp only[firstArgMember];rfl)) ?_)
 refine wpAny_newObj_type ?_ (by size_fits)
 simp only[raiseNew]
 refine wpAny_bind (wpAny_handled ?_)
 rw[show A.in1.handled=none from hh]
 refine wpAny_bind (wpAny_pure (wpAny_throw ?_))
 refine wpAny_bind (wpAny_isInstance (T := "StopIteration") (b:=true) ⟨_,Heap.get?_push_size _ rfl,rfl⟩ isSubtype_stop ?_)
 exact wpAny_pure (hQ _ (((Heap.SameBut.update ..).extBut.push _).push _))
end
def ThT (G:Hp) (Q:Hp→Prop) (H:Hp):Prop:=Q H∨∃ (d:Addr) (od:Obj) (kvs:List (List Key×V)),(∀ o u,G d≠some (.frz o u))∧H d=some (.frz od (.dT kvs))∧Q (upd H d (.dT kvs))
def zgc (G:Hp) (t:TE):TE:=fun σ H Q=>t σ H fun v=>ThT G (Q v)
def zgb (G:Hp) (t:TS):TS:=fun D σ H=>t ⟨fun σ=>ThT G (D.nx σ),fun v=>ThT G (D.rt v),fun σ=>ThT G (D.bk σ),fun σ=>ThT G (D.ct σ)⟩ σ H
section
variable {X:Cx}{pins:List (Addr×Obj)}{σ:St}{H G:Hp}{s:Shared}{d:Addr}{od:Obj}{kvs:List (List Key×V)}
theorem Inv.thawT (I:Inv X pins σ G s) (S:∀ o u,X.H₀ d≠some (.frz o u)) (g:G d=some (.frz od (.dT kvs))):Inv X pins σ (upd G d (.dT kvs)) s:=by
 have ne:∀ {b:Addr}{o:HO},G b=some o→(∀ ob u,o≠.frz ob u)→upd G d (.dT kvs) b=some o:=fun {b o} q n=>by
  rw[upd_ne (fun z=>by rw[z,g] at q;injection q with q;exact n _ _ q.symm)];exact q
 have no:∀ {b:Addr},G b=none→upd G d (.dT kvs) b=none:=fun {b} q=>by
  rw[upd_ne (fun z=>by rw[z,g] at q;cases q)];exact q
 refine⟨I.ok,I.os,I.bare,⟨I.base.keep,I.base.slot,fun b o q n x=>no (I.base.free b o q n x),I.base.there,fun b xs q=>ne (I.base.tups b xs q) (fun _ _ z=>by cases z),fun b o u q=>?_,fun b ps q=>?_⟩,I.loc,I.cell,no I.free,fun x c q=>no (I.freeC x c q),fun p hp=>?_,fun b o q=>?_,I.len⟩
 ·rw[upd_ne (fun(z:b=d)=>S o u (by rw[← z];exact q))]
  exact I.base.frzs b o u q
 ·obtain⟨m,q⟩:=I.base.tbls b ps q
  exact⟨m,ne q (fun _ _ z=>by cases z)⟩
 ·obtain⟨p1,p2,p3⟩:=I.pin p hp
  exact⟨p1,no p2,p3⟩
 ·have st:∀ {b:Addr}{o:HO},ObjOk X.prog X.w G s.heap b o→ObjOk X.prog X.w (upd G d (.dT kvs)) s.heap b o:=fun {b o} q=>q.stay (fun c u _ q=>q) (fun c q=>ne q (fun _ _ z=>by cases z)) fun c xs q=>ne q (fun _ _ z=>by cases z)
  by_cases c:b=d
  ·subst c
   rw[upd_same] at q
   cases q
   exact st (I.hok b _ g).2
  ·rw[upd_ne c] at q
   exact st (I.hok b o q)
theorem ThT.inv {Q:Hp→Prop}(I:Inv X pins σ H s) (h:ThT X.H₀ Q H):∃ H',Inv X pins σ H' s∧Q H':=by
 rcases h with h | ⟨d,od,kvs,S,g,h⟩
 ·exact⟨_,I,h⟩
 ·exact⟨_,I.thawT S g,h⟩
theorem YN {e:Expr}{t:TE}(h:PE X e t):PE X e (zgc X.H₀ t):=by
 intro pins s σ H Q I q
 refine thn (h pins s σ H _ I q) fun u s' hq0=>?_
 obtain⟨v,H',I',r,q'⟩:=hq0
 obtain⟨H2,I2,q2⟩:=ThT.inv I' q'
 exact⟨v,H2,I2,r,q2⟩
theorem YM {st:Stmt}{t:TS}(h:PS X st t):PS X st (zgb X.H₀ t):=by
 intro pins s σ H D I q
 refine thn (h pins s σ H _ I q) fun f s' q'=>?_
 cases f with
 |next=>obtain⟨σ',H',I',q'⟩:=q';obtain⟨H2,I2,q2⟩:=ThT.inv I' q';exact⟨_,_,I2,q2⟩
 |cont=>obtain⟨σ',H',I',q'⟩:=q';obtain⟨H2,I2,q2⟩:=ThT.inv I' q';exact⟨_,_,I2,q2⟩
 |brk=>obtain⟨σ',H',I',q'⟩:=q';obtain⟨H2,I2,q2⟩:=ThT.inv I' q';exact⟨_,_,I2,q2⟩
 |ret v=>obtain⟨x,σ',H',I',r,q'⟩:=q';obtain⟨H2,I2,q2⟩:=ThT.inv I' q';exact⟨_,_,_,I2,r,q2⟩
theorem uA (I:Inv X pins σ H s) (e:H d=some (.dT kvs)):∀ o u,X.H₀ d≠some (.frz o u):=fun o u z=>by
 have:=I.base.frzs d o u z
 rw[e] at this;cases this
def iKT (G:Hp) (td:TE):TI:=fun σ H R=>td σ H fun x H1=>∃ (d:Addr) (kvs:List (List Key×V)),x=.ref d∧H1 d=some (.dT kvs)∧∀ od:Obj,(∀ o u,G d≠some (.frz o u))→R (ItT d od kvs) (upd H1 d (.frz od (.dT kvs)))
theorem Zy {tg l:Expr}{td:TE}(hl:PE X l td):PI X tg l (iKT X.H₀ td):=by
 intro pins s σ H R I h
 refine thn (hl pins s σ H _ I h) fun v s1 hq0=>?_
 obtain⟨x,H1,I1,rx,d,kvs,ex,e,q⟩:=hq0
 subst ex
 obtain rfl:v=Value.ref d:=rx
 obtain⟨z,hd,xs,rel,dd⟩:=uZ I1.hok e
 obtain⟨od,es',ep,q1,q2,q3,q4,q5,q6⟩:=dd
 refine Zg ⟨od,q1,q2,q3⟩ hd ?_
 have I1f:=I1.frozT e q1
 have hle:es'.size=kvs.length:=by
  rw[← Array.length_toList,q4,List.length_map]
  exact(Paired.length rel).symm
 refine⟨_,[s1.heap.objs.size],_,_,_,rfl,I1f.kept (t':=s1.toks) fun b u q=>Heap.get?_push_of_some _ q,xX q2 q3 hle,Heap.get?_push_size _ rfl,fun b hb=>?_,q od (uA I1 e)⟩
 rw[List.mem_singleton.mp hb]
 exact I1f.fpOk (Nat.le_refl _) (I1f.hok.fresh (Nat.le_refl _))
noncomputable def ItI (d:Addr) (od:Obj) (kvs:List (List Key×V)):It :=
 ⟨fun i H=>H d=some (.frz od (.dT kvs))∧i<kvs.length,fun i H x H'=>∃ kv b p,kvs[i]?=some kv∧H b=some (.tup (kv.1.map kV))∧H p=none∧x=.ref p∧H'=upd H p (.tup [.ref b,kv.2]),fun i H=>H d=some (.frz od (.dT kvs))∧kvs.length≤i⟩
theorem KT.getR {H:Hp}:∀ {kvs:List (List Key×V)}{xs:List (List Key×Addr×Value)},KT H kvs xs→∀ {i:Nat}{p:List Key×V},kvs[i]?=some p→∃ x,xs[i]?=some x∧p.1=x.1∧H x.2.1=some (.tup (p.1.map kV))∧RelV p.2 x.2.2
 |_,_,.cons h t,0,p,e=>by cases e;exact⟨_,rfl,h.1,h.2.1,h.2.2⟩
 |_,_,.cons h t,i+1,p,e=>by
  obtain⟨x,h1,h2⟩:=KT.getR t (i:=i) (p:=p) (by simpa using e)
  exact⟨x,by simpa using h1,h2⟩
 |_,_,.nil,i,p,e=>by simp at e
theorem vQ {P:Program}{w:World}{K:PySem.W.Frag}{es0:List Expr}{n:Nat}{tp:Pos}{it d:Addr}{od:Obj}{kvs:List (List Key×V)}{es:Array DictEntry}{ep:Nat}(hed:od.ExactDict) (hda:od.data=.dict es ep) (hle:es.size=kvs.length) :
  Turn P w K (.Tuple es0 n tp) (ItI d od kvs) [it] it (fun i h=>∃ ok ov,IsItemIter h it d i es.size ep ok ov) where
 mem:=by simp
 obj:=fun i h ⟨ok,ov,st⟩ b hb=>by
  rw[List.mem_singleton.mp hb]
  exact⟨_,st,fun v z=>by
   have z':Data.fields _=Data.cell v:=z
   cases z'⟩
 keep:=fun i h h' ⟨ok,ov,st⟩ k=>⟨ok,ov,k it (by simp) _ st⟩
 item:=by
  intro X hP hw hK hc i pins s σ H E I hf st hg
  subst hP hw hK
  obtain⟨ok,ov,st⟩:=st
  have fi:=hf it (by simp)
  obtain⟨d3,d4⟩:=I.hok d _ hg.1
  have hx:kvs[i]?=some (kvs[i]'hg.2):=List.getElem?_eq_getElem hg.2
  obtain⟨z,y,xs,rel,o,es2,ep2,h1,h2,h3,h4,h5⟩:=(show ObjOk X.prog X.w H s.heap d (.dT kvs) from d4)
  rw[d3] at h1
  cases h1
  rw[hda] at h3
  cases h3
  obtain⟨x,hxi,e1,e2,e3⟩:=KT.getR rel hx
  have he:es[i]?=some (entryOfKey (tupleKind (zr X.prog X.w)) x):=by
   rw[← Array.getElem?_toList,h4,List.getElem?_map,hxi]
   rfl
  refine Va st ⟨od,d3,hed,hda⟩ he fun h1 O1 T1 z1 kk=>?_
  refine⟨_,rfl,wpAny_letOwnedTupleGo_items (s:={ s with heap:=h1 }) O1 fun h2 E2 sb=>?_⟩
  have te:s.heap.objs.size≠it:=(Nat.ne_of_lt (Heap.lt_size st)).symm
  have T2:=sb.extBut _ _ te T1
  have k2:∀ c o,c∉[it]→s.heap.get? c=some o→h2.get? c=some o:=fun c o hc q=>by
   have hc:c≠it:=by simpa using hc
   exact sb.extBut c o hc (kk c o hc q)
  have hn:H s.heap.objs.size=none:=I.fresh
  refine⟨.ref s.heap.objs.size,upd H s.heap.objs.size (.tup [.ref x.2.1,(kvs[i]'hg.2).2]),I.turnedLaid (t':=s.toks) (ch:=[it]) hf k2 (Nat.le_refl _) ⟨by show 2≤sizeLine;decide,[.ref x.2.1,x.2.2],.cons rfl (.cons e3 .nil),⟨_,T2,rfl,_,rfl⟩⟩,rfl,
   ⟨_,x.2.1,_,hx,e2,hn,rfl,rfl⟩,⟨_,_,E2⟩,fun c hc=>?_⟩
  rw[List.mem_singleton.mp hc,upd_ne te.symm]
  exact fi.1
 done:=by
  intro X hP hw hK hc i pins s σ H E I hf st hg
  subst hP hw hK
  obtain⟨ok,ov,st⟩:=st
  obtain⟨f0,f1,f2,f3,f4,f5⟩:=hf it (by simp)
  have d3:=(I.hok d _ hg.1).1
  exact Uu (I.ok.hd hc) st ⟨od,d3,hed,hda⟩ (by have:=hg.2;omega) fun h' kk=>⟨rfl,I.turned (t':=s.toks) (fun b o hb q=>kk b o hb q) f0 f1 f3 f4 f5⟩
 self:=fun _ _ _ _ _ ⟨_,_,st⟩ h=>yX st h
def iIT (G:Hp) (td:TE):TI:=fun σ H R=>td σ H fun x H1=>∃ (d:Addr) (kvs:List (List Key×V)),x=.ref d∧H1 d=some (.dT kvs)∧∀ od:Obj,(∀ o u,G d≠some (.frz o u))→R (ItI d od kvs) (upd H1 d (.frz od (.dT kvs)))
theorem Zz {o:Expr}{es:List Expr}{n:Nat}{tp:Pos}{td:TE}{apos cpos:Pos}(ho:PE X o td)
  (hbase:attributeBase o "items" X.env (eval o X.env)=eval o X.env:=by rfl) (hline:(apos.endLine == cpos.line)=true:=by rfl):PI X (.Tuple es n tp) (.Call (.Attribute o "items" apos) [] [] cpos) (iIT X.H₀ td):=by
 intro pins s σ H R I h
 refine wpAny_Call_method0_late hbase hline (thn (ho pins s σ H _ I h) fun v s1 hq0=>?_)
 obtain⟨x,H1,I1,rx,d,kvs,ex,e,q⟩:=hq0
 subst ex
 obtain rfl:v=Value.ref d:=rx
 obtain⟨t1,t2,_⟩:=vF I1 (.inr ⟨_,.inl e⟩)
 obtain⟨z,hd,xs,rel,dd⟩:=uZ I1.hok e
 refine⟨"dict", "dict.items",PySem.F.plainAttrs_dict,PySem.F.slot_dict_items,PySem.F.type_dict_items,t1,t2,Calls.callWith_builtin rfl (PySem.evalArgs_none ?_)⟩
 refine call_meetsIn PySem.F.slot_dict_items dd.typeIs PySem.F.entry_dict_items (PySem.F.args_dict_items_1 _) (YI d hd) ⟨dd.typeIs,?_⟩
 obtain⟨od,es',ep,q1,q2,q3,q4,q5,q6⟩:=dd
 have hle2:es'.size=kvs.length:=by
  rw[← Array.length_toList,q4,List.length_map]
  exact(Paired.length rel).symm
 refine Vb (s:={ s1 with heap:=s1.heap.push _ }) (d:=d) ⟨_,Heap.get?_push_size _ rfl,rfl,rfl⟩ ⟨od,Heap.get?_push_of_some _ q1,q2,q3⟩ ?_
 have hle:s1.heap.objs.size≤(s1.heap.push { cls:=.type "dict_items",data:=.fields #[.ref d] }).objs.size:=by rw[Heap.size_push];exact Nat.le_succ _
 have I1f:=I1.frozT e q1
 refine⟨_,[(s1.heap.push { cls:=.type "dict_items",data:=.fields #[.ref d] }).objs.size],_,_,_,rfl,I1f.kept (t':=s1.toks) fun b u q=>Heap.get?_push_of_some _ (Heap.get?_push_of_some _ q),vQ q2 q3 hle2,⟨_,_,Heap.get?_push_size _ rfl⟩,fun b hb=>?_,q od (uA I1 e)⟩
 rw[List.mem_singleton.mp hb]
 exact I1f.fpOk hle (I1f.hok.fresh hle)
end
theorem u0 {d:Addr}{od:Obj}{kvs:List (List Key×V)}{g:TG}{tc:TT}{te:TE}{Q:VK}{D:Addr}{τ0:St}{H0:Hp}(Pv:Nat→List V→St→Hp→Prop) (h0:Pv 0 [] τ0 H0) (hf:∀ i zs τ H,Pv i zs τ H→H d=some (.frz od (.dT kvs)))
  (hs:∀ i kv b p zs τ H,kvs[i]?=some kv→H b=some (.tup (kv.1.map kV))→H p=none→Pv i zs τ H→g (.ref p) τ (upd H p (.tup [.ref b,kv.2])) fun τ2 H4=>tc τ2 H4 fun b H5 =>
   if b=true then te τ2 H5 fun y H6=>H6 D=some (.lst zs)∧zs.length<sizeLine∧Pv (i+1) (zs++[y]) τ2 (upd H6 D (.lst (zs++[y]))) else Pv (i+1) zs τ2 H5)
  (hd:∀ zs τ H,Pv kvs.length zs τ H→Q (.ref D) H):ua (ItI d od kvs) g tc te Q D τ0 H0 :=
 va kvs.length Pv h0 (fun zs τ H p=>⟨⟨hf _ _ _ _ p,Nat.le_refl _⟩,hd zs τ H p⟩) fun i zs τ H hi p=>⟨⟨hf _ _ _ _ p,hi⟩,fun x H3 y=>by
  obtain⟨kv,b,q,hk,hb,hq,rfl,rfl⟩:=y
  exact hs i kv b q zs τ H hk hb hq p⟩
section
variable {P:Program}{w:World}{A:Around}{E:Value→Shared→Prop}{s:Shared}
theorem Uc {h h':Heap}{ks:List Key}{a:Addr}(i:(tupleKind (zr P w)).is h ks a) (k:∀ o,h.get? a=some o→h'.get? a=some o):(tupleKind (zr P w)).is h' ks a:=by
 obtain⟨o,its,n,e,r⟩:=(show IsTupleKey (zr P w) h ks a from i)
 exact(show IsTupleKey (zr P w) h' ks a from⟨o,its,n,k o e,r⟩)
theorem zf2 {h h':Heap}{d:Addr}{xs:List (List Key×Addr×Value)}(i:h.DictOfH (tupleKind (zr P w)) d xs) (k:∀ b o,(b=d∨b∈xs.map (·.2.1))→h.get? b=some o→h'.get? b=some o):h'.DictOfH (tupleKind (zr P w)) d xs:=by
 obtain⟨o,es,ep,ho,hc,hd,he,his,hn⟩:=i
 exact⟨o,es,ep,k d o (.inl rfl) ho,hc,hd,he,fun x hx=>Uc (his x hx) fun o e=>k _ o (.inr (List.mem_map.mpr ⟨x,hx,rfl⟩)) e,hn⟩
theorem zlT {d I:Addr}{fp wr:List Addr}{n:Nat}{Is:Nat→Value→Prop}{St:Nat→Heap→Prop}{R:Except Value Flow→Shared→Prop}(W:Walks P w A.in1 I fp wr n Is St) (nf:d∉fp) (xs:List (List Key×Addr×Value)) (hk:xs.length=n) (hz:n≤1000) (hnd:(xs.map (·.1)).Nodup) (hu:A.in1.units<cLine)
  (h0:Heap) (hI:∀ i v,Is i v→∃ q x,v=.ref q∧xs[i]?=some x∧∃ o y,h0.get? q=some o∧o.cls=.type "tuple" ∧ o.data=.seq #[.ref x.2.1,x.2.2] y)
  (hq:∀ i v q,Is i v→v=.ref q→q∉wr∧q≠d) (hks:∀ x∈xs,(tupleKind (zr P w)).is h0 x.1 x.2.1∧x.2.1∉wr∧x.2.1≠d) :
  ∀ (r j:Nat) (t:Shared) (tk0:Tok),j+r=n→St j t.heap→t.heap.DictOfH (tupleKind (zr P w)) d (xs.take j)→(∀ b o,b∉wr→b≠d→h0.get? b=some o→t.heap.get? b=some o) →
   (∀ h' tk,h'.DictOfH (tupleKind (zr P w)) d xs→(∀ b o,b∉wr→b≠d→t.heap.get? b=some o→h'.get? b=some o)→R (.ok (.ret .none)) { t with heap:=h',toks:=tk }) →
   codeAny (model P w) A (.builtin "dict.update.loop" ⟨[.ref d,.ref I,.int (j:Int) tk0,.none],[]⟩) R t:=by
 have nw:d∉wr:=fun z=>nf (W.sub _ z)
 have mv:∀ {j:Nat}{h h':Heap},h.DictOfH (tupleKind (zr P w)) d (xs.take j)→(∀ b o,b∉wr→h.get? b=some o→h'.get? b=some o)→h'.DictOfH (tupleKind (zr P w)) d (xs.take j):=fun {j h h'} i k=>zf2 i fun b o hb e=>by
  refine k b o ?_ e
  rcases hb with z | z
  ·rw[z];exact nw
  ·obtain⟨x,hx,rfl⟩:=List.mem_map.mp z
   exact(hks x (List.mem_of_mem_take hx)).2.1
 intro r
 induction r with
 |zero =>
  intro j t tk0 hj st hd keep fin
  have ej:j=n:=by omega
  subst ej
  refine codeAny_builtin entry_dul (by
   rw[Around.under_plainId plain_dul _]
   show wpAny _ A.in1 (pyNext (.ref I) >>= _) _ _ t
   refine wpAny_bind (W.done t _ _ st fun h1 tk kk=>?_)
   show wpAny _ A.in1 (Builtin.Dict.addKeywords d [] >>= _) _ _ _
   have hd1:=mv hd kk
   rw[← hk,List.take_length] at hd1
   exact wpAny_bind (wpAny_pure (wpAny_pure (fin h1 tk hd1 fun b o n1 _ e=>kk b o n1 e))))
 |succ r ih =>
  intro j t tk0 hj st hd keep fin
  refine codeAny_builtin entry_dul (by
   rw[Around.under_plainId plain_dul _]
   show wpAny _ A.in1 (pyNext (.ref I) >>= _) _ _ t
   refine wpAny_bind (W.item j t _ _ (by omega) st fun v h1 tk iv st1 kk=>?_)
   obtain⟨q,x,rfl,hx,o,y,hq0,hc,hs⟩:=hI j v iv
   obtain⟨nq1,nq2⟩:=hq j _ q iv rfl
   have hq1:=kk q o nq1 (keep q o nq1 nq2 hq0)
   have hd1:=mv hd kk
   have hxm:=List.mem_of_getElem? hx
   obtain⟨k0,k1,k2⟩:=hks x hxm
   obtain⟨kx,ax,vx⟩:=x
   dsimp only at hs k0 k1 k2
   have hkey:=Uc (h':=h1) k0 fun o e=>kk _ o k1 (keep _ o k1 k2 e)
   have etk:xs.take (j+1)=xs.take j++[(kx,ax,vx)]:=by rw[List.take_add_one,hx];rfl
   have hno:atKey (xs.take j) kx=none:=by
    have h1:kx∉(xs.take j).map (·.1):=fun z=>by
     have h2:=hnd.sublist ((List.take_sublist (j+1) xs).map (·.1))
     rw[etk,List.map_append,List.nodup_append] at h2
     exact h2.2.2 kx z kx (by simp) rfl
    cases h:atKey (xs.take j) kx with
    |none=>rfl
    |some p =>
     unfold atKey at h
     obtain⟨x',hf,_⟩:=Option.map_eq_some_iff.mp h
     have hfe:x'.1=kx:=by simpa using List.find?_some hf
     exact absurd (List.mem_map.mpr ⟨x',List.mem_of_find?_eq_some hf,hfe⟩) h1
   show wpAny _ A.in1 (holding [Value.ref q] (tryCatch (Builtin.Dict.pairItems (Value.ref q)) _ >>= _) >>= _) _ _ _
   refine wpAny_bind (wpAny_holding (wpAny_bind (wpAny_tryCatch ?_)))
   unfold Builtin.Dict.pairItems
   refine wpAny_bind (wpAny_typeOf (T := "tuple") ⟨o,hq1,hc⟩ ?_)
   rw[if_pos (by decide)]
   refine wpAny_bind (wpAny_seqItems hq1 hs (wpAny_pure ?_))
   show wpAny _ A.in1 (holding [Value.ref ax,vx] (dictSet d (.ref ax) vx)) _ _ _
   refine wpAny_holding (wpAny_dictSet_heap (show(tupleKind (zr P w)).room A.in1 from hu) hkey hd1 (fun h2 hd2 sb=>?_) ?_)
   ·show wpAny _ A.in1 (pure _) _ _ _
    rw[storedH_new hno,← etk] at hd2
    refine wpAny_pure ⟨plainId_quiet plain_dul _,ih (j+1) _ _ (by omega) (W.frame _ _ _ st1 fun b hb o e=>?_) hd2 (fun b o n1 n2 e=>?_) fun h3 tk3 hd3 kk3=>fin h3 tk3 hd3 fun b o n1 n2 e=>kk3 b o n1 n2 ?_⟩
    ·exact(sb.2 b fun z=>nf (z ▸ hb)).trans e
    ·exact(sb.2 b n2).trans (kk b o n1 (keep b o n1 n2 e))
    ·exact(sb.2 b n2).trans (kk b o n1 e)
   ·rw[List.length_take]
    exact Nat.le_trans (show _≤1000 by omega) (by decide))
end
section
variable {X:Cx}
theorem vw {pins:List (Addr×Obj)}{σ:St}{H:Hp}{s:Shared}(I:Inv X pins σ H s):∀ (qs ks:List Addr) (kvs:List (List Key×V)),qs.length=kvs.length→ks.length=kvs.length→(∀ (i:Nat) (q b:Addr) (kv:List Key×V),qs[i]?=some q→ks[i]?=some b→kvs[i]?=some kv→H q=some (.tup [.ref b,kv.2])∧H b=some (.tup (kv.1.map kV))) →
  ∃ xs:List (List Key×Addr×Value),KT H kvs xs∧∀ (i:Nat) (q:Addr),qs[i]?=some q→∃ x o y,xs[i]?=some x∧s.heap.get? q=some o∧o.cls=.type "tuple" ∧ o.data=.seq #[.ref x.2.1,x.2.2] y
 |[],[],[],_,_,_=>⟨[],.nil,fun i q h=>by simp at h⟩
 |q::qs,b::ks,kv::kvs,hl,hl2,h=>by
  obtain⟨xs,r,hv⟩:=vw I qs ks kvs (by simpa using hl) (by simpa using hl2) fun i q' b' kv' h1 h2 h3=>h (i+1) q' b' kv' (by simpa using h1) (by simpa using h2) (by simpa using h3)
  obtain⟨h0,h0b⟩:=h 0 q b kv rfl rfl rfl
  obtain⟨its,rv,it,_⟩:=I.tuple (SqT.of h0)
  obtain⟨ux,rfl,rx⟩:∃ ux,its=[.ref b,ux]∧RelV kv.2 ux:=by
   cases rv with | cons r1 rv =>
   cases rv with | cons r2 rv =>
   cases rv
   cases r1
   exact⟨_,rfl,r2⟩
  obtain⟨o,e,oc,n,od⟩:=it
  refine⟨(kv.1,b,ux)::xs,.cons ⟨rfl,h0b,rx⟩ r,fun i q' hi=>?_⟩
  cases i with
  |zero =>
   cases hi
   exact⟨_,o,n,rfl,e,oc,od⟩
  |succ i =>
   obtain⟨x,o,y,e1,e2⟩:=hv i q' (by simpa using hi)
   exact⟨x,o,y,by simpa using e1,e2⟩
 |[],_::_,[],_,h,_=>absurd h (by simp)
 |[],_,_::_,h,_,_=>absurd h (by simp)
 |_::_,_,[],h,_,_=>absurd h (by simp)
 |_::_,[],_::_,_,h,_=>absurd h (by simp)
def UB (X:Cx):List V→Hp→VK→Prop:=fun xs H Q=>∃ (a:Addr) (qs ks:List Addr) (kvs:List (List Key×V)),xs=[V.ref a]∧H a=some (.lst (qs.map V.ref))∧qs.length=kvs.length∧ks.length=kvs.length∧kvs.length≤1000∧(kvs.map (·.1)).Nodup∧X.A.units+5<cLine∧(∀ (i:Nat) (q b:Addr) (kv:List Key×V),qs[i]?=some q→ks[i]?=some b→kvs[i]?=some kv→H q=some (.tup [.ref b,kv.2])∧H b=some (.tup (kv.1.map kV))) ∧
 ∀ p,H p=none→Q (.ref p) (upd H p (.dT kvs))
theorem u4 (hc:X.calm=true):xB X (.type "dict") (UB X):=by
 intro pins s σ H xs us Q I r h
 obtain⟨a,qs,ks,kvs,rfl,ha,hl,hl2,hz,hnd,hun,hq,k⟩:=h
 obtain⟨u,rfl,ru⟩:=r.one
 cases ru
 obtain⟨its,rv,pl,_⟩:=I.list (SqL.of ha)
 have hA:X.A.handled=none:=I.ok.hd hc
 refine callType_codes (Q₁:=fun obj s₁=>obj=.ref s.heap.objs.size∧s₁={ s with heap:=s.heap.push { cls:=.type "dict",data:=.dict #[] } }) F.kt_called_dict (F.kt_typeCall_dict_1 _) F.entry_dict_init (kt_code_dict_new _ ⟨rfl,rfl⟩) ?_
 rintro obj s₁ ⟨rfl,rfl⟩
 have hnew:(s.heap.push { cls:=.type "dict",data:=.dict #[] }).DictOfH (tupleKind (zr X.prog X.w)) s.heap.objs.size []:=Heap.DictOfH.new s.heap
 have lt:a<s.heap.objs.size:=by
  obtain⟨_,e,_⟩:=pl.isList
  exact Heap.lt_size e
 have pl1:PlainL (s.heap.push { cls:=.type "dict",data:=.dict #[] }) a its.toArray:=by
  obtain⟨o,n,e,r⟩:=pl
  exact⟨o,n,Heap.get?_push_of_some _ e,r⟩
 refine⟨hnew.typeIs,F.args_dict_init_2 _ _,?_⟩
 unfold Builtin.«dict.__init__»
 refine wpAny_bind ?_
 unfold Builtin.Dict.selfAndRest
 refine wpAny_bind (wpAny_notOrdered_dict hnew.typeIs ?_)
 show wpAny _ _ (pure (s.heap.objs.size,[Value.ref a])) _ _ _
 refine wpAny_pure ?_
 show wpAny _ _ (Builtin.Dict.updateFrom "dict.__init__" s.heap.objs.size (.ref a) [] .none) _ _ _
 unfold Builtin.Dict.updateFrom
 obtain⟨o,n,e,oc,od,os⟩:=pl1
 refine wpAny_bind (wpAny_typeOf (T := "list") ⟨o,e,oc⟩ ?_)
 rw[if_pos (by decide)]
 refine wpAny_bind (ZQ ⟨o,n,e,oc,od,os⟩ hA fun h1 tk1 kk1=>?_)
 obtain⟨vs,rel,hvs⟩:=vw I qs ks kvs hl hl2 hq
 have hl1:h1.IsList a its.toArray:=⟨o,kk1 _ _ e,oc,n,os⟩
 show wpAny _ _ (rule _ >>= _) _ _ _
 refine wpAny_bind (wpAny_rule (wpAny_bind (wpAny_pyIter_list hl1 ?_)))
 have nd0:(s.heap.push { cls:=.type "dict",data:=.dict #[] }).get? s.heap.objs.size=some { cls:=.type "dict",data:=.dict #[] }:=Heap.get?_push_size _ rfl
 have nd1:=kk1 _ _ nd0
 have ltd:s.heap.objs.size<h1.objs.size:=Heap.lt_size nd1
 have lta:a<h1.objs.size:=Nat.lt_trans lt ltd
 have lvs:vs.length=kvs.length:=(Paired.length rel).symm
 have len:its.toArray.size=vs.length:=by
  have e1:=rv.length
  rw[List.length_map] at e1
  simp
  omega
 have W:=Walks.list (prog:=X.prog) (w:=X.w) (A:=X.A.in1.in1) hA h1.objs.size a (Nat.ne_of_lt lta) its.toArray
 have st:((h1.push { cls:=.type "list_iterator",data:=.fields #[.ref a,.int 0 0] }).IsListIter h1.objs.size a 0∧(h1.push { cls:=.type "list_iterator",data:=.fields #[.ref a,.int 0 0] }).IsList a its.toArray):=⟨⟨_,Heap.get?_push_size _ rfl,rfl,rfl⟩,hl1.push _⟩
 have nf:s.heap.objs.size∉[h1.objs.size,a]:=by
  intro z
  rcases List.mem_cons.mp z with z | z
  ·exact Nat.lt_irrefl _ (z ▸ ltd)
  ·exact Nat.lt_irrefl _ ((List.mem_singleton.mp z) ▸ lt)
 have item:∀ (i:Nat) (v:Value),its.toArray[i]?=some v→∃ q:Addr,v=Value.ref q∧qs[i]?=some q:=fun i v hv=>by
  have hv:its[i]?=some v:=by simpa using hv
  obtain⟨x,hx,rx⟩:=wI rv hv
  rw[List.getElem?_map] at hx
  obtain⟨q,hq,rfl⟩:=Option.map_eq_some_iff.mp hx
  exact⟨q,rx,hq⟩
 have hd0:(h1.push { cls:=.type "list_iterator",data:=.fields #[.ref a,.int 0 0] }).DictOfH (tupleKind (zr X.prog X.w)) s.heap.objs.size (vs.take 0):=by
  rw[List.take_zero]
  obtain⟨o,es,ep,ho,hc,hd,he,_,hn⟩:=hnew
  exact⟨o,es,ep,Heap.get?_push_of_some _ (kk1 _ _ ho),hc,hd,he,fun x hx=>(nomatch hx),hn⟩
 have hnv:(vs.map (·.1)).Nodup:=by
  have e:vs.map (·.1)=kvs.map (·.1):=by
   have go:∀ {l:List (List Key×V)}{m:List (List Key×Addr×Value)},KT H l m→m.map (·.1)=l.map (·.1):=by
    intro l m r
    induction r with
    |nil=>rfl
    |cons h t ih=>rw[List.map_cons,List.map_cons,ih,h.1]
   exact go rel
  rw[e]
  exact hnd
 have hkx:∀ x∈vs,H x.2.1=some (.tup (x.1.map kV)):=fun x hx=>by
  have go:∀ {l:List (List Key×V)}{m:List (List Key×Addr×Value)},KT H l m→∀ x∈m,H x.2.1=some (.tup (x.1.map kV)):=by
   intro l m r
   induction r with
   |nil=>intro x hx;exact nomatch hx
   |cons h t ih =>
    intro x hx
    rcases List.mem_cons.mp hx with z | z
    ·rw[z,← h.1];exact h.2.1
    ·exact ih x z
  exact go rel x hx
 have ltk:∀ x∈vs,x.2.1<s.heap.objs.size:=fun x hx=>by
  obtain⟨o,its,n,e,_⟩:=(show IsTupleKey (zr X.prog X.w) s.heap x.1 x.2.1 from xp I.hok (hkx x hx))
  exact Heap.lt_size e
 refine wpAny_pure ⟨plainId_quiet plain_dul _,zlT (A:=X.A.in1) W nf vs len.symm (by omega) hnv (by show X.A.units+1+1<cLine;omega) s.heap ?_ ?_ ?_ its.toArray.size 0 _ 0 (by omega) st hd0 ?_ ?_⟩
 ·intro i v hv
  obtain⟨q,rfl,hq'⟩:=item i v hv
  obtain⟨x,o,y,e1,e2,e3,e4⟩:=hvs i q hq'
  exact⟨q,x,rfl,e1,o,y,e2,e3,e4⟩
 ·intro i v q hv ev
  obtain⟨q',rfl,hq'⟩:=item i v hv
  cases ev
  obtain⟨x,o,y,_,e1,_⟩:=hvs i _ hq'
  have l1:=Heap.lt_size e1
  exact⟨fun z=>by rw[List.mem_singleton.mp z] at l1;exact Nat.lt_irrefl _ (Nat.lt_trans l1 ltd),fun z=>by rw[z] at l1;exact Nat.lt_irrefl _ l1⟩
 ·intro x hx
  have l1:=ltk x hx
  exact⟨xp I.hok (hkx x hx),fun z=>by rw[List.mem_singleton.mp z] at l1;exact Nat.lt_irrefl _ (Nat.lt_trans l1 ltd),fun z=>by rw[z] at l1;exact Nat.lt_irrefl _ l1⟩
 ·intro b o n1 n2 e
  exact Heap.get?_push_of_some _ (kk1 _ _ (Heap.get?_push_of_some _ e))
 ·intro h' tk hd' kk'
  refine⟨rfl,?_⟩
  have hfr:H s.heap.objs.size=none:=I.hok.fresh (Nat.le_refl _)
  refine⟨.ref s.heap.objs.size,_,I.laid (a:=s.heap.objs.size) (o:=.dT kvs) (t':=tk) (fun b o e=>?_) (Nat.le_refl _) ?_,rfl,k _ hfr⟩
  ·have l1:=Heap.lt_size e
   refine kk' b o (fun z=>?_) (fun z=>?_) (Heap.get?_push_of_some _ (kk1 _ _ (Heap.get?_push_of_some _ e)))
   ·rw[List.mem_singleton.mp z] at l1
    exact Nat.lt_irrefl _ (Nat.lt_trans l1 ltd)
   ·rw[z] at l1
    exact Nat.lt_irrefl _ l1
  ·obtain⟨o,es,ep,ho,hc,hd,he,his,hn⟩:=hd'
   refine⟨Nat.le_trans hz (by decide),beq_eq_false_iff_ne.mpr (Ne.symm (Nat.ne_of_lt I.big)),vs,KT.keeps rel fun b ys e=>?_,o,es,ep,ho,hc,hd,he,hn⟩
   rw[upd_ne (fun z=>by rw[z,hfr] at e;cases e)]
   exact e
end
theorem uX:typeLookup (.type "list_reverseiterator") "__len__" = pure none:=by rw[typeLookup_type,builtinLookup_eq_fast];kernel_rfl
theorem Xa:typeLookup (.type "list_reverseiterator") "__length_hint__" = pure (some (.builtin "list_reverseiterator.__length_hint__")):=by rw[typeLookup_type,builtinLookup_eq_fast];kernel_rfl
section
variable {prog:Program}{w:World}{A:Around}{E:Value→Shared→Prop}{s:Shared}
theorem W7 {it l:Addr}{i:Int}{Q:Bool→Shared→Prop}(hit:s.heap.IsRevIter it l i) (q:Q false s):wpAny (model prog w) A (Builtin.List.listLengthHint (.ref it)) Q E s:=by
 unfold Builtin.List.listLengthHint
 refine wpAny_bind (wpAny_specialOf hit.typeIs uX ?_)
 show wpAny _ _ (specialOf (Value.ref it) (Str.ofString "__length_hint__") >>= _) _ _ _
 refine wpAny_bind (wpAny_specialOf hit.typeIs Xa ?_)
 generalize hid:("list_reverseiterator.__length_hint__" : String)=id0
 wp_delta
 rw[show splitId id0=some ("list_reverseiterator", "__length_hint__") from by subst hid;decide +kernel]
 subst hid
 refine wpAny_bind (wpAny_isInstance (T := "list_reverseiterator") (b:=true) hit.typeIs (by rw[isSubtype_type];kernel_rfl) ?_)
 refine wpAny_ite_split (fun hab=>absurd hab (by decide)) (fun _=>?_)
 refine wpAny_ite_split (fun _=>?_) (fun hab=>absurd (by decide +kernel) hab)
 refine wpAny_ite_split (fun hab=>absurd hab (by decide +kernel)) (fun _=>?_)
 exact wpAny_pure q
theorem W6 {it l:Addr}{items:Array Value}{Q:Value→Shared→Prop}(hh:A.handled=none) (hne:l≠it) (hit:s.heap.IsRevIter it l ((items.size:Int)-1)) (hl:s.heap.IsList l items) (hn:items.size≤sizeLine)
  (hQ:∀ h' tk acc' c',(∀ b o,b≠it→s.heap.get? b=some o→h'.get? b=some o)→h'.get? s.heap.objs.size=some { cls:=.type "list",dict:=none,data:=.seq acc' c',slots:=#[] }→ItemsOf (fun i v=>items[items.size-1-i]?=some v) acc' items.size→Q (.ref s.heap.objs.size) { s with heap:=h',toks:=tk }) :
  wpAny (model prog w) A (call (.type "list") [.ref it]) Q E s:=by
 refine callType_codes (Q₁:=fun obj s₁=>obj=.ref s.heap.objs.size∧s₁={ s with heap:=s.heap.push { cls:=.type "list",data:=.seq #[] } }) PySem.F.called_list (PySem.F.typeCall_list_1 _) PySem.F.entry_list_init
  (code_list_new _ ⟨rfl,rfl⟩) fun obj s₁ h₁=>?_
 obtain⟨rfl,rfl⟩:=h₁
 have hS:(s.heap.push { cls:=.type "list",data:=.seq #[] }).get? s.heap.objs.size=some { cls:=.type "list",data:=.seq #[] }:=Heap.get?_push_size _ rfl
 have li:it<s.heap.objs.size:=by obtain⟨o,e,_⟩:=hit;exact Heap.lt_size e
 have ll:l<s.heap.objs.size:=by obtain⟨o,e,_⟩:=hl;exact Heap.lt_size e
 have hSI:s.heap.objs.size≠it:=Nat.ne_of_gt li
 have hSf:s.heap.objs.size∉[it,l]:=by
  simp only[List.mem_cons,List.not_mem_nil,or_false,not_or]
  exact⟨hSI,Nat.ne_of_gt ll⟩
 refine⟨⟨_,hS,rfl⟩,PySem.F.args_list_init_2 _ _,?_⟩
 show wpAny _ _ (do let old ← Builtin.List.listItems (.ref s.heap.objs.size);Builtin.List.listUpdate (.ref s.heap.objs.size) (fun _=>#[]);letGo old.toList.reverse;Builtin.List.listExtendWith (.ref s.heap.objs.size) (.ref it) .none) _ _ _
 refine wpAny_bind ?_
 unfold Builtin.List.listItems
 refine wpAny_bind (wpAny_seqItems hS rfl (wpAny_pure ?_))
 show wpAny _ _ (updateSeq s.heap.objs.size (fun _=>#[]) >>= fun _=>letGo (#[]:Array Value).toList.reverse >>= fun _=>Builtin.List.listExtendWith (.ref s.heap.objs.size) (.ref it) .none) _ _ _
 refine wpAny_bind (wpAny_updateSeq hS rfl ?_)
 have hS₂:=Heap.get?_update_self (Obj.mapSeq (fun _=>(#[]:Array Value))) hS rfl
 have oth:∀ b o,s.heap.get? b=some o→((s.heap.push { cls:=.type "list",data:=.seq #[] }).update s.heap.objs.size (Obj.mapSeq (fun _=>(#[]:Array Value)))).get? b=some o :=
  fun b o e=>(Heap.get?_update_other _ _ (Nat.ne_of_gt (Heap.lt_size e))).trans (Heap.get?_push_of_some _ e)
 refine wpAny_bind (wpAny_letGo ?_)
 generalize hh2:(s.heap.push { cls:=.type "list",data:=.seq #[] }).update s.heap.objs.size (Obj.mapSeq (fun _=>(#[]:Array Value)))=h2 at *
 have hit2:h2.IsRevIter it l ((items.size:Int)-1):=hit.at fun o e=>oth _ o e
 have hl2:h2.IsList l items:=hl.at fun o e=>oth _ o e
 unfold Builtin.List.listExtendWith
 refine wpAny_bind (wpAny_typeOf (T := "list_reverseiterator") (s:={ s with heap:=h2 }) hit2.typeIs ?_)
 have h1:Builtin.List.listSameRef (.ref s.heap.objs.size) (.ref it)=false:=by simp[Builtin.List.listSameRef,hSI]
 have h3:(Value.type "list_reverseiterator" == Value.type "list")=false:=by decide
 have h4:(Value.type "list_reverseiterator" == Value.type "tuple")=false:=by decide
 simp only[h1,h3,h4,Bool.or_false,Bool.false_eq_true,if_false]
 refine wpAny_bind (wpAny_pyIter_revIter (s:={ s with heap:=h2 }) hit2 ?_)
 refine wpAny_bind (wpAny_holding (W7 (s:={ s with heap:=h2 }) hit2 ?_))
 refine wpAny_ite_split (fun hab=>absurd hab (by decide +kernel)) (fun _=>?_)
 have W:=(Walks.listRev (prog:=prog) (w:=w) (A:=A.in1.in1) hh it l hne items).toS
 have hst:0≤items.size∧h2.IsRevIter it l ((items.size:Int)-1-((0:Nat):Int))∧h2.IsList l items:=⟨Nat.zero_le _,by simpa using hit2,hl2⟩
 refine wpAny_pure ⟨plainId_quiet F.plain_extend_loop _,codeAny_extend_loopS W hn _ hSf _ items.size 0 _ _ _ rfl (Nat.zero_le _) hst hS₂ (ItemsOf.nil _) fun s' acc' c' hm hS' hacc=>?_⟩
 refine⟨rfl,?_⟩
 rw[Moved.eq_with hm]
 refine hQ s'.heap s'.toks acc' c' (fun b o hb e=>hm.heap b o (fun hmem=>?_) (oth b o e)) hS' hacc
 rcases List.mem_cons.mp hmem with e' | hmem
 ·exact absurd (Heap.lt_size e) (by rw[e'];exact Nat.lt_irrefl _)
 ·exact hb (List.mem_singleton.mp hmem)
end
section
variable {X:Cx}
def Uk (K:PySem.W.Frag) (ta:TA):TE:=fun σ H Q=>ta σ H fun vs H1=>∃ (a:Addr) (xs:List V),vs=[.ref a]∧SqL K H1 a xs∧∀ l,H1 l=none→Q (.ref l) (upd H1 l (.lst xs.reverse))
theorem Uw {its:List Value}{acc:Array Value}(h:ItemsOf (fun i v=>its.toArray[its.toArray.size-1-i]?=some v) acc its.toArray.size):acc.toList=its.reverse:=by
 refine List.ext_getElem? fun j=>?_
 by_cases c:j<its.length
 ·have hj:j<acc.size:=by rw[h.1];simpa using c
  have e:acc.toList[j]?=some acc[j]:=by simp[hj]
  have h2:=h.2 j acc[j] (by simp[hj])
  rw[e,List.getElem?_reverse c]
  simp only[List.size_toArray,List.getElem?_toArray] at h2
  exact h2.symm
 ·rw[List.getElem?_eq_none (by rw[Array.length_toList,h.1];simp;omega),List.getElem?_eq_none (by simp;omega)]
theorem uR {e:Expr}{ta:TA}{p p2 pos cpos:Pos}(hc:X.calm=true) (hgl:Gl X "list") (hm:X.mg "list" = none) (hg:Gl X "reversed") (hm2:X.mg "reversed" = none) (ha:PA X [e] ta)
  (hs2:starEach [e] X.env=[(false,eval e X.env)]:=by rfl)
  (hs:starEach [.Call (.Name "reversed" p2) [e] [] cpos] X.env=[(false,eval (.Call (.Name "reversed" p2) [e] [] cpos) X.env)]:=by rfl) :
  PE X (.Call (.Name "list" p) [.Call (.Name "reversed" p2) [e] [] cpos] [] pos) (Uk X.K ta):=by
 intro pins s σ H Q I h
 refine wpAny_Call_Name_kw (ld_blt I hgl hm bt_list ?_ (by decide) (by decide))
 refine PyProof.Rows.callWith_type1 ?_ hs rfl
 rw[hs]
 show wpAny _ _ (spliced ((false,eval (.Call (.Name "reversed" p2) [e] [] cpos) X.env)::backTo pos [])) _ _ s
 refine Calls.spliced_cons (Call_ (ld_blt I hg hm2 vb (PyProof.Rows.callWith_type1 (thn (ha cpos pins s σ H _ I h) fun us s1 hq0=>?_) hs2 rfl)))
 obtain⟨vs,H1,I1,r1,q1⟩:=hq0
 obtain⟨b,xs,ex,hq,q⟩:=q1
 subst ex
 obtain⟨u,rfl,ru⟩:=r1.one
 cases ru
 obtain⟨its,rv,pl,hz⟩:=I1.list hq
 have hl:=rv.length
 refine call_reversed_list pl.isList ?_
 refine Calls.spliced_nil ?_
 have lb:b<s1.heap.objs.size:=by obtain⟨o,e,_⟩:=pl.isList;exact Heap.lt_size e
 have hle:s1.heap.objs.size≤(s1.heap.push (revObj b ((its.toArray.size:Int)-1))).objs.size:=by rw[Heap.size_push];exact Nat.le_succ _
 refine W6 (s:={ s1 with heap:=s1.heap.push (revObj b ((its.toArray.size:Int)-1)) }) (it:=s1.heap.objs.size) (l:=b) (items:=its.toArray) (I1.ok.hd hc) (Nat.ne_of_lt lb) ⟨_,Heap.get?_push_size _ rfl,rfl,rfl⟩ (pl.isList.push _) (by rw[List.size_toArray,← hl];exact hz) fun h' tk acc c' kp ea hit=>?_
 refine⟨.ref _,_,I1.laid (t':=tk) (h':=h') (fun b o e=>kp b o (Nat.ne_of_lt (Heap.lt_size e)) (Heap.get?_push_of_some _ e)) hle (show ObjOk X.prog X.w _ h' _ (.lst xs.reverse) from⟨by rw[List.length_reverse];exact hz,acc.toList,c',?_,ea⟩),rfl,q _ (I1.hok.fresh hle)⟩
 rw[Uw hit]
 exact rv.reverse
theorem UG {tg e:Expr}{i1 i2:TI}(h1:PI X tg e i1) (h2:PI X tg e i2):PI X tg e (fun σ H R=>i1 σ H R∨i2 σ H R):=by
 intro pins s σ H R I h
 rcases h with h | h
 ·exact h1 pins s σ H R I h
 ·exact h2 pins s σ H R I h
noncomputable def lsO (ps:List (Addr×LI)) (v:Value):LI:=match v with
 |.ref t=>((ps.find? fun p=>p.1=t).map (·.2)).getD []
 |_=>[]
theorem ZU {H:Hp}{ps:List (Addr×LI)}(hy:∀ p∈ps,H p.1=some (.lst (p.2.map V.int))){p:Addr×LI}(hm:p∈ps):lsO ps (.ref p.1)=p.2:=by
 obtain⟨t,ns⟩:=p
 have ht:=hy _ hm
 show((ps.find? fun p=>p.1=t).map (·.2)).getD []=ns
 cases hf:ps.find? fun p=>p.1=t with
 |none =>
  have:=List.find?_eq_none.mp hf (t,ns) hm
  simp at this
 |some p' =>
  have e1:p'.1=t:=by simpa using List.find?_some hf
  have h2:=hy p' (List.mem_of_find?_eq_some hf)
  rw[e1,ht] at h2
  injection h2 with h2
  injection h2 with h2
  have inj:∀ {as bs:LI},as.map V.int=bs.map V.int→as=bs:=by
   intro as
   induction as with
   |nil=>intro bs h;cases bs with
    |nil=>rfl
    |cons b bs=>simp at h
   |cons a as ih=>intro bs h;cases bs with
    |nil=>simp at h
    |cons b bs =>
     rw[List.map_cons,List.map_cons] at h
     injection h with h1 h2
     injection h1 with h1
     rw[h1,ih h2]
  exact(inj h2).symm
theorem uf {β:Type}:∀ {ps:List (Addr×β)}{us:List Value},Vals (ps.map fun p=>V.ref p.1) us→us=ps.map fun p=>Value.ref p.1
 |[],_,.nil=>rfl
 |p::ps,_,.cons r t=>by rw[uf t];cases r;rfl
def zlF (K:PySem.W.Frag) (A:Around) (neg:Bool):R2:=fun x y H Q=>∃ (l t:Addr) (ps:List (Addr×LI)) (ns:LI),x=.ref t∧y=.ref l∧SqL K H l (ps.map fun p=>V.ref p.1)∧(∀ p∈ps,H p.1=some (.lst (p.2.map V.int)))∧H t=some (.lst (ns.map V.int))∧A.units+70<cLine ∧
 Q (.bl (if neg then !decide (ns∈ps.map (·.2)) else decide (ns∈ps.map (·.2)))) H
theorem ZK:OpR X (compareOp .NotIn) (zlF X.K X.A true):=by
 intro pins s σ H x y v u Q I rx ry h
 obtain⟨l,t,ps,ns,rfl,rfl,hl,hps,ht,hu,q⟩:=h
 cases rx
 cases ry
 obtain⟨its,r,pl,hz⟩:=I.list hl
 obtain rfl:=uf r
 obtain⟨it2,r2,pl2,_⟩:=I.list (SqL.of ht)
 refine SeqAt.notIn_listAt (fun v=>decide (lsO ps v=ns)) pl.isList (fun w hw=>?_) ⟨.bl _,H,I,rfl,?_⟩
 ·obtain⟨p,hp,rfl⟩:=List.mem_map.mp (List.mem_toArray.mp hw)
  rw[ZU hps hp]
  obtain⟨it3,r3,pl3,_⟩:=I.list (SqL.of (hps p hp))
  exact PySem.W.keq_ints pl3.isList (wY r3) pl2.isList (wY r2) (by rw[yt];omega)
 ·have e:((ps.map fun p=>Value.ref p.1).toArray.any fun v=>decide (lsO ps v=ns))=decide (ns∈ps.map (·.2)):=by
   rw[Bool.eq_iff_iff,decide_eq_true_eq]
   simp only[List.any_toArray,List.any_eq_true,decide_eq_true_eq]
   constructor
   ·rintro⟨v,hv,e⟩
    obtain⟨p,hp,rfl⟩:=List.mem_map.mp hv
    rw[ZU hps hp] at e
    exact List.mem_map.mpr ⟨p,hp,e⟩
   ·intro hm
    obtain⟨p,hp,e⟩:=List.mem_map.mp hm
    exact⟨_,List.mem_map.mpr ⟨p,hp,rfl⟩,by rw[ZU hps hp];exact e⟩
  rw[e]
  exact q
end
section
variable {X:Cx}{pins:List (Addr×Obj)}{σ:St}{H G:Hp}{s:Shared}{d:Addr}{od:Obj}{kvs:List (List Key×V)}
theorem uI {e:Expr}{t:TE}(h:Bx (PE X e t)):Bx (PE X e (zgc X.H₀ t)):=⟨YN h.of⟩
theorem uG {st:Stmt}{t:TS}(h:Bx (PS X st t)):Bx (PS X st (zgb X.H₀ t)):=⟨YM h.of⟩
theorem vM {tg l:Expr}{td:TE}(hl:Bx (PE X l td)):Bx (PI X tg l (iKT X.H₀ td)):=⟨Zy hl.of⟩
theorem vN {o:Expr}{es:List Expr}{n:Nat}{tp:Pos}{td:TE}{apos cpos:Pos}(ho:Bx (PE X o td)) (hbase:attributeBase o "items" X.env (eval o X.env)=eval o X.env:=by rfl) (hline:(apos.endLine == cpos.line)=true:=by rfl):Bx (PI X (.Tuple es n tp) (.Call (.Attribute o "items" apos) [] [] cpos) (iIT X.H₀ td)):=⟨Zz ho.of hbase hline⟩
end
section
variable {X:Cx}
theorem vf {e:Expr}{ta:TA}{p p2 pos cpos:Pos}(hc:X.calm=true) (hgl:Gl X "list") (hm:X.mg "list" = none) (hg:Gl X "reversed") (hm2:X.mg "reversed" = none) (ha:Bx (PA X [e] ta)) (hs2:starEach [e] X.env=[(false,eval e X.env)]:=by rfl) (hs:starEach [.Call (.Name "reversed" p2) [e] [] cpos] X.env=[(false,eval (.Call (.Name "reversed" p2) [e] [] cpos) X.env)]:=by rfl):Bx (PE X (.Call (.Name "list" p) [.Call (.Name "reversed" p2) [e] [] cpos] [] pos) (Uk X.K ta)):=⟨uR hc hgl hm hg hm2 ha.of hs2 hs⟩
theorem Yq {tg e:Expr}{i1 i2:TI}(h1:Bx (PI X tg e i1)) (h2:Bx (PI X tg e i2)):Bx (PI X tg e (fun σ H R=>i1 σ H R∨i2 σ H R)):=⟨UG h1.of h2.of⟩
end
section
variable {prog:Program}{w:World}{A:Around}{E:Value→Shared→Prop}{s:Shared}
theorem Y9 (d:Addr) (hd:(d == sysModules)=false):MeetsIn prog w (Builtin.«dict.__len__» ⟨[.ref d],[]⟩) fun _ R s=>∃ es ep,Yp s.heap d es ep∧R (.ok (.ret (.int es.size s.toks))) { s with toks:=s.toks+1 } :=
 .of_wp fun A R s ⟨es,ep,⟨o,ho,hc,ha⟩,h⟩=>by
  refine wpAny_bind (m:=dictSize d) ?_
  unfold dictSize
  refine wpAny_bind (wpAny_dictEntries ho ha (wpAny_pure (wpAny_bind (m:=Builtin.Dict.pendingCount d) (wpAny_pendingCount_other hd (wpAny_ret_mkInt ?_)))))
  rw[Nat.add_zero]
  exact h
theorem za1 {d:Addr}{es:Array DictEntry}{ep:Nat}{Q:Value→Shared→Prop}(hd:(d == sysModules)=false) (hm:Yp s.heap d es ep) (ht:s.TypeIs (.ref d) "dict") (hf:(es.size:Int)<2 ^ 63)
  (h:Q (.int es.size (s.toks+1)) { s with toks:=s.toks+1+1 }):wpAny (model prog w) A (call (.builtin "len") [.ref d]) Q E s:=by
 refine Calls.call_function_entry kind_len plain_len entry_len (args_len1 _) ?_
 unfold Builtin.«len»
 refine wpAny_bind (m:=oneArg "len" _) (wpAny_pure (wpAny_bind (m:=callSpecial? (.ref d) (Str.ofString "__len__")) (wpAny_callSpecial?_slot (name:=Str.ofString "__len__") ht F.slot_dict_len
  (call_meetsIn F.slot_dict_len ht F.entry_dict_len (F.args_dict_len_1 _) (Y9 d hd) ⟨es,ep,hm,?_⟩))))
 refine wpAny_bind (s:={ s with toks:=s.toks+1 }) (wpAny_holding (wpAny_pure (wpAny_bind (wpAny_letGo ?_))))
 show wpAny _ _ (if ((es.size:Nat):Int)<0 then _ else if ((es.size:Nat):Int)≥2 ^ 63 then _ else _) _ _ _
 rw[if_neg (by omega),if_neg (by omega)]
 exact wpAny_bind (wpAny_mkInt (wpAny_pure ⟨_,rfl,h⟩))
end
section
variable {X:Cx}
theorem u3:xB X (.builtin "len") (fun xs H Q=>∃ a kvs,xs=[V.ref a]∧H a=some (.dT kvs)∧Q (.int kvs.length) H):=by
 intro pins s σ H xs us Q I r h
 obtain⟨a,kvs,rfl,ha,q⟩:=h
 obtain⟨u,rfl,ru⟩:=r.one
 cases ru
 obtain⟨z,hd,xs,rel,dd⟩:=uZ I.hok ha
 have ty:=dd.typeIs
 obtain⟨o,es,ep,q1,q2,q3,q4,q5⟩:=dd
 have hl:es.size=kvs.length:=by
  rw[← Array.length_toList,q4,List.length_map]
  exact(Paired.length rel).symm
 refine za1 (es:=es) (ep:=ep) hd ⟨o,q1,q2,q3⟩ ty (by rw[sizeLine_eq] at z;omega) ?_
 rw[hl]
 exact⟨.int kvs.length,H,I.tok _,⟨_,rfl⟩,q⟩
end
end L2
namespace K04
open PySem L2
structure Hs (hs:LI):Prop where
 l1:1≤hs.length
 l12:hs.length≤12
 up:hs.Pairwise (· < ·)
 lo:∀ h∈hs,0≤h
 hi:∀ h∈hs,h≤99
structure Ls (hs:LI) (ls:LP):Prop where
 nd:ls.Nodup
 ok:∀ p∈ls,p.1∈hs∧p.2∈hs∧p.1<p.2
 le:ls.length≤66
def Adj (ls:LP) (x y:Int):Prop:=(x,y)∈ls∨(y,x)∈ls
theorem Yw {as:LI}(h:as.Pairwise (· < ·)):as.Nodup:=h.imp fun {a b} z=>by omega
theorem we:∀ {as bs:LI},as.Nodup→(∀ x∈as,x∈bs)→as.length≤bs.length
 |[],_,_,_=>Nat.zero_le _
 |a::as,bs,hn,hs=>by
  rw[List.nodup_cons] at hn
  have ha:=hs a List.mem_cons_self
  have ih:=we (as:=as) (bs:=bs.erase a) hn.2 fun x hx=>by
   have ne:x≠a:=fun z=>hn.1 (by rw[← z];exact hx)
   exact(List.mem_erase_of_ne ne).mpr (hs x (List.mem_cons_of_mem _ hx))
  rw[List.length_erase_of_mem ha] at ih
  have:=List.length_pos_of_mem ha
  rw[List.length_cons];omega
def nbs (ls:LP) (h:Int):LI:=ls.flatMap fun p=>(if p.1=h then[p.2] else[])++if p.2=h then[p.1] else[]
theorem mem_nbs {ls:LP}{h x:Int}:x∈nbs ls h↔Adj ls h x:=by
 unfold nbs Adj
 rw[List.mem_flatMap]
 constructor
 ·rintro⟨⟨u,v⟩,hp,hx⟩
  dsimp only at hx
  rw[List.mem_append] at hx
  rcases hx with hx | hx
  ·split at hx
   ·rename_i e;subst e
    rw[List.mem_singleton] at hx;subst hx;exact .inl hp
   ·cases hx
  ·split at hx
   ·rename_i e;subst e
    rw[List.mem_singleton] at hx;subst hx;exact .inr hp
   ·cases hx
 ·rintro(h1 | h1)
  ·exact⟨_,h1,by simp⟩
  ·exact⟨_,h1,by simp⟩
theorem ZS {h:Int}:∀ {ls:LP},(nbs ls h).length≤2*ls.length
 |[]=>Nat.le_refl _
 |p::ls=>by
  have ih:=ZS (h:=h) (ls:=ls)
  unfold nbs at ih ⊢
  rw[List.flatMap_cons,List.length_append,List.length_append,List.length_cons]
  have h1:(if p.1=h then[p.2] else[]).length≤1:=by split<;>simp
  have h2:(if p.2=h then[p.1] else[]).length≤1:=by split<;>simp
  omega
theorem Y6 {ls:LP}{p:Int×Int}{h:Int}:nbs (ls++[p]) h=nbs ls h++((if p.1=h then[p.2] else[])++if p.2=h then[p.1] else[]):=by
 unfold nbs
 rw[List.flatMap_append,List.flatMap_cons,List.flatMap_nil,List.append_nil]
theorem Y0 {ls:LP}{p:Int×Int}{i:Nat}{h:Int}(e:ls[i]?=some p):nbs (ls.take (i+1)) h=nbs (ls.take i) h++((if p.1=h then[p.2] else[])++if p.2=h then[p.1] else[]):=by
 rw[List.take_add_one,e]
 exact Y6
noncomputable def top (i:Nat):Stmt:=PySem.Challenge.pw_beatless_k32_papers_that_hold.main.body.getD i (.Pass ⟨0,0,0,0⟩)
abbrev WD:Stmt:=top 6
abbrev WC:Stmt:=top 8
abbrev WB:Stmt:=top 10
abbrev WA:Stmt:=top 11
abbrev Wz:Stmt:=top 12
abbrev Wy:Stmt:=top 13
abbrev Wx:Stmt:=top 14
abbrev Ww:Stmt:=top 15
abbrev Wv:Stmt:=top 16
abbrev Wu:Stmt:=top 17
abbrev Wt:Stmt:=top 19
abbrev Ws:Stmt:=top 20
abbrev Wr:Stmt:=top 21
abbrev Wq:Stmt:=top 22
abbrev Wp:Stmt:=top 23
abbrev Wo:Stmt:=top 24
abbrev Wn:Stmt:=top 25
abbrev Wm:Stmt:=top 26
abbrev Wl:Stmt:=top 27
abbrev Wk:Stmt:=top 31
abbrev Wj:Stmt:=top 32
abbrev Wi:Stmt:=top 33
abbrev Wh:Stmt:=top 34
abbrev Wg:Stmt:=top 37
abbrev Wf:Stmt:=top 38
abbrev YC:Stmt:=top 39
abbrev WY:Stmt:=top 40
abbrev WX:Stmt:=top 41
abbrev WW:Stmt:=top 42
abbrev WV:Stmt:=top 43
abbrev WU:Stmt:=top 44
abbrev WT:Stmt:=top 45
abbrev YE:Stmt:=top 46
abbrev WS:Stmt:=top 47
abbrev WR:Stmt:=top 48
abbrev YD:Stmt:=top 49
abbrev WQ:Stmt:=inClass (top 9) 0
abbrev WO:Stmt:=inClass (top 9) 1
abbrev WN:Stmt:=inClass (top 9) 2
abbrev WM:Stmt:=inClass (top 9) 3
abbrev WL:Stmt:=inClass (top 9) 4
abbrev WK:Stmt:=inClass (top 9) 5
abbrev WJ:Stmt:=inClass (top 35) 0
abbrev WI:Stmt:=inClass (top 35) 1
abbrev WH:Stmt:=inClass (top 35) 2
abbrev WF:Stmt:=inClass (top 35) 3
abbrev WE:Stmt:=inClass (top 35) 4
theorem Us:FnScope ["value"] ["value"] (defScope WD):=⟨rfl,rfl,rfl,by decide +kernel,rfl,by decide +kernel,by decide +kernel⟩
theorem zcX:FnScope ["value"] ["value"] (defScope WC):=⟨rfl,rfl,rfl,by decide +kernel,rfl,by decide +kernel,by decide +kernel⟩
theorem sc_qc:FnScope ["web", "parents", "hand", "parent"] ["web", "parents"] (defScope WB):=⟨rfl,rfl,rfl,by decide +kernel,rfl,by decide +kernel,by decide +kernel⟩
theorem sc_qd:FnScope ["web", "way", "hand"] ["web", "way"] (defScope WA):=⟨rfl,rfl,rfl,by decide +kernel,rfl,by decide +kernel,by decide +kernel⟩
theorem zcW:FnScope ["web", "way", "bridge"] ["web", "way", "bridge"] (defScope Wz):=⟨rfl,rfl,rfl,by decide +kernel,rfl,by decide +kernel,by decide +kernel⟩
theorem sc_qf:FnScope ["web", "way", "bridges", "seen", "bridge"] ["web", "way", "bridges"] (defScope Wy):=⟨rfl,rfl,rfl,by decide +kernel,rfl,by decide +kernel,by decide +kernel⟩
theorem zcV:FnScope ["web", "way"] ["web", "way"] (defScope Wx):=⟨rfl,rfl,rfl,by decide +kernel,rfl,by decide +kernel,by decide +kernel⟩
theorem sc_qh:FnScope ["way", "lines", "found", "one", "other", "leaders"] ["way", "lines"] (defScope Ww):=⟨rfl,rfl,rfl,by decide +kernel,rfl,by decide +kernel,by decide +kernel⟩
theorem sc_qi:FnScope ["web", "way", "bridged", "leaders"] ["web", "way"] (defScope Wv):=⟨rfl,rfl,rfl,by decide +kernel,rfl,by decide +kernel,by decide +kernel⟩
theorem zcU:FnScope ["web", "way"] ["web", "way"] (defScope Wu):=⟨rfl,rfl,rfl,by decide +kernel,rfl,by decide +kernel,by decide +kernel⟩
theorem sc_qk:FnScope ["way", "hand", "neighbour", "down"] ["way", "hand", "neighbour"] (defScope Wt):=⟨rfl,rfl,rfl,by decide +kernel,rfl,by decide +kernel,by decide +kernel⟩
theorem zcT:FnScope ["way", "hand", "neighbour", "bridge"] ["way", "hand", "neighbour", "bridge"] (defScope Ws):=⟨rfl,rfl,rfl,by decide +kernel,rfl,by decide +kernel,by decide +kernel⟩
theorem sc_qm:FnScope ["way", "found", "one", "other"] ["way"] (defScope Wr):=⟨rfl,rfl,rfl,by decide +kernel,rfl,by decide +kernel,by decide +kernel⟩
theorem sc_qn:FnScope ["way", "bridges", "hand", "neighbour", "leaders"] ["way", "bridges", "hand", "neighbour"] (defScope Wq):=⟨rfl,rfl,rfl,by decide +kernel,rfl,by decide +kernel,by decide +kernel⟩
theorem sc_qo:FnScope ["web", "pairs", "one", "other"] ["web"] (defScope Wp):=⟨rfl,rfl,rfl,by decide +kernel,rfl,by decide +kernel,by decide +kernel⟩
theorem sc_qp:FnScope ["web", "way", "bridges", "paper", "hand", "neighbour"] ["web", "way"] (defScope Wo):=⟨rfl,rfl,rfl,by decide +kernel,rfl,by decide +kernel,by decide +kernel⟩
theorem sc_qq:FnScope ["values", "value"] ["values"] (defScope Wn):=⟨rfl,rfl,rfl,by decide +kernel,rfl,by decide +kernel,by decide +kernel⟩
theorem sc_qr:FnScope ["paper", "pairs", "key"] ["paper", "pairs"] (defScope Wm):=⟨rfl,rfl,rfl,by decide +kernel,rfl,by decide +kernel,by decide +kernel⟩
theorem sc_qs:FnScope ["web", "way", "paper", "pairs", "bridges", "hand", "neighbour", "road"] ["web", "way", "paper"] (defScope Wl):=⟨rfl,rfl,rfl,by decide +kernel,rfl,by decide +kernel,by decide +kernel⟩
theorem sc_qt:FnScope ["hands", "ahead", "hand"] ["hands"] (defScope Wk):=⟨rfl,rfl,rfl,by decide +kernel,rfl,by decide +kernel,by decide +kernel⟩
theorem zcS:FnScope ["line", "hands"] ["line", "hands"] (defScope Wj):=⟨rfl,rfl,rfl,by decide +kernel,rfl,by decide +kernel,by decide +kernel⟩
theorem sc_qv:FnScope ["lines", "hands", "seen", "line"] ["lines", "hands"] (defScope Wi):=⟨rfl,rfl,rfl,by decide +kernel,rfl,by decide +kernel,by decide +kernel⟩
theorem sc_qw:FnScope ["hands", "lines", "near", "hand", "one", "other"] ["hands", "lines"] (defScope Wh):=⟨rfl,rfl,rfl,by decide +kernel,rfl,by decide +kernel,by decide +kernel⟩
theorem zcR:FnScope ["_law_script", "_law_k"] ["_law_script", "_law_k"] (defScope Wg):=⟨rfl,rfl,rfl,by decide +kernel,rfl,by decide +kernel,by decide +kernel⟩
theorem sc_qy:FnScope ["_law_cell", "_law_many", "_law_found", "_law_rest", "_law_number", "_law_k", "_law_mixed"] ["_law_cell", "_law_many"] (defScope Wf):=⟨rfl,rfl,rfl,by decide +kernel,rfl,by decide +kernel,by decide +kernel⟩
theorem zcQ:FnScope ["_law_xs", "_law_size"] ["_law_xs", "_law_size"] (defScope YC):=⟨rfl,rfl,rfl,by decide +kernel,rfl,by decide +kernel,by decide +kernel⟩
theorem sc_qA:FnScope ["_law_xs", "_law_most", "_law_hand", "_law_found", "_law_k"] ["_law_xs", "_law_most"] (defScope WY):=⟨rfl,rfl,rfl,by decide +kernel,rfl,by decide +kernel,by decide +kernel⟩
theorem sc_qB:FnScope ["_law_xs", "_law_hands_here", "_law_way", "_law_found", "_law_j", "_law_k", "_law_near_here", "_law_draw", "_law_at"] ["_law_xs", "_law_hands_here"] (defScope WX):=⟨rfl,rfl,rfl,by decide +kernel,rfl,by decide +kernel,by decide +kernel⟩
theorem sc_qC:FnScope ["_law_xs", "_law_most", "_law_hands_here", "_law_lines_here"] ["_law_xs"] (defScope WW):=⟨rfl,rfl,rfl,by decide +kernel,rfl,by decide +kernel,by decide +kernel⟩
theorem sc_qD:FnScope ["_law_lines_here", "_law_hand", "_law_found"] ["_law_lines_here", "_law_hand"] (defScope WV):=⟨rfl,rfl,rfl,by decide +kernel,rfl,by decide +kernel,by decide +kernel⟩
theorem sc_qE:FnScope ["_law_parents", "_law_hand", "_law_found"] ["_law_parents", "_law_hand"] (defScope WU):=⟨rfl,rfl,rfl,by decide +kernel,rfl,by decide +kernel,by decide +kernel⟩
theorem zc7:FnScope ["_law_parents", "_law_one", "_law_other"] ["_law_parents", "_law_one", "_law_other"] (defScope WT):=⟨rfl,rfl,rfl,by decide +kernel,rfl,by decide +kernel,by decide +kernel⟩
theorem sc_qG:FnScope ["_law_xs", "_law_hands_here", "_law_lines_here", "_law_parents", "_law_left", "_law_hand", "_law_near_here", "_law_bridges", "_law_joined", "_law_line", "_law_both_here", "_law_at"] ["_law_xs", "_law_hands_here", "_law_lines_here"] (defScope YE):=⟨rfl,rfl,rfl,by decide +kernel,rfl,by decide +kernel,by decide +kernel⟩
theorem sc_qH:FnScope ["_law_parents", "_law_bridges", "_law_hand", "_law_other", "_law_up_here", "_law_down", "_law_found", "_law_one", "_law_two", "_law_near_here", "_law_far"] ["_law_parents", "_law_bridges", "_law_hand", "_law_other"] (defScope WS):=⟨rfl,rfl,rfl,by decide +kernel,rfl,by decide +kernel,by decide +kernel⟩
theorem sc_qI:FnScope ["_law_xs", "_law_hands_here", "_law_lines_here", "_law_parents", "_law_bridges", "_law_pairs", "_law_hand", "_law_at", "_law_found", "_law_other", "_law_some"] ["_law_xs", "_law_hands_here", "_law_lines_here", "_law_parents", "_law_bridges"] (defScope WR):=⟨rfl,rfl,rfl,by decide +kernel,rfl,by decide +kernel,by decide +kernel⟩
theorem sc_qJ:FnScope ["_law_script", "_law_cell", "_law_xs", "_law_hands_here", "_law_lines_here", "_law_web", "_law_parents", "_law_bridges", "_law_way", "_law_turn", "_law_paper_here", "_law_kept"] ["_law_script"] (defScope YD):=⟨rfl,rfl,rfl,by decide +kernel,rfl,by decide +kernel,by decide +kernel⟩
theorem zc6:FnScope ["self", "parents", "bridges"] ["self", "parents", "bridges"] (defScope WQ):=⟨rfl,rfl,rfl,by decide +kernel,rfl,by decide +kernel,by decide +kernel⟩
theorem sc_qL:FnScope ["self", "hand", "each", "parent"] ["self", "hand"] (defScope WO):=⟨rfl,rfl,rfl,by decide +kernel,rfl,by decide +kernel,by decide +kernel⟩
theorem zc5:FnScope ["self"] ["self"] (defScope WN):=⟨rfl,rfl,rfl,by decide +kernel,rfl,by decide +kernel,by decide +kernel⟩
theorem zc4:FnScope ["self"] ["self"] (defScope WM):=⟨rfl,rfl,rfl,by decide +kernel,rfl,by decide +kernel,by decide +kernel⟩
theorem sc_qO:FnScope ["self", "hand", "path", "above"] ["self", "hand"] (defScope WL):=⟨rfl,rfl,rfl,by decide +kernel,rfl,by decide +kernel,by decide +kernel⟩
theorem zc3:FnScope ["self", "hand"] ["self", "hand"] (defScope WK):=⟨rfl,rfl,rfl,by decide +kernel,rfl,by decide +kernel,by decide +kernel⟩
theorem zc2:FnScope ["self", "hands", "lines"] ["self", "hands", "lines"] (defScope WJ):=⟨rfl,rfl,rfl,by decide +kernel,rfl,by decide +kernel,by decide +kernel⟩
theorem zc1:FnScope ["self"] ["self"] (defScope WI):=⟨rfl,rfl,rfl,by decide +kernel,rfl,by decide +kernel,by decide +kernel⟩
theorem zc0:FnScope ["self"] ["self"] (defScope WH):=⟨rfl,rfl,rfl,by decide +kernel,rfl,by decide +kernel,by decide +kernel⟩
theorem zcZ:FnScope ["self", "hand"] ["self", "hand"] (defScope WF):=⟨rfl,rfl,rfl,by decide +kernel,rfl,by decide +kernel,by decide +kernel⟩
theorem zcY:FnScope ["self", "one", "other"] ["self", "one", "other"] (defScope WE):=⟨rfl,rfl,rfl,by decide +kernel,rfl,by decide +kernel,by decide +kernel⟩
set_option genInjectivity false in
set_option genSizeOf false in
structure Ad where
 f_qa:Addr
 d_qa:FuncData
 f_qb:Addr
 d_qb:FuncData
 f_qc:Addr
 d_qc:FuncData
 f_qd:Addr
 d_qd:FuncData
 f_qe:Addr
 d_qe:FuncData
 f_qf:Addr
 d_qf:FuncData
 f_qg:Addr
 d_qg:FuncData
 f_qh:Addr
 d_qh:FuncData
 f_qi:Addr
 d_qi:FuncData
 f_qj:Addr
 d_qj:FuncData
 f_qk:Addr
 d_qk:FuncData
 f_ql:Addr
 d_ql:FuncData
 f_qm:Addr
 d_qm:FuncData
 f_qn:Addr
 d_qn:FuncData
 f_qo:Addr
 d_qo:FuncData
 f_qp:Addr
 d_qp:FuncData
 f_qq:Addr
 d_qq:FuncData
 f_qr:Addr
 d_qr:FuncData
 f_qs:Addr
 d_qs:FuncData
 f_qt:Addr
 d_qt:FuncData
 f_qu:Addr
 d_qu:FuncData
 f_qv:Addr
 d_qv:FuncData
 f_qw:Addr
 d_qw:FuncData
 f_qx:Addr
 d_qx:FuncData
 f_qy:Addr
 d_qy:FuncData
 f_qz:Addr
 d_qz:FuncData
 f_qA:Addr
 d_qA:FuncData
 f_qB:Addr
 d_qB:FuncData
 f_qC:Addr
 d_qC:FuncData
 f_qD:Addr
 d_qD:FuncData
 f_qE:Addr
 d_qE:FuncData
 f_qF:Addr
 d_qF:FuncData
 f_qG:Addr
 d_qG:FuncData
 f_qH:Addr
 d_qH:FuncData
 f_qI:Addr
 d_qI:FuncData
 f_qJ:Addr
 d_qJ:FuncData
 f_qK:Addr
 d_qK:FuncData
 f_qL:Addr
 d_qL:FuncData
 f_qM:Addr
 d_qM:FuncData
 f_qN:Addr
 d_qN:FuncData
 f_qO:Addr
 d_qO:FuncData
 f_qP:Addr
 d_qP:FuncData
 f_qQ:Addr
 d_qQ:FuncData
 f_qR:Addr
 d_qR:FuncData
 f_qS:Addr
 d_qS:FuncData
 f_qT:Addr
 d_qT:FuncData
 f_qU:Addr
 d_qU:FuncData
 c_Way:Addr
 c_Web:Addr
 t_MOST_HANDS:Tok
 t_LAST_HAND:Tok
structure Txt (w:World) (K:PySem.W.Frag) (mg:Str→Option Value) (a:Ad):Prop where
 n_len:mg "len" = none
 n_int:mg "int" = none
 n_range:mg "range" = none
 n_isinstance:mg "isinstance" = none
 n_list:mg "list" = none
 n_dict:mg "dict" = none
 n_sorted:mg "sorted" = none
 n_bool:mg "bool" = none
 n_tuple:mg "tuple" = none
 n_reversed:mg "reversed" = none
 n_ValueError:mg "ValueError" = none
 F_qa:Fun K "is_whole" "is_whole" WD a.f_qa a.d_qa
 b_qa:Binds K a.d_qa ["value"] []
 g_qa:mg "is_whole" = some (.ref a.f_qa)
 F_qb:Fun K "copied" "copied" WC a.f_qb a.d_qb
 b_qb:Binds K a.d_qb ["value"] []
 g_qb:mg "copied" = some (.ref a.f_qb)
 F_qc:Fun K "are_parents" "are_parents" WB a.f_qc a.d_qc
 b_qc:Binds K a.d_qc ["web", "parents"] []
 g_qc:mg "are_parents" = some (.ref a.f_qc)
 F_qd:Fun K "come_to_leaders" "come_to_leaders" WA a.f_qd a.d_qd
 b_qd:Binds K a.d_qd ["web", "way"] []
 g_qd:mg "come_to_leaders" = some (.ref a.f_qd)
 F_qe:Fun K "is_bridge" "is_bridge" Wz a.f_qe a.d_qe
 b_qe:Binds K a.d_qe ["web", "way", "bridge"] []
 g_qe:mg "is_bridge" = some (.ref a.f_qe)
 F_qf:Fun K "are_bridges" "are_bridges" Wy a.f_qf a.d_qf
 b_qf:Binds K a.d_qf ["web", "way", "bridges"] []
 g_qf:mg "are_bridges" = some (.ref a.f_qf)
 F_qg:Fun K "is_grounded" "is_grounded" Wx a.f_qg a.d_qg
 b_qg:Binds K a.d_qg ["web", "way"] []
 g_qg:mg "is_grounded" = some (.ref a.f_qg)
 F_qh:Fun K "first_joins" "first_joins" Ww a.f_qh a.d_qh
 b_qh:Binds K a.d_qh ["way", "lines"] []
 g_qh:mg "first_joins" = some (.ref a.f_qh)
 F_qi:Fun K "lets" "lets" Wv a.f_qi a.d_qi
 b_qi:Binds K a.d_qi ["web", "way"] []
 g_qi:mg "lets" = some (.ref a.f_qi)
 F_qj:Fun K "refuse_unlet" "refuse_unlet" Wu a.f_qj a.d_qj
 b_qj:Binds K a.d_qj ["web", "way"] []
 g_qj:mg "refuse_unlet" = some (.ref a.f_qj)
 F_qk:Fun K "road_within" "road_within" Wt a.f_qk a.d_qk
 b_qk:Binds K a.d_qk ["way", "hand", "neighbour"] []
 g_qk:mg "road_within" = some (.ref a.f_qk)
 F_ql:Fun K "road_over" "road_over" Ws a.f_ql a.d_ql
 b_ql:Binds K a.d_ql ["way", "hand", "neighbour", "bridge"] []
 g_ql:mg "road_over" = some (.ref a.f_ql)
 F_qm:Fun K "bridges_by_leaders" "bridges_by_leaders" Wr a.f_qm a.d_qm
 b_qm:Binds K a.d_qm ["way"] []
 g_qm:mg "bridges_by_leaders" = some (.ref a.f_qm)
 F_qn:Fun K "roads_for" "roads_for" Wq a.f_qn a.d_qn
 b_qn:Binds K a.d_qn ["way", "bridges", "hand", "neighbour"] []
 g_qn:mg "roads_for" = some (.ref a.f_qn)
 F_qo:Fun K "pairs_of" "pairs_of" Wp a.f_qo a.d_qo
 b_qo:Binds K a.d_qo ["web"] []
 g_qo:mg "pairs_of" = some (.ref a.f_qo)
 F_qp:Fun K "roads" "roads" Wo a.f_qp a.d_qp
 b_qp:Binds K a.d_qp ["web", "way"] []
 g_qp:mg "roads" = some (.ref a.f_qp)
 F_qq:Fun K "are_wholes" "are_wholes" Wn a.f_qq a.d_qq
 b_qq:Binds K a.d_qq ["values"] []
 g_qq:mg "are_wholes" = some (.ref a.f_qq)
 F_qr:Fun K "has_just_pairs" "has_just_pairs" Wm a.f_qr a.d_qr
 b_qr:Binds K a.d_qr ["paper", "pairs"] []
 g_qr:mg "has_just_pairs" = some (.ref a.f_qr)
 F_qs:Fun K "holds" "holds" Wl a.f_qs a.d_qs
 b_qs:Binds K a.d_qs ["web", "way", "paper"] []
 g_qs:mg "holds" = some (.ref a.f_qs)
 F_qt:Fun K "are_hands" "are_hands" Wk a.f_qt a.d_qt
 b_qt:Binds K a.d_qt ["hands"] []
 g_qt:mg "are_hands" = some (.ref a.f_qt)
 F_qu:Fun K "is_line" "is_line" Wj a.f_qu a.d_qu
 b_qu:Binds K a.d_qu ["line", "hands"] []
 g_qu:mg "is_line" = some (.ref a.f_qu)
 F_qv:Fun K "are_lines" "are_lines" Wi a.f_qv a.d_qv
 b_qv:Binds K a.d_qv ["lines", "hands"] []
 g_qv:mg "are_lines" = some (.ref a.f_qv)
 F_qw:Fun K "near_by_hand" "near_by_hand" Wh a.f_qw a.d_qw
 b_qw:Binds K a.d_qw ["hands", "lines"] []
 g_qw:mg "near_by_hand" = some (.ref a.f_qw)
 F_qx:Fun K "_law_cell_at" "_law_cell_at" Wg a.f_qx a.d_qx
 b_qx:Binds K a.d_qx ["_law_script", "_law_k"] []
 g_qx:mg "_law_cell_at" = some (.ref a.f_qx)
 F_qy:Fun K "_law_draws" "_law_draws" Wf a.f_qy a.d_qy
 b_qy:Binds K a.d_qy ["_law_cell", "_law_many"] []
 g_qy:mg "_law_draws" = some (.ref a.f_qy)
 F_qz:Fun K "_law_take" "_law_take" YC a.f_qz a.d_qz
 b_qz:Binds K a.d_qz ["_law_xs", "_law_size"] []
 g_qz:mg "_law_take" = some (.ref a.f_qz)
 F_qA:Fun K "_law_hands" "_law_hands" WY a.f_qA a.d_qA
 b_qA:Binds K a.d_qA ["_law_xs", "_law_most"] []
 g_qA:mg "_law_hands" = some (.ref a.f_qA)
 F_qB:Fun K "_law_lines" "_law_lines" WX a.f_qB a.d_qB
 b_qB:Binds K a.d_qB ["_law_xs", "_law_hands_here"] []
 g_qB:mg "_law_lines" = some (.ref a.f_qB)
 F_qC:Fun K "_law_web_drawn" "_law_web_drawn" WW a.f_qC a.d_qC
 b_qC:Binds K a.d_qC ["_law_xs"] []
 g_qC:mg "_law_web_drawn" = some (.ref a.f_qC)
 F_qD:Fun K "_law_near" "_law_near" WV a.f_qD a.d_qD
 b_qD:Binds K a.d_qD ["_law_lines_here", "_law_hand"] []
 g_qD:mg "_law_near" = some (.ref a.f_qD)
 F_qE:Fun K "_law_up" "_law_up" WU a.f_qE a.d_qE
 b_qE:Binds K a.d_qE ["_law_parents", "_law_hand"] []
 g_qE:mg "_law_up" = some (.ref a.f_qE)
 F_qF:Fun K "_law_both" "_law_both" WT a.f_qF a.d_qF
 b_qF:Binds K a.d_qF ["_law_parents", "_law_one", "_law_other"] []
 g_qF:mg "_law_both" = some (.ref a.f_qF)
 F_qG:Fun K "_law_drawn_way" "_law_drawn_way" YE a.f_qG a.d_qG
 b_qG:Binds K a.d_qG ["_law_xs", "_law_hands_here", "_law_lines_here"] []
 g_qG:mg "_law_drawn_way" = some (.ref a.f_qG)
 F_qH:Fun K "_law_roads" "_law_roads" WS a.f_qH a.d_qH
 b_qH:Binds K a.d_qH ["_law_parents", "_law_bridges", "_law_hand", "_law_other"] []
 g_qH:mg "_law_roads" = some (.ref a.f_qH)
 F_qI:Fun K "_law_paper" "_law_paper" WR a.f_qI a.d_qI
 b_qI:Binds K a.d_qI ["_law_xs", "_law_hands_here", "_law_lines_here", "_law_parents", "_law_bridges"] []
 g_qI:mg "_law_paper" = some (.ref a.f_qI)
 F_qJ:Fun K "law" "law" YD a.f_qJ a.d_qJ
 b_qJ:Binds K a.d_qJ ["_law_script"] []
 b0_qJ:∀ (s:Shared) (u:Value),BindsTo s a.d_qJ ⟨[u],[]⟩ [("_law_script",u)]
 g_qJ:mg "law" = some (.ref a.f_qJ)
 F_qK:Fun K "__init__" "Way.__init__" WQ a.f_qK a.d_qK
 b_qK:Binds K a.d_qK ["self", "parents", "bridges"] []
 F_qL:Fun K "parent_of" "Way.parent_of" WO a.f_qL a.d_qL
 b_qL:Binds K a.d_qL ["self", "hand"] []
 mt_qL:Meth K a.c_Way "parent_of" a.f_qL
 F_qM:Fun K "all_parents" "Way.all_parents" WN a.f_qM a.d_qM
 b_qM:Binds K a.d_qM ["self"] []
 mt_qM:Meth K a.c_Way "all_parents" a.f_qM
 F_qN:Fun K "all_bridges" "Way.all_bridges" WM a.f_qN a.d_qN
 b_qN:Binds K a.d_qN ["self"] []
 mt_qN:Meth K a.c_Way "all_bridges" a.f_qN
 F_qO:Fun K "path_up" "Way.path_up" WL a.f_qO a.d_qO
 b_qO:Binds K a.d_qO ["self", "hand"] []
 mt_qO:Meth K a.c_Way "path_up" a.f_qO
 F_qP:Fun K "leader" "Way.leader" WK a.f_qP a.d_qP
 b_qP:Binds K a.d_qP ["self", "hand"] []
 mt_qP:Meth K a.c_Way "leader" a.f_qP
 F_qQ:Fun K "__init__" "Web.__init__" WJ a.f_qQ a.d_qQ
 b_qQ:Binds K a.d_qQ ["self", "hands", "lines"] []
 F_qR:Fun K "hands" "Web.hands" WI a.f_qR a.d_qR
 b_qR:Binds K a.d_qR ["self"] []
 mt_qR:Meth K a.c_Web "hands" a.f_qR
 F_qS:Fun K "lines" "Web.lines" WH a.f_qS a.d_qS
 b_qS:Binds K a.d_qS ["self"] []
 mt_qS:Meth K a.c_Web "lines" a.f_qS
 F_qT:Fun K "has_hand" "Web.has_hand" WF a.f_qT a.d_qT
 b_qT:Binds K a.d_qT ["self", "hand"] []
 mt_qT:Meth K a.c_Web "has_hand" a.f_qT
 F_qU:Fun K "has_line" "Web.has_line" WE a.f_qU a.d_qU
 b_qU:Binds K a.d_qU ["self", "one", "other"] []
 mt_qU:Meth K a.c_Web "has_line" a.f_qU
 g_Way:mg "Way" = some (.ref a.c_Way)
 cl_Way:Cls K a.c_Way
 mk_Way:Mk K a.c_Way a.f_qK
 ty_Way:∀ (H:Hp) (p dx:Addr) (fs:List (Str×V)),H p=some (.ins a.c_Way dx fs)→TyOf K H (.ref p) (.ref a.c_Way)
 na_Way_own_parents:NoAttr K a.c_Way "own_parents"
 na_Way_own_bridges:NoAttr K a.c_Way "own_bridges"
 g_Web:mg "Web" = some (.ref a.c_Web)
 cl_Web:Cls K a.c_Web
 mk_Web:Mk K a.c_Web a.f_qQ
 ty_Web:∀ (H:Hp) (p dx:Addr) (fs:List (Str×V)),H p=some (.ins a.c_Web dx fs)→TyOf K H (.ref p) (.ref a.c_Web)
 na_Web_own_hands:NoAttr K a.c_Web "own_hands"
 na_Web_own_lines:NoAttr K a.c_Web "own_lines"
 na_Web_near:NoAttr K a.c_Web "near"
 k_tint_tint:PySem.W.kitOne K (.type "int") (.type "int")=some true
 k_tint_tbool:PySem.W.kitOne K (.type "int") (.type "bool")=some false
 k_tlist_tlist:PySem.W.kitOne K (.type "list") (.type "list")=some true
 k_ttuple_ttuple:PySem.W.kitOne K (.type "tuple") (.type "tuple")=some true
 k_ttuple_tlist:PySem.W.kitOne K (.type "tuple") (.type "list")=some false
 k_tdict_tlist:PySem.W.kitOne K (.type "dict") (.type "list")=some false
 k_tdict_ttuple:PySem.W.kitOne K (.type "dict") (.type "tuple")=some false
 k_tdict_tdict:PySem.W.kitOne K (.type "dict") (.type "dict")=some true
 k_tint_tlist:PySem.W.kitOne K (.type "int") (.type "list")=some false
 k_tint_ttuple:PySem.W.kitOne K (.type "int") (.type "tuple")=some false
 k_tint_tdict:PySem.W.kitOne K (.type "int") (.type "dict")=some false
 k_tNoneType_tlist:PySem.W.kitOne K (.type "NoneType") (.type "list")=some false
 k_tNoneType_ttuple:PySem.W.kitOne K (.type "NoneType") (.type "tuple")=some false
 k_tNoneType_tdict:PySem.W.kitOne K (.type "NoneType") (.type "dict")=some false
 k_tNoneType_tint:PySem.W.kitOne K (.type "NoneType") (.type "int")=some false
 k_tstr_tint:PySem.W.kitOne K (.type "str") (.type "int")=some false
 k_Way_Way:PySem.W.kitOne K (.ref a.c_Way) (.ref a.c_Way)=some true
 g_MOST_HANDS:mg "MOST_HANDS" = some (.int 12 a.t_MOST_HANDS)
 g_LAST_HAND:mg "LAST_HAND" = some (.int 99 a.t_LAST_HAND)
def LnAt (H:Hp) (rs:List V) (ls:LP):Prop:=rs.length=ls.length∧∀ (i:Nat) r p,rs[i]?=some r→ls[i]?=some p→∃ q,r=.ref q∧H q=some (.tup [.int p.1,.int p.2])
theorem LnAt.same {H H':Hp}{rs:List V}{ls:LP}(h:LnAt H rs ls) (s:Same H H'):LnAt H' rs ls:=⟨h.1,fun i r p h1 h2=>by
 obtain⟨q,e,t⟩:=h.2 i r p h1 h2
 exact⟨q,e,s _ _ t⟩⟩
theorem LnAt.get {H:Hp}{rs:List V}{ls:LP}(h:LnAt H rs ls){i:Nat}{r:V}(e:rs[i]?=some r):∃ p q,ls[i]?=some p∧r=.ref q∧H q=some (.tup [.int p.1,.int p.2]):=by
 have hi:i<ls.length:=by rw[← h.1];exact(List.getElem?_eq_some_iff.mp e).1
 have hp:ls[i]?=some ls[i]:=by simp[hi]
 obtain⟨q,e1,e2⟩:=h.2 i r _ e hp
 exact⟨_,q,hp,e1,e2⟩
theorem xF {x:Int}:∀ {ns:LI},inV (.int x) (ns.map V.int)=decide (x∈ns)
 |[]=>by simp[inV]
 |n::ns=>by
  have ih:=xF (x:=x) (ns:=ns)
  unfold inV at ih ⊢
  rw[List.map_cons,List.any_cons,ih]
  show((n == x)||decide (x∈ns))=decide (x∈n::ns)
  by_cases e:n=x
  ·simp[e]
  ·have e':¬ x=n:=fun z=>e z.symm
   simp[e,e']
theorem xc (ns:LI):(ns.map V.int).all wm=true:=by
 rw[List.all_eq_true]
 intro v hv
 obtain⟨x,_,rfl⟩:=List.mem_map.mp hv
 rfl
section
variable {P:Program}{w:World}{K:PySem.W.Frag}{mg:Str→Option Value}{base:Heap}{a:Ad}
def wN:Sp:=fun vs H Q _=>∃ i:Int,vs=[.int i]∧Q (.bl true) H
theorem wV (T:Txt w K mg a):FnOk P w K mg base CX0 1 a.f_qa a.d_qa ["value"] wN:=by
 refine T.F_qa.ok Us (fun vs H Q E h=>?_) (fun cdv A outer s H vs Q E hr h=>?_)
 ·obtain⟨i,rfl,_⟩:=h
  rfl
 ·obtain⟨i,rfl,k⟩:=h
  refine⟨_,(zY (yS (uu (yq zR (by rfl) T.n_isinstance zv (xJ (pv 0) (xJ (wB T.n_int X7) yh))) (ZE (XM (yq zR (by rfl) T.n_isinstance zv (xJ (pv 0) (xJ (wB T.n_bool Yj) yh)))))))),?_⟩
  refine⟨_,rfl,_,_,_,_,_,rfl,rfl,.int i,T.k_tint_tint,_,rfl,xM ?_⟩
  exact⟨_,rfl,_,_,_,_,_,rfl,rfl,.int i,T.k_tint_tbool,_,rfl,k⟩
def Zl:Sp:=fun vs H Q _=>∃ (h:Addr) (hs:LI),vs=[.ref h]∧H h=some (.lst (hs.map V.int))∧Hs hs∧Q (.bl true) H
theorem YX (T:Txt w K mg a):FnOk P w K mg base CX0 2 a.f_qt a.d_qt ["hands"] Zl:=by
 have c_qa:Callee P w K mg base "is_whole" a.f_qa a.d_qa ["value"] 1 wN:=⟨wV T,T.g_qa,T.F_qa.kp,T.b_qa⟩
 refine T.F_qt.ok sc_qt (fun vs H Q E h=>?_) (fun cdv A outer s H vs Q E hr h=>?_)
 ·obtain⟨h,hs,rfl,_⟩:=h
  rfl
 ·obtain⟨h,hs,rfl,hh,W,k⟩:=h
  have w1:=W.l1
  have w12:=W.l12
  refine⟨_,(zK (wQ (PW.pt (vo (xm (xl (yq zR (by rfl) T.n_isinstance zv (xJ (pv 0) (xJ (wB T.n_list bt_list) yh))))) (vo (xD v0 (yq zw (by rfl) T.n_len yi (xJ (pv 0) yh)) xn (zB _)) (wA (xD uT (yq zw (by rfl) T.n_len yi (xJ (pv 0) yh)) (vX (v:=.int 12) rfl T.g_MOST_HANDS ⟨_,rfl⟩) (zB _))))))
    (zY (yS wq))
    yP)
   (zK (vp (i:=1) sc_qt.nd rfl (Or.inl rfl) (UI yJ xn))
   (zK (vq PassesOwn.never rfl (xZ (pv 0)) (xE (i:=2) sc_qt.nd rfl (Or.inl rfl))
    (zK (wQ (PW.pt (vo (xm (xl (XO c_qa hr.m (xJ (pv 2) yh)))) (vo (xD zde (pv 2) (pv 1) (zB _)) (wA (xD uT (pv 2) (vX (v:=.int 99) rfl T.g_LAST_HAND ⟨_,rfl⟩) (zB _))))))
     (zY (yS wq))
     yP)
    (zY (vp (i:=1) sc_qt.nd rfl (Or.inl rfl) (pv 2)))))
   (zY (yS wq))))),?_⟩
  refine⟨_,rfl,_,_,_,_,_,rfl,rfl,.lst hh,T.k_tlist_tlist,_,rfl,iteN rfl ?_⟩
  refine⟨_,rfl,h,_,rfl,.inl (SqL.of hh),_,_,rfl,rfl,_,rfl,iteN (decide_eq_false (by rw[List.length_map];omega)) ?_⟩
  refine⟨_,rfl,h,_,rfl,.inl (SqL.of hh),_,_,rfl,rfl,_,rfl,iteN (decide_eq_false (by rw[List.length_map];omega)) ?_⟩
  refine⟨1,rfl,_,rfl,h,rfl,⟨_,SqL.of hh⟩,?_⟩
  refine for_list (K:=K) (a:=h) (xs:=hs.map V.int) (fun i σ H'=>H'=H∧∃ (m:Int) (o:Option V),σ=[some (.ref h),some (.int m),o]∧-1≤m∧∀ j x,i≤j→hs[j]?=some x→m<x) ?_ ?_ ?_ ?_
  ·refine⟨rfl,-1,none,rfl,Int.le_refl _,fun j x _ hx=>?_⟩
   have:=W.lo x (List.mem_of_getElem? hx)
   omega
  ·rintro i σ H' _ ⟨rfl,_⟩
   exact SqL.of hh
  ·rintro i x σ H' hi ⟨rfl,m,o,rfl,hm,hall⟩
   rw[List.getElem?_map] at hi
   obtain⟨y,hy,rfl⟩:=Option.map_eq_some_iff.mp hi
   have y1:=hall i y (Nat.le_refl _) hy
   have y2:=W.hi y (List.mem_of_getElem? hy)
   refine⟨_,rfl,y,rfl,_,rfl,iteN rfl ?_⟩
   refine⟨_,rfl,_,rfl,_,_,rfl,rfl,_,rfl,iteN (decide_eq_false (by omega)) ?_⟩
   refine⟨_,rfl,_,_,rfl,rfl,_,rfl,iteN (decide_eq_false (by omega)) ?_⟩
   refine⟨_,rfl,rfl,y,_,rfl,by omega,fun j z hj hz=>?_⟩
   have hlt:i<j:=by omega
   obtain⟨b1,e1⟩:=List.getElem?_eq_some_iff.mp hy
   obtain⟨b2,e2⟩:=List.getElem?_eq_some_iff.mp hz
   rw[← e1,← e2]
   exact List.pairwise_iff_getElem.mp W.up i j b1 b2 hlt
  ·rintro σ H' ⟨rfl,_⟩
   exact k
def spLine:Sp:=fun vs H Q _=>∃ (q h:Addr) (hs:LI) (p:Int×Int),vs=[.ref q,.ref h]∧H q=some (.tup [.int p.1,.int p.2])∧H h=some (.lst (hs.map V.int))∧(p.1∈hs∧p.2∈hs∧p.1<p.2)∧Q (.bl true) H
theorem Vx (T:Txt w K mg a):FnOk P w K mg base CX0 2 a.f_qu a.d_qu ["line", "hands"] spLine:=by
 have c_qa:Callee P w K mg base "is_whole" a.f_qa a.d_qa ["value"] 1 wN:=⟨wV T,T.g_qa,T.F_qa.kp,T.b_qa⟩
 refine T.F_qu.ok zcS (fun vs H Q E h=>?_) (fun cdv A outer s H vs Q E hr h=>?_)
 ·obtain⟨q,h,hs,p,rfl,_⟩:=h
  rfl
 ·obtain⟨q,h,hs,⟨x,y⟩,rfl,hq,hh,⟨h1,h2,h3⟩,k⟩:=h
  dsimp only at hq h1 h2 h3
  refine⟨_,(zK (wQ (PW.pt (vo (xm (xl (yq zR (by rfl) T.n_isinstance zv (xJ (pv 0) (xJ (wB T.n_tuple yR) yh))))) (wA (xD uS (yq zw (by rfl) T.n_len yi (xJ (pv 0) yh)) xn (zB _)))))
    (zY (yS wq))
    yP)
   (zK (wQ (PW.pt (vo (xm (xl (XO c_qa hr.m (yY (vW yd (pv 0) xn (fun _ _=>rfl)) yh)))) (wA (xm (xl (XO c_qa hr.m (yY (vW yd (pv 0) xn (fun _ _=>rfl)) yh)))))))
    (zY (yS wq))
    yP)
   (zY (yS (uu (wT wa (vW yd (pv 0) xn (fun _ _=>rfl)) (pv 1) (by with_unfolding_all rfl)) (uu (wT wa (vW yd (pv 0) xn (fun _ _=>rfl)) (pv 1) (by with_unfolding_all rfl)) (ZE (wT v0 (vW yd (pv 0) xn (fun _ _=>rfl)) (vW yd (pv 0) xn (fun _ _=>rfl)) (zB _))))))))),?_⟩
  refine⟨_,rfl,_,_,_,_,_,rfl,rfl,.tup hq,T.k_ttuple_ttuple,_,rfl,iteN rfl ?_⟩
  refine⟨_,rfl,q,_,rfl,.inr (SqT.of hq),rfl,_,rfl,iteN rfl ?_⟩
  refine⟨_,rfl,q,_,0,_,rfl,rfl,SqT.of hq,rfl,x,rfl,_,rfl,iteN rfl ?_⟩
  refine⟨_,rfl,q,_,1,_,rfl,rfl,SqT.of hq,rfl,y,rfl,_,rfl,iteN rfl ?_⟩
  refine⟨_,rfl,q,_,0,_,rfl,rfl,SqT.of hq,rfl,_,rfl,h,_,rfl,.inl (SqL.of hh),rfl,xc hs,_,rfl,iteB (by show inV (.int x) _=true;rw[xF];exact decide_eq_true h1) ?_⟩
  refine⟨_,rfl,q,_,1,_,rfl,rfl,SqT.of hq,rfl,_,rfl,h,_,rfl,.inl (SqL.of hh),rfl,xc hs,_,rfl,iteB (by show inV (.int y) _=true;rw[xF];exact decide_eq_true h2) ?_⟩
  refine⟨_,rfl,q,_,0,_,rfl,rfl,SqT.of hq,rfl,_,rfl,q,_,1,_,rfl,rfl,SqT.of hq,rfl,_,_,rfl,rfl,?_⟩
  show Q (.bl (decide (x<y))) H
  rw[decide_eq_true h3]
  exact k
section
variable {κ:Type} [DecidableEq κ]
theorem yW {kvs:List (κ×V)}{k:κ}:(yK kvs k).isSome=decide (k∈kvs.map (·.1)):=by
 rw[← yH]
 by_cases h:k∈kvs.map (·.1)
 ·rw[decide_eq_true h,List.any_eq_true]
  obtain⟨p,hp,rfl⟩:=List.mem_map.mp h
  exact⟨p,hp,decide_eq_true rfl⟩
 ·rw[decide_eq_false h,List.any_eq_false]
  intro p hp e
  exact h (List.mem_map.mpr ⟨p,hp,of_decide_eq_true e⟩)
theorem valV_yes {kvs:List (κ×V)}{k:κ}(h:k∈kvs.map (·.1)):(yK kvs k).isSome=true:=by rw[yW];exact decide_eq_true h
theorem wJ {kvs:List (κ×V)}{k:κ}(h:k∉kvs.map (·.1)):(yK kvs k).isSome=false:=by rw[yW];exact decide_eq_false h
theorem putK_new {kvs:List (κ×V)}{k:κ}{v:V}(h:k∉kvs.map (·.1)):putK kvs k v=kvs++[(k,v)]:=by
 unfold putK
 rw[if_neg]
 rw[yH,yW,decide_eq_true_iff]
 exact h
theorem Zs {kvs:List (κ×V)}{k:κ}{v:V}(h:k∈kvs.map (·.1)):(putK kvs k v).map (·.1)=kvs.map (·.1):=by
 unfold putK
 rw[if_pos (by rw[yH,yW,decide_eq_true_iff];exact h),List.map_map]
 refine List.map_congr_left fun p _=>?_
 show(if p.1=k then(p.1,v) else p).1=p.1
 split<;>rfl
end
theorem _root_.L2.Same.updF {p:Addr}{H H':Hp}{o:HO}(x:Same H H') (h:H p=none):Same H (L2.upd H' p o):=fun b u e=>by
 rw[upd_ne (ne_of_none e h)];exact x b u e
noncomputable abbrev yn (p:Int×Int):List Key:=[Sum.inl p.1,Sum.inl p.2]
theorem yz {p q:Int×Int}(h:yn p=yn q):p=q:=by
 obtain⟨a,b⟩:=p
 obtain⟨c,d⟩:=q
 simp[yn] at h
 rw[h.1,h.2]
theorem wc {α:Type}{xs:List α}{i:Nat}{x:α}(h:xs.Nodup) (e:xs[i]?=some x):x∉xs.take i:=by
 intro m
 obtain⟨j,hj,ej⟩:=List.getElem_of_mem m
 obtain⟨hi,ei⟩:=List.getElem?_eq_some_iff.mp e
 rw[List.getElem_take] at ej
 rw[List.length_take] at hj
 have:=(List.nodup_iff_pairwise_ne.mp h)
 exact List.pairwise_iff_getElem.mp this j i (by omega) hi (by omega) (ej.trans ei.symm)
def Zk:Sp:=fun vs H Q _=>∃ (l h:Addr) (rs:List V) (hs:LI) (ls:LP),vs=[.ref l,.ref h]∧H l=some (.lst rs)∧LnAt H rs ls∧H h=some (.lst (hs.map V.int))∧Ls hs ls∧∀ H',Same H H'→Q (.bl true) H'
theorem YW (T:Txt w K mg a):FnOk P w K mg base CX0 3 a.f_qv a.d_qv ["lines", "hands"] Zk:=by
 have c_qu:Callee P w K mg base "is_line" a.f_qu a.d_qu ["line", "hands"] 2 spLine:=⟨Vx T,T.g_qu,T.F_qu.kp,T.b_qu⟩
 refine T.F_qv.ok sc_qv (fun vs H Q E h=>?_) (fun cdv A outer s H vs Q E hr h=>?_)
 ·obtain⟨l,h,rs,hs,ls,rfl,_⟩:=h
  rfl
 ·obtain⟨l,h,rs,hs,ls,rfl,hl,hrs,hh,L,k⟩:=h
  have l66:=L.le
  have hu:=xb hr
  refine⟨_,(zK (wQ (xm (xl (yq zR (by rfl) T.n_isinstance zv (xJ (pv 0) (xJ (wB T.n_list bt_list) yh)))))
    (zY (yS wq))
    yP)
   (zK (vp (i:=2) sc_qv.nd rfl (Or.inl rfl) ur)
   (zK (vq PassesOwn.never rfl (xZ (pv 0)) (xE (i:=3) sc_qv.nd rfl (Or.inl rfl))
    (zK (wQ (PW.pt (vo (xm (xl (XO c_qu hr.m (xJ (pv 3) (xJ (pv 1) yh))))) (wA (XI (XQ hu (pv 3) (pv 2))))))
     (zY (yS wq))
     yP)
    (zY (vV hu (pv 2) (pv 3) wq rfl))))
   (zY (yS wq))))),?_⟩
  refine⟨_,rfl,_,_,_,_,_,rfl,rfl,.lst hl,T.k_tlist_tlist,_,rfl,iteN rfl ?_⟩
  refine fun d hd=>?_
  refine⟨_,rfl,l,rfl,⟨_,SqL.of (Same.new hd _ _ hl)⟩,?_⟩
  refine for_list (K:=K) (a:=l) (xs:=rs) (fun i σ H'=>∃ (kvs:List (List Key×V)) (o:Option V),σ=[some (.ref l),some (.ref h),some (.ref d),o]∧H' d=some (.dT kvs)∧kvs.map (·.1)=(ls.take i).map yn∧Same H H') ?_ ?_ ?_ ?_
  ·exact⟨[],none,rfl,upd_same,by simp,Same.new hd⟩
  ·rintro i σ H' _ ⟨kvs,o,_,_,_,sm⟩
   exact SqL.of (sm _ _ hl)
  ·rintro i x σ H' hi ⟨kvs,o,rfl,hd',hk,sm⟩
   obtain⟨p,q,hp,rfl,hq⟩:=(hrs.same sm).get hi
   have hm:p∈ls:=List.mem_of_getElem? hp
   refine⟨_,rfl,_,rfl,q,h,hs,p,rfl,hq,sm _ _ hh,L.ok p hm,_,rfl,iteN rfl ?_⟩
   have hnew:yn p∉kvs.map (·.1):=by
    rw[hk]
    intro z
    obtain⟨p',m',e'⟩:=List.mem_map.mp z
    rw[yz e'] at m'
    exact wc L.nd hp m'
   have hz:kvs.length≤1000:=by
    have:=congrArg List.length hk
    rw[List.length_map,List.length_map,List.length_take] at this
    omega
   refine⟨_,rfl,_,rfl,d,_,rfl,DGet.t (k:=yn p) hd' hq,_,rfl,iteN ?_ ?_⟩
   ·exact wJ hnew
   ·refine⟨_,rfl,_,rfl,d,_,rfl,DPut.t (k:=yn p) hd' hq (zk hz),?_⟩
    refine⟨_,_,rfl,upd_same,?_,sm.updF hd⟩
    rw[putK_new hnew,List.map_append,hk,List.take_add_one,hp,List.map_append]
    rfl
  ·rintro σ H' ⟨kvs,o,_,_,_,sm⟩
   exact k H' sm
def tab (ad:Int→Addr) (us:LI):List (Key×V):=us.map fun h=>(Sum.inl h,V.ref (ad h))
theorem Yx {ad:Int→Addr}{us:LI}:(tab ad us).map (·.1)=us.map Sum.inl:=by
 unfold tab;rw[List.map_map];rfl
theorem Xv {ad:Int→Addr}{x:Int}:∀ {us:LI},x∈us→yK (tab ad us) (Sum.inl x:Key)=some (V.ref (ad x))
 |u::us,h=>by
  show yK ((Sum.inl u,V.ref (ad u))::tab ad us) _=_
  by_cases e:u=x
  ·subst e;rw[xy rfl]
  ·rw[xz (fun z=>e (by injection z)),Xv]
   rcases List.mem_cons.mp h with z | z
   ·exact absurd z.symm e
   ·exact z
theorem wK {H:Hp}{d:Addr}{ad:Int→Addr}{us:LI}{x:Int}(e:H d=some (.dK (tab ad us))) (h:x∈us):DGet H d (V.int x) (some (V.ref (ad x))):=by
 have:=DGet.k (k:=Sum.inl x) e
 rw[Xv h] at this
 exact this
theorem v6 {x:Int}{us:LI}:(Sum.inl x:Key)∈us.map (Sum.inl:Int→Key)↔x∈us:=by
 rw[List.mem_map]
 exact⟨fun⟨y,h,e⟩=>by injection e with e;exact e ▸ h,fun h=>⟨x,h,rfl⟩⟩
noncomputable def zbl (ad:Int→Addr) (y:Int) (p:Addr):Int→Addr:=fun x=>if x=y then p else ad x
theorem putA_at {ad:Int→Addr}{x y:Int}{p:Addr}(e:x=y):zbl ad y p x=p:=if_pos e
theorem putA_ne {ad:Int→Addr}{x y:Int}{p:Addr}(e:¬ x=y):zbl ad y p x=ad x:=if_neg e
structure Near (H:Hp) (d:Addr) (hs:LI) (ls:LP) (ad:Int→Addr):Prop where
 d:H d=some (.dK (tab ad hs))
 nb:∀ h∈hs,H (ad h)=some (.lst ((nbs ls h).map V.int))
theorem Near.same {H H':Hp}{d:Addr}{hs:LI}{ls:LP}{ad:Int→Addr}(n:Near H d hs ls ad) (s:Same H H'):Near H' d hs ls ad:=⟨s _ _ n.d,fun h m=>s _ _ (n.nb h m)⟩
def XF:Sp:=fun vs H Q _=>∃ (h l:Addr) (rs:List V) (hs:LI) (ls:LP),vs=[.ref h,.ref l]∧H h=some (.lst (hs.map V.int))∧H l=some (.lst rs)∧LnAt H rs ls∧Hs hs∧Ls hs ls ∧
 ∀ (d:Addr) (ad:Int→Addr) H',Same H H'→H d=none→(∀ x∈hs,H (ad x)=none)→Near H' d hs ls ad→Q (.ref d) H'
theorem Vw (T:Txt w K mg a):FnOk P w K mg base CX0 1 a.f_qw a.d_qw ["hands", "lines"] XF:=by
 refine T.F_qw.ok sc_qw (fun vs H Q E h=>?_) (fun cdv A outer s H vs Q E hr h=>?_)
 ·obtain⟨h,l,rs,hs,ls,rfl,_⟩:=h
  rfl
 ·obtain⟨h,l,rs,hs,ls,rfl,hh,hl,hrs,W,L,k⟩:=h
  have l66:=L.le
  have l12:=W.l12
  have hu:=xb hr
  refine⟨_,(zK (vp (i:=2) sc_qw.nd rfl (Or.inl rfl) ut)
   (zK (vq PassesOwn.never rfl (xZ (pv 0)) (xE (i:=3) sc_qw.nd rfl (Or.inl rfl))
    (zY (vV hu (pv 2) (pv 3) (XN yh) rfl)))
   (zK (vq PassesOwn.never rfl (xZ (pv 1)) (XJ rfl (wS (xE (i:=4) sc_qw.nd rfl (Or.inl rfl)) (wS (xE (i:=5) sc_qw.nd rfl (Or.inl rfl)) ZC)))
    (zK (vU (Vt PySem.F.plainAttrs_list PySem.F.slot_list_append PySem.F.type_list_append zL (vY hu (pv 2) (pv 4) (fun _ _=>rfl)) (xJ (pv 5) yh)))
    (zY (vU (Vt PySem.F.plainAttrs_list PySem.F.slot_list_append PySem.F.type_list_append zL (vY hu (pv 2) (pv 5) (fun _ _=>rfl)) (xJ (pv 4) yh))))))
   (zY (yS (pv 2)))))),?_⟩
  refine fun d hd=>?_
  refine⟨_,rfl,h,rfl,⟨_,SqL.of (Same.new hd _ _ hh)⟩,?_⟩
  refine for_list (K:=K) (a:=h) (xs:=hs.map V.int) (fun i σ H'=>∃ (ad:Int→Addr) (o:Option V),σ=[some (.ref h),some (.ref l),some (.ref d),o,none,none]∧H' d=some (.dK (tab ad (hs.take i))) ∧
   (∀ x∈hs.take i,H' (ad x)=some (.lst [])∧H (ad x)=none)∧(∀ x∈hs.take i,∀ y∈hs.take i,ad x=ad y→x=y)∧Same H H') ?_ ?_ ?_ ?_
  ·exact⟨fun _=>0,none,rfl,upd_same,fun x hx=>by simp at hx,fun x hx=>by simp at hx,Same.new hd⟩
  ·rintro i σ H' _ ⟨ad,o,_,_,_,_,sm⟩
   exact SqL.of (sm _ _ hh)
  ·rintro i x σ H' hi ⟨ad,o,rfl,hd',hat,hinj,sm⟩
   rw[List.getElem?_map] at hi
   obtain⟨y,hy,rfl⟩:=Option.map_eq_some_iff.mp hi
   have hnew:y∉hs.take i:=wc (Yw W.up) hy
   refine⟨(by show 0≤sizeLine;decide),fun p hp=>?_⟩
   have hpd:p≠d:=fun z=>by rw[z,hd'] at hp;cases hp
   have hd2:(upd H' p (.lst [])) d=some (.dK (tab ad (hs.take i))):=by rw[upd_ne hpd.symm];exact hd'
   refine⟨_,rfl,_,rfl,d,_,rfl,DPut.k (k:=Sum.inl y) hd2 (zk ?_),?_⟩
   ·unfold tab
    rw[List.length_map,List.length_take];omega
   ·have et:hs.take (i+1)=hs.take i++[y]:=by rw[List.take_add_one,hy];rfl
    have hp0:H p=none:=sm.free hp
    have hne:∀ x∈hs.take i,ad x≠p:=fun x hx z=>by
     have:=(hat x hx).1
     rw[z,hp] at this;cases this
    have had:∀ x∈hs.take i,ad x≠d:=fun x hx z=>by
     have:=(hat x hx).1
     rw[z,hd'] at this;cases this
    refine⟨zbl ad y p,_,rfl,?_,?_,?_,(sm.updF hp0).updF hd⟩
    ·rw[upd_same,K04.putK_new (by rw[Yx,v6];exact hnew),et]
     unfold tab
     rw[List.map_append]
     congr 3
     ·refine List.map_congr_left fun x hx=>?_
      rw[putA_ne (fun z=>hnew (by rw[← z];exact hx))]
     ·show _=[(Sum.inl y,V.ref (zbl ad y p y))]
      rw[putA_at rfl]
    ·intro x hx
     rw[et,List.mem_append,List.mem_singleton] at hx
     by_cases e:x=y
     ·rw[putA_at e,upd_ne hpd,upd_same]
      exact⟨rfl,hp0⟩
     ·rw[putA_ne e]
      have hx:=hx.resolve_right e
      rw[upd_ne (had x hx),upd_ne (hne x hx)]
      exact hat x hx
    ·intro x hx z hz
     rw[et,List.mem_append,List.mem_singleton] at hx hz
     by_cases e1:x=y
     ·by_cases e2:z=y
      ·intro _;rw[e1,e2]
      ·rw[putA_at e1,putA_ne e2]
       intro q;exact absurd q.symm (hne z (hz.resolve_right e2))
     ·by_cases e2:z=y
      ·rw[putA_ne e1,putA_at e2]
       intro q;exact absurd q (hne x (hx.resolve_right e1))
      ·rw[putA_ne e1,putA_ne e2]
       exact hinj x (hx.resolve_right e1) z (hz.resolve_right e2)
  ·rintro σ H1 ⟨ad,o,rfl,hd',hat,hinj,sm⟩
   rw[List.length_map,List.take_length] at hd' hat hinj
   refine⟨_,rfl,l,rfl,⟨_,SqL.of (sm _ _ hl)⟩,?_⟩
   refine for_list (K:=K) (a:=l) (xs:=rs) (fun i σ H'=>∃ (o1 o2:Option V),σ=[some (.ref h),some (.ref l),some (.ref d),o,o1,o2]∧Near H' d hs (ls.take i) ad∧Same H H') ?_ ?_ ?_ ?_
   ·exact⟨none,none,rfl,⟨hd',fun x hx=>by rw[List.take_zero];exact(hat x hx).1⟩,sm⟩
   ·rintro i σ H' _ ⟨o1,o2,_,_,sm'⟩
    exact SqL.of (sm' _ _ hl)
   ·rintro i x σ H' hi ⟨o1,o2,rfl,N,sm'⟩
    obtain⟨⟨x,y⟩,q,hp,rfl,hq⟩:=(hrs.same sm').get hi
    obtain⟨hx,hy,hxy⟩:=L.ok _ (List.mem_of_getElem? hp)
    dsimp only at hq hx hy hxy
    refine⟨q,_,rfl,SqT.of hq,rfl,_,_,rfl,_,_,rfl,rfl,?_⟩
    have len:∀ z,((nbs (ls.take i) z).map V.int).length<sizeLine:=fun z=>by
     rw[List.length_map]
     have:=ZS (h:=z) (ls:=ls.take i)
     rw[List.length_take] at this
     exact zk (by omega)
    have hdx:ad x≠d:=fun z=>by
     have:=N.nb x hx
     rw[z,N.d] at this;cases this
    have hdy:ad y≠d:=fun z=>by
     have:=N.nb y hy
     rw[z,N.d] at this;cases this
    have hne:ad y≠ad x:=fun z=>by have:=hinj y hy x hx z;omega
    refine⟨_,rfl,_,rfl,d,V.ref (ad x),rfl,wK N.d hx,.inl ⟨rfl,_,SqL.of (N.nb x hx)⟩,_,rfl,_,_,_,rfl,rfl,N.nb x hx,len x,?_⟩
    have nd2:(upd H' (ad x) (.lst ((nbs (ls.take i) x).map V.int++[V.int y]))) d=some (.dK (tab ad hs)):=by rw[upd_ne hdx.symm];exact N.d
    have ny2:(upd H' (ad x) (.lst ((nbs (ls.take i) x).map V.int++[V.int y]))) (ad y)=some (.lst ((nbs (ls.take i) y).map V.int)):=by rw[upd_ne hne];exact N.nb y hy
    refine⟨_,rfl,_,rfl,d,V.ref (ad y),rfl,wK nd2 hy,.inl ⟨rfl,_,SqL.of ny2⟩,_,rfl,_,_,_,rfl,rfl,ny2,len y,?_⟩
    refine⟨_,_,rfl,⟨?_,fun z hz=>?_⟩,(sm'.updF (hat x hx).2).updF (hat y hy).2⟩
    ·rw[upd_ne hdy.symm];exact nd2
    ·rw[Y0 hp]
     by_cases e2:z=y
     ·subst e2
      rw[upd_same,if_neg (by show ¬ x=z;omega),if_pos rfl,List.map_append]
      rfl
     ·rw[upd_ne (fun q=>e2 (hinj z hz y hy q))]
      by_cases e1:z=x
      ·subst e1
       rw[upd_same,if_pos rfl,if_neg (by show ¬ y=z;omega),List.map_append]
       rfl
      ·rw[upd_ne (fun q=>e1 (hinj z hz x hx q)),if_neg (fun q=>e1 q.symm),if_neg (fun q=>e2 q.symm),List.append_nil,List.append_nil]
       exact N.nb z hz
   ·rintro σ H' ⟨o1,o2,rfl,N,sm'⟩
    rw[hrs.1,List.take_length] at N
    exact⟨_,rfl,k d ad H' sm' hd (fun x hx=>(hat x hx).2) N⟩
theorem Near.ext {H H':Hp}{d p dx C:Addr}{fs:List (Str×V)}{hs:LI}{ls:LP}{ad:Int→Addr}(n:Near H d hs ls ad) (hp:H p=some (.ins C dx fs)) (s:Ext p H H'):Near H' d hs ls ad :=
 ⟨s _ _ n.d (fun z=>by rw[← z,n.d] at hp;cases hp),fun h m=>s _ _ (n.nb h m) (fun z=>by rw[← z,n.nb h m] at hp;cases hp)⟩
theorem LnAt.ext {H H':Hp}{p dx C:Addr}{fs:List (Str×V)}{rs:List V}{ls:LP}(h:LnAt H rs ls) (hp:H p=some (.ins C dx fs)) (s:Ext p H H'):LnAt H' rs ls:=⟨h.1,fun i r q h1 h2=>by
 obtain⟨t,e,ht⟩:=h.2 i r q h1 h2
 exact⟨t,e,s _ _ ht fun z=>by rw[← z,ht] at hp;cases hp⟩⟩
theorem Ext.free {l p:Addr}{H H':Hp}(k:Ext l H H') (n:p≠l) (h:H' p=none):H p=none:=by
 cases e:H p with
 |none=>rfl
 |some o=>have:=k _ _ e n;rw[h] at this;cases this
open Sco
def srt (ls:LP):LP:=ls.mergeSort fun p q=>decide (rkP p≤rkP q)
def Bd (ls:LP):Prop:=∀ p∈ls,0≤p.2∧p.2<1000
theorem zQ (ls:LP):(srt ls).Perm ls:=List.mergeSort_perm _ _
theorem XD (ls:LP):(srt ls).Pairwise fun p q=>rkP p≤rkP q:=by
 have:=List.pairwise_mergeSort (le:=fun p q:Int×Int=>decide (rkP p≤rkP q)) (fun a b c h1 h2=>by simp at *;omega) (fun a b=>by simp;omega) ls
 exact this.imp fun h=>by simpa using h
theorem W9 {p q:Int×Int}(bp:0≤p.2∧p.2<1000) (bq:0≤q.2∧q.2<1000) (h:rkP p=rkP q):p=q:=by
 obtain⟨a,b⟩:=p
 obtain⟨c,d⟩:=q
 unfold rkP at h
 dsimp only at *
 have:a=c:=by omega
 subst this
 rw[show b=d by omega]
theorem Xu:∀ {as bs:LP},Bd as→as.Perm bs→as.Pairwise (fun p q=>rkP p≤rkP q)→bs.Pairwise (fun p q=>rkP p≤rkP q)→as=bs
 |[],bs,_,pm,_,_=>(List.nil_perm.mp pm).symm
 |x::as,[],_,pm,_,_=>absurd pm.length_eq (by simp)
 |x::as,y::bs,B,pm,u1,u2=>by
  obtain⟨a1,a2⟩:=List.pairwise_cons.mp u1
  obtain⟨b1,b2⟩:=List.pairwise_cons.mp u2
  have hy:y∈x::as:=pm.mem_iff.mpr List.mem_cons_self
  have hx:x∈y::bs:=pm.mem_iff.mp List.mem_cons_self
  have l1:rkP x≤rkP y:=by
   rcases List.mem_cons.mp hy with z | z
   ·rw[z];exact Int.le_refl _
   ·exact a1 y z
  have l2:rkP y≤rkP x:=by
   rcases List.mem_cons.mp hx with z | z
   ·rw[z];exact Int.le_refl _
   ·exact b1 x z
  have e:x=y:=W9 (B x List.mem_cons_self) (B y hy) (by omega)
  subst e
  rw[Xu (fun p hp=>B p (List.mem_cons_of_mem _ hp)) (List.Perm.cons_inv pm) a2 b2]
theorem XE {as ls:LP}(B:Bd ls) (pm:as.Perm ls) (u:as.Pairwise fun p q=>rkP p≤rkP q):as=srt ls :=
 Xu (fun p hp=>B p (pm.mem_iff.mp hp)) (pm.trans (zQ ls).symm) u (XD ls)
theorem LnAt.ps {H:Hp}:∀ {rs:List V}{ls:LP},LnAt H rs ls→Bd ls→∃ ps:List PT,ps.map (fun p=>V.ref p.1)=rs∧ps.map (·.2)=ls∧PsAt H ps
 |[],[],_,_=>⟨[],rfl,rfl,fun p hp=>by cases hp⟩
 |[],_::_,h,_=>absurd h.1 (by simp)
 |_::_,[],h,_=>absurd h.1 (by simp)
 |r::rs,p::ls,h,B=>by
  obtain⟨q,rfl,hq⟩:=h.2 0 r p rfl rfl
  obtain⟨ps,e1,e2,e3⟩:=LnAt.ps (H:=H) (rs:=rs) (ls:=ls) ⟨by have:=h.1;simpa using this,fun i r p h1 h2=>h.2 (i+1) r p (by simpa using h1) (by simpa using h2)⟩ fun p hp=>B p (List.mem_cons_of_mem _ hp)
  refine⟨(q,p)::ps,by rw[List.map_cons,e1],by rw[List.map_cons,e2],fun x hx=>?_⟩
  rcases List.mem_cons.mp hx with z | z
  ·rw[z]
   exact⟨hq,B p List.mem_cons_self⟩
  ·exact e3 x z
theorem zc9 {H:Hp}{qs:List PT}(h:PsAt H qs):LnAt H (qs.map fun p=>V.ref p.1) (qs.map (·.2)):=by
 refine⟨by simp,fun i r p h1 h2=>?_⟩
 rw[List.getElem?_map] at h1 h2
 obtain⟨q,e1,rfl⟩:=Option.map_eq_some_iff.mp h1
 rw[e1] at h2
 cases h2
 exact⟨q.1,rfl,(h q (List.mem_of_getElem? e1)).1⟩
theorem _root_.L2.Sco.PsAt.same {H H':Hp}{ps:List PT}(h:PsAt H ps) (s:Same H H'):PsAt H' ps:=fun p hp=>⟨s _ _ (h p hp).1,(h p hp).2⟩
theorem _root_.L2.Sco.PsAt.sub {H:Hp}{ps qs:List PT}(h:PsAt H ps) (s:∀ q∈qs,q∈ps):PsAt H qs:=fun p hp=>h p (s p hp)
theorem vT {H:Hp}{ps qs:List PT}(h:PsAt H ps) (pm:qs.Perm ps) (u:qs.Pairwise fun x y=>rkP x.2≤rkP y.2):LnAt H (qs.map fun p=>V.ref p.1) (srt (ps.map (·.2))):=by
 have e:qs.map (·.2)=srt (ps.map (·.2)):=XE (fun p hp=>by
  obtain⟨x,hx,rfl⟩:=List.mem_map.mp hp
  exact(h x hx).2) (pm.map _) (by rw[List.pairwise_map];exact u)
 have:=zc9 (h.sub fun q hq=>pm.mem_iff.mp hq)
 rw[e] at this
 exact this
theorem Ls.bd {hs:LI}{ls:LP}(W:Hs hs) (L:Ls hs ls):Bd ls:=fun p hp=>by
 have:=(L.ok p hp).2.1
 have a1:=W.lo p.2 this
 have a2:=W.hi p.2 this
 omega
structure WebAt (a:Ad) (H:Hp) (p:Addr) (hs:LI) (ls:LP) (dx oh ol d:Addr) (ad:Int→Addr):Prop where
 p:H p=some (.ins a.c_Web dx [("own_hands",.ref oh),("own_lines",.ref ol),("near",.ref d)])
 oh:H oh=some (.lst (hs.map V.int))
 nr:Near H d hs ls ad
 ol:∃ zs,H ol=some (.lst zs)∧LnAt H zs (srt ls)
theorem WebAt.same {H H':Hp}{p dx oh ol d:Addr}{hs:LI}{ls:LP}{ad:Int→Addr}(w:WebAt a H p hs ls dx oh ol d ad) (s:Same H H'):WebAt a H' p hs ls dx oh ol d ad:=⟨s _ _ w.p,s _ _ w.oh,w.nr.same s,by obtain⟨zs,e1,e2⟩:=w.ol;exact⟨zs,s _ _ e1,e2.same s⟩⟩
def Uq (a:Ad):Sp:=fun vs H Q _=>∃ (p dx h l:Addr) (rs:List V) (hs:LI) (ls:LP),vs=[.ref p,.ref h,.ref l]∧H p=some (.ins a.c_Web dx [])∧H h=some (.lst (hs.map V.int))∧H l=some (.lst rs)∧LnAt H rs ls∧Hs hs∧Ls hs ls∧ls.length≤63 ∧
 ∀ (oh ol d:Addr) (ad:Int→Addr) H',H oh=none→H ol=none→H d=none→(∀ x∈hs,H (ad x)=none)→Ext p H H'→WebAt a H' p hs ls dx oh ol d ad→Q .non H'
theorem UT (T:Txt w K mg a):FnOk P w K mg base CX0 4 a.f_qQ a.d_qQ ["self", "hands", "lines"] (Uq a):=by
 have c_qt:Callee P w K mg base "are_hands" a.f_qt a.d_qt ["hands"] 2 Zl:=⟨YX T,T.g_qt,T.F_qt.kp,T.b_qt⟩
 have c_qv:Callee P w K mg base "are_lines" a.f_qv a.d_qv ["lines", "hands"] 3 Zk:=⟨YW T,T.g_qv,T.F_qv.kp,T.b_qv⟩
 have c_qw:Callee P w K mg base "near_by_hand" a.f_qw a.d_qw ["hands", "lines"] 1 XF:=⟨Vw T,T.g_qw,T.F_qw.kp,T.b_qw⟩
 refine T.F_qQ.ok zc2 (fun vs H Q E h=>?_) (fun cdv A outer s H vs Q E hr h=>?_)
 ·obtain⟨p,dx,h,l,rs,hs,ls,rfl,_⟩:=h
  rfl
 ·obtain⟨p,dx,h,l,rs,hs,ls,rfl,hp,hh,hl,hrs,W,L,l66,k⟩:=h
  have np:∀ {b:Addr}{xs:List V},H b=some (.lst xs)→b≠p:=fun e z=>by rw[z,hp] at e;cases e
  refine⟨_,(zK (wQ (xm (xl (XO c_qt hr.m (xJ (pv 1) yh))))
    (zY wP)
    yP)
   (zK (wQ (xm (xl (XO c_qv hr.m (xJ (pv 2) (xJ (pv 1) yh)))))
    (zY wP)
    yP)
   (zK (ul (pv 0) (vv yu (by rfl) T.n_list bt_list (xJ (pv 1) yh)) rfl)
   (zK (ul (pv 0) (yq Sco.call_sortX (by rfl) T.n_sorted yM (xJ (pv 2) yh)) rfl)
   (zY (ul (pv 0) (XO c_qw hr.m (xJ (pv 1) (xJ (pv 2) yh))) rfl)))))),?_⟩
  refine⟨_,rfl,h,hs,rfl,hh,W,_,rfl,iteN rfl ?_⟩
  refine⟨_,rfl,_,rfl,l,h,rs,hs,ls,rfl,hl,hrs,hh,L,fun H1 s1=>⟨_,rfl,iteN rfl ?_⟩⟩
  refine⟨_,rfl,h,_,rfl,.inl (SqL.of (s1 _ _ hh)),fun oh hoh=>?_⟩
  have ohp:oh≠p:=fun z=>by rw[z,s1 _ _ hp] at hoh;cases hoh
  refine⟨_,rfl,p,a.c_Web,dx,_,rfl,(upd_ne ohp.symm).trans (s1 _ _ hp),T.cl_Web,T.na_Web_own_hands,(by show 0<1000;decide),?_⟩
  have x3:=((Ext.same (l:=p) s1).trans (Ext.new (l:=p) (o:=.lst (hs.map V.int)) hoh)).trans (Ext.at (l:=p) (o:=.ins a.c_Web dx [("own_hands",.ref oh)]))
  obtain⟨ps,e1,e2,e3⟩:=(hrs.ext hp x3).ps (L.bd W)
  have l67:ps.length≤63:=by
   have:=congrArg List.length e2
   rw[List.length_map] at this
   omega
  refine⟨_,rfl,l,ps,rfl,by rw[e1];exact SqL.of (x3 _ _ hl (np hl)),l67,e3,fun ol qs hol pm up=>?_⟩
  have hq3:=vT e3 pm up
  rw[e2] at hq3
  generalize qs.map (fun p=>V.ref p.1)=zs at hq3 ⊢
  have olp:ol≠p:=fun z=>by rw[z,upd_same] at hol;cases hol
  refine⟨_,rfl,p,a.c_Web,dx,_,rfl,(upd_ne olp.symm).trans upd_same,T.cl_Web,T.na_Web_own_lines,(by show 1<1000;decide),?_⟩
  have x35:=(Ext.new (l:=p) (o:=.lst zs) hol).trans (Ext.at (l:=p) (o:=.ins a.c_Web dx [("own_hands",.ref oh),("own_lines",.ref ol)]))
  have x5:=x3.trans x35
  refine⟨_,rfl,_,rfl,h,l,rs,hs,ls,rfl,x5 _ _ hh (np hh),x5 _ _ hl (np hl),hrs.ext hp x5,W,L,fun d ad H6 s6 hd had N=>?_⟩
  have hp6:=s6 _ _ (upd_same (a:=p))
  refine⟨_,rfl,p,a.c_Web,dx,_,rfl,hp6,T.cl_Web,T.na_Web_near,(by show 2<1000;decide),?_⟩
  have nfr:∀ b,(upd (upd (upd (upd H1 oh (.lst (hs.map V.int))) p (.ins a.c_Web dx [("own_hands",.ref oh)])) ol (.lst zs)) p (.ins a.c_Web dx [("own_hands",.ref oh),("own_lines",.ref ol)])) b=none→H b=none:=fun b e=>x5.free (fun z=>by rw[z,upd_same] at e;cases e) e
  refine k oh ol d ad _ (s1.free hoh) (x3.free olp hol) (nfr d hd) (fun x hx=>nfr _ (had x hx)) ((x5.trans (Ext.same s6)).trans Ext.at) ⟨upd_same,?_,N.ext hp6 Ext.at,zs,?_,?_⟩
  ·rw[upd_ne ohp]
   exact s6 _ _ (x35 _ _ ((upd_ne ohp).trans upd_same) ohp)
  ·rw[upd_ne olp]
   exact s6 _ _ ((upd_ne olp).trans upd_same)
  ·exact((hq3.ext upd_same x35).same s6).ext hp6 Ext.at
theorem ZR {x:Int}:∀ {ls:LP},ls.Nodup→(∀ p∈ls,p.1<p.2)→(nbs ls x).Nodup
 |[],_,_=>List.nodup_nil
 |p::ls,nd,ok=>by
  obtain⟨n1,n2⟩:=List.nodup_cons.mp nd
  have ih:=ZR (x:=x) n2 fun q hq=>ok q (List.mem_cons_of_mem _ hq)
  have lt:=ok p (List.mem_cons_self ..)
  have e:nbs (p::ls) x=((if p.1=x then[p.2] else[])++if p.2=x then[p.1] else[])++nbs ls x:=by unfold nbs;rw[List.flatMap_cons]
  have no:∀ y,Adj ls x y→y∉((if p.1=x then[p.2] else[])++if p.2=x then[p.1] else[]):=by
   intro y hy hm
   have key:∀ q∈ls,q≠p:=fun q hq z=>n1 (z ▸ hq)
   rcases List.mem_append.mp hm with h | h
   ·by_cases c:p.1=x
    ·rw[if_pos c] at h
     have ey:y=p.2:=List.mem_singleton.mp h
     rcases hy with z | z
     ·exact key _ z (by rw[ey,← c])
     ·have:=ok _ (List.mem_cons_of_mem _ z)
      simp at this
      omega
    ·rw[if_neg c] at h;cases h
   ·by_cases c:p.2=x
    ·rw[if_pos c] at h
     have ey:y=p.1:=List.mem_singleton.mp h
     rcases hy with z | z
     ·have:=ok _ (List.mem_cons_of_mem _ z)
      simp at this
      omega
     ·exact key _ z (by rw[ey,← c])
    ·rw[if_neg c] at h;cases h
  rw[e,List.nodup_append]
  refine⟨?_,ih,fun a ha b hb z=>no b (mem_nbs.mp hb) (z ▸ ha)⟩
  by_cases c1:p.1=x
  ·have c2:¬ p.2=x:=by omega
   rw[if_pos c1,if_neg c2]
   simp
  ·rw[if_neg c1]
   by_cases c2:p.2=x
   ·rw[if_pos c2];simp
   ·rw[if_neg c2];simp
theorem VB {hs:LI}{ls:LP}{x:Int}(W:Hs hs) (L:Ls hs ls):(nbs ls x).length≤12:=by
 have nd:=ZR (x:=x) L.nd fun p hp=>(L.ok p hp).2.2
 have sub:∀ y∈nbs ls x,y∈hs:=fun y hy=>by
  rcases mem_nbs.mp hy with z | z
  ·exact(L.ok _ z).2.1
  ·exact(L.ok _ z).1
 have:=we nd sub
 have:=W.l12
 omega
theorem Xs:∀ {as bs:LI},as.Pairwise (· < ·)→bs.Pairwise (· < ·)→(∀ x,x∈as↔x∈bs)→as=bs
 |[],[],_,_,_=>rfl
 |[],b::bs,_,_,h=>by have:=(h b).mpr (List.mem_cons_self ..);cases this
 |a::as,[],_,_,h=>by have:=(h a).mp (List.mem_cons_self ..);cases this
 |a::as,b::bs,ha,hb,h=>by
  obtain⟨a1,a2⟩:=List.pairwise_cons.mp ha
  obtain⟨b1,b2⟩:=List.pairwise_cons.mp hb
  have e:a=b:=by
   rcases List.mem_cons.mp ((h a).mp (List.mem_cons_self ..)) with e | e
   ·exact e
   ·rcases List.mem_cons.mp ((h b).mpr (List.mem_cons_self ..)) with e' | e'
    ·exact e'.symm
    ·have:=b1 a e
     have:=a1 b e'
     omega
  subst e
  rw[Xs a2 b2 fun x=>⟨fun hx=>by
   rcases List.mem_cons.mp ((h x).mp (List.mem_cons_of_mem _ hx)) with e | e
   ·have:=a1 x hx;omega
   ·exact e,fun hx=>by
   rcases List.mem_cons.mp ((h x).mpr (List.mem_cons_of_mem _ hx)) with e | e
   ·have:=b1 x hx;omega
   ·exact e⟩]
noncomputable def adB (ls:LP) (x y:Int):Bool:=decide ((x,y)∈ls)||decide ((y,x)∈ls)
theorem Yn {ls:LP}{x y:Int}:decide (y∈nbs ls x)=adB ls x y:=by
 unfold adB
 rw[Bool.eq_iff_iff,Bool.or_eq_true,decide_eq_true_eq,decide_eq_true_eq,decide_eq_true_eq]
 exact mem_nbs
theorem YG {hs:LI}{ls:LP}{x:Int}{ms:LI}(W:Hs hs) (L:Ls hs ls) (pm:ms.Perm (nbs ls x)) (sd:ms.Pairwise (· ≤ ·)):ms=hs.filter (adB ls x):=by
 have nd:ms.Nodup:=pm.nodup_iff.mpr (ZR L.nd fun p hp=>(L.ok p hp).2.2)
 have up:ms.Pairwise (· < ·):=(sd.and (List.nodup_iff_pairwise_ne.mp nd)).imp fun h=>by
  have h1:=h.1
  have h2:=h.2
  omega
 refine Xs up (W.up.filter _) fun y=>?_
 rw[pm.mem_iff,List.mem_filter,← Yn,decide_eq_true_eq]
 refine⟨fun h=>⟨?_,h⟩,fun h=>h.2⟩
 rcases mem_nbs.mp h with z | z
 ·exact(L.ok _ z).2.1
 ·exact(L.ok _ z).1
def zcN (a:Ad):Sp:=fun vs H Q _=>∃ (p:Addr) (x:Int) (hs:LI) (ls:LP) (dx oh ol d:Addr) (ad:Int→Addr),vs=[.ref p,.int x]∧WebAt a H p hs ls dx oh ol d ad∧x∈hs∧Q (.bl true) H
theorem ZN (T:Txt w K mg a):FnOk P w K mg base CX0 2 a.f_qT a.d_qT ["self", "hand"] (zcN a):=by
 have c_qa:Callee P w K mg base "is_whole" a.f_qa a.d_qa ["value"] 1 wN:=⟨wV T,T.g_qa,T.F_qa.kp,T.b_qa⟩
 refine T.F_qT.ok zcZ (fun vs H Q E h=>?_) (fun cdv A outer s H vs Q E hr h=>?_)
 ·obtain⟨p,x,hs,ls,dx,oh,ol,d,ad,rfl,_⟩:=h
  rfl
 ·obtain⟨p,x,hs,ls,dx,oh,ol,d,ad,rfl,W,hx,k⟩:=h
  have hu:=xb hr
  refine zT (ze (zh (xw (zp c_qa hr.m (zd (zg 1) za)) (xh (Ys (wG hu (zg 1) (yx (zg 0) rfl))))))) ?_
  refine⟨_,rfl,x,rfl,_,rfl,xM ?_⟩
  exact⟨_,rfl,_,rfl,p,_,dx,_,_,rfl,W.p,T.cl_Web,T.na_Web_near,rfl,d,some (V.ref (ad x)),rfl,wK W.nr.d hx,k⟩
def YF (a:Ad):Sp:=fun vs H Q _=>∃ (p:Addr) (hs:LI) (ls:LP) (dx oh ol d:Addr) (ad:Int→Addr),vs=[.ref p]∧WebAt a H p hs ls dx oh ol d ad∧∀ q,H q=none→Q (.ref q) (upd H q (.lst (hs.map V.int)))
theorem vB (T:Txt w K mg a):FnOk P w K mg base CX0 1 a.f_qR a.d_qR ["self"] (YF a):=by
 refine T.F_qR.ok zc1 (fun vs H Q E h=>?_) (fun cdv A outer s H vs Q E hr h=>?_)
 ·obtain⟨p,hs,ls,dx,oh,ol,d,ad,rfl,_⟩:=h
  rfl
 ·obtain⟨p,hs,ls,dx,oh,ol,d,ad,rfl,W,k⟩:=h
  refine zT (ze (zh (zX yu (by rfl) T.n_list bt_list (zu (yx (zg 0) rfl) za)))) ?_
  exact⟨_,rfl,p,_,dx,_,_,rfl,W.p,T.cl_Web,T.na_Web_own_hands,rfl,oh,_,rfl,.inl (SqL.of W.oh),k⟩
theorem merge_app:∀ {kvs acc:List (Key×V)},((acc++kvs).map (·.1)).Nodup→mergeK acc kvs=acc++kvs
 |[],acc,_=>by simp[mergeK]
 |kv::kvs,acc,h=>by
  have hn:kv.1∉acc.map (·.1):=by
   rw[List.map_append,List.nodup_append] at h
   intro z
   exact h.2.2 _ z _ (by simp) rfl
  show mergeK (putK acc kv.1 kv.2) kvs=_
  rw[putK_new hn,merge_app (by simpa using h)]
  simp
theorem Y7 {kvs:List (Key×V)}(h:(kvs.map (·.1)).Nodup):mergeK [] kvs=kvs:=by
 have:=merge_app (kvs:=kvs) (acc:=[]) (by simpa using h)
 simpa using this
theorem za8 {us:LI}(h:us.Nodup):(us.map (Sum.inl:Int→Key)).Nodup:=by
 rw[List.nodup_iff_pairwise_ne,List.pairwise_map]
 exact(List.nodup_iff_pairwise_ne.mp h).imp fun {a b} n z=>n (by injection z)
theorem w4 {hs:LI}(W:Hs hs):hs.Nodup:=List.nodup_iff_pairwise_ne.mpr (W.up.imp fun {a b} h=>by omega)
theorem LnAt.snoc {H:Hp}{rs:List V}{ls:LP}{q:Addr}{p:Int×Int}(h:LnAt H rs ls) (hq:H q=some (.tup [.int p.1,.int p.2])):LnAt H (rs++[.ref q]) (ls++[p]):=by
 refine⟨by simp[h.1],fun i r p' h1 h2=>?_⟩
 have l:=h.1
 by_cases hi:i<rs.length
 ·rw[List.getElem?_append_left hi] at h1
  rw[List.getElem?_append_left (by omega)] at h2
  exact h.2 i r p' h1 h2
 ·rw[List.getElem?_append_right (by omega)] at h1
  rw[List.getElem?_append_right (by omega),← l] at h2
  obtain⟨n,hn⟩:∃ n,n=i-rs.length:=⟨_,rfl⟩
  rw[← hn] at h1 h2
  cases n with
  |zero=>cases h1;cases h2;exact⟨q,rfl,hq⟩
  |succ n=>simp at h1
theorem LnAt.updL {H:Hp}{rs zs:List V}{ls:LP}{p:Addr}{o:HO}(hp:H p=some (.lst zs)) (h:LnAt H rs ls):LnAt (L2.upd H p o) rs ls:=⟨h.1,fun n r pr e1 e2=>by
 obtain⟨q,e,t⟩:=h.2 n r pr e1 e2
 exact⟨q,e,by rw[upd_ne (VA t hp (by intro z;cases z))];exact t⟩⟩
theorem at_last {xs:List V}{v:V}:atI (xs++[v]) (-1)=some v:=by
 unfold atI ixN
 rw[if_neg (by decide),if_pos (by simp;omega)]
 simp
 have:((-1:Int)+((xs.length:Int)+1)).toNat=xs.length:=by omega
 rw[this]
 simp
def tabV (f:Int→V) (us:LI):List (Key×V):=us.map fun h=>(Sum.inl h,f h)
theorem xY {f:Int→V}{us:LI}:(tabV f us).map (·.1)=us.map Sum.inl:=by
 unfold tabV
 rw[List.map_map]
 rfl
theorem tabV_len {f:Int→V}{us:LI}:(tabV f us).length=us.length:=by
 unfold tabV
 rw[List.length_map]
theorem vS {f:Int→V}{x:Int}:∀ {us:LI},x∈us→yK (tabV f us) (Sum.inl x:Key)=some (f x)
 |u::us,h=>by
  unfold tabV yK
  rw[List.map_cons,List.find?_cons]
  by_cases e:u=x
  ·subst e;simp
  ·have:¬ ((Sum.inl u:Key)=Sum.inl x):=fun z=>e (by injection z)
   simp only[decide_eq_false this]
   have:=vS (f:=f) ((List.mem_cons.mp h).resolve_left fun z=>e z.symm)
   unfold tabV yK at this
   exact this
theorem Yz {f:Int→V}{us:LI}{x:Int}(h:x∉us):yK (tabV f us) (Sum.inl x:Key)=none:=by
 have z:=wJ (kvs:=tabV f us) (k:=(Sum.inl x:Key)) (by rw[xY,v6];exact h)
 cases hv:yK (tabV f us) (Sum.inl x:Key) with
 |none=>rfl
 |some v=>rw[hv] at z;cases z
theorem wL {H:Hp}{d:Addr}{f:Int→V}{us:LI}{x:Int}(e:H d=some (.dK (tabV f us))) (h:x∈us):DGet H d (V.int x) (some (f x)):=by
 have:=DGet.k (k:=.inl x) e
 rw[vS h] at this
 exact this
theorem Wb {H:Hp}{d:Addr}{f:Int→V}{us:LI}{x:Int}(e:H d=some (.dK (tabV f us))) (h:x∉us):DGet H d (V.int x) none:=by
 have:=DGet.k (k:=Sum.inl x) e
 rw[Yz h] at this
 exact this
theorem wy {f g:Int→V}{us:LI}(h:∀ x∈us,f x=g x):tabV f us=tabV g us:=List.map_congr_left fun x hx=>by rw[h x hx]
theorem YA {f:Int→V}{us:LI}{x:Int}{v:V}(h:x∉us):putK (tabV f us) (.inl x) v=tabV (fun y=>if y=x then v else f y) (us++[x]):=by
 rw[putK_new (by rw[xY,v6];exact h)]
 unfold tabV
 rw[List.map_append]
 congr 1
 ·exact List.map_congr_left fun y hy=>by
   show _=(Sum.inl y,if y=x then v else f y)
   rw[if_neg (fun(e:y=x)=>h (by rw[← e];exact hy))]
 ·simp
def XsAt (H:Hp) (l:Addr):Prop:=∃ ns:LI,H l=some (.lst (ns.map V.int))∧(∀ n∈ns,0≤n)∧ns.length≤400
theorem XsAt.ne {H:Hp}{l p:Addr}(s:XsAt H l) (h:H p=none):p≠l:=fun z=>by
 obtain⟨ns,e,_⟩:=s
 rw[← z,h] at e
 cases e
theorem XsAt.same {H H':Hp}{l:Addr}(s:XsAt H l) (k:Same H H'):XsAt H' l:=by
 obtain⟨ns,e,h⟩:=s
 exact⟨ns,k _ _ e,h⟩
theorem XsAt.new {H:Hp}{l p:Addr}{o:HO}(s:XsAt H l) (h:H p=none):XsAt (upd H p o) l:=s.same (Same.new h)
theorem XsAt.upd {H:Hp}{l p:Addr}{o:HO}(s:XsAt H l) (h:p≠l):XsAt (upd H p o) l:=by
 obtain⟨ns,e,h'⟩:=s
 exact⟨ns,by rw[upd_ne h.symm];exact e,h'⟩
def XG (K:PySem.W.Frag):Sp:=fun vs H Q _=>∃ (l:Addr) (ns:LI) (k:Int),vs=[.ref l,.int k]∧SqL K H l (ns.map V.int)∧0≤k∧∀ i:Int,Q (.int i) H
theorem Vy (T:Txt w K mg a):FnOk P w K mg base CX0 1 a.f_qx a.d_qx ["_law_script", "_law_k"] (XG K):=by
 refine T.F_qx.ok zcR (fun vs H Q E h=>?_) (fun cdv A outer s H vs Q E hr h=>?_)
 ·obtain⟨l,ns,k,rfl,_⟩:=h
  rfl
 ·obtain⟨l,ns,k,rfl,hl,k0,q⟩:=h
  refine zT (zb (zy (zn v0 (zg 1) (zl zw (by rfl) T.n_len yi (zd (zg 0) za)) (zB _))
    (ze (zh (zx zS (zg 0) (zg 1) (fun _ _=>rfl))))
    zo)
   (ze (zh zf))) ?_
  refine⟨_,rfl,_,rfl,l,_,rfl,.inl hl,_,_,rfl,rfl,_,rfl,?_⟩
  rw[List.length_map]
  refine ite2 (fun z=>?_) (fun z=>?_)
  ·have z:k<ns.length:=of_decide_eq_true z
   obtain⟨n,rfl⟩:∃ n:Nat,k=n:=⟨k.toNat,by omega⟩
   have hn:n<ns.length:=by omega
   refine⟨_,rfl,_,rfl,l,_,_,V.int ns[n],rfl,rfl,hl,yc (by simp[hn]),?_⟩
   exact q _
  ·exact q 0
def wz:Sp:=fun vs H Q _=>∃ (l:Addr) (n:Int),vs=[.ref l,.int n]∧XsAt H l∧0<n∧∀ (d:Int) (H':Hp),0≤d→d<n→XsAt H' l→Ext l H H'→Q (.int d) H'
theorem wb (T:Txt w K mg a):FnOk P w K mg base CX0 1 a.f_qz a.d_qz ["_law_xs", "_law_size"] wz:=by
 refine T.F_qz.ok zcQ (fun vs H Q E h=>?_) (fun cdv A outer s H vs Q E hr h=>?_)
 ·obtain⟨l,n,rfl,_⟩:=h
  rfl
 ·obtain⟨l,n,rfl,⟨ns,hl,h0,hlen⟩,hn,k⟩:=h
  have un:∀ n:Nat,n≤3→(A.deeper (PyProof.Rows.envOfC "_law_take" (defScope YC) s.heap.objs.size a.f_qz cdv)).units+n+2<cLine:=fun n hn=>by
   have:=hr.units
   omega
  refine zT (zb (zy (zn (ZL UR US) (zg 0) (zE za) (zB _))
    (ze (zh zf))
    zo)
   (ze (zh (zq xK (ym PySem.F.plainAttrs_list PySem.F.slot_list_pop PySem.F.type_list_pop uy (zg 0) (yg zf za)) (zg 1))))) ?_
  refine⟨_,rfl,(by show 0≤sizeLine;decide),fun q hq=>?_⟩
  have hql:q≠l:=fun z=>by rw[z,hl] at hq;cases hq
  have hl1:(L2.upd H q (.lst [])) l=_:=(upd_ne hql.symm).trans hl
  cases ns with
  |nil =>
   refine .inl ⟨l,q,_,_,fun _=>true,0,rfl,rfl,.inl ⟨SqL.of hl1,SqL.of upd_same⟩,rfl,?_,?_,?_⟩
   ·exact un 0 (by decide)
   ·intro j x y hx
    cases hx
   ·refine⟨_,rfl,iteB rfl ?_⟩
    exact k 0 _ (Int.le_refl _) hn ⟨[],hl1,h0,hlen⟩ (Ext.new hq)
  |cons n0 ns =>
   refine .inr ⟨l,q,_,_,rfl,rfl,SqL.of hl1,SqL.of upd_same,(by simp),?_,?_⟩
   ·exact Nat.lt_of_le_of_lt (Nat.le_add_right _ 2) (un 0 (by decide))
   ·refine⟨_,rfl,iteN rfl ?_⟩
    refine⟨_,rfl,.inl ⟨rfl,_,SqL.of hl1⟩,l,_,0,0,_,rfl,rfl,hl1,by decide,by decide,(by simp[seqIndex?]),rfl,?_⟩
    refine⟨_,rfl,_,_,rfl,rfl,hn,?_⟩
    refine k _ _ (Int.emod_nonneg _ (Int.ne_of_gt hn)) (Int.emod_lt_of_pos _ hn) ⟨ns,upd_same,fun x hx=>h0 x (List.mem_cons_of_mem _ hx),?_⟩ ((Ext.new hq).trans Ext.at)
    have:ns.length+1≤400:=hlen
    omega
def Zm:Sp:=fun vs H Q _=>∃ (c:Int) (m:Nat),vs=[.int c,.int (m:Int)]∧m≤400∧∀ (q:Addr) (H':Hp),H q=none→XsAt H' q→Same H H'→Q (.ref q) H'
theorem YY (T:Txt w K mg a):FnOk P w K mg base CX0 1 a.f_qy a.d_qy ["_law_cell", "_law_many"] Zm:=by
 refine T.F_qy.ok sc_qy (fun vs H Q E h=>?_) (fun cdv A outer s H vs Q E hr h=>?_)
 ·obtain⟨c,m,rfl,_⟩:=h
  rfl
 ·obtain⟨c,m,rfl,hm,k⟩:=h
  refine zT (zb (zj (i:=2) sc_qy.nd rfl (Or.inl rfl) (zE za))
   (zb (zj (i:=3) sc_qy.nd rfl (Or.inl rfl) zf)
   (vd (zy (zn zdf (zg 0) (zq uw zf zf) (zB _))
    (ze (zj (i:=3) sc_qy.nd rfl (Or.inl rfl) (zq wD (zg 0) (zq uw zf zf))))
    zo)
   (zb (xg PassesOwn.never (vc (yN (zn uT (zg 3) zf (zB _)) (yB (zn v0 (zl zw (by rfl) T.n_len yi (zd (zg 2) za)) (zg 1) (zB _)))))
    (zb (zP (ym PySem.F.plainAttrs_list PySem.F.slot_list_append PySem.F.type_list_append zL (zg 2) (xk (zq xK (zg 3) (zq uw zf zf)) za)))
    (ze (zj (i:=3) sc_qy.nd rfl (Or.inl rfl) (zq xO (zg 3) (zq uw zf zf))))))
   (zb (zj (i:=4) sc_qy.nd rfl (Or.inl rfl) (zq xK (zq vz (zq yZ (zq xK (zg 0) zf) zf) zf) zf))
   (zb (zG PassesOwn.never rfl (yD rfl T.n_range (xk (zq wD (zg 1) (zl zw (by rfl) T.n_len yi (zd (zg 2) za))) za)) (zi (i:=5) sc_qy.nd rfl (Or.inl rfl))
    (zb (zj (i:=4) sc_qy.nd rfl (Or.inl rfl) (zq xK (zq vz (zq yZ (zq yZ (zg 4) (zq vz zf (zg 5))) zf) zf) zf))
    (zb (zj (i:=6) sc_qy.nd rfl (Or.inl rfl) (zq xK (zq vz (zg 4) (zq yZ (zq xO (zg 4) zf) zf)) zf))
    (ze (zP (ym PySem.F.plainAttrs_list PySem.F.slot_list_append PySem.F.type_list_append zL (zg 2) (xk (zq xK (zq vz (zg 6) (zq yZ (zq xO (zg 6) zf) zf)) zf) za)))))))
   (ze (zh (zg 2))))))))) ?_
  refine⟨(by show 0≤sizeLine;decide),fun p hp=>?_⟩
  refine⟨fun σ' H'=>∃ rest:Int,σ'=[some (.int c),some (.int m),some (.ref p),some (.int rest),none,none,none]∧H'=L2.upd H p (.lst []),?_,?_⟩
  ·refine⟨_,rfl,_,_,rfl,rfl,⟨by decide,by decide,by decide⟩,_,_,rfl,rfl,_,rfl,?_⟩
   refine ite2 (fun _=>?_) (fun _=>?_)
   ·exact⟨_,rfl,_,_,rfl,rfl,⟨by decide,by decide,by decide⟩,_,_,rfl,rfl,_,rfl,rfl⟩
   ·exact⟨_,rfl,rfl⟩
  ·rintro σ' H' ⟨rest,rfl,rfl⟩
   refine⟨fun μ σ H'=>∃ (ns:LI) (rest:Int),μ=m-ns.length∧σ=[some (.int c),some (.int m),some (.ref p),some (.int rest),none,none,none]∧H' p=some (.lst (ns.map V.int))∧Same H H'∧(∀ n∈ns,0≤n)∧ns.length≤m,⟨_,[],rest,rfl,rfl,upd_same,Same.new hp,(fun n hn=>nomatch hn),Nat.zero_le _⟩,?_⟩
   rintro μ σ H1 ⟨ns,rest,rfl,rfl,hp1,s1,h0,hlen⟩
   refine⟨_,rfl,_,_,rfl,rfl,_,rfl,?_⟩
   refine(fun hB=>ite2 (fun _=>⟨_,rfl,p,_,rfl,.inl (SqL.of hp1),_,rfl,_,_,rfl,rfl,_,rfl,ite2 (fun z=>?gC) (fun _=>hB)⟩) (fun _=>hB)) ?gB
   case gC =>
    have z:(ns.length:Int)<m:=by
     have z:=of_decide_eq_true z
     rw[List.length_map] at z
     exact z
    refine⟨_,fun σ' H' h=>h,?_⟩
    refine⟨_,rfl,.inl ⟨rfl,_,SqL.of hp1⟩,_,rfl,_,_,rfl,rfl,⟨by decide,by decide,by decide⟩,_,_,rfl,rfl,(by show(0:Int)<10 ^ Int.toNat 6;decide),p,_,_,rfl,rfl,hp1,(by rw[List.length_map];exact zk (by omega)),?_⟩
    refine⟨_,rfl,_,_,rfl,rfl,⟨by decide,by decide,by decide⟩,_,_,rfl,rfl,⟨(by show(0:Int)<10 ^ Int.toNat 6;decide),(by show(10 ^ Int.toNat 6:Int).natAbs.log2<9000;decide)⟩,?_⟩
    refine⟨m-(ns.length+1),by omega,ns++[rest%10 ^ Int.toNat 6],_,by simp,rfl,?_,Same.updF s1 hp,?_,by simp;omega⟩
    ·rw[upd_same,List.map_append]
     rfl
    ·intro n hn
     rcases List.mem_append.mp hn with h | h
     ·exact h0 n h
     ·rw[List.mem_singleton.mp h]
      exact Int.emod_nonneg _ (by decide)
   case gB =>
    refine⟨_,rfl,_,_,rfl,rfl,(by show(0:Int)<2147483647;decide),_,_,rfl,rfl,_,_,rfl,rfl,.inr ⟨by decide,by decide⟩,_,_,rfl,rfl,(by show(0:Int)<2147483647;decide),?_⟩
    refine⟨_,rfl,_,rfl,p,_,rfl,.inl (SqL.of hp1),_,_,rfl,rfl,?_⟩
    rw[List.length_map]
    refine⟨(m:Int)-ns.length,rfl,by omega,by omega,?_⟩
    generalize ((c%2147483647+1)*48271%2147483647)=x0
    refine for_range (lo:=0) (fun i σ H'=>∃ (ns':LI) (x:Int) (o5 o6:Option V),σ=[some (.int c),some (.int m),some (.ref p),some (.int rest),some (.int x),o5,o6]∧H' p=some (.lst (ns'.map V.int))∧Same H H'∧(∀ n∈ns',0≤n)∧ns'.length=ns.length+i) ?_ ?_ ?_
    ·exact⟨ns,_,none,none,rfl,hp1,s1,h0,rfl⟩
    ·rintro i σ H2 hi ⟨ns',x,o5,o6,rfl,hp2,s2,h2,hl2⟩
     refine⟨_,rfl,_,rfl,_,_,rfl,rfl,.inl ⟨by decide,by decide⟩,_,_,rfl,rfl,_,_,rfl,rfl,_,_,rfl,rfl,.inr ⟨by decide,by decide⟩,_,_,rfl,rfl,(by show(0:Int)<2147483647;decide),?_⟩
     generalize hv:(x+7919*(0+(i:Int))+1)*48271%2147483647=v
     have v1:0≤v:=by rw[← hv];exact Int.emod_nonneg _ (by decide)
     have v2:v<2147483647:=by rw[← hv];exact Int.emod_lt_of_pos _ (by decide)
     refine⟨_,rfl,_,rfl,_,_,rfl,rfl,⟨by show(0:Int)<1009;decide,Xc⟩,_,_,rfl,rfl,_,_,rfl,rfl,.inl ⟨by omega,by omega⟩,_,_,rfl,rfl,(by show(0:Int)<2147483647;decide),?_⟩
     generalize hu:v*(v/1009+65537)%2147483647=u
     have u1:0≤u:=by rw[← hu];exact Int.emod_nonneg _ (by decide)
     have u2:u<2147483647:=by rw[← hu];exact Int.emod_lt_of_pos _ (by decide)
     refine⟨_,rfl,.inl ⟨rfl,_,SqL.of hp2⟩,_,rfl,_,rfl,_,_,rfl,rfl,⟨by show(0:Int)<2003;decide,Xb⟩,_,_,rfl,rfl,_,_,rfl,rfl,.inl ⟨by omega,by omega⟩,_,_,rfl,rfl,(by show(0:Int)<2147483399;decide),p,_,_,rfl,rfl,hp2,(by rw[List.length_map];exact zk (by omega)),?_⟩
     refine⟨ns'++[u*(u/2003+40697)%2147483399],v,some (.int (0+(i:Int))),some (.int u),(by rw[← hu,← hv];rfl),?_,Same.updF s2 hp,?_,by simp;omega⟩
     ·rw[upd_same,List.map_append,← hu,← hv]
      rfl
     ·intro n hn
      rcases List.mem_append.mp hn with h | h
      ·exact h2 n h
      ·rw[List.mem_singleton.mp h]
       exact Int.emod_nonneg _ (by decide)
    ·rintro σ H2 ⟨ns',x,o5,o6,rfl,hp2,s2,h2,hl2⟩
     exact⟨_,rfl,k p H2 hp ⟨ns',hp2,h2,by omega⟩ s2⟩
def ot1 (ls:LP) (x:Int):LI:=(ls.filter fun p=>decide (p.1=x)).map (·.2)
def ot2 (ls:LP) (x:Int):LI:=(ls.filter fun p=>decide (p.2=x)).map (·.1)
theorem YV {ls:LP}{p:Int×Int}{x:Int}:ot1 (ls++[p]) x=ot1 ls x++if p.1=x then[p.2] else[]:=by
 unfold ot1
 rw[List.filter_append,List.map_append]
 by_cases c:p.1=x<;>simp[c]
theorem YU {ls:LP}{p:Int×Int}{x:Int}:ot2 (ls++[p]) x=ot2 ls x++if p.2=x then[p.1] else[]:=by
 unfold ot2
 rw[List.filter_append,List.map_append]
 by_cases c:p.2=x<;>simp[c]
theorem ZI {x:Int}:∀ {ls:LP},(ot1 ls x++ot2 ls x).Perm (nbs ls x)
 |[]=>List.Perm.refl _
 |p::ls=>by
  have e:nbs (p::ls) x=((if p.1=x then[p.2] else[])++if p.2=x then[p.1] else[])++nbs ls x:=by unfold nbs;rw[List.flatMap_cons]
  have e1:ot1 (p::ls) x=(if p.1=x then[p.2] else[])++ot1 ls x:=by unfold ot1;by_cases c:p.1=x<;>simp[c]
  have e2:ot2 (p::ls) x=(if p.2=x then[p.1] else[])++ot2 ls x:=by unfold ot2;by_cases c:p.2=x<;>simp[c]
  rw[e,e1,e2]
  refine List.Perm.trans ?_ (List.Perm.append_left _ (ZI (ls:=ls)))
  rw[List.append_assoc,List.append_assoc]
  refine List.Perm.append_left _ ?_
  rw[← List.append_assoc,← List.append_assoc]
  exact List.Perm.append_right _ List.perm_append_comm
theorem XR {ls:LP}{x:Int}:(ot1 ls x).length≤ls.length∧(ot2 ls x).length≤ls.length:=by
 unfold ot1 ot2
 rw[List.length_map,List.length_map]
 exact⟨List.length_filter_le _ _,List.length_filter_le _ _⟩
def zcK:Sp:=fun vs H Q _=>∃ (q:Addr) (x:Int) (rs:List V) (hs:LI) (ls:LP),vs=[.ref q,.int x]∧H q=some (.lst rs)∧LnAt H rs ls∧Hs hs∧Ls hs ls ∧
 ∀ (p:Addr) (H':Hp),H p=none→Same H H'→H' p=some (.lst ((hs.filter (adB ls x)).map V.int))→Q (.ref p) H'
theorem U1 (T:Txt w K mg a):FnOk P w K mg base CX0 1 a.f_qD a.d_qD ["_law_lines_here", "_law_hand"] zcK:=by
 refine T.F_qD.ok sc_qD (fun vs H Q E h=>?_) (fun cdv A outer s H vs Q E hr h=>?_)
 ·obtain⟨q,x,rs,hs,ls,rfl,_⟩:=h
  rfl
 ·obtain⟨q,x,rs,hs,ls,rfl,hq,L,wh,wl,k⟩:=h
  have hu:=xb hr
  have l66:=wl.le
  refine zT (zb (xI (i:=2) rfl sc_qD.nd rfl (Or.inl rfl) (N':=["_law_one", "_law_other", "_law_hand"]) (t:=2) (caps:=[1]) ⟨rfl,rfl,rfl⟩ (zC (zg 0)) (fun _=>(zU rfl (zm (zi (i:=0) (show(["_law_one", "_law_other", "_law_hand"]:List Str).Nodup by decide +kernel) rfl (Or.inl rfl)) (zm (zi (i:=1) (show(["_law_one", "_law_other", "_law_hand"]:List Str).Nodup by decide +kernel) rfl (Or.inl rfl)) zH)))) (fun _=>(xS (zn xt (zg 0) (zg 2) (zB _)))) (fun _=>(zg 1)))
   (ze (zh (zl xH (by rfl) T.n_sorted yM (xk (zq yT (zg 2) (yr rfl (N':=["_law_one", "_law_other", "_law_hand"]) (t:=2) (caps:=[1]) ⟨rfl,rfl,rfl⟩ (zC (zg 0)) (fun _=>(zU rfl (zm (zi (i:=0) (show(["_law_one", "_law_other", "_law_hand"]:List Str).Nodup by decide +kernel) rfl (Or.inl rfl)) (zm (zi (i:=1) (show(["_law_one", "_law_other", "_law_hand"]:List Str).Nodup by decide +kernel) rfl (Or.inl rfl)) zH)))) (fun _=>(xS (zn xt (zg 1) (zg 2) (zB _)))) (fun _=>(zg 0)))) za))))) ?_
  refine⟨_,rfl,q,rfl,⟨_,SqL.of hq⟩,fun D hD _=>?_⟩
  refine yF (K:=K) (a:=q) (xs:=rs) (fun j zs τ H'=>∃ o1 o2,τ=[o1,o2,some (.int x)]∧zs=(ot1 (ls.take j) x).map V.int∧H' D=some (.lst zs)∧Same H H') ?_ ?_ ?_ ?_
  ·exact⟨none,none,rfl,rfl,upd_same,Same.new hD⟩
  ·rintro j zs τ H' ⟨o1,o2,_,_,_,sm⟩
   exact SqL.of (sm _ _ hq)
  ·rintro j v zs τ H' hj ⟨o1,o2,rfl,rfl,hD',sm⟩
   obtain⟨pr,r,hpr,rfl,hr'⟩:=L.get hj
   refine⟨r,_,rfl,SqT.of (sm _ _ hr'),rfl,_,_,rfl,_,_,rfl,rfl,?_⟩
   refine⟨_,rfl,_,rfl,rfl,_,rfl,?_⟩
   have st:ot1 (ls.take (j+1)) x=ot1 (ls.take j) x++if pr.1=x then[pr.2] else[]:=by
    rw[List.take_add_one,hpr]
    exact YV
   refine ite2 (fun z=>?_) (fun z=>?_)
   ·have z:pr.1=x:=by
     have:=of_decide_eq_true z
     injection this
    refine⟨_,rfl,hD',?_,_,_,rfl,?_,upd_same,Same.updF sm hD⟩
    ·rw[List.length_map]
     have:=(XR (ls:=ls.take j) (x:=x)).1
     rw[List.length_take] at this
     exact zk (by omega)
    ·rw[st,if_pos z,List.map_append]
     rfl
   ·have z:¬ pr.1=x:=fun e=>z (by rw[e];exact decide_eq_true rfl)
    refine⟨_,_,rfl,?_,hD',sm⟩
    rw[st,if_neg z,List.append_nil]
  ·rintro zs τ H1 ⟨o1,o2,rfl,rfl,hD1,sm⟩
   rw[L.1,List.take_length] at hD1
   refine⟨_,rfl,_,rfl,q,rfl,⟨_,SqL.of (sm _ _ hq)⟩,fun D2 hD2 _=>?_⟩
   refine yF (K:=K) (a:=q) (xs:=rs) (fun j zs τ H'=>∃ o1 o2,τ=[o1,o2,some (.int x)]∧zs=(ot2 (ls.take j) x).map V.int∧H' D2=some (.lst zs)∧Same H1 H') ?_ ?_ ?_ ?_
   ·exact⟨none,none,rfl,rfl,upd_same,Same.new hD2⟩
   ·rintro j zs τ H' ⟨o1,o2,_,_,_,sm2⟩
    exact SqL.of (sm2 _ _ (sm _ _ hq))
   ·rintro j v zs τ H' hj ⟨o1,o2,rfl,rfl,hD',sm2⟩
    obtain⟨pr,r,hpr,rfl,hr'⟩:=L.get hj
    refine⟨r,_,rfl,SqT.of (sm2 _ _ (sm _ _ hr')),rfl,_,_,rfl,_,_,rfl,rfl,?_⟩
    refine⟨_,rfl,_,rfl,rfl,_,rfl,?_⟩
    have st:ot2 (ls.take (j+1)) x=ot2 (ls.take j) x++if pr.2=x then[pr.1] else[]:=by
     rw[List.take_add_one,hpr]
     exact YU
    refine ite2 (fun z=>?_) (fun z=>?_)
    ·have z:pr.2=x:=by
      have:=of_decide_eq_true z
      injection this
     refine⟨_,rfl,hD',?_,_,_,rfl,?_,upd_same,Same.updF sm2 hD2⟩
     ·rw[List.length_map]
      have:=(XR (ls:=ls.take j) (x:=x)).2
      rw[List.length_take] at this
      exact zk (by omega)
     ·rw[st,if_pos z,List.map_append]
      rfl
    ·have z:¬ pr.2=x:=fun e=>z (by rw[e];exact decide_eq_true rfl)
     refine⟨_,_,rfl,?_,hD',sm2⟩
     rw[st,if_neg z,List.append_nil]
   ·rintro zs τ H2 ⟨o1',o2',rfl,rfl,hD3,sm2⟩
    rw[L.1,List.take_length] at hD3
    have pmx:=ZI (x:=x) (ls:=ls)
    have few:=VB (x:=x) wh wl
    have flen:=pmx.length_eq
    rw[List.length_append] at flen
    refine⟨D,D2,_,_,rfl,rfl,sm2 _ _ hD1,hD3,(by rw[List.length_map,List.length_map];exact Nat.le_of_lt (zk (by omega))),fun p hp=>?_⟩
    have hp':L2.upd H2 p (HO.lst (List.map V.int (ot1 ls x)++List.map V.int (ot2 ls x))) p=some (.lst ((ot1 ls x++ot2 ls x).map V.int)):=by rw[upd_same,List.map_append]
    have y3:=Same.new (o:=HO.lst (List.map V.int (ot1 ls x)++List.map V.int (ot2 ls x))) hp
    have y123:=(sm.trans sm2).trans y3
    exact⟨p,_,rfl,SqL.of hp',by rw[List.length_append];omega,fun q' ms hq' pm sd=>by
     rw[YG wh wl (pm.trans pmx) sd]
     exact k q' _ (y123.free hq') (y123.trans (Same.new hq')) upd_same⟩
def zjo:Sp:=fun vs H Q _=>∃ (l:Addr) (mo:Int),vs=[.ref l,.int mo]∧0<mo∧mo≤12∧XsAt H l ∧
 ∀ (h:Addr) (hs:LI) (H':Hp),H h=none→H' h=some (.lst (hs.map V.int))→Hs hs→(hs.length:Int)≤mo→XsAt H' l→Ext l H H'→Q (.ref h) H'
theorem zdp (T:Txt w K mg a):FnOk P w K mg base CX0 2 a.f_qA a.d_qA ["_law_xs", "_law_most"] zjo:=by
 have c_qz:Callee P w K mg base "_law_take" a.f_qz a.d_qz ["_law_xs", "_law_size"] 1 wz:=⟨wb T,T.g_qz,T.F_qz.kp,T.b_qz⟩
 refine T.F_qA.ok sc_qA (fun vs H Q E h=>?_) (fun cdv A outer s H vs Q E hr h=>?_)
 ·obtain⟨l,mo,rfl,_⟩:=h
  rfl
 ·obtain⟨l,mo,rfl,mo0,mo12,hs,k⟩:=h
  refine zT (zb (zj (i:=2) sc_qA.nd rfl (Or.inl rfl) (zp c_qz hr.m (zd (zg 0) (yg zf za))))
   (zb (zj (i:=3) sc_qA.nd rfl (Or.inr rfl) (zE (zd (zg 2) za)))
   (zb (zG PassesOwn.never rfl (yD rfl T.n_range (zN (zp c_qz hr.m (zd (zg 0) (zd (zg 1) za))) za)) (zi (i:=4) sc_qA.nd rfl (Or.inl rfl))
    (zb (zj (i:=2) sc_qA.nd rfl (Or.inl rfl) (zq yZ (zq yZ (zg 2) zf) (zp c_qz hr.m (zd (zg 0) (yg zf za)))))
    (ze (zP (ym PySem.F.plainAttrs_list PySem.F.slot_list_append PySem.F.type_list_append zL (zg 3) (zd (zg 2) za))))))
   (vd (zy (zn xt (zp c_qz hr.m (zd (zg 0) (yg zf za))) zf (zB _))
    (ze (zj (i:=3) sc_qA.nd rfl (Or.inr rfl) (yr rfl (N':=["_law_one", "_law_found"]) (t:=1) (caps:=[3]) ⟨rfl,rfl,rfl⟩ (zC (zg 3)) (fun _=>(zi (i:=0) (show(["_law_one", "_law_found"]:List Str).Nodup by decide +kernel) rfl (Or.inl rfl))) (fun _=>yC) (fun _=>(zq wD (zq yZ (zg 0) zf) (zx zS (zg 1) (yp yJ zf) (fun _ _=>rfl)))))))
    zo)
   (ze (zh (zg 3))))))) ?_
  refine⟨_,rfl,l,5,rfl,hs,by decide,fun d0 H1 g1 g2 s1 x1=>?_⟩
  refine⟨_,rfl,(by show 1≤sizeLine;decide),fun p hp=>?_⟩
  have npl:=s1.ne hp
  refine⟨_,rfl,_,rfl,l,mo,rfl,s1.new hp,mo0,fun m H2 g3 g4 s2 x2=>?_⟩
  refine⟨m,rfl,by omega,by omega,?_⟩
  have hp2:H2 p=some (.lst [V.int d0]):=x2 _ _ upd_same npl
  have X2:Ext l H1 H2:=(Ext.new hp).trans x2
  refine for_range (lo:=0) (fun i σ H'=>∃ (ns:LI) (x:Int) (o4:Option V),σ=[some (.ref l),some (.int mo),some (.int x),some (.ref p),o4]∧H' p=some (.lst ((ns++[x]).map V.int))∧ns.length=i∧(ns++[x]).Pairwise (· < ·)∧(∀ y∈ns++[x],0≤y)∧(∀ y∈ns++[x],y≤4+8*(i:Int))∧XsAt H' l∧Ext l H1 H') ?_ ?_ ?_
  ·refine⟨[],d0,none,rfl,hp2,rfl,by simp,?_,?_,s2,X2⟩
   ·intro y hy
    rw[List.mem_singleton.mp hy];exact g1
   ·intro y hy
    rw[List.mem_singleton.mp hy];omega
  ·rintro i σ H3 hi ⟨ns,x,o4,rfl,hp3,hln,up,lo,hi',s3,x3⟩
   refine⟨_,rfl,_,_,rfl,rfl,_,rfl,l,8,rfl,s3,by decide,fun d H4 a1 a2 s4 x4=>?_⟩
   have hp4:=x4 _ _ hp3 npl
   refine⟨_,_,rfl,rfl,_,rfl,.inl ⟨rfl,_,SqL.of hp4⟩,_,rfl,p,_,_,rfl,rfl,hp4,(by rw[List.length_map,List.length_append];exact zk (by simp;omega)),?_⟩
   refine⟨ns++[x],x+1+d,_,rfl,?_,by simp[hln],?_,?_,?_,s4.upd npl,?_⟩
   ·rw[upd_same,List.map_append (l₂:=[x+1+d])]
    rfl
   ·rw[List.pairwise_append]
    refine⟨up,by simp,fun y hy z hz=>?_⟩
    rw[List.mem_singleton.mp hz]
    rcases List.mem_append.mp hy with h | h
    ·have:=(List.pairwise_append.mp up).2.2 y h x (by simp)
     omega
    ·rw[List.mem_singleton.mp h];omega
   ·intro y hy
    rcases List.mem_append.mp hy with h | h
    ·exact lo y h
    ·rw[List.mem_singleton.mp h]
     have:=lo x (by simp)
     omega
   ·intro y hy
    rcases List.mem_append.mp hy with h | h
    ·have:=hi' y h
     omega
    ·rw[List.mem_singleton.mp h]
     have:=hi' x (by simp)
     omega
   ·intro b o e nb
    rw[upd_ne (ne_of_none e hp)]
    exact(x3.trans x4) b o e nb
  ·rintro σ H3 ⟨ns,x,o4,rfl,hp3,hln,up,lo,hi',s3,x3⟩
   have hp0:H p=none:=by
    cases e:H p with
    |none=>rfl
    |some o=>have:=x1 _ _ e npl;rw[hp] at this;cases this
   have X3:=x1.trans x3
   refine⟨fun σ' H'=>∃ (h:Addr) (hs':LI),σ'=[some (.ref l),some (.int mo),some (.int x),some (.ref h),o4]∧H h=none∧H' h=some (.lst (hs'.map V.int))∧Hs hs'∧(hs'.length:Int)≤mo∧XsAt H' l∧Ext l H H',?_,?_⟩
   ·refine⟨_,rfl,l,4,rfl,s3,by decide,fun d H4 a1 a2 s4 x4=>⟨rfl,_,rfl,?_⟩⟩
    have hp4:=x4 _ _ hp3 npl
    have X4:=X3.trans x4
    have hl:(ns++[x]).length=m.toNat+1:=by rw[List.length_append,hln];rfl
    refine ite2 (fun _=>?_) (fun _=>?_)
    ·refine⟨_,rfl,p,rfl,⟨_,SqL.of hp4⟩,fun D hD _=>?_⟩
     have nDl:=s4.ne hD
     have hD0:H D=none:=by
      cases e:H D with
      |none=>rfl
      |some o=>have:=X4 _ _ e nDl;rw[hD] at this;cases this
     refine yF (K:=K) (a:=p) (xs:=(ns++[x]).map V.int) (fun j zs τ H'=>∃ o,τ=[o,some (.ref p)]∧zs=(((ns++[x]).take j).map fun y=>y+99-x).map V.int∧H' D=some (.lst zs)∧Same H4 H') ?_ ?_ ?_ ?_
     ·exact⟨none,rfl,by simp,upd_same,Same.new hD⟩
     ·rintro j zs τ H' ⟨o,_,_,_,sm⟩
      exact SqL.of (sm _ _ hp4)
     ·rintro j v zs τ H' hj ⟨o,rfl,rfl,hD',sm⟩
      rw[List.getElem?_map] at hj
      obtain⟨y,hy,rfl⟩:=Option.map_eq_some_iff.mp hj
      have hjl:=(List.getElem?_eq_some_iff.mp hy).1
      refine Z9 ?_
      refine⟨_,rfl,_,_,rfl,rfl,_,rfl,_,rfl,p,_,_,V.int x,rfl,rfl,SqL.of (sm _ _ hp4),(by rw[List.map_append];exact at_last),_,_,rfl,rfl,hD',by simp;exact zk (by omega),some (.int y),rfl,?_,upd_same,Same.updF sm hD⟩
      rw[List.take_add_one,hy]
      simp
     ·rintro zs τ H5 ⟨o,rfl,rfl,hD5,sm⟩
      rw[List.length_map,List.take_length] at hD5
      refine⟨D,_,rfl,hD0,hD5,⟨?_,?_,?_,?_,?_⟩,by rw[List.length_map,hl];omega,s4.same sm,X4.trans (Ext.same sm)⟩
      ·rw[List.length_map,hl];omega
      ·rw[List.length_map,hl];omega
      ·rw[List.pairwise_map]
       exact up.imp fun h=>by omega
      ·intro y hy
       obtain⟨z,hz,rfl⟩:=List.mem_map.mp hy
       have h1:=lo z hz
       have h2:=hi' x (by simp)
       omega
      ·intro y hy
       obtain⟨z,hz,rfl⟩:=List.mem_map.mp hy
       rcases List.mem_append.mp hz with h | h
       ·have:=(List.pairwise_append.mp up).2.2 z h x (by simp)
        omega
       ·rw[List.mem_singleton.mp h];omega
    ·refine⟨p,_,rfl,hp0,hp4,⟨?_,?_,up,lo,fun y hy=>?_⟩,by rw[hl];omega,s4,X4⟩
     ·rw[hl];omega
     ·rw[hl];omega
     ·have:=hi' y hy
      omega
   ·rintro σ' H4 ⟨h,hs',rfl,hh0,hh,wh,hmo,s4,x4⟩
    exact⟨_,rfl,k h hs' H4 hh0 hh wh hmo s4 x4⟩
noncomputable def tri:Nat→Nat
 |0=>0
 |n+1=>tri n+n
theorem Wa:∀ n,n≤12→tri n≤66:=by decide
theorem Ub {n j:Nat}(h:j<n):tri j+j≤tri n:=by
 induction n with
 |zero=>omega
 |succ n ih =>
  show tri j+j≤tri n+n
  by_cases c:j=n
  ·subst c;exact Nat.le_refl _
  ·have:=ih (by omega)
   omega
theorem zdb {b1 b2 b3 b4 b5 b6:Bool}{d:Int}(h0:0≤d) (h1:d<6):∃ z,atI [V.bl b1,V.bl b2,V.bl b3,V.bl b4,V.bl b5,V.bl b6] d=some (.bl z):=by
 rcases(by omega:d=0∨d=1∨d=2∨d=3∨d=4∨d=5) with rfl | rfl | rfl | rfl | rfl | rfl
 all_goals exact⟨_,rfl⟩
theorem LnAt.cut {H:Hp}{rs:List V}{ls:LP}{n:Nat}(h:LnAt H rs ls):LnAt H (rs.drop n++rs.take n) (ls.drop n++ls.take n):=by
 refine⟨by simp[h.1],fun i r p e1 e2=>?_⟩
 by_cases c:i<(ls.drop n).length
 ·rw[List.getElem?_append_left (by simp[h.1];simpa using c)] at e1
  rw[List.getElem?_append_left c] at e2
  rw[List.getElem?_drop] at e1 e2
  exact h.2 _ r p e1 e2
 ·rw[List.getElem?_append_right (by simp[h.1];simpa using c)] at e1
  rw[List.getElem?_append_right (by omega)] at e2
  have e:(rs.drop n).length=(ls.drop n).length:=by simp[h.1]
  rw[e,List.getElem?_take] at e1
  rw[List.getElem?_take] at e2
  split at e1
  ·rw[if_pos ‹_›] at e2
   exact h.2 _ r p e1 e2
  ·cases e1
theorem Xo {rs:List V}{n:Nat}(h:n≤rs.length):yV rs (some (n:Int)) none=rs.drop n:=by
 have h1:HT.sIx rs.length 0 (some (n:Int))=n:=by
  unfold HT.sIx
  show(if (n:Int)<0 then _ else _)=n
  rw[if_neg (by omega)]
  simp
  omega
 have h2:HT.sIx rs.length rs.length none=rs.length:=rfl
 unfold yV
 rw[h1,h2]
 exact List.take_of_length_le (by rw[List.length_drop];omega)
theorem Xm {rs:List V}{n:Nat}(h:n≤rs.length):yV rs none (some (n:Int))=rs.take n:=by
 have h1:HT.sIx rs.length rs.length (some (n:Int))=n:=by
  unfold HT.sIx
  show(if (n:Int)<0 then _ else _)=n
  rw[if_neg (by omega)]
  simp
  omega
 have h2:HT.sIx rs.length 0 none=0:=rfl
 unfold yV
 rw[h1,h2]
 simp
theorem zaZ {hs:LI}(nd:hs.Nodup){i j:Nat}{x:Int}(h1:hs[i]?=some x) (h2:hs[j]?=some x):i=j:=by
 obtain⟨a1,b1⟩:=List.getElem?_eq_some_iff.mp h1
 obtain⟨a2,b2⟩:=List.getElem?_eq_some_iff.mp h2
 exact(List.getElem?_inj a1 nd).mp (h1.trans h2.symm)
structure Lfd (hs:LI) (ls:LP) (j k:Nat):Prop where
 nd:ls.Nodup
 at_:∀ p∈ls,∃ k' j',hs[k']?=some p.1∧hs[j']?=some p.2∧k'<j'∧(j'<j∨(j'=j∧k'<k))
 le:ls.length≤tri j+k
theorem Lfd.skip {hs:LI}{ls:LP}{j k:Nat}(h:Lfd hs ls j k):Lfd hs ls j (k+1) :=
 ⟨h.nd,fun p hp=>by
  obtain⟨k',j',h1,h2,h3,h4⟩:=h.at_ p hp
  exact⟨k',j',h1,h2,h3,by omega⟩,by have:=h.le;omega⟩
theorem Lfd.row {hs:LI}{ls:LP}{j:Nat}(h:Lfd hs ls j j):Lfd hs ls (j+1) 0 :=
 ⟨h.nd,fun p hp=>by
  obtain⟨k',j',h1,h2,h3,h4⟩:=h.at_ p hp
  exact⟨k',j',h1,h2,h3,by omega⟩,h.le⟩
theorem Lfd.add {hs:LI}{ls:LP}{j k:Nat}{x y:Int}(W:Hs hs) (h:Lfd hs ls j k) (kj:k<j) (hx:hs[k]?=some x) (hy:hs[j]?=some y):Lfd hs (ls++[(x,y)]) j (k+1):=by
 have nd:=w4 W
 refine⟨?_,fun p hp=>?_,?_⟩
 ·rw[List.nodup_append]
  refine⟨h.nd,by simp,fun a ha b hb z=>?_⟩
  rw[List.mem_singleton.mp hb] at z
  obtain⟨k',j',h1,h2,h3,h4⟩:=h.at_ a ha
  rw[z] at h1 h2
  have:=zaZ nd h1 hx
  have:=zaZ nd h2 hy
  omega
 ·rcases List.mem_append.mp hp with h' | h'
  ·obtain⟨k',j',h1,h2,h3,h4⟩:=h.at_ p h'
   exact⟨k',j',h1,h2,h3,by omega⟩
  ·rw[List.mem_singleton.mp h']
   exact⟨k,j,hx,hy,kj,.inr ⟨rfl,by omega⟩⟩
 ·rw[List.length_append]
  have:=h.le
  simp
  omega
theorem Lfd.ls {hs:LI}{ls:LP}{n:Nat}(W:Hs hs) (h:Lfd hs ls hs.length 0):Ls hs (ls.drop n++ls.take n):=by
 have pm:(ls.drop n++ls.take n).Perm ls:=List.perm_append_comm.trans (by rw[List.take_append_drop])
 refine⟨pm.nodup_iff.mpr h.nd,fun p hp=>?_,?_⟩
 ·obtain⟨k',j',h1,h2,h3,_⟩:=h.at_ p (pm.mem_iff.mp hp)
  obtain⟨a1,b1⟩:=List.getElem?_eq_some_iff.mp h1
  obtain⟨a2,b2⟩:=List.getElem?_eq_some_iff.mp h2
  refine⟨b1 ▸ List.getElem_mem a1,b2 ▸ List.getElem_mem a2,?_⟩
  rw[← b1,← b2]
  exact List.pairwise_iff_getElem.mp W.up _ _ a1 a2 h3
 ·rw[pm.length_eq]
  have:=h.le
  have:=Wa hs.length W.l12
  omega
def zjn:Sp:=fun vs H Q _=>∃ (l h:Addr) (hs:LI),vs=[.ref l,.ref h]∧XsAt H l∧H h=some (.lst (hs.map V.int))∧h≠l∧Hs hs ∧
 ∀ (q:Addr) (rs:List V) (ls:LP) (H':Hp),H q=none→H' q=some (.lst rs)→LnAt H' rs ls→Ls hs ls→ls.length≤tri hs.length→XsAt H' l→Ext l H H'→Q (.ref q) H'
theorem XS {tA tB:TE}{σ:St}{H:Hp}{Q:VK}(k:(∀ b:Bool,Q (.bl b) H)→zbj tA tB σ H Q) (J:∀ b:Bool,Q (.bl b) H):zbj tA tB σ H Q:=k J
theorem zdo (T:Txt w K mg a):FnOk P w K mg base CX0 2 a.f_qB a.d_qB ["_law_xs", "_law_hands_here"] zjn:=by
 have c_qz:Callee P w K mg base "_law_take" a.f_qz a.d_qz ["_law_xs", "_law_size"] 1 wz:=⟨wb T,T.g_qz,T.F_qz.kp,T.b_qz⟩
 refine T.F_qB.ok sc_qB (fun vs H Q E h=>?_) (fun cdv A outer s H vs Q E hr h=>?_)
 ·obtain⟨l,h,hs,rfl,_⟩:=h
  rfl
 ·obtain⟨l,h,hs,rfl,sl,hh,nhl,wh,k⟩:=h
  have l12:=wh.l12
  refine zT (zb (zj (i:=2) sc_qB.nd rfl (Or.inl rfl) (zp c_qz hr.m (zd (zg 0) (yg zf za))))
   (zb (zj (i:=3) sc_qB.nd rfl (Or.inl rfl) (zE za))
   (zb (zG PassesOwn.never rfl (yD rfl T.n_range (zN (zl zw (by rfl) T.n_len yi (zd (zg 1) za)) za)) (zi (i:=4) sc_qB.nd rfl (Or.inl rfl))
    (ze (zG PassesOwn.never rfl (yD rfl T.n_range (zd (zg 4) za)) (zi (i:=5) sc_qB.nd rfl (Or.inl rfl))
     (zb (zj (i:=6) sc_qB.nd rfl (Or.inl rfl) (Zd (yf xt (zq wD (zg 4) (zg 5)) zf (zB _)) (xh (yf xt (zq wD (zg 4) (zg 5)) (zq wD (zl zw (by rfl) T.n_len yi (zd (zg 1) za)) zf) (zB _)))))
     (zb (zj (i:=7) sc_qB.nd rfl (Or.inl rfl) (zp c_qz hr.m (zd (zg 0) (yg zf za))))
     (ze (zy (zF (zx zS (zE (zd (zg 6) (zu (yf v0 (zg 7) zf (zB _)) (zu (yf v0 (zg 7) zf (zB _)) (zu (yf v0 (zg 7) zf (zB _)) (yg zD (zu (Zd (yf xt (zg 5) (zq xK (zg 7) (zg 4)) (zB _)) (xh (yf xt (zg 7) zf (zB _)))) za))))))) (zg 2) (fun _ _=>rfl)))
      (ze (zP (ym PySem.F.plainAttrs_list PySem.F.slot_list_append PySem.F.type_list_append zL (zg 3) (xV (zJ (zu (zx zS (zg 1) (zg 5) (fun _ _=>rfl)) (zu (zx zS (zg 1) (zg 4) (fun _ _=>rfl)) za))) za))))
      zo)))))))
   (zb (zj (i:=8) sc_qB.nd rfl (Or.inl rfl) (zp c_qz hr.m (zd (zg 0) (xk (zq yZ (zl zw (by rfl) T.n_len yi (zd (zg 3) za)) zf) za))))
   (ze (zh (zq yT (zO yw (zg 3) (zV (zg 8)) ya) (zO yw (zg 3) ya (zV (zg 8)))))))))) ?_
  refine⟨_,rfl,l,6,rfl,sl,by decide,fun way H1 g1 g2 s1 x1=>?_⟩
  refine⟨(by show 0≤sizeLine;decide),fun p hp=>?_⟩
  have npl:=s1.ne hp
  have hh1:=x1 _ _ hh nhl
  have nhp:h≠p:=fun z=>by rw[z,hp] at hh1;cases hh1
  refine⟨_,rfl,h,_,rfl,.inl (SqL.of ((Same.new hp) _ _ hh1)),_,rfl,?_⟩
  rw[List.length_map]
  refine⟨by omega,by omega,?_⟩
  rw[show((hs.length:Int)).toNat=hs.length by omega]
  have St:∀ {rs:List V}{ls:LP}{H':Hp},LnAt H' rs ls→True:=fun _=>trivial
  refine for_range (lo:=0) (fun j σ H'=>∃ (o4 o5 o6 o7:Option V) (rs:List V) (ls:LP),σ=[some (.ref l),some (.ref h),some (.int way),some (.ref p),o4,o5,o6,o7,none]∧H' p=some (.lst rs)∧LnAt H' rs ls∧Lfd hs ls j 0∧XsAt H' l∧Ext l H1 H') ?_ ?_ ?_
  ·exact⟨none,none,none,none,[],[],rfl,upd_same,⟨rfl,fun i r q e=>by cases e⟩,⟨List.nodup_nil,(fun q hq=>nomatch hq),Nat.zero_le _⟩,s1.new hp,Ext.new hp⟩
  ·rintro j σ H2 hj ⟨o4,o5,o6,o7,rs,ls,rfl,hp2,L,F,s2,x2⟩
   refine⟨_,rfl,0+(j:Int),rfl,by omega,by omega,?_⟩
   rw[show(0+(j:Int)).toNat=j by omega]
   refine for_range (lo:=0) (fun i σ H'=>∃ (o5 o6 o7:Option V) (rs:List V) (ls:LP),σ=[some (.ref l),some (.ref h),some (.int way),some (.ref p),some (.int (0+(j:Int))),o5,o6,o7,none]∧H' p=some (.lst rs)∧LnAt H' rs ls∧Lfd hs ls j i∧XsAt H' l∧Ext l H1 H') ?_ ?_ ?_
   ·exact⟨o5,o6,o7,rs,ls,rfl,hp2,L,F,s2,x2⟩
   ·rintro i σ H3 hi ⟨o5,o6,o7,rs,ls,rfl,hp3,L,F,s3,x3⟩
    have hj2:hs[j]?=some hs[j]:=by simp[hj]
    have hi2:hs[i]?=some (hs[i]'(by omega)):=by simp
    have hh3:=x3 _ _ hh1 nhl
    refine XS (fun hJ=>⟨_,rfl,_,rfl,_,_,rfl,rfl,rfl,_,rfl,ite2 (fun _=>hJ _) (fun _=>⟨_,rfl,_,rfl,_,_,rfl,rfl,_,rfl,h,_,rfl,.inl (SqL.of hh3),_,_,rfl,rfl,rfl,hJ _⟩)⟩) (fun bb=>?_)
    refine⟨_,rfl,l,6,rfl,s3,by decide,fun dr H4 a1 a2 s4 x4=>?_⟩
    refine⟨_,rfl,_,rfl,_,_,rfl,rfl,_,rfl,_,_,rfl,rfl,_,rfl,_,_,rfl,rfl,?_⟩
    refine XS (fun hJ=>⟨_,rfl,_,rfl,_,rfl,_,_,rfl,rfl,(by show(0:Int)<0+(j:Int);omega),rfl,_,rfl,ite2 (fun _=>hJ _) (fun _=>⟨_,rfl,rfl,hJ _⟩)⟩) (fun bb2=>?_)
    have hp4:=x4 _ _ hp3 npl
    have hh4:=x4 _ _ hh3 nhl
    have L4:LnAt H4 rs ls:=⟨L.1,fun n r pr e1 e2=>by
     obtain⟨q,e,t⟩:=L.2 n r pr e1 e2
     exact⟨q,e,x4 _ _ t fun z=>by
      obtain⟨ns,e3,_⟩:=s3
      rw[z,e3] at t
      cases t⟩⟩
    have X4:=x3.trans x4
    refine⟨by show 6≤sizeLine;decide,fun q6 hq6=>?_⟩
    have y5:∀ o,Same H4 (L2.upd H4 q6 o):=fun o=>Same.new hq6
    have u5:∀ o,L2.upd H4 q6 o q6=some o:=fun o=>upd_same
    generalize L2.upd H4 q6=f at *
    obtain⟨z,hz⟩:=zdb (b1:=_) (b2:=_) (b3:=_) (b4:=_) (b5:=_) (b6:=_) g1 g2
    refine⟨_,rfl,q6,_,_,_,rfl,rfl,SqL.of (u5 _),hz,_,rfl,?_⟩
    have hp5:=fun o=>y5 o _ _ hp4
    have hh5:=fun o=>y5 o _ _ hh4
    have L5:=fun o=>L4.same (y5 o)
    have s5:=fun o=>s4.same (y5 o)
    have X5:=fun o=>X4.trans (Ext.same (y5 o))
    refine ite2 (fun _=>?_) (fun _=>?_)
    ·refine⟨_,rfl,.inl ⟨rfl,_,SqL.of (hp5 _)⟩,_,rfl,_,rfl,h,_,_,V.int (hs[i]'(by omega)),rfl,rfl,SqL.of (hh5 _),(by rw[Int.zero_add];exact yc (by simp)),_,rfl,_,rfl,h,_,_,V.int hs[j],rfl,rfl,SqL.of (hh5 _),(by rw[Int.zero_add];exact yc (by simp[hj])),(by show 2≤sizeLine;decide),fun qt hqt=>?_⟩
     have y6:=Same.new (o:=HO.tup [V.int (hs[i]'(by omega)),V.int hs[j]]) hqt
     have l66:=F.le
     refine⟨p,_,_,rfl,rfl,y6 _ _ (hp5 _),(by rw[L.1];have:=Wa hs.length l12;have:=Ub hj;exact zk (by omega)),?_⟩
     refine⟨_,_,_,_,ls++[(hs[i]'(by omega),hs[j])],rfl,upd_same,LnAt.updL (y6 _ _ (hp5 _)) (LnAt.snoc (p:=(hs[i]'(by omega),hs[j])) ((L5 _).same y6) (q:=qt) upd_same),F.add wh hi hi2 hj2,((s5 _).same y6).upd npl.symm.symm,?_⟩
     intro b o e nb
     rw[upd_ne (ne_of_none e hp)]
     exact((X5 _).trans (Ext.same y6)) b o e nb
    ·exact⟨_,_,_,rs,ls,rfl,hp5 _,L5 _,F.skip,s5 _,X5 _⟩
   ·rintro σ H3 ⟨o5,o6,o7,rs,ls,rfl,hp3,L,F,s3,x3⟩
    exact⟨_,_,_,_,rs,ls,rfl,hp3,L,F.row,s3,x3⟩
  ·rintro σ H2 ⟨o4,o5,o6,o7,rs,ls,rfl,hp2,L,F,s2,x2⟩
   refine⟨_,rfl,_,rfl,p,_,rfl,.inl (SqL.of hp2),_,_,rfl,rfl,l,_,rfl,s2,by omega,fun d H3 a1 a2 s3 x3=>?_⟩
   obtain⟨n,rfl⟩:∃ n:Nat,d=n:=⟨d.toNat,by omega⟩
   have hp3:=x3 _ _ hp2 npl
   have L3:LnAt H3 rs ls:=⟨L.1,fun n r pr e1 e2=>by
      obtain⟨q,e,t⟩:=L.2 n r pr e1 e2
      exact⟨q,e,x3 _ _ t fun z=>by
       obtain⟨ns,e3,_⟩:=s2
       rw[z,e3] at t
       cases t⟩⟩
   refine⟨_,rfl,_,rfl,_,rfl,p,_,rfl,SqL.of hp3,fun q1 hq1=>?_⟩
   have y4:=Same.new (o:=HO.lst (yV rs (some (n:Int)) none)) hq1
   refine⟨_,rfl,_,rfl,_,rfl,p,_,rfl,SqL.of (y4 _ _ hp3),fun q2 hq2=>?_⟩
   have y5:=Same.new (o:=HO.lst (yV rs none (some (n:Int)))) hq2
   have hnl:n≤rs.length:=by omega
   have l66:=F.le
   have:=Wa hs.length l12
   have l1:=yb rs (some (n:Int)) none
   have l2:=yb rs none (some (n:Int))
   have lL:=L.1
   refine⟨q1,q2,_,_,rfl,rfl,y5 _ _ upd_same,upd_same,(Nat.le_of_lt (zk (by omega))),fun q hq=>?_⟩
   have y6:=Same.new (o:=HO.lst (yV rs (some (n:Int)) none++yV rs none (some (n:Int)))) hq
   have y456:=(y4.trans y5).trans y6
   refine k q (rs.drop n++rs.take n) (ls.drop n++ls.take n) _ ((((x1.trans x2).trans x3).trans (Ext.same (y4.trans y5))).free ((s3.same (y4.trans y5)).ne hq) hq) (by rw[upd_same,Xo hnl,Xm hnl]) (L3.same y456).cut (F.ls wh) (by have:=F.le;rw[List.length_append,List.length_drop,List.length_take];omega) (s3.same y456) ?_
   exact(x1.trans x2).trans (x3.trans (Ext.same y456))
theorem Zb {x:Int}{v y:V}{H H':Hp}(h:yI (Sum.inl x,v) y H H'):∃ p,H p=none∧y=.ref p∧H'=upd H p (.tup [.int x,v]):=h
def Fl (v:V):Prop:=(∃ i,v=.int i)∨v=.non
def CpV (H:Hp) (n:Nat) (v:V) (Q:V→Hp→Prop):Prop :=
 (1≤n∧Fl v∧Q v H) ∨
 (2≤n∧∃ (t:Addr) (i j:Int),v=.ref t∧H t=some (.tup [.int i,.int j])∧∀ (t':Addr) (H':Hp),H t'=none→H' t'=some (.tup [.int i,.int j])→Same H H'→Q (.ref t') H') ∨
 (2≤n∧∃ (d:Addr) (f:Int→V) (us:LI),v=.ref d∧H d=some (.dK (tabV f us))∧us.Nodup∧us.length≤12∧(∀ x∈us,Fl (f x))∧∀ (d':Addr) (H':Hp),H d'=none→H' d'=some (.dK (tabV f us))→Same H H'→Q (.ref d') H') ∨
 (3≤n∧∃ (l:Addr) (rs:List V) (ls:LP),v=.ref l∧H l=some (.lst rs)∧LnAt H rs ls∧ls.length≤200∧∀ (l':Addr) (rs':List V) (H':Hp),H l'=none→H' l'=some (.lst rs')→LnAt H' rs' ls→Same H H'→Q (.ref l') H')
def VP (n:Nat):Sp:=fun vs H Q _=>∃ v,vs=[v]∧CpV H n v Q
theorem xa (T:Txt w K mg a):∀ n,FnOk P w K mg base CX0 (n+2) a.f_qb a.d_qb ["value"] (VP n)
 |0=>⟨fun vs H Q E h=>by
   obtain⟨v,rfl,_⟩:=h
   rfl,fun A outer s H args us vs Q E _ _ _ _ h=>by
   obtain⟨v,_,h⟩:=h
   rcases h with⟨h,_⟩ | ⟨h,_⟩ | ⟨h,_⟩ | ⟨h,_⟩<;>omega⟩
 |n+1=>by
  have c_qb:Callee P w K mg base "copied" a.f_qb a.d_qb ["value"] (n+2) (VP n):=⟨xa T n,T.g_qb,T.F_qb.kp,T.b_qb⟩
  refine T.F_qb.ok zcX (fun vs H Q E h=>?_) (fun cdv A outer s H vs Q E hr h=>?_)
  ·obtain⟨v,rfl,_⟩:=h
   rfl
  ·obtain⟨v,rfl,h⟩:=h
   refine zT (zb (zy (zF (zl zR (by rfl) T.n_isinstance zv (zd (zg 0) (zd (yk T.n_list bt_list) za))))
    (ze (zh (yr rfl (N':=["each"]) (t:=1) (caps:=[]) ⟨rfl,rfl,rfl⟩ (zC (zg 0)) (fun _=>(zi (i:=0) (show(["each"]:List Str).Nodup by decide +kernel) rfl (Or.inl rfl))) (fun _=>yC) (fun _=>(zp c_qb hr.m (zd (zg 0) za))))))
    zo)
   (zb (zy (zF (zl zR (by rfl) T.n_isinstance zv (zd (zg 0) (zd (yk T.n_tuple yR) za))))
    (ze (zh (zX yQ (by rfl) T.n_tuple yR (zu (yr rfl (N':=["each"]) (t:=1) (caps:=[]) ⟨rfl,rfl,rfl⟩ (ue (zg 0)) (fun _=>(zi (i:=0) (show(["each"]:List Str).Nodup by decide +kernel) rfl (Or.inl rfl))) (fun _=>yC) (fun _=>(zp c_qb hr.m (zd (zg 0) za)))) za))))
    zo)
   (zb (zy (zF (zl zR (by rfl) T.n_isinstance zv (zd (zg 0) (zd (yk T.n_dict wn) za))))
    (ze (zh (zX (u6 rfl) (by rfl) T.n_dict wn (zu (Zc (yr rfl (N':=["key", "each"]) (t:=2) (caps:=[]) ⟨rfl,rfl,rfl⟩ (xr (zg 0)) (fun _=>(zU rfl (zm (zi (i:=0) (show(["key", "each"]:List Str).Nodup by decide +kernel) rfl (Or.inl rfl)) (zm (zi (i:=1) (show(["key", "each"]:List Str).Nodup by decide +kernel) rfl (Or.inl rfl)) zH)))) (fun _=>yC) (fun _=>(zJ (zd (zg 0) (zN (zp c_qb hr.m (zd (zg 1) za)) za)))))) za))))
    zo)
   (ze (zh (zg 0)))))) ?_
   rcases h with⟨_,hv,k⟩ | ⟨h2,t,i,j,rfl,ht,k⟩ | ⟨h2,d,f,us,rfl,hd,nd,l12,hf,k⟩ | ⟨h3,l,rs,ls,rfl,hl,L,l66,k⟩
   ·rcases hv with⟨i,rfl⟩ | rfl
    ·refine⟨_,rfl,_,_,_,_,_,rfl,rfl,.int i,T.k_tint_tlist,_,rfl,iteN rfl ?_⟩
     refine⟨_,rfl,_,_,_,_,_,rfl,rfl,.int i,T.k_tint_ttuple,_,rfl,iteN rfl ?_⟩
     refine⟨_,rfl,_,_,_,_,_,rfl,rfl,.int i,T.k_tint_tdict,_,rfl,iteN rfl ?_⟩
     exact⟨_,rfl,k⟩
    ·refine⟨_,rfl,_,_,_,_,_,rfl,rfl,.non,T.k_tNoneType_tlist,_,rfl,iteN rfl ?_⟩
     refine⟨_,rfl,_,_,_,_,_,rfl,rfl,.non,T.k_tNoneType_ttuple,_,rfl,iteN rfl ?_⟩
     refine⟨_,rfl,_,_,_,_,_,rfl,rfl,.non,T.k_tNoneType_tdict,_,rfl,iteN rfl ?_⟩
     exact⟨_,rfl,k⟩
   ·refine⟨_,rfl,_,_,_,_,_,rfl,rfl,.tup ht,T.k_ttuple_tlist,_,rfl,iteN rfl ?_⟩
    refine⟨_,rfl,_,_,_,_,_,rfl,rfl,.tup ht,T.k_ttuple_ttuple,_,rfl,xM ?_⟩
    refine⟨_,rfl,t,rfl,⟨_,SqT.of ht⟩,fun D hD _=>?_⟩
    refine Xp (K:=K) (a:=t) (xs:=[V.int i,V.int j]) (fun m zs τ H'=>∃ (o:Option V),τ=[o]∧zs=[V.int i,V.int j].take m∧H'=upd H D (.lst zs)) ?_ ?_ ?_ ?_
    ·exact⟨none,rfl,rfl,rfl⟩
    ·rintro m zs τ H' ⟨o,_,_,rfl⟩
     exact SqT.of (by rw[upd_ne (ne_of_none ht hD)];exact ht)
    ·rintro m v zs τ H' hi ⟨o,rfl,rfl,rfl⟩
     have hv:∃ y,v=V.int y:=by
      match m,hi with
      |0,hi=>exact⟨i,by cases hi;rfl⟩
      |1,hi=>exact⟨j,by cases hi;rfl⟩
      |m+2,hi=>simp at hi
     obtain⟨y,rfl⟩:=hv
     have hml:m<2:=(List.getElem?_eq_some_iff.mp hi).1
     refine Z9 ?_
     refine⟨_,rfl,_,rfl,.inl ⟨by omega,.inl ⟨y,rfl⟩,?_⟩⟩
     refine⟨upd_same,by rw[List.length_take];exact zk (by omega),some (.int y),rfl,?_,?_⟩
     ·rw[List.take_add_one,hi];rfl
     ·rw[xW]
    ·rintro zs τ H' ⟨o,rfl,rfl,rfl⟩
     refine⟨D,_,rfl,.inl ⟨SqL.of upd_same,fun t' ht'=>?_⟩⟩
     exact k t' _ ((Same.new hD).free ht') upd_same ((Same.new hD).trans (Same.new ht'))
   ·refine⟨_,rfl,_,_,_,_,_,rfl,rfl,.dK hd,T.k_tdict_tlist,_,rfl,iteN rfl ?_⟩
    refine⟨_,rfl,_,_,_,_,_,rfl,rfl,.dK hd,T.k_tdict_ttuple,_,rfl,iteN rfl ?_⟩
    refine⟨_,rfl,_,_,_,_,_,rfl,rfl,.dK hd,T.k_tdict_tdict,_,rfl,xM ?_⟩
    refine⟨_,rfl,d,_,rfl,hd,fun od S D hD _=>?_⟩
    have hDd:D≠d:=fun z=>by rw[z,upd_same] at hD;cases hD
    generalize hG1:upd H d (HO.frz od (HO.dK (tabV f us)))=G1 at *
    have hq1:G1 d=some (.frz od (.dK (tabV f us))):=by rw[← hG1];exact upd_same
    have x1:Ext d H G1:=by rw[← hG1];exact Ext.at
    refine Yh (yl:=yI) (d:=d) (od:=od) (kvs:=tabV f us) (fun i zs τ G'=>∃ (o1 o2:Option V) (qs:List Addr),τ=[o1,o2]∧zs=qs.map V.ref∧qs.length=i∧(∀ (j:Nat) (p:Addr) (x:Int),qs[j]?=some p→us[j]?=some x→G' p=some (.tup [.int x,f x]))∧G' D=some (.lst zs)∧Same G1 G') ?_ ?_ ?_ ?_
    ·exact⟨none,none,[],rfl,rfl,rfl,fun j q x h=>by simp at h,upd_same,Same.new hD⟩
    ·rintro i zs τ G' ⟨o1,o2,qs,_,_,_,_,_,sm⟩
     exact sm _ _ hq1
    ·rintro i kv v zs τ G' G'' hkv ⟨o1,o2,qs,rfl,rfl,lq,hqs,hD',sm⟩ hy
     obtain⟨x,hx,rfl⟩:∃ x,us[i]?=some x∧kv=(Sum.inl x,f x):=by
      unfold tabV at hkv
      rw[List.getElem?_map] at hkv
      obtain⟨x,h1,h2⟩:=Option.map_eq_some_iff.mp hkv
      exact⟨x,h1,h2.symm⟩
     obtain⟨p0,hp0,rfl,rfl⟩:=Zb hy
     have hil:i<us.length:=(List.getElem?_eq_some_iff.mp hx).1
     have n1:=Same.new (o:=HO.tup [V.int x,f x]) hp0
     refine⟨p0,_,rfl,SqT.of upd_same,rfl,_,_,rfl,_,_,rfl,rfl,yes_if ?_⟩
     refine⟨_,rfl,_,rfl,_,rfl,.inl ⟨by omega,hf x (List.mem_of_getElem? hx),(by show 2≤sizeLine;decide),fun pt hpt=>?_⟩⟩
     have n2:=Same.new (o:=HO.tup [V.int x,f x]) hpt
     have n12:=n1.trans n2
     have npt:pt≠D:=fun z=>by rw[z] at hpt;have:=n1 _ _ hD';rw[hpt] at this;cases this
     have hDF:=n12 _ _ hD'
     refine⟨hDF,by rw[List.length_map,lq];exact zk (by omega),some (.int x),some (f x),qs++[pt],rfl,by simp,by simp[lq],fun j p y hj hy'=>?_,upd_same,?_⟩
     ·by_cases hji:j<i
      ·rw[List.getElem?_append_left (by omega)] at hj
       have h1:=n12 _ _ (hqs j p y hj hy')
       rw[upd_ne (fun z=>by rw[z,hDF] at h1;cases h1)]
       exact h1
      ·rw[List.getElem?_append_right (by omega)] at hj
       have:j=i:=by
        have:=(List.getElem?_eq_some_iff.mp hj).1
        simp at this
        omega
       subst this
       rw[lq,Nat.sub_self] at hj
       cases hj
       rw[hx] at hy'
       cases hy'
       rw[upd_ne npt]
       exact upd_same
     ·exact Same.updF (sm.trans n12) hD
    ·rintro zs τ G2 ⟨o1,o2,qs,rfl,rfl,lq,hqs,hD2,sm⟩
     refine .inr ⟨d,od,tabV f us,S,sm _ _ hq1,?_⟩
     rw[tabV_len] at lq
     have sG3:Same H (upd G2 d (HO.dK (tabV f us))):=fun b o e=>by
      by_cases z:b=d
      ·rw[z,hd] at e;cases e;rw[z];exact upd_same
      ·rw[upd_ne z];exact sm _ _ (x1 _ _ e z)
     have hD3:(upd G2 d (HO.dK (tabV f us))) D=some (.lst (qs.map V.ref)):=by rw[upd_ne hDd];exact hD2
     have hq3:∀ (j:Nat) (p:Addr) (x:Int),qs[j]?=some p→us[j]?=some x→(upd G2 d (HO.dK (tabV f us))) p=some (.tup [.int x,f x]):=fun j p x h1 h2=>by
      have h3:=hqs j p x h1 h2
      rw[upd_ne (fun z=>by rw[z,sm _ _ hq1] at h3;cases h3)]
      exact h3
     generalize upd G2 d (HO.dK (tabV f us))=G3 at *
     refine⟨D,qs,tabV f us,rfl,hD3,by rw[tabV_len];exact lq,by rw[tabV_len];omega,fun i q kv h1 h2=>?_,fun d' hd'=>?_⟩
     ·unfold tabV at h2
      rw[List.getElem?_map] at h2
      obtain⟨x,h3,h4⟩:=Option.map_eq_some_iff.mp h2
      subst h4
      exact hq3 i q x h1 h3
     rw[Y7 (by rw[xY];exact za8 nd)]
     exact k d' _ (sG3.free hd') upd_same (sG3.trans (Same.new hd'))
   ·refine⟨_,rfl,_,_,_,_,_,rfl,rfl,.lst hl,T.k_tlist_tlist,_,rfl,xM ?_⟩
    refine⟨_,rfl,l,rfl,⟨_,SqL.of hl⟩,fun D hD _=>?_⟩
    have lr:=L.1
    refine yF (K:=K) (a:=l) (xs:=rs) (fun m zs τ H'=>∃ (o:Option V),τ=[o]∧zs.length=m∧LnAt H' zs (ls.take m)∧H' D=some (.lst zs)∧Same H H') ?_ ?_ ?_ ?_
    ·exact⟨none,rfl,rfl,⟨rfl,fun i r p h=>by simp at h⟩,upd_same,Same.new hD⟩
    ·rintro m zs τ H' ⟨o,_,_,_,_,sm⟩
     exact SqL.of (sm _ _ hl)
    ·rintro m v zs τ H' hi ⟨o,rfl,lz,Lz,hD',sm⟩
     obtain⟨p,q,hp,rfl,hq⟩:=L.get hi
     have hml:m<rs.length:=(List.getElem?_eq_some_iff.mp hi).1
     refine Z9 ?_
     refine⟨_,rfl,_,rfl,.inr (.inl ⟨by omega,q,p.1,p.2,rfl,sm _ _ hq,fun t' H2 ht' h2 s2=>?_⟩)⟩
     have hD2:=s2 _ _ hD'
     refine⟨hD2,by rw[lz];exact zk (by omega),some (.ref q),rfl,by simp[lz],?_,upd_same,Same.updF (sm.trans s2) hD⟩
     rw[List.take_add_one,hp]
     exact LnAt.updL hD2 ((Lz.same s2).snoc h2)
    ·rintro zs τ H' ⟨o,rfl,lz,Lz,hD',sm⟩
     rw[List.take_of_length_le (by omega)] at Lz
     exact k D zs H' hD hD' Lz sm
inductive En (pf:Int→Option Int):Int→LI→Prop
 |z {x:Int}(h:pf x=none):En pf x [x]
 |s {x y:Int}{l:LI}(h:pf x=some y) (t:En pf y l):En pf x (x::l)
variable {pf:Int→Option Int}
theorem En.fn {x:Int}{l:LI}(h:En pf x l):∀ {l':LI},En pf x l'→l=l':=by
 induction h with
 |z h =>
  intro l' h'
  cases h' with
  |z _=>rfl
  |s h2 _=>rw[h] at h2;cases h2
 |s h t ih =>
  intro l' h'
  cases h' with
  |z h2=>rw[h] at h2;cases h2
  |s h2 t2 =>
   rw[h] at h2
   cases h2
   rw[ih t2]
theorem En.hd {x:Int}{l:LI}(h:En pf x l):∃ t,l=x::t:=by
 cases h with
 |z _=>exact⟨_,rfl⟩
 |s _ _=>exact⟨_,rfl⟩
theorem En.suf:∀ {ys:LI}{x v:Int}{zs:LI},En pf x (ys++v::zs)→En pf v (v::zs)
 |[],x,v,zs,h=>by
  obtain⟨t,e⟩:=h.hd
  injection e with e1 e2
  have h':En pf x (v::zs):=h
  rw[← e1] at h'
  exact h'
 |y::ys,x,v,zs,h=>by
  have h':En pf x (y::(ys++v::zs)):=h
  generalize hl:y::(ys++v::zs)=l at h'
  cases h' with
  |z _ =>
   injection hl with _ hl
   simp at hl
  |s h2 t =>
   injection hl with _ hl
   rw[← hl] at t
   exact En.suf t
theorem En.nd {x:Int}{l:LI}(h:En pf x l):l.Nodup:=by
 induction h with
 |z _=>simp
 | @s x y l h t ih =>
  rw[List.nodup_cons]
  refine⟨fun hx=>?_,ih⟩
  obtain⟨ys,zs,e⟩:=List.append_of_mem hx
  rw[e] at t
  have h1:=t.suf
  have h2:=h1.fn (.s h t)
  have:=congrArg List.length h2
  simp at this
  omega
theorem En.mem {us:LI}(C:∀ x∈us,∀ y,pf x=some y→y∈us){x:Int}{l:LI}(h:En pf x l):x∈us→∀ y∈l,y∈us:=by
 induction h with
 |z _ =>
  intro hx y hy
  rw[List.mem_singleton.mp hy]
  exact hx
 | @s x y l h t ih =>
  intro hx u hu
  rcases List.mem_cons.mp hu with e | e
  ·rw[e];exact hx
  ·exact ih (C x hx y h) u e
def Pre (pf:Int→Option Int) (x:Int) (ys:LI) (z:Int):Prop:=∀ l,En pf x l↔∃ l',En pf z l'∧l=ys++l'
theorem Pre.z {x:Int}:Pre pf x [] x:=fun l=>⟨fun h=>⟨l,h,rfl⟩,fun⟨l',h,e⟩=>by rw[e];exact h⟩
theorem Pre.s {x z y:Int}{ys:LI}(p:Pre pf x ys z) (h:pf z=some y):Pre pf x (ys++[z]) y:=fun l=>by
 rw[p l]
 constructor
 ·rintro⟨l',h1,e⟩
  cases h1 with
  |z h2=>rw[h] at h2;cases h2
  |s h2 t =>
   rw[h] at h2
   cases h2
   exact⟨_,t,by rw[e];simp⟩
 ·rintro⟨l',h1,e⟩
  exact⟨z::l',.s h h1,by rw[e];simp⟩
theorem Pre.end_ {x z:Int}{ys:LI}(p:Pre pf x ys z) (h:pf z=none):En pf x (ys++[z]):=(p _).mpr ⟨[z],.z h,rfl⟩
theorem Pre.ring {x z y:Int}{ys:LI}(p:Pre pf x ys z) (h:pf z=some y) (hy:y∈ys++[z]):¬∃ l,En pf x l:=fun⟨l,hl⟩=>by
 obtain⟨l',h1,e⟩:=((p.s h) l).mp hl
 obtain⟨t,e2⟩:=h1.hd
 have nd:=hl.nd
 rw[e,e2,List.nodup_append] at nd
 exact nd.2.2 y hy y List.mem_cons_self rfl
theorem Pre.long {us:LI}(C:∀ x∈us,∀ y,pf x=some y→y∈us){x z y:Int}{ys:LI}(hx:x∈us) (p:Pre pf x ys z) (h:pf z=some y) (hl:us.length<(ys++[z]).length+1):¬∃ l,En pf x l:=fun⟨l,hl'⟩=>by
 obtain⟨l',h1,e⟩:=((p.s h) l).mp hl'
 obtain⟨t,e2⟩:=h1.hd
 have h2:=we hl'.nd (hl'.mem C hx)
 rw[e,e2,List.length_append,List.length_cons] at h2
 omega
noncomputable def paO (pf:Int→Option Int) (x:Int):LI:=by
 classical
 exact if h:∃ l,En pf x l then Classical.choose h else[x]
theorem wC {x:Int}{l:LI}(h:En pf x l):paO pf x=l:=by
 unfold paO
 rw[dif_pos ⟨l,h⟩]
 exact(Classical.choose_spec (⟨l,h⟩:∃ l,En pf x l)).fn h
noncomputable def opV:Option Int→V
 |none=>.non
 |some y=>.int y
theorem ZM (o:Option Int):Fl (opV o):=by
 cases o with
 |none=>exact .inr rfl
 |some y=>exact .inl ⟨y,rfl⟩
def UpP (us:LI) (pf:Int→Option Int) (pa:Int→LI):Prop:=∃ sf:Int→Nat,∀ x∈us,(pf x=none∧pa x=[x])∨∃ y,pf x=some y∧y∈us∧pa x=x::pa y∧sf y<sf x
noncomputable def ldr (pa:Int→LI) (x:Int):Int:=(pa x).getLastD x
theorem za2 {us:LI}{pf:Int→Option Int}{pa:Int→LI}{sf:Int→Nat}(U:∀ x∈us,(pf x=none∧pa x=[x])∨∃ y,pf x=some y∧y∈us∧pa x=x::pa y∧sf y<sf x):∀ (n:Nat){x:Int},sf x≤n→x∈us→(∃ ys,pa x=ys++[ldr pa x])∧pf (ldr pa x)=none∧ldr pa x∈us∧(pa x).Nodup∧(∀ y∈pa x,y∈us∧sf y≤sf x):=by
 intro n
 induction n with
 |zero =>
  intro x hn hx
  rcases U x hx with⟨h1,h2⟩ | ⟨y,_,_,_,h⟩
  ·have e:ldr pa x=x:=by unfold ldr;rw[h2];rfl
   rw[e,h2]
   exact⟨⟨[],rfl⟩,h1,hx,by simp,fun y hy=>by rw[List.mem_singleton.mp hy];exact⟨hx,Nat.le_refl _⟩⟩
  ·omega
 |succ n ih =>
  intro x hn hx
  rcases U x hx with⟨h1,h2⟩ | ⟨y,h1,h2,h3,h4⟩
  ·have e:ldr pa x=x:=by unfold ldr;rw[h2];rfl
   rw[e,h2]
   exact⟨⟨[],rfl⟩,h1,hx,by simp,fun y hy=>by rw[List.mem_singleton.mp hy];exact⟨hx,Nat.le_refl _⟩⟩
  ·obtain⟨⟨ys,i1⟩,i2,i3,i4,i5⟩:=ih (x:=y) (by omega) h2
   have e:ldr pa x=ldr pa y:=by
    have:(pa x).getLastD x=ldr pa y:=by
     rw[h3,i1,← List.cons_append,List.getLastD_eq_getLast?,List.getLast?_append]
     rfl
    exact this
   rw[e,h3]
   refine⟨⟨x::ys,by rw[List.cons_append,← i1]⟩,i2,i3,List.nodup_cons.mpr ⟨fun z=>?_,i4⟩,fun u hu=>?_⟩
   ·have:=(i5 x z).2
    omega
   ·rcases List.mem_cons.mp hu with z | z
    ·rw[z];exact⟨hx,Nat.le_refl _⟩
    ·have:=i5 u z
     exact⟨this.1,by omega⟩
theorem UpP.ld {us:LI}{pf:Int→Option Int}{pa:Int→LI}(U:UpP us pf pa){x:Int}(hx:x∈us):(∃ ys,pa x=ys++[ldr pa x])∧pf (ldr pa x)=none∧ldr pa x∈us∧(pa x).Nodup∧(∀ y∈pa x,y∈us):=by
 obtain⟨sf,U⟩:=U
 obtain⟨h1,h2,h3,h4,h5⟩:=za2 U (sf x) (Nat.le_refl _) hx
 exact⟨h1,h2,h3,h4,fun y hy=>(h5 y hy).1⟩
structure WayAt (a:Ad) (H:Hp) (p:Addr) (pf:Int→Option Int) (us:LI) (ls:LP) (dx dp ob:Addr):Prop where
 p:H p=some (.ins a.c_Way dx [("own_parents",.ref dp),("own_bridges",.ref ob)])
 dp:H dp=some (.dK (tabV (fun x=>opV (pf x)) us))
 ob:∃ rs,H ob=some (.lst rs)∧LnAt H rs ls
 nd:us.Nodup
 l12:us.length≤12
 l66:ls.length≤200
theorem WayAt.same {a:Ad}{H H':Hp}{p dx dp ob:Addr}{pf:Int→Option Int}{us:LI}{ls:LP}(w:WayAt a H p pf us ls dx dp ob) (s:Same H H'):WayAt a H' p pf us ls dx dp ob:=⟨s _ _ w.p,s _ _ w.dp,by obtain⟨rs,e1,e2⟩:=w.ob;exact⟨rs,s _ _ e1,e2.same s⟩,w.nd,w.l12,w.l66⟩
structure WayR (a:Ad) (H:Hp) (p:Addr) (pf:Int→Option Int) (us:LI) (dx dp ob:Addr):Prop where
 p:H p=some (.ins a.c_Way dx [("own_parents",.ref dp),("own_bridges",.ref ob)])
 dp:Rd H dp (.dK (tabV (fun x=>opV (pf x)) us))
 l12:us.length≤12
theorem WayAt.r {a:Ad}{H:Hp}{p dx dp ob:Addr}{pf:Int→Option Int}{us:LI}{ls:LP}(w:WayAt a H p pf us ls dx dp ob):WayR a H p pf us dx dp ob:=⟨w.p,.inl w.dp,w.l12⟩
theorem Vc {H H':Hp}{d:Addr}{u:HO}(h:Rd H d u) (s:Same H H'):Rd H' d u:=h.elim (fun e=>.inl (s _ _ e)) fun⟨o,e⟩=>.inr ⟨o,s _ _ e⟩
theorem WayR.same {a:Ad}{H H':Hp}{p dx dp ob:Addr}{pf:Int→Option Int}{us:LI}(w:WayR a H p pf us dx dp ob) (s:Same H H'):WayR a H' p pf us dx dp ob:=⟨s _ _ w.p,Vc w.dp s,w.l12⟩
theorem vi {H:Hp}{d:Addr}{f:Int→V}{us:LI}{x:Int}(e:Rd H d (.dK (tabV f us))) (h:x∈us):DGet H d (V.int x) (some (f x)):=.inl ⟨_,.inl x,e,rfl,(vS h).symm⟩
def Ur (a:Ad):Sp:=fun vs H Q _=>∃ (p dx d l:Addr) (pf:Int→Option Int) (us:LI) (rs:List V) (ls:LP),vs=[.ref p,.ref d,.ref l]∧H p=some (.ins a.c_Way dx [])∧H d=some (.dK (tabV (fun x=>opV (pf x)) us))∧us.Nodup∧us.length≤12∧H l=some (.lst rs)∧LnAt H rs ls∧ls.length≤200 ∧
 ∀ (dp ob:Addr) (H':Hp),H dp=none→H ob=none→Ext p H H'→WayAt a H' p pf us ls dx dp ob→Q .non H'
theorem UU (T:Txt w K mg a):FnOk P w K mg base CX0 6 a.f_qK a.d_qK ["self", "parents", "bridges"] (Ur a):=by
 have c_qb:Callee P w K mg base "copied" a.f_qb a.d_qb ["value"] (3+2) (VP 3):=⟨xa T 3,T.g_qb,T.F_qb.kp,T.b_qb⟩
 refine T.F_qK.ok zc6 (fun vs H Q E h=>?_) (fun cdv A outer s H vs Q E hr h=>?_)
 ·obtain⟨p,dx,d,l,pf,us,rs,ls,rfl,_⟩:=h
  rfl
 ·obtain⟨p,dx,d,l,pf,us,rs,ls,rfl,hp,hd,nd,l12,hl,L,l66,k⟩:=h
  refine zT (zb (uc (zg 0) (zp c_qb hr.m (zd (zg 1) za)) rfl)
   (ze (uc (zg 0) (zp c_qb hr.m (zd (zg 2) za)) rfl))) ?_
  refine⟨_,rfl,_,rfl,.inr (.inr (.inl ⟨by decide,d,_,us,rfl,hd,nd,l12,fun x _=>ZM _,fun dp H1 hdp h1 s1=>?_⟩))⟩
  have ndp:dp≠p:=fun z=>by rw[z,hp] at hdp;cases hdp
  refine⟨_,rfl,p,a.c_Way,dx,_,rfl,s1 _ _ hp,T.cl_Way,T.na_Way_own_parents,(by show 0<1000;decide),?_⟩
  have x1:=(Ext.same (l:=p) s1).trans (Ext.at (l:=p) (o:=.ins a.c_Way dx [("own_parents",.ref dp)]))
  have nlp:l≠p:=fun z=>by rw[z,hp] at hl;cases hl
  refine⟨_,rfl,_,rfl,.inr (.inr (.inr ⟨by decide,l,rs,ls,rfl,x1 _ _ hl nlp,L.ext hp x1,l66,fun ob rs' H2 hob h2 L2 s2=>?_⟩))⟩
  refine⟨_,rfl,p,a.c_Way,dx,_,rfl,s2 _ _ upd_same,T.cl_Way,T.na_Way_own_bridges,(by show 1<1000;decide),?_⟩
  have nob:ob≠p:=fun z=>by rw[z,upd_same] at hob;cases hob
  have fob:H ob=none:=by
   cases h:H ob with
   |none=>rfl
   |some o=>exact nomatch ((x1 _ _ h nob).symm.trans hob:some o=none)
  refine k dp ob _ hdp fob ((x1.trans (Ext.same s2)).trans Ext.at) ⟨upd_same,?_,⟨rs',?_,L2.ext (s2 _ _ upd_same) Ext.at⟩,nd,l12,l66⟩
  ·rw[upd_ne ndp]
   exact s2 _ _ ((upd_ne ndp).trans h1)
  ·rw[upd_ne nob]
   exact h2
def zly (a:Ad):Sp:=fun vs H Q _=>∃ (p dx dp ob:Addr) (pf:Int→Option Int) (us:LI) (ls:LP),vs=[.ref p]∧WayAt a H p pf us ls dx dp ob∧∀ (d:Addr) (H':Hp),H d=none→H' d=some (.dK (tabV (fun x=>opV (pf x)) us))→Same H H'→Q (.ref d) H'
theorem zdz (T:Txt w K mg a):FnOk P w K mg base CX0 6 a.f_qM a.d_qM ["self"] (zly a):=by
 have c_qb:Callee P w K mg base "copied" a.f_qb a.d_qb ["value"] (3+2) (VP 3):=⟨xa T 3,T.g_qb,T.F_qb.kp,T.b_qb⟩
 refine T.F_qM.ok zc5 (fun vs H Q E h=>?_) (fun cdv A outer s H vs Q E hr h=>?_)
 ·obtain⟨p,dx,dp,ob,pf,us,ls,rfl,_⟩:=h
  rfl
 ·obtain⟨p,dx,dp,ob,pf,us,ls,rfl,W,k⟩:=h
  refine zT (ze (zh (zp c_qb hr.m (zu (yx (zg 0) rfl) za)))) ?_
  exact⟨_,rfl,p,_,dx,_,_,rfl,W.p,T.cl_Way,T.na_Way_own_parents,rfl,_,rfl,.inr (.inr (.inl ⟨by decide,dp,_,us,rfl,W.dp,W.nd,W.l12,fun x _=>ZM _,k⟩))⟩
def zlz (a:Ad):Sp:=fun vs H Q _=>∃ (p dx dp ob:Addr) (pf:Int→Option Int) (us:LI) (ls:LP),vs=[.ref p]∧WayAt a H p pf us ls dx dp ob∧∀ (l:Addr) (rs:List V) (H':Hp),H l=none→H' l=some (.lst rs)→LnAt H' rs ls→Same H H'→Q (.ref l) H'
theorem ok_ab (T:Txt w K mg a):FnOk P w K mg base CX0 6 a.f_qN a.d_qN ["self"] (zlz a):=by
 have c_qb:Callee P w K mg base "copied" a.f_qb a.d_qb ["value"] (3+2) (VP 3):=⟨xa T 3,T.g_qb,T.F_qb.kp,T.b_qb⟩
 refine T.F_qN.ok zc4 (fun vs H Q E h=>?_) (fun cdv A outer s H vs Q E hr h=>?_)
 ·obtain⟨p,dx,dp,ob,pf,us,ls,rfl,_⟩:=h
  rfl
 ·obtain⟨p,dx,dp,ob,pf,us,ls,rfl,W,k⟩:=h
  refine zT (ze (zh (zp c_qb hr.m (zu (yx (zg 0) rfl) za)))) ?_
  obtain⟨rs,e1,e2⟩:=W.ob
  exact⟨_,rfl,p,_,dx,_,_,rfl,W.p,T.cl_Way,T.na_Way_own_bridges,rfl,_,rfl,.inr (.inr (.inr ⟨by decide,ob,rs,ls,rfl,e1,e2,W.l66,k⟩))⟩
def Cl (us:LI) (pf:Int→Option Int):Prop:=∀ x∈us,∀ y,pf x=some y→y∈us
def zlu (a:Ad):Sp:=fun vs H Q _=>∃ (p dx dp ob:Addr) (pf:Int→Option Int) (us:LI) (x:Int),vs=[.ref p,.int x]∧WayR a H p pf us dx dp ob∧Cl us pf∧x∈us ∧
 ∀ (l:Addr) (ys:LI) (z:Int),H l=none→z∈us→((pf z=none∧En pf x (ys++[z]))∨(pf z≠none∧¬∃ l,En pf x l))→Q (.ref l) (upd H l (.lst ((ys++[z]).map V.int)))
theorem UZ (T:Txt w K mg a):FnOk P w K mg base CX0 1 a.f_qO a.d_qO ["self", "hand"] (zlu a):=by
 refine T.F_qO.ok sc_qO (fun vs H Q E h=>?_) (fun cdv A outer s H vs Q E hr h=>?_)
 ·obtain⟨p,dx,dp,ob,pf,us,x,rfl,_⟩:=h
  rfl
 ·obtain⟨p,dx,dp,ob,pf,us,x,rfl,W,C,hx,k⟩:=h
  have hu:=xb hr
  refine zT (zb (zj (i:=2) sc_qO.nd rfl (Or.inl rfl) (zE (zd (zg 1) za)))
   (zb (zj (i:=3) sc_qO.nd rfl (Or.inl rfl) (wv hu (yx (zg 0) rfl) (zg 1) ⟨rfl,rfl,rfl,rfl⟩))
   (zb (xg PassesOwn.never (vc (yN (zn wU (zg 3) yO (zB _)) (yB (zn vy (zg 3) (zg 2) (by with_unfolding_all rfl)))))
    (zb (zP (ym PySem.F.plainAttrs_list PySem.F.slot_list_append PySem.F.type_list_append zL (zg 2) (zd (zg 3) za)))
    (ze (zj (i:=3) sc_qO.nd rfl (Or.inl rfl) (wv hu (yx (zg 0) rfl) (zg 3) ⟨rfl,rfl,rfl,rfl⟩)))))
   (ze (zh (zg 2)))))) ?_
  refine⟨_,rfl,(by show 1≤sizeLine;decide),fun l hl=>?_⟩
  have sm:∀ o,Same H (upd H l o):=fun o=>Same.new hl
  refine⟨_,rfl,p,_,dx,_,_,rfl,(W.same (sm _)).p,T.cl_Way,T.na_Way_own_parents,rfl,dp,rfl,.inl ⟨_,(W.same (sm _)).dp⟩,_,rfl,some (opV (pf x)),vi (W.same (sm _)).dp hx,?_⟩
  refine⟨fun m σ H'=>∃ (ys:LI) (z:Int),m+(ys++[z]).length=us.length∧σ=[some (.ref p),some (.int x),some (.ref l),some (opV (pf z))]∧H'=upd H l (.lst ((ys++[z]).map V.int))∧z∈us∧Pre pf x ys z∧(ys++[z]).Nodup∧∀ y∈ys,y∈us,⟨us.length-1,[],x,by have:=List.length_pos_of_mem hx;simp;omega,rfl,rfl,hx,Pre.z,(by simp),(fun y hy=>(nomatch hy))⟩,?_⟩
  rintro m σ H' ⟨ys,z,hm,rfl,rfl,hz,hp,nd,hsub⟩
  have hlen:(ys++[z]).length≤12:=Nat.le_trans (by omega) W.l12
  cases h1:pf z with
  |none =>
   refine⟨_,rfl,rfl,_,rfl,iteN rfl ?_⟩
   refine⟨_,rfl,?_⟩
   exact k l ys z hl hz (.inl ⟨h1,hp.end_ h1⟩)
  |some y =>
   refine⟨_,rfl,rfl,_,rfl,xM ?_⟩
   have h2:=C z hz y h1
   by_cases hny:y∈ys++[z]
   ·refine⟨_,rfl,_,rfl,l,_,rfl,.inl (SqL.of upd_same),rfl,xc _,_,rfl,iteN (by show(!inV (.int y) _)=false;rw[xF,decide_eq_true hny];rfl) ?_⟩
    refine⟨_,rfl,?_⟩
    exact k l ys z hl hz (.inr ⟨by rw[h1];simp,hp.ring h1 hny⟩)
   ·refine⟨_,rfl,_,rfl,l,_,rfl,.inl (SqL.of upd_same),rfl,xc _,_,rfl,iteB (by show(!inV (.int y) _)=true;rw[xF,decide_eq_false hny];rfl) ?_⟩
    refine⟨_,fun σ' H' h=>h,?_⟩
    refine⟨_,rfl,.inl ⟨rfl,_,SqL.of upd_same⟩,_,rfl,l,_,_,rfl,rfl,upd_same,(by rw[List.length_map];exact zk (by omega)),?_⟩
    rw[xW]
    refine⟨_,rfl,p,_,dx,_,_,rfl,(W.same (sm _)).p,T.cl_Way,T.na_Way_own_parents,rfl,dp,rfl,.inl ⟨_,(W.same (sm _)).dp⟩,_,rfl,some (opV (pf y)),vi (W.same (sm _)).dp h2,?_⟩
    have nd2:(ys++[z]++[y]).Nodup:=by
     rw[List.nodup_append]
     exact⟨nd,by simp,fun u hu v hv e=>hny (by rw[List.mem_singleton.mp hv] at e;rw[← e];exact hu)⟩
    have hs2:∀ u∈ys++[z],u∈us:=fun u hu=>(List.mem_append.mp hu).elim (hsub u) fun q=>by rw[List.mem_singleton.mp q];exact hz
    have hn2:=we nd2 fun u hu=>(List.mem_append.mp hu).elim (hs2 u) fun q=>by rw[List.mem_singleton.mp q];exact h2
    have e2:(ys++[z]++[y]).length=(ys++[z]).length+1:=by simp
    refine⟨m-1,by omega,ys++[z],y,by omega,rfl,?_,h2,hp.s h1,nd2,hs2⟩
    rw[List.map_append (l₂:=[y])]
    rfl
def zcL (a:Ad):Sp:=fun vs H Q _=>∃ (p dx dp ob:Addr) (pf:Int→Option Int) (us:LI) (x:Int),vs=[.ref p,.int x]∧WayR a H p pf us dx dp ob∧Cl us pf∧x∈us∧∀ (ys:LI) (z:Int) (H':Hp),Same H H'→z∈us→((pf z=none∧En pf x (ys++[z]))∨(pf z≠none∧¬∃ l,En pf x l))→Q (.int z) H'
theorem XX (T:Txt w K mg a):FnOk P w K mg base CX0 2 a.f_qP a.d_qP ["self", "hand"] (zcL a):=by
 refine T.F_qP.ok zc3 (fun vs H Q E h=>?_) (fun cdv A outer s H vs Q E hr h=>?_)
 ·obtain⟨p,dx,dp,ob,pf,us,x,rfl,_⟩:=h
  rfl
 ·obtain⟨p,dx,dp,ob,pf,us,x,rfl,W,C,hx,k⟩:=h
  refine zT (ze (zh (zx zS (zA (zg 0) (zd (zg 1) za)) (yp yJ zf) (fun _ _=>rfl)))) ?_
  refine⟨_,rfl,p,_,dx,_,_,_,_,_,_,rfl,W.p,rfl,T.cl_Way,T.mt_qO,UZ (P:=P) (w:=w) T,hr.m,T.b_qO,_,rfl,p,dx,dp,ob,pf,us,x,rfl,W,C,hx,fun l ys z hl hz hor=>?_⟩
  refine⟨_,rfl,l,_,-1,_,rfl,rfl,SqL.of upd_same,?_,k ys z _ (Same.new hl) hz hor⟩
  rw[List.map_append]
  exact at_last
theorem UpP.cl {us:LI}{pf:Int→Option Int}{pa:Int→LI}(U:UpP us pf pa):Cl us pf:=fun x hx y h=>by
 obtain⟨sf,U⟩:=U
 rcases U x hx with⟨h1,_⟩ | ⟨y',h1,h2,_⟩
 ·rw[h] at h1;cases h1
 ·rw[h] at h1;cases h1;exact h2
theorem UpP.en {us:LI}{pf:Int→Option Int}{pa:Int→LI}(U:UpP us pf pa){x:Int}(hx:x∈us):En pf x (pa x):=by
 obtain⟨sf,U⟩:=U
 have go:∀ (n:Nat){x:Int},sf x≤n→x∈us→En pf x (pa x):=by
  intro n
  induction n with
  |zero =>
   intro x hn hx
   rcases U x hx with⟨h1,h2⟩ | ⟨y,_,_,_,h⟩
   ·rw[h2];exact .z h1
   ·omega
  |succ n ih =>
   intro x hn hx
   rcases U x hx with⟨h1,h2⟩ | ⟨y,h1,h2,h3,h4⟩
   ·rw[h2];exact .z h1
   ·rw[h3];exact .s h1 (ih (by omega) h2)
 exact go _ (Nat.le_refl _) hx
theorem UpP.of {us:LI}{pf:Int→Option Int}(C:Cl us pf) (h:∀ x∈us,∃ l,En pf x l):UpP us pf (paO pf):=⟨fun x=>(paO pf x).length,fun x hx=>by
 obtain⟨l,hl⟩:=h x hx
 cases hl with
 |z h1=>exact .inl ⟨h1,wC (.z h1)⟩
 | @s _ y l h1 t=>exact .inr ⟨y,h1,C x hx y h1,by rw[wC (.s h1 t),wC t],by show(paO pf y).length<(paO pf x).length;rw[wC (.s h1 t),wC t];simp⟩⟩
def zlw (a:Ad):Sp:=fun vs H Q _=>∃ (p dx dp ob:Addr) (pf:Int→Option Int) (pa:Int→LI) (us:LI) (x:Int),vs=[.ref p,.int x]∧WayR a H p pf us dx dp ob∧UpP us pf pa∧x∈us∧∀ (H':Hp),Same H H'→Q (.int (ldr pa x)) H'
theorem wt (T:Txt w K mg a):FnOk P w K mg base CX0 2 a.f_qP a.d_qP ["self", "hand"] (zlw a):=(XX T).imp fun vs H Q E h=>by
 obtain⟨p,dx,dp,ob,pf,pa,us,x,rfl,W,U,hx,k⟩:=h
 refine⟨p,dx,dp,ob,pf,us,x,rfl,W,U.cl,hx,fun ys z H' s hz hor=>?_⟩
 rcases hor with⟨_,h⟩ | ⟨_,h⟩
 ·have e:ldr pa x=z:=by
   unfold ldr
   rw[(U.en hx).fn h,List.getLastD_eq_getLast?,List.getLast?_append]
   simp
  rw[← e]
  exact k _ s
 ·exact absurd ⟨_,U.en hx⟩ h
open L2.Sco (PT PsAt)
noncomputable def jk (lf:Int→Int) (p:Int×Int):Int×Int:=(min (lf p.1) (lf p.2),max (lf p.1) (lf p.2))
def jst (lf:Int→Int) (acc:List ((Int×Int)×(Int×Int))) (p:Int×Int):List ((Int×Int)×(Int×Int)) :=
 if lf p.1=lf p.2 then acc else if jk lf p∈acc.map (·.1) then acc else acc++[(jk lf p,p)]
def jn (lf:Int→Int) (ls:LP):List ((Int×Int)×(Int×Int)):=ls.foldl (jst lf) []
theorem v5 {lf:Int→Int}{ls:LP}{p:Int×Int}:jn lf (ls++[p])=jst lf (jn lf ls) p:=by
 unfold jn
 rw[List.foldl_append]
 rfl
theorem VG {lf:Int→Int}{acc:List ((Int×Int)×(Int×Int))}{p:Int×Int}:(jst lf acc p).length≤acc.length+1:=by
 unfold jst
 split
 ·omega
 ·split
  ·omega
  ·simp
theorem za7 {lf:Int→Int}{ls:LP}:(jn lf ls).length≤ls.length:=by
 suffices ∀ (acc:List ((Int×Int)×(Int×Int))),(ls.foldl (jst lf) acc).length≤acc.length+ls.length by
  have:=this []
  unfold jn
  simpa using this
 induction ls with
 |nil=>intro acc;simp
 |cons p ls ih =>
  intro acc
  have h1:=ih (jst lf acc p)
  have h2:=VG (lf:=lf) (acc:=acc) (p:=p)
  rw[List.foldl_cons,List.length_cons]
  omega
theorem ww {x y:Int}{ms:LI}(pm:ms.Perm [x,y]) (sd:ms.Pairwise (· ≤ ·)):ms=[min x y,max x y]:=by
 have hl:=pm.length_eq
 match ms,hl with
 |[u,v],_ =>
  have h1:u≤v:=(List.pairwise_cons.mp sd).1 v (by simp)
  have hu:u=x∨u=y:=by simpa using pm.mem_iff.mp (show u∈[u,v] by simp)
  have hx:x=u∨x=v:=by simpa using pm.mem_iff.mpr (show x∈[x,y] by simp)
  have hy:y=u∨y=v:=by simpa using pm.mem_iff.mpr (show y∈[x,y] by simp)
  have hv:v=x∨v=y:=by simpa using pm.mem_iff.mp (show v∈[u,v] by simp)
  have e1:u=min x y:=by omega
  have e2:v=max x y:=by omega
  rw[e1,e2]
def kvJ (js:List ((Int×Int)×PT)):List (List Key×V):=js.map fun j=>([Sum.inl j.1.1,Sum.inl j.1.2],V.ref j.2.1)
def tlJ (js:List ((Int×Int)×PT)):List ((Int×Int)×(Int×Int)):=js.map fun j=>(j.1,j.2.2)
theorem ZX {js:List ((Int×Int)×PT)}{k:Int×Int}:(yK (kvJ js) ([Sum.inl k.1,Sum.inl k.2]:List Key)).isSome=decide (k∈js.map (·.1)):=by
 rw[yW]
 apply decide_eq_decide.mpr
 unfold kvJ
 rw[List.map_map]
 constructor
 ·intro h
  obtain⟨j,hj,e⟩:=List.mem_map.mp h
  refine List.mem_map.mpr ⟨j,hj,?_⟩
  have e:([Sum.inl j.1.1,Sum.inl j.1.2]:List Key)=[Sum.inl k.1,Sum.inl k.2]:=e
  injection e with e1 e2
  injection e2 with e2 _
  injection e1 with e1
  injection e2 with e2
  exact Prod.ext e1 e2
 ·intro h
  obtain⟨j,hj,e⟩:=List.mem_map.mp h
  exact List.mem_map.mpr ⟨j,hj,by rw[← e];rfl⟩
def zjr (a:Ad):Sp:=fun vs H Q _=>∃ (p dx dp ob l:Addr) (pf:Int→Option Int) (pa:Int→LI) (us:LI) (bs ls:LP) (rs:List V),vs=[.ref p,.ref l]∧WayAt a H p pf us bs dx dp ob∧UpP us pf pa∧H l=some (.lst rs)∧LnAt H rs ls∧Bd ls∧ls.length≤66∧(∀ q∈ls,q.1∈us∧q.2∈us) ∧
 ∀ (d:Addr) (js:List ((Int×Int)×PT)) (H':Hp),H d=none→H' d=some (.dT (kvJ js))→tlJ js=jn (ldr pa) ls→PsAt H' (js.map (·.2))→Same H H'→Q (.ref d) H'
theorem zdt (T:Txt w K mg a):FnOk P w K mg base CX0 3 a.f_qh a.d_qh ["way", "lines"] (zjr a):=by
 refine T.F_qh.ok sc_qh (fun vs H Q E h=>?_) (fun cdv A outer s H vs Q E hr h=>?_)
 ·obtain⟨p,dx,dp,ob,l,pf,pa,us,bs,ls,rs,rfl,_⟩:=h
  rfl
 ·obtain⟨p,dx,dp,ob,l,pf,pa,us,bs,ls,rs,rfl,W,U,hl,L,B,l66,hin,k⟩:=h
  have hu:=xb hr
  generalize hlf:ldr pa=lf at *
  refine zT (zb (zj (i:=2) sc_qh.nd rfl (Or.inl rfl) yA)
   (zb (zG PassesOwn.never rfl (zC (zg 1)) (zU rfl (zm (zi (i:=3) sc_qh.nd rfl (Or.inl rfl)) (zm (zi (i:=4) sc_qh.nd rfl (Or.inl rfl)) zH)))
    (zb (zj (i:=5) sc_qh.nd rfl (Or.inl rfl) (zX yQ (by rfl) T.n_tuple yR (zN (zl xH (by rfl) T.n_sorted yM (zu (zE (zN (zA (zg 0) (zd (zg 3) za)) (zN (zA (zg 0) (zd (zg 4) za)) za))) za)) za)))
    (ze (zy (zn uS (zx yd (zg 5) zf (fun _ _=>rfl)) (zx yd (zg 5) zf (fun _ _=>rfl)) (zB _))
     (ze (zP (xT hu (zg 2) (zg 5) (zJ (zd (zg 3) (zd (zg 4) za))) ⟨rfl,rfl,rfl,rfl⟩)))
     zo))))
   (ze (zh (zg 2))))) ?_
  refine fun d hd=>?_
  have lr:=L.1
  refine⟨_,rfl,l,rfl,⟨_,SqL.of (Same.new hd _ _ hl)⟩,?_⟩
  refine for_list (xs:=rs) (fun i σ H'=>∃ (js:List ((Int×Int)×PT)) (o3 o4 o5:Option V),σ=[some (.ref p),some (.ref l),some (.ref d),o3,o4,o5]∧H' d=some (.dT (kvJ js))∧tlJ js=jn lf (ls.take i)∧PsAt H' (js.map (·.2))∧Same H H') ?_ ?_ ?_ ?_
  ·exact⟨[],none,none,none,rfl,upd_same,rfl,(fun p hp=>(nomatch hp)),Same.new hd⟩
  ·rintro i σ H' hi ⟨js,o3,o4,o5,_,_,_,_,sm⟩
   exact SqL.of (sm _ _ hl)
  ·rintro i v σ H1 hi ⟨js,o3,o4,o5,rfl,hd1,ej,ps,sm⟩
   obtain⟨⟨x,y⟩,q,hp,rfl,hq⟩:=L.get hi
   have hpm:=List.mem_of_getElem? hp
   obtain⟨hx,hy⟩:=hin _ hpm
   have hbd:=B _ hpm
   dsimp only at hx hy hbd hq
   have ljs:js.length≤66:=by
    have h1:=congrArg List.length ej
    unfold tlJ at h1
    rw[List.length_map] at h1
    have h2:=za7 (lf:=lf) (ls:=ls.take i)
    rw[List.length_take] at h2
    omega
   refine⟨q,_,rfl,SqT.of (sm _ _ hq),rfl,_,_,rfl,_,_,rfl,rfl,?_⟩
   refine⟨_,rfl,p,_,dx,_,_,_,_,_,_,rfl,sm _ _ W.p,rfl,T.cl_Way,T.mt_qP,wt (P:=P) (w:=w) T,hr.m,T.b_qP,_,rfl,p,dx,dp,ob,pf,pa,us,x,rfl,(W.same sm).r,U,hx,fun H2 s2=>?_⟩
   rw[hlf]
   have sm2:=sm.trans s2
   refine⟨_,rfl,p,_,dx,_,_,_,_,_,_,rfl,sm2 _ _ W.p,rfl,T.cl_Way,T.mt_qP,wt (P:=P) (w:=w) T,hr.m,T.b_qP,_,rfl,p,dx,dp,ob,pf,pa,us,y,rfl,(W.same sm2).r,U,hy,fun H3 s3=>?_⟩
   rw[hlf]
   have sm3:=sm2.trans s3
   refine⟨(by show 2≤sizeLine;decide),fun pl hpl=>?_⟩
   have s4:=Same.new (o:=HO.lst [V.int (lf x),V.int (lf y)]) hpl
   refine⟨pl,[lf x,lf y],rfl,SqL.of upd_same,(by show 2<64;decide),fun pm ms hpm' pmm sd=>?_⟩
   rw[ww pmm sd]
   have s5:=s4.trans (Same.new (o:=HO.lst ([min (lf x) (lf y),max (lf x) (lf y)].map V.int)) hpm')
   refine⟨pm,_,rfl,.inl ⟨SqL.of upd_same,fun pt hpt=>?_⟩⟩
   have s6:=s5.trans (Same.new (o:=HO.tup ([min (lf x) (lf y),max (lf x) (lf y)].map V.int)) hpt)
   have ht6:=upd_same (H:=(upd (upd H3 pl (HO.lst [V.int (lf x),V.int (lf y)])) pm (HO.lst ([min (lf x) (lf y),max (lf x) (lf y)].map V.int)))) (a:=pt) (o:=HO.tup ([min (lf x) (lf y),max (lf x) (lf y)].map V.int))
   generalize upd (upd (upd H3 pl (HO.lst [V.int (lf x),V.int (lf y)])) pm (HO.lst ([min (lf x) (lf y),max (lf x) (lf y)].map V.int))) pt (HO.tup ([min (lf x) (lf y),max (lf x) (lf y)].map V.int))=H6 at *
   have t6:=(s2.trans s3).trans s6
   have sm6:=sm.trans t6
   refine⟨_,rfl,pt,_,0,_,rfl,rfl,SqT.of ht6,rfl,_,rfl,pt,_,1,_,rfl,rfl,SqT.of ht6,rfl,rfl,_,rfl,?_⟩
   have etk:ls.take (i+1)=ls.take i++[(x,y)]:=by rw[List.take_add_one,hp];rfl
   by_cases c:lf x=lf y
   ·refine iteN (by rw[c];simp) ?_
    refine⟨js,_,_,_,rfl,t6 _ _ hd1,?_,ps.same t6,sm6⟩
    rw[etk,v5]
    unfold jst
    rw[if_pos c]
    exact ej
   ·refine iteB (by simp;omega) ?_
    refine⟨_,rfl,d,rfl,.inr ⟨_,.inl (t6 _ _ hd1)⟩,_,rfl,_,rfl,_,rfl,(by show 2≤sizeLine;decide),fun pr hpr=>?_⟩
    have s7:=Same.new (o:=HO.tup [V.int x,V.int y]) hpr
    have t7:=t6.trans s7
    have hd7:=t7 _ _ hd1
    have npd:pr≠d:=fun z=>by rw[z,t6 _ _ hd1] at hpr;cases hpr
    have key:(yK (kvJ js) ([Sum.inl (min (lf x) (lf y)),Sum.inl (max (lf x) (lf y))]:List Key)).isSome=decide (jk lf (x,y)∈js.map (·.1)):=ZX (js:=js) (k:=jk lf (x,y))
    have emp:(tlJ js).map (·.1)=js.map (·.1):=by unfold tlJ;rw[List.map_map];rfl
    refine .inr ⟨kvJ js,[Sum.inl (min (lf x) (lf y)),Sum.inl (max (lf x) (lf y))],pt,hd7,rfl,s7 _ _ ht6,by unfold kvJ;rw[List.length_map];exact zk (by omega),fun u hu'=>?_,fun hn=>?_⟩
    ·rw[hu'] at key
     have hk:jk lf (x,y)∈js.map (·.1):=of_decide_eq_true key.symm
     refine⟨js,_,_,_,rfl,hd7,?_,ps.same t7,sm.trans t7⟩
     rw[etk,v5,← ej]
     unfold jst
     rw[if_neg c,if_pos (by rw[emp];exact hk)]
    ·rw[hn] at key
     have hk:jk lf (x,y)∉js.map (·.1):=of_decide_eq_false key.symm
     refine⟨js++[(jk lf (x,y),(pr,x,y))],_,_,_,rfl,?_,?_,?_,Same.updF (sm.trans t7) hd⟩
     ·rw[upd_same]
      rw[L2.putK_new _ hn]
      unfold kvJ
      rw[List.map_append]
      rfl
     ·rw[etk,v5,← ej]
      unfold jst
      rw[if_neg c,if_neg (by rw[emp];exact hk)]
      unfold tlJ
      rw[List.map_append]
      rfl
     ·have hnd:∀ b xs,(upd H6 pr (HO.tup [V.int x,V.int y])) b=some (.tup xs)→b≠d:=fun b xs e z=>by rw[z,hd7] at e;cases e
      rw[List.map_append]
      intro q' hq'
      rcases List.mem_append.mp hq' with z | z
      ·have h1:=ps.same t7 q' z
       exact⟨by rw[upd_ne (hnd _ _ h1.1)];exact h1.1,h1.2⟩
      ·rw[List.mem_singleton.mp z]
       exact⟨by rw[upd_ne npd];exact upd_same,hbd⟩
  ·rintro σ H1 ⟨js,o3,o4,o5,rfl,hd1,ej,ps,sm⟩
   rw[List.take_of_length_le (by omega)] at ej
   exact⟨_,rfl,k d js H1 hd hd1 ej ps sm⟩
inductive WhV:V→Bool→Prop where
 |int (i:Int):WhV (.int i) true
 |non:WhV .non false
 |str (x:Str):WhV (.str x) false
def wM:Sp:=fun vs H Q _=>∃ v b,vs=[v]∧WhV v b∧Q (.bl b) H
theorem vA (T:Txt w K mg a):FnOk P w K mg base CX0 1 a.f_qa a.d_qa ["value"] wM:=by
 refine T.F_qa.ok Us (fun vs H Q E h=>?_) (fun cdv A outer s H vs Q E hr h=>?_)
 ·obtain⟨v,b,rfl,_⟩:=h
  rfl
 ·obtain⟨v,b,rfl,hv,k⟩:=h
  refine zT (ze (zh (xw (zl zR (by rfl) T.n_isinstance zv (zd (zg 0) (zd (yk T.n_int X7) za))) (xh (Yr (zl zR (by rfl) T.n_isinstance zv (zd (zg 0) (zd (yk T.n_bool Yj) za)))))))) ?_
  cases hv with
  |int i =>
   refine⟨_,rfl,_,_,_,_,_,rfl,rfl,.int i,T.k_tint_tint,_,rfl,xM ?_⟩
   exact⟨_,rfl,_,_,_,_,_,rfl,rfl,.int i,T.k_tint_tbool,_,rfl,k⟩
  |non=>exact⟨_,rfl,_,_,_,_,_,rfl,rfl,.non,T.k_tNoneType_tint,_,rfl,iteN rfl k⟩
  |str x=>exact⟨_,rfl,_,_,_,_,_,rfl,rfl,.str x,T.k_tstr_tint,_,rfl,iteN rfl k⟩
def poV (us:LI) (pf:Int→Option Int):V→V
 |.int x=>if x∈us then opV (pf x) else .non
 |_=>.non
def zlv (a:Ad):Sp:=fun vs H Q _=>∃ (p dx dp ob:Addr) (pf:Int→Option Int) (us:LI) (ls:LP) (v:V) (b:Bool),vs=[.ref p,v]∧WayAt a H p pf us ls dx dp ob∧WhV v b∧∀ H',Same H H'→Q (poV us pf v) H'
theorem zdk (T:Txt w K mg a):FnOk P w K mg base CX0 6 a.f_qL a.d_qL ["self", "hand"] (zlv a):=by
 have c_qa:Callee P w K mg base "is_whole" a.f_qa a.d_qa ["value"] 1 wM:=⟨vA T,T.g_qa,T.F_qa.kp,T.b_qa⟩
 have c_qb:Callee P w K mg base "copied" a.f_qb a.d_qb ["value"] (3+2) (VP 3):=⟨xa T 3,T.g_qb,T.F_qb.kp,T.b_qb⟩
 refine T.F_qL.ok sc_qL (fun vs H Q E h=>?_) (fun cdv A outer s H vs Q E hr h=>?_)
 ·obtain⟨p,dx,dp,ob,pf,us,ls,v,b,rfl,_⟩:=h
  rfl
 ·obtain⟨p,dx,dp,ob,pf,us,ls,v,b,rfl,W,hv,k⟩:=h
  refine zT (zb (ve (zG PassesOwn.never rfl (xr (yx (zg 0) rfl)) (zU rfl (zm (zi (i:=2) sc_qL.nd rfl (Or.inl rfl)) (zm (zi (i:=3) sc_qL.nd rfl (Or.inl rfl)) zH)))
    (ze (zy (vc (yN (zn xt (zp c_qa hr.m (zd (zg 2) za)) (zp c_qa hr.m (zd (zg 1) za)) (zB _)) (yB (zn xt (zg 2) (zg 1) (zB _)))))
     (ze (zh (zp c_qb hr.m (zd (zg 3) za))))
     zo))))
   (ze (zh yO))) ?_
  refine⟨_,rfl,p,_,dx,_,_,rfl,W.p,T.cl_Way,T.na_Way_own_parents,rfl,dp,_,rfl,W.dp,fun od S=>?_⟩
  have hz1:=upd_same (H:=H) (a:=dp) (o:=HO.frz od (HO.dK (tabV (fun x=>opV (pf x)) us)))
  have x1:Ext dp H (upd H dp (HO.frz od (HO.dK (tabV (fun x=>opV (pf x)) us)))):=Ext.at
  generalize upd H dp (HO.frz od (HO.dK (tabV (fun x=>opV (pf x)) us)))=H1 at *
  have back:∀ {G:Hp},Same H1 G→Same H (upd G dp (HO.dK (tabV (fun x=>opV (pf x)) us))):=fun {G} sm b o e=>by
   by_cases z:b=dp
   ·rw[z,W.dp] at e;cases e;rw[z];exact upd_same
   ·rw[upd_ne z];exact sm _ _ (x1 _ _ e z)
  refine uB (yl:=yI) (d:=dp) (od:=od) (kvs:=tabV (fun x=>opV (pf x)) us) (fun i σ H'=>∃ (o2 o3:Option V),σ=[some (.ref p),some v,o2,o3]∧Same H1 H'∧∀ x,v=.int x→x∉us.take i) ?_ ?_ ?_ ?_
  ·exact⟨none,none,rfl,fun _ _ h=>h,fun x _=>by simp⟩
  ·rintro i σ H' ⟨o2,o3,_,sm,_⟩
   exact sm _ _ hz1
  ·rintro i kv u σ G G' hkv ⟨o2,o3,rfl,sm,hni⟩ hy
   obtain⟨x,hx,rfl⟩:∃ x,us[i]?=some x∧kv=(Sum.inl x,opV (pf x)):=by
    unfold tabV at hkv
    rw[List.getElem?_map] at hkv
    obtain⟨x,h1,h2⟩:=Option.map_eq_some_iff.mp hkv
    exact⟨x,h1,h2.symm⟩
   obtain⟨p0,hp0,rfl,rfl⟩:=Zb hy
   have etk:us.take (i+1)=us.take i++[x]:=by rw[List.take_add_one,hx];rfl
   have hxu:=List.mem_of_getElem? hx
   have n1:=Same.new (o:=HO.tup [V.int x,opV (pf x)]) hp0
   have sm2:=sm.trans n1
   refine⟨p0,_,rfl,SqT.of upd_same,rfl,_,_,rfl,_,_,rfl,rfl,?_⟩
   generalize upd G p0 (HO.tup [V.int x,opV (pf x)])=G2 at *
   refine⟨_,rfl,_,true,rfl,.int x,_,rfl,v,b,rfl,hv,rfl,_,rfl,?_⟩
   cases hv with
   |non=>exact iteN (by rfl) ⟨_,_,rfl,sm2,fun y hy=>(nomatch hy)⟩
   |str s=>exact iteN (by rfl) ⟨_,_,rfl,sm2,fun y hy=>(nomatch hy)⟩
   |int j =>
    refine iteB (by rfl) ?_
    refine⟨_,rfl,_,rfl,rfl,_,rfl,?_⟩
    by_cases c:x=j
    ·subst c
     refine iteB (by simp) ?_
     refine⟨_,rfl,_,rfl,.inl ⟨by decide,ZM _,?_⟩⟩
     refine .inr ⟨dp,od,_,S,sm2 _ _ hz1,?_⟩
     have e:poV us pf (.int x)=opV (pf x):=if_pos hxu
     have:=k _ (back sm2)
     rw[e] at this
     exact this
    ·refine iteN (by simp[c]) ⟨_,_,rfl,sm2,fun y hy=>?_⟩
     cases hy
     rw[etk]
     exact fun z=>(List.mem_append.mp z).elim (hni j rfl) fun e=>c (List.mem_singleton.mp e).symm
  ·rintro σ H' ⟨o2,o3,rfl,sm,hni⟩
   rw[tabV_len,List.take_length] at hni
   refine .inr ⟨dp,od,_,S,sm _ _ hz1,?_⟩
   have e:poV us pf v=.non:=by
    cases hv with
    |int i=>exact if_neg (hni i rfl)
    |non=>rfl
    |str x=>rfl
   have:=k _ (back sm)
   rw[e] at this
   exact this
open L2.Sco (PT PsAt)
structure WbP (a:Ad) (H:Hp) (p:Addr) (hs:LI) (ls:LP):Prop where
 wh:Hs hs
 wl:Ls hs ls
 l63:ls.length≤63
 at_:∃ dx oh ol d ad,WebAt a H p hs ls dx oh ol d ad
theorem WbP.same {H H':Hp}{p:Addr}{hs:LI}{ls:LP}(h:WbP a H p hs ls) (s:Same H H'):WbP a H' p hs ls:=⟨h.wh,h.wl,h.l63,let ⟨dx,oh,ol,d,ad,W⟩:=h.at_;⟨dx,oh,ol,d,ad,W.same s⟩⟩
def zcJ (a:Ad):Sp:=fun vs H Q _=>∃ (p:Addr) (hs:LI) (ls:LP) (dx oh ol d:Addr) (ad:Int→Addr),vs=[.ref p]∧WebAt a H p hs ls dx oh ol d ad∧∀ q zs,H q=none→LnAt H zs (srt ls)→Q (.ref q) (upd H q (.lst zs))
theorem XW (T:Txt w K mg a):FnOk P w K mg base CX0 1 a.f_qS a.d_qS ["self"] (zcJ a):=by
 refine T.F_qS.ok zc0 (fun vs H Q E h=>?_) (fun cdv A outer s H vs Q E hr h=>?_)
 ·obtain⟨p,hs,ls,dx,oh,ol,d,ad,rfl,_⟩:=h
  rfl
 ·obtain⟨p,hs,ls,dx,oh,ol,d,ad,rfl,W,k⟩:=h
  refine zT (ze (zh (zX yu (by rfl) T.n_list bt_list (zu (yx (zg 0) rfl) za)))) ?_
  obtain⟨zs,h1,h2⟩:=W.ol
  exact⟨_,rfl,p,_,dx,_,_,rfl,W.p,T.cl_Web,T.na_Web_own_lines,rfl,ol,_,rfl,.inl (SqL.of h1),fun q hq=>k q zs hq h2⟩
theorem uF {hs:LI}{ls:LP}{x y:Int}(L:Ls hs ls) (h:adB ls x y=true):y∈hs:=by
 unfold adB at h
 rw[Bool.or_eq_true,decide_eq_true_eq,decide_eq_true_eq] at h
 rcases h with h | h
 ·exact(L.ok _ h).2.1
 ·exact(L.ok _ h).1
theorem uE {ls:LP}{x y:Int}:adB ls x y=adB ls y x:=by
 unfold adB
 rw[Bool.or_comm]
def zlx (a:Ad):Sp:=fun vs H Q _=>∃ (p:Addr) (x y:Int) (hs:LI) (ls:LP) (dx oh ol d:Addr) (ad:Int→Addr),vs=[.ref p,.int x,.int y]∧WebAt a H p hs ls dx oh ol d ad∧x∈hs∧y∈hs∧Q (.bl (adB ls x y)) H
theorem U4 (T:Txt w K mg a):FnOk P w K mg base CX0 3 a.f_qU a.d_qU ["self", "one", "other"] (zlx a):=by
 refine T.F_qU.ok zcY (fun vs H Q E h=>?_) (fun cdv A outer s H vs Q E hr h=>?_)
 ·obtain⟨p,x,y,hs,ls,dx,oh,ol,d,ad,rfl,_⟩:=h
  rfl
 ·obtain⟨p,x,y,hs,ls,dx,oh,ol,d,ad,rfl,W,hx,hy,k⟩:=h
  have hu:=xb hr
  refine zT (ze (zh (xw (zA (zg 0) (zd (zg 1) za)) (xw (zA (zg 0) (zd (zg 2) za)) (xh (yf wa (zg 2) (xv hu (yx (zg 0) rfl) (zg 1) (fun _ _=>rfl)) (by with_unfolding_all rfl))))))) ?_
  refine⟨_,rfl,p,_,dx,_,_,_,_,_,_,rfl,W.p,rfl,T.cl_Web,T.mt_qT,ZN (P:=P) (w:=w) T,hr.m,T.b_qT,_,rfl,p,x,hs,ls,dx,oh,ol,d,ad,rfl,W,hx,_,rfl,xM ?_⟩
  refine⟨_,rfl,p,_,dx,_,_,_,_,_,_,rfl,W.p,rfl,T.cl_Web,T.mt_qT,ZN (P:=P) (w:=w) T,hr.m,T.b_qT,_,rfl,p,y,hs,ls,dx,oh,ol,d,ad,rfl,W,hy,_,rfl,xM ?_⟩
  refine⟨_,rfl,_,rfl,p,_,dx,_,_,rfl,W.p,T.cl_Web,T.na_Web_near,rfl,_,rfl,d,V.ref (ad x),rfl,wK W.nr.d hx,ad x,_,rfl,.inl (SqL.of (W.nr.nb x hx)),rfl,xc _,?_⟩
  have e:inV (.int y) ((nbs ls x).map V.int)=adB ls x y:=by rw[xF,Yn]
  rw[e]
  exact k
structure Brs (hs:LI) (bs:LP):Prop where
 nd:bs.Nodup
 ok:∀ p∈bs,p.1∈hs∧p.2∈hs∧p.1<p.2
theorem WebAt.frz {H G:Hp}{p dx oh ol d d0:Addr}{hs us:LI}{ls:LP}{ad:Int→Addr}{pf:Int→Option Int}(W:WebAt a H p hs ls dx oh ol d0 ad) (hd:H d=some (.dK (tabV (fun x=>opV (pf x)) us))) (wh:Hs hs) (x:Ext d H G):WebAt a G p hs ls dx oh ol d0 ad:=by
 have nt:∀ {b:Addr}{o:HO},H b=some o→(∀ kvs,o≠.dK kvs)→G b=some o:=fun {b o} e n=>x b o e fun z=>by rw[z,hd] at e;injection e with e;exact n _ e.symm
 have n0:d0≠d:=fun z=>by
  have e:=W.nr.d
  rw[z,hd] at e
  injection e with e
  injection e with e
  have l1:=wh.l1
  cases hs with
  |nil=>simp at l1
  |cons h hs =>
   cases us with
   |nil=>cases e
   |cons u us =>
    unfold tabV tab at e
    rw[List.map_cons,List.map_cons] at e
    injection e with e _
    injection e with _ e
    have e:opV (pf u)=V.ref (ad h):=e
    cases hp:pf u with
    |none=>rw[hp] at e;cases e
    |some y=>rw[hp] at e;cases e
 obtain⟨zs,o1,o2⟩:=W.ol
 exact⟨nt W.p (fun _ z=>by cases z),nt W.oh (fun _ z=>by cases z),⟨x _ _ W.nr.d n0,fun h hm=>nt (W.nr.nb h hm) (fun _ z=>by cases z)⟩,zs,nt o1 (fun _ z=>by cases z),o2.1,fun i r q h1 h2=>by
  obtain⟨t,e1,e2⟩:=o2.2 i r q h1 h2
  exact⟨t,e1,nt e2 (fun _ z=>by cases z)⟩⟩
def zjw (a:Ad):Sp:=fun vs H Q _=>∃ (p d:Addr) (hs us:LI) (ls:LP) (pf:Int→Option Int),vs=[.ref p,.ref d]∧WbP a H p hs ls∧H d=some (.dK (tabV (fun x=>opV (pf x)) us))∧us.Nodup∧(∀ x,x∈us↔x∈hs)∧Cl us pf∧∀ (b:Bool) (H':Hp),(b=true↔∀ x∈us,∀ y,pf x=some y→adB ls x y=true)→Same H H'→Q (.bl b) H'
theorem zdy (T:Txt w K mg a):FnOk P w K mg base CX0 4 a.f_qc a.d_qc ["web", "parents"] (zjw a):=by
 refine T.F_qc.ok sc_qc (fun vs H Q E h=>?_) (fun cdv A outer s H vs Q E hr h=>?_)
 ·obtain⟨p,d,hs,us,ls,pf,rfl,_⟩:=h
  rfl
 ·obtain⟨p,d,hs,us,ls,pf,rfl,WP,hd,nd,hm,C,k⟩:=h
  obtain⟨wdx,oh,ol,d0,ad,W⟩:=WP.at_
  have hlen:us.length=hs.length:=Nat.le_antisymm (we nd fun x hx=>(hm x).mp hx) (we (w4 WP.wh) fun x hx=>(hm x).mpr hx)
  refine zT (zb (zy (vc (yo (zI (zF (zl zR (by rfl) T.n_isinstance zv (zd (zg 1) (zd (yk T.n_dict wn) za))))) (yj (zn uS (zl vI (by rfl) T.n_len yi (zd (zg 1) za)) (zl zw (by rfl) T.n_len yi (zN (zW (zg 0)) za)) (zB _)))))
    (ze (zh zD))
    zo)
   (zb (ve (zG PassesOwn.never rfl (xr (zg 1)) (zU rfl (zm (zi (i:=2) sc_qc.nd rfl (Or.inl rfl)) (zm (zi (i:=3) sc_qc.nd rfl (Or.inl rfl)) zH)))
    (zb (zy (zI (zF (zA (zg 0) (zd (zg 2) za))))
     (ze (zh zD))
     zo)
    (ze (zy (vc (yN (zn wU (zg 3) yO (zB _)) (yB (zI (zF (zA (zg 0) (zd (zg 2) (zd (zg 3) za))))))))
     (ze (zh zD))
     zo)))))
   (ze (zh zD)))) ?_
  refine⟨_,rfl,_,_,_,_,_,rfl,rfl,.dK hd,T.k_tdict_tdict,_,rfl,iteN rfl ?_⟩
  refine⟨_,rfl,d,_,rfl,hd,?_⟩
  refine⟨_,rfl,p,_,wdx,_,_,_,_,_,_,rfl,W.p,rfl,T.cl_Web,T.mt_qR,vB (P:=P) (w:=w) T,hr.m,T.b_qR,p,hs,ls,wdx,oh,ol,d0,ad,rfl,W,fun l hl=>?_⟩
  have s1:=Same.new (o:=HO.lst (hs.map V.int)) hl
  have hl1:=upd_same (H:=H) (a:=l) (o:=HO.lst (hs.map V.int))
  generalize upd H l (HO.lst (hs.map V.int))=H1 at *
  refine⟨l,_,rfl,.inl (SqL.of hl1),rfl,_,rfl,iteN (by rw[tabV_len,List.length_map,hlen];simp) ?_⟩
  refine⟨_,rfl,d,_,rfl,s1 _ _ hd,fun od S=>?_⟩
  have hd1:=s1 _ _ hd
  have hz1:=upd_same (H:=H1) (a:=d) (o:=HO.frz od (HO.dK (tabV (fun x=>opV (pf x)) us)))
  have x1:Ext d H1 (upd H1 d (HO.frz od (HO.dK (tabV (fun x=>opV (pf x)) us)))):=Ext.at
  have W1:=(W.same s1).frz hd1 WP.wh x1
  generalize upd H1 d (HO.frz od (HO.dK (tabV (fun x=>opV (pf x)) us)))=G1 at *
  have back:∀ {G:Hp},Same G1 G→Same H (upd G d (HO.dK (tabV (fun x=>opV (pf x)) us))):=fun {G} sm b o e=>by
   by_cases z:b=d
   ·rw[z,hd] at e;cases e;rw[z];exact upd_same
   ·rw[upd_ne z];exact sm _ _ (x1 _ _ (s1 _ _ e) z)
  refine uB (yl:=yI) (d:=d) (od:=od) (kvs:=tabV (fun x=>opV (pf x)) us) (fun i σ H'=>∃ (o2 o3:Option V),σ=[some (.ref p),some (.ref d),o2,o3]∧Same G1 H'∧∀ x∈us.take i,∀ y,pf x=some y→adB ls x y=true) ?_ ?_ ?_ ?_
  ·exact⟨none,none,rfl,fun _ _ h=>h,fun x hx=>by simp at hx⟩
  ·rintro i σ H' ⟨o2,o3,_,sm,_⟩
   exact sm _ _ hz1
  ·rintro i kv u σ G G' hkv ⟨o2,o3,rfl,sm,gd⟩ hy
   obtain⟨x,hx,rfl⟩:∃ x,us[i]?=some x∧kv=(Sum.inl x,opV (pf x)):=by
    unfold tabV at hkv
    rw[List.getElem?_map] at hkv
    obtain⟨x,h1,h2⟩:=Option.map_eq_some_iff.mp hkv
    exact⟨x,h1,h2.symm⟩
   obtain⟨p0,hp0,rfl,rfl⟩:=Zb hy
   have hxu:=List.mem_of_getElem? hx
   have etk:us.take (i+1)=us.take i++[x]:=by rw[List.take_add_one,hx];rfl
   have gd2:(∀ y,pf x=some y→adB ls x y=true)→∀ u∈us.take (i+1),∀ y,pf u=some y→adB ls u y=true:=fun h u hu=>by
    rw[etk] at hu
    rcases List.mem_append.mp hu with e | e
    ·exact gd u e
    ·rw[List.mem_singleton.mp e];exact h
   have n1:=Same.new (o:=HO.tup [V.int x,opV (pf x)]) hp0
   refine⟨p0,_,rfl,SqT.of upd_same,rfl,_,_,rfl,_,_,rfl,rfl,?_⟩
   have sm2:=sm.trans n1
   generalize upd G p0 (HO.tup [V.int x,opV (pf x)])=G2 at *
   have W2:=W1.same sm2
   refine⟨_,rfl,p,_,wdx,_,_,_,_,_,_,rfl,W2.p,rfl,T.cl_Web,T.mt_qT,ZN (P:=P) (w:=w) T,hr.m,T.b_qT,_,rfl,p,x,hs,ls,wdx,oh,ol,d0,ad,rfl,W2,(hm x).mp hxu,_,rfl,iteN rfl ?_⟩
   cases hpx:pf x with
   |none=>exact⟨_,rfl,rfl,_,rfl,iteN rfl ⟨_,_,rfl,sm2,gd2 fun y h=>by rw[hpx] at h;cases h⟩⟩
   |some y =>
    refine⟨_,rfl,rfl,_,rfl,xM ?_⟩
    refine⟨_,rfl,p,_,wdx,_,_,_,_,_,_,rfl,W2.p,rfl,T.cl_Web,T.mt_qU,U4 (P:=P) (w:=w) T,hr.m,T.b_qU,_,rfl,_,rfl,p,x,y,hs,ls,wdx,oh,ol,d0,ad,rfl,W2,(hm x).mp hxu,(hm y).mp (C x hxu y hpx),_,rfl,?_⟩
    cases hb:adB ls x y with
    |true=>exact iteN rfl ⟨_,_,rfl,sm2,gd2 fun y' h=>by rw[hpx] at h;cases h;exact hb⟩
    |false =>
     refine xM ?_
     refine .inr ⟨d,od,_,S,sm2 _ _ hz1,k false _ ⟨fun z=>(nomatch z),fun h=>?_⟩ (back sm2)⟩
     rw[h x hxu y hpx] at hb
     cases hb
  ·rintro σ H' ⟨o2,o3,rfl,sm,gd⟩
   rw[tabV_len,List.take_length] at gd
   exact .inr ⟨d,od,_,S,sm _ _ hz1,k true _ ⟨fun _=>gd,fun _=>rfl⟩ (back sm)⟩
open L2.Sco (PT PsAt)
def zjt (a:Ad):Sp:=fun vs H Q _=>∃ (p q dx dp ob:Addr) (hs us:LI) (ls bs:LP) (pf:Int→Option Int),vs=[.ref p,.ref q]∧WbP a H p hs ls∧WayAt a H q pf us bs dx dp ob∧(∀ x,x∈us↔x∈hs)∧Cl us pf∧∀ (b:Bool) (H':Hp),(b=true↔∀ x∈us,∃ l,En pf x l)→Same H H'→Q (.bl b) H'
theorem zdv (T:Txt w K mg a):FnOk P w K mg base CX0 7 a.f_qd a.d_qd ["web", "way"] (zjt a):=by
 refine T.F_qd.ok sc_qd (fun vs H Q E h=>?_) (fun cdv A outer s H vs Q E hr h=>?_)
 ·obtain⟨p,q,dx,dp,ob,hs,us,ls,bs,pf,rfl,_⟩:=h
  rfl
 ·obtain⟨p,q,dx,dp,ob,hs,us,ls,bs,pf,rfl,WP,Y,hm,C,k⟩:=h
  obtain⟨wdx,oh,ol,d0,ad,W⟩:=WP.at_
  refine zT (zb (zG PassesOwn.never rfl (zC (zW (zg 0))) (zi (i:=2) sc_qd.nd rfl (Or.inl rfl))
    (ze (zy (zn wU (zA (zg 1) (zN (zA (zg 1) (zd (zg 2) za)) za)) yO (zB _))
     (ze (zh zD))
     zo)))
   (ze (zh zD))) ?_
  refine⟨_,rfl,p,_,wdx,_,_,_,_,_,_,rfl,W.p,rfl,T.cl_Web,T.mt_qR,vB (P:=P) (w:=w) T,hr.m,T.b_qR,p,hs,ls,wdx,oh,ol,d0,ad,rfl,W,fun l hl=>?_⟩
  have s1:=Same.new (o:=HO.lst (hs.map V.int)) hl
  have hl1:=upd_same (H:=H) (a:=l) (o:=HO.lst (hs.map V.int))
  generalize upd H l (HO.lst (hs.map V.int))=H1 at *
  refine⟨l,rfl,⟨_,SqL.of hl1⟩,?_⟩
  refine for_list (xs:=hs.map V.int) (fun i σ H'=>∃ (o2:Option V),σ=[some (.ref p),some (.ref q),o2]∧Same H1 H'∧∀ x∈hs.take i,∃ l,En pf x l) ?_ ?_ ?_ ?_
  ·exact⟨none,rfl,fun _ _ h=>h,fun x hx=>by simp at hx⟩
  ·rintro i σ H' hi ⟨o2,_,sm,_⟩
   exact SqL.of (sm _ _ hl1)
  ·rintro i v σ G hi ⟨o2,rfl,sm,gd⟩
   rw[List.getElem?_map] at hi
   obtain⟨x,hx,rfl⟩:=Option.map_eq_some_iff.mp hi
   have hxu:=(hm x).mpr (List.mem_of_getElem? hx)
   have etk:hs.take (i+1)=hs.take i++[x]:=by rw[List.take_add_one,hx];rfl
   have Y1:=(Y.same s1).same sm
   refine⟨_,rfl,q,_,dx,_,_,_,_,_,_,rfl,Y1.p,rfl,T.cl_Way,T.mt_qL,zdk (P:=P) (w:=w) T,hr.m,T.b_qL,_,rfl,q,_,dx,_,_,_,_,_,_,rfl,Y1.p,rfl,T.cl_Way,T.mt_qP,XX (P:=P) (w:=w) T,hr.m,T.b_qP,_,rfl,q,dx,dp,ob,pf,us,x,rfl,Y1.r,C,hxu,fun ys z G2 s2 hz hor=>?_⟩
   refine⟨q,dx,dp,ob,pf,us,bs,.int z,true,rfl,Y1.same s2,.int _,fun G3 s3=>?_⟩
   have e:poV us pf (.int z)=opV (pf z):=if_pos hz
   rw[e]
   rcases hor with⟨h1,h2⟩ | ⟨h1,h2⟩
   ·rw[h1]
    refine⟨rfl,_,rfl,iteN rfl ⟨_,rfl,sm.trans (s2.trans s3),fun u hu=>?_⟩⟩
    rw[etk] at hu
    rcases List.mem_append.mp hu with e | e
    ·exact gd u e
    ·rw[List.mem_singleton.mp e];exact⟨_,h2⟩
   ·cases hpz:pf z with
    |none=>exact absurd hpz h1
    |some y =>
     refine⟨rfl,_,rfl,xM ?_⟩
     exact k false _ ⟨fun z=>(nomatch z),fun h=>absurd (h x hxu) h2⟩ (s1.trans (sm.trans (s2.trans s3)))
  ·rintro σ G ⟨o2,rfl,sm,gd⟩
   rw[List.length_map,List.take_length] at gd
   exact k true _ ⟨fun _ x hx=>gd x ((hm x).mp hx),fun _=>rfl⟩ (s1.trans sm)
def BrL (ls bs:LP):Prop:=∀ b∈bs,adB ls b.1 b.2=true
def zjp (a:Ad):Sp:=fun vs H Q _=>∃ (p q t dx dp ob:Addr) (hs us:LI) (ls bs:LP) (pf:Int→Option Int) (pa:Int→LI) (x y:Int),vs=[.ref p,.ref q,.ref t]∧WbP a H p hs ls∧WayAt a H q pf us bs dx dp ob∧(∀ x,x∈us↔x∈hs)∧UpP us pf pa∧adB ls x y=true∧H t=some (.tup [.int x,.int y])∧∀ (b:Bool) (H':Hp),(b=true↔x≤y∧ldr pa x≠ldr pa y)→Same H H'→Q (.bl b) H'
theorem zdq (T:Txt w K mg a):FnOk P w K mg base CX0 4 a.f_qe a.d_qe ["web", "way", "bridge"] (zjp a):=by
 refine T.F_qe.ok zcW (fun vs H Q E h=>?_) (fun cdv A outer s H vs Q E hr h=>?_)
 ·obtain⟨p,q,t,dx,dp,ob,hs,us,ls,bs,pf,pa,x,y,rfl,_⟩:=h
  rfl
 ·obtain⟨p,q,t,dx,dp,ob,hs,us,ls,bs,pf,pa,x,y,rfl,WP,Y,hm,U,hadj,ht,k⟩:=h
  obtain⟨wdx,oh,ol,d0,ad,W⟩:=WP.at_
  have hyh:=uF WP.wl hadj
  have hxh:=uF WP.wl (by rw[uE];exact hadj:adB ls y x=true)
  have hx:=(hm x).mpr hxh
  have hy:=(hm y).mpr hyh
  refine zT (zb (zy (vc (yo (zI (zF (zl zR (by rfl) T.n_isinstance zv (zd (zg 2) (zd (yk T.n_tuple yR) za))))) (yj (zn uS (zl zw (by rfl) T.n_len yi (zd (zg 2) za)) zf (zB _)))))
    (ze (zh zD))
    zo)
   (zb (zy (vc (yo (zI (zF (zA (zg 0) (zu (zx yd (zg 2) zf (fun _ _=>rfl)) (zu (zx yd (zg 2) zf (fun _ _=>rfl)) za))))) (yj (zn uT (zx yd (zg 2) zf (fun _ _=>rfl)) (zx yd (zg 2) zf (fun _ _=>rfl)) (zB _)))))
    (ze (zh zD))
    zo)
   (ze (zh (yf uS (zA (zg 1) (zu (zx yd (zg 2) zf (fun _ _=>rfl)) za)) (zA (zg 1) (zu (zx yd (zg 2) zf (fun _ _=>rfl)) za)) (zB _)))))) ?_
  refine⟨_,rfl,_,_,_,_,_,rfl,rfl,.tup ht,T.k_ttuple_ttuple,_,rfl,iteN rfl ?_⟩
  refine⟨_,rfl,t,_,rfl,.inr (SqT.of ht),rfl,_,rfl,iteN rfl ?_⟩
  refine⟨_,rfl,p,_,wdx,_,_,_,_,_,_,rfl,W.p,rfl,T.cl_Web,T.mt_qU,U4 (P:=P) (w:=w) T,hr.m,T.b_qU,_,rfl,t,_,0,_,rfl,rfl,SqT.of ht,rfl,_,rfl,t,_,1,_,rfl,rfl,SqT.of ht,rfl,p,x,y,hs,ls,wdx,oh,ol,d0,ad,rfl,W,hxh,hyh,_,rfl,iteN (by rw[hadj];rfl) ?_⟩
  by_cases c:x>y
  ·refine⟨_,rfl,t,_,0,_,rfl,rfl,SqT.of ht,rfl,_,rfl,t,_,1,_,rfl,rfl,SqT.of ht,rfl,_,_,rfl,rfl,_,rfl,iteB (by simp;omega) ?_⟩
   exact k false _ ⟨fun z=>(nomatch z),fun h=>by omega⟩ (fun _ _ h=>h)
  refine⟨_,rfl,t,_,0,_,rfl,rfl,SqT.of ht,rfl,_,rfl,t,_,1,_,rfl,rfl,SqT.of ht,rfl,_,_,rfl,rfl,_,rfl,iteN (by simp;omega) ?_⟩
  refine⟨_,rfl,q,_,dx,_,_,_,_,_,_,rfl,Y.p,rfl,T.cl_Way,T.mt_qP,wt (P:=P) (w:=w) T,hr.m,T.b_qP,_,rfl,t,_,0,_,rfl,rfl,SqT.of ht,rfl,q,dx,dp,ob,pf,pa,us,x,rfl,Y.r,U,hx,fun G2 s2=>?_⟩
  refine⟨_,rfl,q,_,dx,_,_,_,_,_,_,rfl,s2 _ _ Y.p,rfl,T.cl_Way,T.mt_qP,wt (P:=P) (w:=w) T,hr.m,T.b_qP,_,rfl,t,_,1,_,rfl,rfl,SqT.of (s2 _ _ ht),rfl,q,dx,dp,ob,pf,pa,us,y,rfl,(Y.same s2).r,U,hy,fun G3 s3=>?_⟩
  refine⟨rfl,?_⟩
  refine k _ _ ?_ (s2.trans s3)
  constructor
  ·intro z
   exact⟨by omega,fun e=>by rw[e] at z;simp at z⟩
  ·rintro⟨_,z⟩
   have e:decide (V.int (ldr pa x)=V.int (ldr pa y))=false:=decide_eq_false fun e=>z (by injection e)
   rw[e]
   rfl
def GdB (lf:Int→Int) (bs:LP):Prop:=(∀ b∈bs,b.1≤b.2∧lf b.1≠lf b.2)∧bs.Nodup
def zjv (a:Ad):Sp:=fun vs H Q _=>∃ (p q l dx dp ob:Addr) (hs us:LI) (ls bs:LP) (rs:List V) (pf:Int→Option Int) (pa:Int→LI),vs=[.ref p,.ref q,.ref l]∧WbP a H p hs ls∧WayAt a H q pf us bs dx dp ob∧(∀ x,x∈us↔x∈hs)∧UpP us pf pa∧BrL ls bs∧H l=some (.lst rs)∧LnAt H rs bs∧∀ (b:Bool) (H':Hp),(b=true↔GdB (ldr pa) bs)→Same H H'→Q (.bl b) H'
theorem zdx (T:Txt w K mg a):FnOk P w K mg base CX0 5 a.f_qf a.d_qf ["web", "way", "bridges"] (zjv a):=by
 have c_qe:Callee P w K mg base "is_bridge" a.f_qe a.d_qe ["web", "way", "bridge"] 4 (zjp a):=⟨zdq T,T.g_qe,T.F_qe.kp,T.b_qe⟩
 refine T.F_qf.ok sc_qf (fun vs H Q E h=>?_) (fun cdv A outer s H vs Q E hr h=>?_)
 ·obtain⟨p,q,l,dx,dp,ob,hs,us,ls,bs,rs,pf,pa,rfl,_⟩:=h
  rfl
 ·obtain⟨p,q,l,dx,dp,ob,hs,us,ls,bs,rs,pf,pa,rfl,WP,Y,hm,U,BL,hl,hrs,k⟩:=h
  have l66:=Y.l66
  have hu:=xb hr
  refine zT (zb (zy (zI (zF (zl zR (by rfl) T.n_isinstance zv (zd (zg 2) (zd (yk T.n_list bt_list) za)))))
    (ze (zh zD))
    zo)
   (zb (zj (i:=3) sc_qf.nd rfl (Or.inl rfl) yA)
   (zb (zG PassesOwn.never rfl (zC (zg 2)) (zi (i:=4) sc_qf.nd rfl (Or.inl rfl))
    (zb (zy (vc (yo (zI (zF (zp c_qe hr.m (zd (zg 0) (zd (zg 1) (zd (zg 4) za)))))) (yj (xN (wG hu (zg 4) (zg 3))))))
     (ze (zh zD))
     zo)
    (ze (yL hu (zg 3) (zg 4) zD rfl))))
   (ze (zh zD))))) ?_
  refine⟨_,rfl,_,_,_,_,_,rfl,rfl,.lst hl,T.k_tlist_tlist,_,rfl,iteN rfl ?_⟩
  refine fun d hd=>?_
  refine⟨_,rfl,l,rfl,⟨_,SqL.of (Same.new hd _ _ hl)⟩,?_⟩
  refine for_list (K:=K) (a:=l) (xs:=rs) (fun i σ H'=>∃ (kvs:List (List Key×V)) (o:Option V),σ=[some (.ref p),some (.ref q),some (.ref l),some (.ref d),o]∧H' d=some (.dT kvs)∧kvs.map (·.1)=(bs.take i).map yn∧Same H H'∧GdB (ldr pa) (bs.take i)) ?_ ?_ ?_ ?_
  ·exact⟨[],none,rfl,upd_same,by simp,Same.new hd,by simp[GdB]⟩
  ·rintro i σ H' _ ⟨kvs,o,_,_,_,sm,_⟩
   exact SqL.of (sm _ _ hl)
  ·rintro i x σ H' hi ⟨kvs,o,rfl,hd',hk,sm,gd⟩
   obtain⟨b,t,hp,rfl,ht⟩:=(hrs.same sm).get hi
   have hbm:b∈bs:=List.mem_of_getElem? hp
   have etk:bs.take (i+1)=bs.take i++[b]:=by rw[List.take_add_one,hp];rfl
   refine⟨_,rfl,_,rfl,_,rfl,p,q,t,dx,dp,ob,hs,us,ls,bs,pf,pa,b.1,b.2,rfl,WP.same sm,Y.same sm,hm,U,BL b hbm,ht,fun bb H2 hbb s2=>⟨_,rfl,?_⟩⟩
   cases hbc:bb with
   |false =>
    refine xM ?_
    refine k false _ ⟨fun z=>(nomatch z),fun h=>?_⟩ (sm.trans s2)
    have:=hbb.mpr (h.1 b hbm)
    rw[hbc] at this
    cases this
   |true =>
   refine iteN rfl ?_
   have hd2:=s2 _ _ hd'
   have ht2:=s2 _ _ ht
   by_cases hin:b∈bs.take i
   ·have hs':(yK kvs (yn b)).isSome=true:=by
     rw[← yH]
     have h1:yn b∈kvs.map (·.1):=by rw[hk];exact List.mem_map_of_mem hin
     obtain⟨kv,h2,h3⟩:=List.mem_map.mp h1
     exact List.any_eq_true.mpr ⟨kv,h2,decide_eq_true h3⟩
    refine⟨_,rfl,_,rfl,d,_,rfl,DGet.t (k:=yn b) hd2 ht2,_,rfl,iteB hs' ?_⟩
    exact k false _ ⟨fun z=>(nomatch z),fun h=>absurd hin (wc h.2 hp)⟩ (sm.trans s2)
   have hnew:yn b∉kvs.map (·.1):=by
    rw[hk]
    intro z
    obtain⟨p',m',e'⟩:=List.mem_map.mp z
    rw[yz e'] at m'
    exact hin m'
   have hz:kvs.length≤1000:=by
    have:=congrArg List.length hk
    rw[List.length_map,List.length_map,List.length_take] at this
    omega
   refine⟨_,rfl,_,rfl,d,_,rfl,DGet.t (k:=yn b) hd2 ht2,_,rfl,iteN ?_ ?_⟩
   ·exact wJ hnew
   ·refine⟨_,rfl,_,rfl,d,_,rfl,DPut.t (k:=yn b) hd2 ht2 (zk hz),?_⟩
    refine⟨_,_,rfl,upd_same,?_,(sm.trans s2).updF hd,?_⟩
    ·rw[putK_new hnew,List.map_append,hk,etk,List.map_append]
     rfl
    ·rw[etk]
     refine⟨fun c hc=>?_,?_⟩
     ·rcases List.mem_append.mp hc with e | e
      ·exact gd.1 c e
      ·rw[List.mem_singleton.mp e];exact hbb.mp hbc
     ·rw[List.nodup_append]
      exact⟨gd.2,by simp,fun u hu v hv e=>hin (by rw[List.mem_singleton.mp hv] at e;rw[← e];exact hu)⟩
  ·rintro σ H' ⟨kvs,o,_,_,_,sm,gd⟩
   rw[hrs.1,List.take_length] at gd
   exact k true H' ⟨fun _=>gd,fun _=>rfl⟩ sm
structure GrB (us:LI) (ls:LP) (pf:Int→Option Int) (bs:LP):Prop where
 ad:∀ x∈us,∀ y,pf x=some y→adB ls x y=true
 en:∀ x∈us,∃ l,En pf x l
 gd:GdB (ldr (paO pf)) bs
def zcM (a:Ad):Sp:=fun vs H Q _=>∃ (p q dx dp ob:Addr) (hs us:LI) (ls bs:LP) (pf:Int→Option Int),vs=[.ref p,.ref q]∧WbP a H p hs ls∧WayAt a H q pf us bs dx dp ob∧(∀ x,x∈us↔x∈hs)∧Cl us pf∧BrL ls bs∧∀ (b:Bool) (H':Hp),(b=true↔GrB us ls pf bs)→Same H H'→Q (.bl b) H'
theorem U3 (T:Txt w K mg a):FnOk P w K mg base CX0 8 a.f_qg a.d_qg ["web", "way"] (zcM a):=by
 have c_qc:Callee P w K mg base "are_parents" a.f_qc a.d_qc ["web", "parents"] 4 (zjw a):=⟨zdy T,T.g_qc,T.F_qc.kp,T.b_qc⟩
 have c_qd:Callee P w K mg base "come_to_leaders" a.f_qd a.d_qd ["web", "way"] 7 (zjt a):=⟨zdv T,T.g_qd,T.F_qd.kp,T.b_qd⟩
 have c_qf:Callee P w K mg base "are_bridges" a.f_qf a.d_qf ["web", "way", "bridges"] 5 (zjv a):=⟨zdx T,T.g_qf,T.F_qf.kp,T.b_qf⟩
 refine T.F_qg.ok zcV (fun vs H Q E h=>?_) (fun cdv A outer s H vs Q E hr h=>?_)
 ·obtain⟨p,q,dx,dp,ob,hs,us,ls,bs,pf,rfl,_⟩:=h
  rfl
 ·obtain⟨p,q,dx,dp,ob,hs,us,ls,bs,pf,rfl,WP,Y,hm,C,BL,k⟩:=h
  refine zT (zb (zy (vc (yo (zI (zF (zl zR (by rfl) T.n_isinstance zv (zd (zg 1) (zd (Yt T.g_Way) za))))) (yj (zI (zF (zp c_qc hr.m (zd (zg 0) (zN (zW (zg 1)) za))))))))
    (ze (zh zD))
    zo)
   (ze (zh (xw (zp c_qd hr.m (zd (zg 0) (zd (zg 1) za))) (xh (zp c_qf hr.m (zd (zg 0) (zd (zg 1) (zN (zW (zg 1)) za))))))))) ?_
  refine⟨_,rfl,_,_,_,_,_,rfl,rfl,T.ty_Way H q dx _ Y.p,T.k_Way_Way,_,rfl,iteN rfl ?_⟩
  refine⟨_,rfl,_,rfl,q,_,dx,_,_,_,_,_,_,rfl,Y.p,rfl,T.cl_Way,T.mt_qM,zdz (P:=P) (w:=w) T,hr.m,T.b_qM,q,dx,dp,ob,pf,us,bs,rfl,Y,fun d H1 hd hd1 s1=>?_⟩
  refine⟨p,d,hs,us,ls,pf,rfl,WP.same s1,hd1,Y.nd,hm,C,fun b1 H2 hb1 s2=>⟨_,rfl,?_⟩⟩
  have s02:=s1.trans s2
  cases hc1:b1 with
  |false=>exact xM (k false _ ⟨fun z=>(nomatch z),fun h=>by have:=hb1.mpr h.ad;rw[hc1] at this;cases this⟩ s02)
  |true =>
  refine iteN rfl ?_
  refine⟨_,rfl,_,rfl,p,q,dx,dp,ob,hs,us,ls,bs,pf,rfl,WP.same s02,Y.same s02,hm,C,fun b2 H3 hb2 s3=>⟨_,rfl,?_⟩⟩
  have s03:=s02.trans s3
  cases hc2:b2 with
  |false=>exact iteN rfl (k false _ ⟨fun z=>(nomatch z),fun h=>by have:=hb2.mpr h.en;rw[hc2] at this;cases this⟩ s03)
  |true =>
  refine xM ?_
  have en:=hb2.mp hc2
  refine⟨_,rfl,_,rfl,_,rfl,q,_,dx,_,_,_,_,_,_,rfl,s03 _ _ Y.p,rfl,T.cl_Way,T.mt_qN,ok_ab (P:=P) (w:=w) T,hr.m,T.b_qN,q,dx,dp,ob,pf,us,bs,rfl,Y.same s03,fun l rs H4 hl hl4 L4 s4=>?_⟩
  have s04:=s03.trans s4
  exact⟨p,q,l,dx,dp,ob,hs,us,ls,bs,rs,pf,paO pf,rfl,WP.same s04,Y.same s04,hm,UpP.of C en,BL,hl4,L4,fun b3 H5 hb3 s5=>k _ _ (hb3.trans ⟨fun h=>⟨hb1.mp hc1,en,h⟩,fun h=>h.gd⟩) (s04.trans s5)⟩
theorem Z2 {lf:Int→Int}:∀ {ls:LP}{acc:List ((Int×Int)×(Int×Int))}{k:Int×Int},k∈(ls.foldl (jst lf) acc).map (·.1)↔k∈acc.map (·.1)∨∃ p∈ls,lf p.1≠lf p.2∧jk lf p=k
 |[],acc,k=>by simp
 |p::ls,acc,k=>by
  rw[List.foldl_cons,Z2 (ls:=ls)]
  have hst:k∈(jst lf acc p).map (·.1)↔k∈acc.map (·.1)∨(lf p.1≠lf p.2∧jk lf p=k):=by
   unfold jst
   by_cases c:lf p.1=lf p.2
   ·rw[if_pos c]
    simp[c]
   ·rw[if_neg c]
    by_cases c2:jk lf p∈acc.map (·.1)
    ·rw[if_pos c2]
     constructor
     ·exact .inl
     ·rintro(h | ⟨_,h⟩)
      ·exact h
      ·rw[← h];exact c2
    ·rw[if_neg c2,List.map_append,List.mem_append]
     constructor
     ·rintro(h | h)
      ·exact .inl h
      ·exact .inr ⟨c,(List.mem_singleton.mp h).symm⟩
     ·rintro(h | ⟨_,h⟩)
      ·exact .inl h
      ·exact .inr (by rw[← h];simp)
  rw[hst]
  constructor
  ·rintro((h | h) | ⟨q,hq,h⟩)
   ·exact .inl h
   ·exact .inr ⟨p,List.mem_cons_self,h⟩
   ·exact .inr ⟨q,List.mem_cons_of_mem _ hq,h⟩
  ·rintro(h | ⟨q,hq,h⟩)
   ·exact .inl (.inl h)
   ·rcases List.mem_cons.mp hq with e | e
    ·rw[e] at h;exact .inl (.inr h)
    ·exact .inr ⟨q,e,h⟩
structure GG (us:LI) (ls:LP) (pf:Int→Option Int) (bs:LP):Prop where
 g:GrB us ls pf bs
 cov:∀ p∈ls,ldr (paO pf) p.1≠ldr (paO pf) p.2→∃ b∈bs,jk (ldr (paO pf)) b=jk (ldr (paO pf)) p
theorem xo:∀ {as bs:LP},as.Nodup→(∀ x∈as,x∈bs)→as.length≤bs.length
 |[],_,_,_=>Nat.zero_le _
 |a::as,bs,hn,hs=>by
  rw[List.nodup_cons] at hn
  have ha:=hs a List.mem_cons_self
  have ih:=xo (as:=as) (bs:=bs.erase a) hn.2 fun x hx=>by
   have ne:x≠a:=fun z=>hn.1 (by rw[← z];exact hx)
   exact(List.mem_erase_of_ne ne).mpr (hs x (List.mem_cons_of_mem _ hx))
  rw[List.length_erase_of_mem ha] at ih
  have:=List.length_pos_of_mem ha
  rw[List.length_cons];omega
theorem BrL.inl {hs:LI}{ls bs:LP}(B:BrL ls bs) (wl:Ls hs ls){b:Int×Int}(hb:b∈bs) (h:b.1≤b.2):b∈ls:=by
 have h1:=B b hb
 unfold adB at h1
 rw[Bool.or_eq_true,decide_eq_true_eq,decide_eq_true_eq] at h1
 rcases h1 with h1 | h1
 ·exact h1
 ·have:=(wl.ok _ h1).2.2
  dsimp only at this
  omega
def zjl (a:Ad):Sp:=fun vs H Q _=>∃ (p q dx dp ob:Addr) (hs us:LI) (ls bs:LP) (pf:Int→Option Int),vs=[.ref p,.ref q]∧WbP a H p hs ls∧WayAt a H q pf us bs dx dp ob∧(∀ x,x∈us↔x∈hs)∧Cl us pf∧BrL ls bs∧∀ (b:Bool) (H':Hp),(b=true↔GG us ls pf bs)→Same H H'→Q (.bl b) H'
theorem zdm (T:Txt w K mg a):FnOk P w K mg base CX0 9 a.f_qi a.d_qi ["web", "way"] (zjl a):=by
 have c_qg:Callee P w K mg base "is_grounded" a.f_qg a.d_qg ["web", "way"] 8 (zcM a):=⟨U3 T,T.g_qg,T.F_qg.kp,T.b_qg⟩
 have c_qh:Callee P w K mg base "first_joins" a.f_qh a.d_qh ["way", "lines"] 3 (zjr a):=⟨zdt T,T.g_qh,T.F_qh.kp,T.b_qh⟩
 refine T.F_qi.ok sc_qi (fun vs H Q E h=>?_) (fun cdv A outer s H vs Q E hr h=>?_)
 ·obtain⟨p,q,dx,dp,ob,hs,us,ls,bs,pf,rfl,_⟩:=h
  rfl
 ·obtain⟨p,q,dx,dp,ob,hs,us,ls,bs,pf,rfl,WP,Y,hm,C,BL,k⟩:=h
  have hu:=xb hr
  refine zT (zb (zy (zI (zF (zp c_qg hr.m (zd (zg 0) (zd (zg 1) za)))))
    (ze (zh zD))
    zo)
   (zb (zj (i:=2) sc_qi.nd rfl (Or.inl rfl) (zp c_qh hr.m (zd (zg 1) (zN (zW (zg 1)) za))))
   (zb (zG PassesOwn.never rfl (vP (zp c_qh hr.m (zd (zg 1) (zN (zW (zg 0)) za)))) (zi (i:=3) sc_qi.nd rfl (Or.inl rfl))
    (ze (zy (xN (xU hu (zg 3) (zg 2)))
     (ze (zh zD))
     zo)))
   (ze (zh zD))))) ?_
  refine⟨_,rfl,_,rfl,p,q,dx,dp,ob,hs,us,ls,bs,pf,rfl,WP,Y,hm,C,BL,fun b1 H1 hb1 s1=>⟨_,rfl,?_⟩⟩
  cases hc1:b1 with
  |false=>exact xM (k false _ ⟨fun z=>(nomatch z),fun h=>by have:=hb1.mpr h.g;rw[hc1] at this;cases this⟩ s1)
  |true =>
  refine iteN rfl ?_
  have g:=hb1.mp hc1
  have U:=UpP.of C g.en
  have inl:∀ b∈bs,b∈ls:=fun b hb=>BL.inl WP.wl hb (g.gd.1 b hb).1
  have l66:bs.length≤66:=Nat.le_trans (xo g.gd.2 inl) WP.wl.le
  have Y1:=Y.same s1
  refine⟨_,rfl,_,rfl,q,_,dx,_,_,_,_,_,_,rfl,Y1.p,rfl,T.cl_Way,T.mt_qN,ok_ab (P:=P) (w:=w) T,hr.m,T.b_qN,q,dx,dp,ob,pf,us,bs,rfl,Y1,fun l rs H2 hl hl2 L2' s2=>?_⟩
  have Y2:=Y1.same s2
  have Bb:Bd bs:=fun b hb=>(WP.wl.bd WP.wh) b (inl b hb)
  have bin:∀ b∈bs,b.1∈us∧b.2∈us:=fun b hb=>⟨(hm _).mpr (WP.wl.ok b (inl b hb)).1,(hm _).mpr (WP.wl.ok b (inl b hb)).2.1⟩
  refine⟨q,dx,dp,ob,l,pf,paO pf,us,bs,bs,rs,rfl,Y2,U,hl2,L2',Bb,l66,bin,fun jd js H3 hjd hj3 ej ps3 s3=>?_⟩
  have s03:=s1.trans (s2.trans s3)
  have Y3:=Y2.same s3
  obtain⟨wdx,oh,ol,d0,ad,W⟩:=(WP.same s03).at_
  refine⟨_,rfl,_,rfl,p,_,wdx,_,_,_,_,_,_,rfl,W.p,rfl,T.cl_Web,T.mt_qS,XW (P:=P) (w:=w) T,hr.m,T.b_qS,p,hs,ls,wdx,oh,ol,d0,ad,rfl,W,fun lq zs hlq Lz=>?_⟩
  have s4:=Same.new (o:=HO.lst zs) hlq
  have hsm:∀ {x:Int×Int},x∈srt ls↔x∈ls:=fun {x}=>(zQ ls).mem_iff
  have hsl:(srt ls).length=ls.length:=(zQ ls).length_eq
  refine⟨q,dx,dp,ob,lq,pf,paO pf,us,bs,srt ls,zs,rfl,Y3.same s4,U,upd_same,Lz.same s4,fun x hx=>(WP.wl.bd WP.wh) x (hsm.mp hx),by rw[hsl];exact WP.wl.le,fun x hx=>⟨(hm _).mpr (WP.wl.ok x (hsm.mp hx)).1,(hm _).mpr (WP.wl.ok x (hsm.mp hx)).2.1⟩,fun kd ks H5 hkd hk5 ek ps5 s5=>?_⟩
  have s05:=s03.trans (s4.trans s5)
  have hj5:=s5 _ _ (s4 _ _ hj3)
  have nkj:jd≠kd:=fun z=>by rw[← z,s4 _ _ hj3] at hkd;cases hkd
  have fkd:H kd=none:=(s03.trans s4).free hkd
  have jK:∀ {k:Int×Int},k∈js.map (·.1)↔∃ b∈bs,jk (ldr (paO pf)) b=k:=fun {k}=>by
   have h1:js.map (·.1)=(jn (ldr (paO pf)) bs).map (·.1):=by
    rw[← ej]
    unfold tlJ
    rw[List.map_map]
    rfl
   rw[h1]
   unfold jn
   rw[Z2]
   constructor
   ·rintro(h | ⟨b,hb,_,e⟩)
    ·cases h
    ·exact⟨b,hb,e⟩
   ·rintro⟨b,hb,e⟩
    exact .inr ⟨b,hb,(g.gd.1 b hb).2,e⟩
  have kK:∀ {k:Int×Int},k∈ks.map (·.1)↔∃ p∈ls,ldr (paO pf) p.1≠ldr (paO pf) p.2∧jk (ldr (paO pf)) p=k:=fun {k}=>by
   have h1:ks.map (·.1)=(jn (ldr (paO pf)) (srt ls)).map (·.1):=by
    rw[← ek]
    unfold tlJ
    rw[List.map_map]
    rfl
   rw[h1]
   unfold jn
   rw[Z2]
   constructor
   ·rintro(h | ⟨b,hb,e⟩)
    ·cases h
    ·exact⟨b,hsm.mp hb,e⟩
   ·rintro⟨b,hb,e⟩
    exact .inr ⟨b,hsm.mpr hb,e⟩
  refine⟨kd,kvJ ks,rfl,hk5,fun od=>?_⟩
  have hz6:=upd_same (H:=H5) (a:=kd) (o:=HO.frz od (HO.dT (kvJ ks)))
  have hj6:(upd H5 kd (HO.frz od (HO.dT (kvJ ks)))) jd=some (.dT (kvJ js)):=(upd_ne nkj).trans hj5
  have s06:Same H (upd H5 kd (HO.frz od (HO.dT (kvJ ks)))):=Same.updF s05 fkd
  generalize upd H5 kd (HO.frz od (HO.dT (kvJ ks)))=H6 at *
  refine for_keysT (d:=kd) (od:=od) (kvs:=kvJ ks) (fun i σ H'=>∃ (o3:Option V),σ=[some (.ref p),some (.ref q),some (.ref jd),o3]∧H'=H6∧∀ j∈ks.take i,j.1∈js.map (·.1)) ?_ ?_ ?_ ?_
  ·exact⟨none,rfl,rfl,fun j hj=>by simp at hj⟩
  ·rintro i σ H' ⟨o3,_,rfl,_⟩
   exact hz6
  ·rintro i kv b σ H' hkv hb ⟨o3,rfl,rfl,gd⟩
   unfold kvJ at hkv
   rw[List.getElem?_map] at hkv
   obtain⟨jx,hjx,e⟩:=Option.map_eq_some_iff.mp hkv
   subst e
   have etk:ks.take (i+1)=ks.take i++[jx]:=by rw[List.take_add_one,hjx];rfl
   have key:=ZX (js:=js) (k:=jx.1)
   by_cases hin:jx.1∈js.map (·.1)
   ·rw[decide_eq_true hin] at key
    refine⟨_,rfl,_,rfl,jd,_,rfl,DGet.t (k:=[Sum.inl jx.1.1,Sum.inl jx.1.2]) hj6 hb,_,rfl,iteN (by rw[key];rfl) ⟨_,rfl,rfl,fun j hj=>?_⟩⟩
    rw[etk] at hj
    rcases List.mem_append.mp hj with e | e
    ·exact gd j e
    ·rw[List.mem_singleton.mp e];exact hin
   ·rw[decide_eq_false hin] at key
    refine⟨_,rfl,_,rfl,jd,_,rfl,DGet.t (k:=[Sum.inl jx.1.1,Sum.inl jx.1.2]) hj6 hb,_,rfl,iteB (by rw[key];rfl) ?_⟩
    refine k false _ ⟨fun z=>(nomatch z),fun h=>?_⟩ s06
    obtain⟨pp,hpp,h2,h3⟩:=kK.mp (List.mem_map.mpr ⟨jx,List.mem_of_getElem? hjx,rfl⟩)
    obtain⟨bb,hbb,h4⟩:=h.cov pp hpp h2
    exact absurd (jK.mpr ⟨bb,hbb,h4.trans h3⟩) hin
  ·rintro σ H' ⟨o3,rfl,rfl,gd⟩
   have hlk:(kvJ ks).length=ks.length:=by unfold kvJ;rw[List.length_map]
   rw[hlk,List.take_length] at gd
   refine k true _ ⟨fun _=>⟨g,fun pp hpp h2=>?_⟩,fun _=>rfl⟩ s06
   obtain⟨jx,h1,h3⟩:=List.mem_map.mp (kK.mpr ⟨pp,hpp,h2,rfl⟩)
   have h4:=gd jx h1
   rw[h3] at h4
   exact jK.mp h4
theorem LnAt.extX {H H':Hp}{l:Addr}{rs:List V}{ls:LP}(h:LnAt H rs ls) (x:XsAt H l) (y:Ext l H H'):LnAt H' rs ls:=⟨h.1,fun n r p a1 a2=>by
 obtain⟨qq,b1,b2⟩:=h.2 n r p a1 a2
 exact⟨qq,b1,y _ _ b2 fun z=>by
  obtain⟨ms,e',_⟩:=x
  rw[z,e'] at b2
  cases b2⟩⟩
theorem LnAt.updN {H:Hp}{p:Addr}{o:HO}{u:HO}{rs:List V}{ls:LP}(h:LnAt H rs ls) (hp:H p=some u) (hu:∀ xs,u≠.tup xs):LnAt (L2.upd H p o) rs ls:=⟨h.1,fun n r q a1 a2=>by
 obtain⟨qq,b1,b2⟩:=h.2 n r q a1 a2
 exact⟨qq,b1,by rw[upd_ne (fun z=>by rw[z,hp] at b2;injection b2 with b2;exact hu _ b2)];exact b2⟩⟩
structure Gd (hs:LI) (ls:LP) (pf:Int→Option Int) (pa:Int→LI) (us:LI) (bs:LP):Prop where
 U:UpP us pf pa
 m:∀ x,x∈us↔x∈hs
 ad:∀ x∈us,∀ y,pf x=some y→adB ls x y=true
 B:Brs hs bs
 inl:∀ b∈bs,b∈ls
 df:∀ b∈bs,ldr pa b.1≠ldr pa b.2
 cov:∀ p∈ls,ldr pa p.1≠ldr pa p.2→∃ b∈bs,jk (ldr pa) b=jk (ldr pa) p
def zcD:Sp:=fun vs H Q _=>∃ (d:Addr) (pf:Int→Option Int) (us:LI) (x:Int),vs=[.ref d,.int x]∧H d=some (.dK (tabV (fun x=>opV (pf x)) us))∧us.length≤12∧Cl us pf∧x∈us∧(∀ (l:Addr) (p:LI),En pf x p→H l=none→Q (.ref l) (upd H l (.lst (p.map V.int))))∧((¬∃ p,En pf x p)→∀ H',Same H H'→Q .non H')
theorem UV (T:Txt w K mg a):FnOk P w K mg base CX0 1 a.f_qE a.d_qE ["_law_parents", "_law_hand"] zcD:=by
 refine T.F_qE.ok sc_qE (fun vs H Q E h=>?_) (fun cdv A outer s H vs Q E hr h=>?_)
 ·obtain⟨d,pf,us,x,rfl,_⟩:=h
  rfl
 ·obtain⟨d,pf,us,x,rfl,hd,l12,C,hx,k,k0⟩:=h
  have hu:=xb hr
  refine zT (zb (zj (i:=2) sc_qE.nd rfl (Or.inl rfl) (zE (zd (zg 1) za)))
   (zb (xg PassesOwn.never (zn wU (xv hu (zg 0) (zx zS (zg 2) (yp yJ zf) (fun _ _=>rfl)) (fun _ _=>rfl)) yO (zB _))
    (zb (zy (zn uT (zl zw (by rfl) T.n_len yi (zd (zg 2) za)) (zl vI (by rfl) T.n_len yi (zd (zg 0) za)) (zB _))
     (ze (zh yO))
     zo)
    (ze (zP (ym PySem.F.plainAttrs_list PySem.F.slot_list_append PySem.F.type_list_append zL (zg 2) (zu (xv hu (zg 0) (zx zS (zg 2) (yp yJ zf) (fun _ _=>rfl)) (fun _ _=>rfl)) za))))))
   (ze (zh (zg 2))))) ?_
  refine⟨_,rfl,(by show 1≤sizeLine;decide),fun l hl=>?_⟩
  have sm:∀ o,Same H (upd H l o):=fun o=>Same.new hl
  refine⟨fun m σ H'=>∃ (ys:LI) (z:Int),m+(ys++[z]).length=us.length+1∧σ=[some (.ref d),some (.int x),some (.ref l)]∧H'=upd H l (.lst ((ys++[z]).map V.int))∧z∈us∧Pre pf x ys z,⟨us.length,[],x,rfl,rfl,rfl,hx,Pre.z⟩,?_⟩
  rintro m σ H' ⟨ys,z,hm,rfl,rfl,hz,hp⟩
  have hlast:atI ((ys++[z]).map V.int) (-1)=some (V.int z):=by rw[List.map_append];exact at_last
  have e2:∀ y:Int,(ys++[z]++[y]).length=(ys++[z]).length+1:=fun y=>by simp
  refine⟨_,rfl,_,rfl,_,rfl,l,_,-1,_,rfl,rfl,SqL.of upd_same,hlast,d,_,rfl,wL ((sm _) _ _ hd) hz,?_⟩
  cases h1:pf z with
  |none =>
   refine⟨rfl,_,rfl,iteN rfl ?_⟩
   refine⟨_,rfl,?_⟩
   exact k l _ (hp.end_ h1) hl
  |some y =>
   refine⟨rfl,_,rfl,xM ?_⟩
   refine⟨_,fun σ' H' h=>h,?_⟩
   by_cases c:us.length<(ys++[z]).length
   ·refine⟨_,rfl,l,_,rfl,.inl (SqL.of upd_same),_,rfl,d,_,rfl,(sm _) _ _ hd,_,_,rfl,rfl,_,rfl,iteB (by rw[List.length_map,tabV_len];exact decide_eq_true (by omega)) ?_⟩
    exact k0 (hp.long C hx h1 (by omega)) _ (sm _)
   refine⟨_,rfl,l,_,rfl,.inl (SqL.of upd_same),_,rfl,d,_,rfl,(sm _) _ _ hd,_,_,rfl,rfl,_,rfl,iteN (by rw[List.length_map,tabV_len];exact decide_eq_false (by omega)) ?_⟩
   refine⟨_,rfl,.inl ⟨rfl,_,SqL.of upd_same⟩,_,rfl,_,rfl,_,rfl,l,_,-1,_,rfl,rfl,SqL.of upd_same,hlast,d,_,rfl,wL ((sm _) _ _ hd) hz,l,_,_,rfl,rfl,upd_same,(by rw[List.length_map];exact zk (by omega)),?_⟩
   rw[xW,h1]
   refine⟨m-1,by omega,ys++[z],y,by have:=e2 y;omega,rfl,?_,C z hz y h1,hp.s h1⟩
   rw[List.map_append (l₂:=[y])]
   rfl
def zcE:Sp:=fun vs H Q _=>∃ (d:Addr) (pf:Int→Option Int) (pa:Int→LI) (us:LI) (x:Int),vs=[.ref d,.int x]∧H d=some (.dK (tabV (fun x=>opV (pf x)) us))∧us.length≤12∧UpP us pf pa∧x∈us∧∀ (l:Addr),H l=none→Q (.ref l) (upd H l (.lst ((pa x).map V.int)))
theorem UW (T:Txt w K mg a):FnOk P w K mg base CX0 1 a.f_qE a.d_qE ["_law_parents", "_law_hand"] zcE:=(UV T).imp fun vs H Q E h=>by
 obtain⟨d,pf,pa,us,x,rfl,hd,l12,U,hx,k⟩:=h
 exact⟨d,pf,us,x,rfl,hd,l12,U.cl,hx,fun l p hp hl=>by rw[hp.fn (U.en hx)];exact k l hl,fun h=>absurd ⟨_,U.en hx⟩ h⟩
def zju:Sp:=fun vs H Q _=>∃ (d:Addr) (pf:Int→Option Int) (pa:Int→LI) (us:LI) (x y:Int),vs=[.ref d,.int x,.int y]∧H d=some (.dK (tabV (fun x=>opV (pf x)) us))∧us.length≤12∧UpP us pf pa∧x∈us∧y∈us∧∀ (t:Addr) (H':Hp),H t=none→H' t=some (.tup [.int (jk (ldr pa) (x,y)).1,.int (jk (ldr pa) (x,y)).2])→Same H H'→Q (.ref t) H'
theorem zdw (T:Txt w K mg a):FnOk P w K mg base CX0 2 a.f_qF a.d_qF ["_law_parents", "_law_one", "_law_other"] zju:=by
 have c_qE:Callee P w K mg base "_law_up" a.f_qE a.d_qE ["_law_parents", "_law_hand"] 1 zcE:=⟨UW T,T.g_qE,T.F_qE.kp,T.b_qE⟩
 refine T.F_qF.ok zc7 (fun vs H Q E h=>?_) (fun cdv A outer s H vs Q E hr h=>?_)
 ·obtain⟨d,pf,pa,us,x,y,rfl,_⟩:=h
  rfl
 ·obtain⟨d,pf,pa,us,x,y,rfl,hd,l12,U,hx,hy,k⟩:=h
  have lst:∀ {z},z∈us→atI ((pa z).map V.int) (-1)=some (V.int (ldr pa z)):=fun {z} hz=>by
   obtain⟨⟨ys,e⟩,_⟩:=U.ld hz
   rw[e,List.map_append]
   exact at_last
  refine zT (ze (zh (zX yQ (by rfl) T.n_tuple yR (zN (zl xH (by rfl) T.n_sorted yM (zu (zE (zu (zx zS (zp c_qE hr.m (zd (zg 0) (zd (zg 1) za))) (yp yJ zf) (fun _ _=>rfl)) (zu (zx zS (zp c_qE hr.m (zd (zg 0) (zd (zg 2) za))) (yp yJ zf) (fun _ _=>rfl)) za))) za)) za)))) ?_
  refine⟨_,rfl,_,rfl,d,pf,pa,us,x,rfl,hd,l12,U,hx,fun l1 hl1=>?_⟩
  have s1:=Same.new (o:=HO.lst ((pa x).map V.int)) hl1
  refine⟨_,rfl,l1,_,-1,_,rfl,rfl,SqL.of upd_same,lst hx,?_⟩
  generalize upd H l1 (HO.lst ((pa x).map V.int))=H1 at *
  refine⟨_,rfl,_,rfl,d,pf,pa,us,y,rfl,s1 _ _ hd,l12,U,hy,fun l2 hl2=>?_⟩
  have s2:=s1.trans (Same.new (o:=HO.lst ((pa y).map V.int)) hl2)
  refine⟨_,rfl,l2,_,-1,_,rfl,rfl,SqL.of upd_same,lst hy,?_⟩
  generalize upd H1 l2 (HO.lst ((pa y).map V.int))=H2 at *
  refine⟨(by show 2≤sizeLine;decide),fun pl hpl=>?_⟩
  have s3:=s2.trans (Same.new (o:=HO.lst [V.int (ldr pa x),V.int (ldr pa y)]) hpl)
  refine⟨pl,[ldr pa x,ldr pa y],rfl,SqL.of upd_same,(by show 2<64;decide),fun pm ms hpm pmm sd=>?_⟩
  rw[ww pmm sd]
  have s4:=s3.trans (Same.new (o:=HO.lst ([min (ldr pa x) (ldr pa y),max (ldr pa x) (ldr pa y)].map V.int)) hpm)
  refine⟨pm,_,rfl,.inl ⟨SqL.of upd_same,fun pt hpt=>?_⟩⟩
  exact k pt _ (s4.free hpt) upd_same (s4.trans (Same.new hpt))
theorem Yy {f:Int→V}{us:LI}{x:Int}{v:V}(hx:x∈us):putK (tabV f us) (.inl x) v=tabV (fun y=>if y=x then v else f y) us:=by
 unfold putK
 have h:((tabV f us).any fun kv=>decide (kv.1=(Sum.inl x:Key)))=true:=by
  rw[List.any_eq_true]
  exact⟨(Sum.inl x,f x),List.mem_map.mpr ⟨x,hx,rfl⟩,by simp⟩
 rw[if_pos h]
 unfold tabV
 rw[List.map_map]
 refine List.map_congr_left fun y _=>?_
 show(if (Sum.inl y:Key)=Sum.inl x then((Sum.inl y:Key),v) else(Sum.inl y,f y))=(Sum.inl y,if y=x then v else f y)
 by_cases c:y=x
 ·rw[if_pos c,if_pos (by rw[c])]
 ·rw[if_neg c,if_neg (fun z=>c (by injection z))]
def UpS (us:LI) (pf:Int→Option Int) (pa:Int→LI):Prop:=∃ sf:Int→Nat,(∀ x∈us,sf x<us.length)∧∀ x∈us,(pf x=none∧pa x=[x])∨∃ y,pf x=some y∧y∈us∧pa x=x::pa y∧sf y<sf x
theorem UpS.up {us:LI}{pf:Int→Option Int}{pa:Int→LI}(h:UpS us pf pa):UpP us pf pa:=let ⟨sf,_,u⟩:=h;⟨sf,u⟩
noncomputable def paF (pa:Int→LI) (x:Int):Option Int→List Int
 |none=>[x]
 |some y=>x::pa y
theorem UpS.add {us:LI}{pf:Int→Option Int}{pa:Int→LI}{x:Int}{o:Option Int}(h:UpS us pf pa) (hx:x∉us) (ho:∀ y,o=some y→y∈us):UpS (us++[x]) (fun z=>if z=x then o else pf z) (fun z=>if z=x then paF pa x o else pa z):=by
 obtain⟨sf,h1,h2⟩:=h
 have ne:∀ {z},z∈us→z≠x:=fun hz e=>hx (by rw[← e];exact hz)
 refine⟨fun z=>if z=x then us.length else sf z,fun z hz=>?_,fun z hz=>?_⟩
 ·rw[List.length_append,List.length_singleton]
  dsimp only
  by_cases c:z=x
  ·rw[if_pos c];omega
  ·rw[if_neg c]
   have:=h1 z ((List.mem_append.mp hz).resolve_right fun e=>c (List.mem_singleton.mp e))
   omega
 ·dsimp only
  by_cases c:z=x
  ·subst c
   rw[if_pos rfl,if_pos rfl,if_pos rfl]
   cases o with
   |none=>exact .inl ⟨rfl,rfl⟩
   |some y =>
    have hy:=ho y rfl
    refine .inr ⟨y,rfl,List.mem_append.mpr (.inl hy),?_,?_⟩
    ·rw[if_neg (ne hy)];rfl
    ·rw[if_neg (ne hy)];exact h1 y hy
  ·have hz':=(List.mem_append.mp hz).resolve_right fun e=>c (List.mem_singleton.mp e)
   rw[if_neg c,if_neg c,if_neg c]
   rcases h2 z hz' with q | ⟨y,q1,q2,q3,q4⟩
   ·exact .inl q
   ·exact .inr ⟨y,q1,List.mem_append.mpr (.inl q2),by rw[if_neg (ne q2)];exact q3,by rw[if_neg (ne q2)];exact q4⟩
structure Bw (lf:Int→Int) (ls bs:LP) (kvs:List (List Key×V)):Prop where
 sub:bs.Sublist ls
 df:∀ b∈bs,lf b.1≠lf b.2
 cov:∀ p∈ls,lf p.1≠lf p.2→∃ b∈bs,jk lf b=jk lf p
 key:∀ k:Int×Int,yn k∈kvs.map (·.1)↔∃ b∈bs,jk lf b=k
 len:kvs.length≤ls.length
theorem Bw.skip {lf:Int→Int}{ls bs:LP}{kvs:List (List Key×V)}{p:Int×Int}(h:Bw lf ls bs kvs) (c:lf p.1≠lf p.2→∃ b∈bs,jk lf b=jk lf p):Bw lf (ls++[p]) bs kvs :=
 ⟨h.sub.trans (List.sublist_append_left _ _),h.df,fun q hq hne=>(List.mem_append.mp hq).elim (fun z=>h.cov q z hne) fun z=>by rw[List.mem_singleton.mp z] at hne ⊢;exact c hne,h.key,by rw[List.length_append];have:=h.len;omega⟩
theorem Bw.add {lf:Int→Int}{ls bs:LP}{kvs:List (List Key×V)}{p:Int×Int}{v:V}(h:Bw lf ls bs kvs) (c:lf p.1≠lf p.2):Bw lf (ls++[p]) (bs++[p]) (putK kvs (yn (jk lf p)) v):=by
 refine⟨h.sub.append (List.Sublist.refl _),fun b hb=>?_,fun q hq hne=>?_,fun k=>?_,?_⟩
 ·rcases List.mem_append.mp hb with z | z
  ·exact h.df b z
  ·rw[List.mem_singleton.mp z];exact c
 ·rcases List.mem_append.mp hq with z | z
  ·obtain⟨b,h1,h2⟩:=h.cov q z hne
   exact⟨b,List.mem_append.mpr (.inl h1),h2⟩
  ·exact⟨q,List.mem_append.mpr (.inr z),rfl⟩
 ·have hpk:yn k∈(putK kvs (yn (jk lf p)) v).map (·.1)↔yn k∈kvs.map (·.1)∨k=jk lf p:=by
   by_cases hin:yn (jk lf p)∈kvs.map (·.1)
   ·rw[Zs hin]
    constructor
    ·exact .inl
    ·rintro(z | z)
     ·exact z
     ·rw[z];exact hin
   ·rw[putK_new hin,List.map_append,List.mem_append]
    constructor
    ·rintro(z | z)
     ·exact .inl z
     ·exact .inr (yz (List.mem_singleton.mp z))
    ·rintro(z | z)
     ·exact .inl z
     ·exact .inr (by rw[z];simp)
  rw[hpk,h.key k]
  constructor
  ·rintro(⟨b,h1,h2⟩ | z)
   ·exact⟨b,List.mem_append.mpr (.inl h1),h2⟩
   ·exact⟨p,by simp,z.symm⟩
  ·rintro⟨b,h1,h2⟩
   rcases List.mem_append.mp h1 with z | z
   ·exact .inl ⟨b,z,h2⟩
   ·rw[List.mem_singleton.mp z] at h2
    exact .inr h2.symm
 ·have:=yE kvs (yn (jk lf p)) v
  have:=h.len
  rw[List.length_append,List.length_singleton]
  omega
def zjs:Sp:=fun vs H Q _=>∃ (l h q:Addr) (rs:List V) (hs:LI) (ls:LP),vs=[.ref l,.ref h,.ref q]∧XsAt H l∧H h=some (.lst (hs.map V.int))∧h≠l∧H q=some (.lst rs)∧q≠l∧LnAt H rs ls∧Hs hs∧Ls hs ls ∧
 ∀ (t d lb:Addr) (us:LI) (pf:Int→Option Int) (pa:Int→LI) (bs:LP) (rb:List V) (H':Hp),H' t=some (.tup [.ref d,.ref lb])→H' d=some (.dK (tabV (fun x=>opV (pf x)) us))→H' lb=some (.lst rb)→LnAt H' rb bs→us.Nodup→Gd hs ls pf pa us bs→XsAt H' l→Ext l H H'→lb≠l→Q (.ref t) H'
theorem zdu (T:Txt w K mg a):FnOk P w K mg base CX0 3 a.f_qG a.d_qG ["_law_xs", "_law_hands_here", "_law_lines_here"] zjs:=by
 have c_qz:Callee P w K mg base "_law_take" a.f_qz a.d_qz ["_law_xs", "_law_size"] 1 wz:=⟨wb T,T.g_qz,T.F_qz.kp,T.b_qz⟩
 have c_qD:Callee P w K mg base "_law_near" a.f_qD a.d_qD ["_law_lines_here", "_law_hand"] 1 zcK:=⟨U1 T,T.g_qD,T.F_qD.kp,T.b_qD⟩
 have c_qF:Callee P w K mg base "_law_both" a.f_qF a.d_qF ["_law_parents", "_law_one", "_law_other"] 2 zju:=⟨zdw T,T.g_qF,T.F_qF.kp,T.b_qF⟩
 refine T.F_qG.ok sc_qG (fun vs H Q E h=>?_) (fun cdv A outer s H vs Q E hr h=>?_)
 ·obtain⟨l,h,q,rs,hs,ls,rfl,_⟩:=h
  rfl
 ·obtain⟨l,h,q,rs,hs,ls,rfl,hX,hh,nhl,hq,nql,L,wh,wl,k⟩:=h
  have hu:=xb hr
  have l12:=wh.l12
  have un:∀ n:Nat,n≤3→(A.deeper (PyProof.Rows.envOfC "_law_drawn_way" (defScope YE) s.heap.objs.size a.f_qG cdv)).units+n+2<cLine:=fun n hn=>by
   have:=hr.units
   omega
  have lnX:∀ {H':Hp},Ext l H H'→LnAt H' rs ls:=fun {H'} y=>⟨L.1,fun n r p a1 a2=>by
   obtain⟨qq,b1,b2⟩:=L.2 n r p a1 a2
   exact⟨qq,b1,y _ _ b2 fun z=>by
    obtain⟨ms,e',_⟩:=hX
    rw[z,e'] at b2
    cases b2⟩⟩
  refine zT (zb (zj (i:=3) sc_qG.nd rfl (Or.inr rfl) uJ)
   (zb (zj (i:=4) sc_qG.nd rfl (Or.inl rfl) (zX yu (by rfl) T.n_list bt_list (zd (zg 1) za)))
   (zb (xg PassesOwn.never (zn (ZL XT XU) (zg 4) (zE za) (zB _))
    (zb (zj (i:=5) sc_qG.nd rfl (Or.inl rfl) (ym PySem.F.plainAttrs_list PySem.F.slot_list_pop PySem.F.type_list_pop uy (zg 4) (zN (zp c_qz hr.m (zd (zg 0) (zN (zl zw (by rfl) T.n_len yi (zd (zg 4) za)) za))) za)))
    (zb (xI (i:=6) rfl sc_qG.nd rfl (Or.inl rfl) (N':=["_law_other", "_law_parents"]) (t:=1) (caps:=[3]) ⟨rfl,rfl,rfl⟩ (zC (zp c_qD hr.m (zd (zg 2) (zd (zg 5) za)))) (fun _=>(zi (i:=0) (show(["_law_other", "_law_parents"]:List Str).Nodup by decide +kernel) rfl (Or.inl rfl))) (fun _=>(xS (xN (wG hu (zg 0) (zg 1))))) (fun _=>(zg 0)))
    (zb (yL hu (zg 3) (zg 5) yO rfl)
    (ze (zy (vc (yN (zn (ZL XT XU) (zg 6) (zE za) (zB _)) (yB (zn uT (zp c_qz hr.m (zd (zg 0) (yg zf za))) zf (zB _)))))
     (ze (yL hu (zg 3) (zg 5) (zx zS (zg 6) (zp c_qz hr.m (zd (zg 0) (zN (zl zw (by rfl) T.n_len yi (zd (zg 6) za)) za))) (fun _ _=>rfl)) rfl))
     zo))))))
   (zb (zj (i:=7) sc_qG.nd rfl (Or.inl rfl) (zE za))
   (zb (zj (i:=8) sc_qG.nd rfl (Or.inl rfl) yA)
   (zb (zG PassesOwn.never rfl (zC (zg 2)) (zi (i:=9) sc_qG.nd rfl (Or.inl rfl))
    (zb (zj (i:=10) sc_qG.nd rfl (Or.inl rfl) (zp c_qF hr.m (zd (zg 3) (zu (zx yd (zg 9) zf (fun _ _=>rfl)) (zu (zx yd (zg 9) zf (fun _ _=>rfl)) za)))))
    (ze (zy (vc (yN (zn uS (zx yd (zg 10) zf (fun _ _=>rfl)) (zx yd (zg 10) zf (fun _ _=>rfl)) (zB _)) (yB (vc (yo (xN (xU hu (zg 10) (zg 8))) (yj (zn xt (zp c_qz hr.m (zd (zg 0) (yg zf za))) zf (zB _))))))))
     (zb (yL hu (zg 8) (zg 10) zD rfl)
     (ze (zP (ym PySem.F.plainAttrs_list PySem.F.slot_list_append PySem.F.type_list_append zL (zg 7) (zd (zg 9) za)))))
     zo))))
   (zb (zj (i:=11) sc_qG.nd rfl (Or.inl rfl) (zp c_qz hr.m (zd (zg 0) (xk (zq yZ (zl zw (by rfl) T.n_len yi (zd (zg 7) za)) zf) za))))
   (ze (zh (zJ (zd (zg 3) (xk (zq yT (zO yw (zg 7) (zV (zg 11)) ya) (zO yw (zg 7) ya (zV (zg 11)))) za)))))))))))) ?_
  refine fun d hd=>?_
  have ndl:d≠l:=hX.ne hd
  have y0:Ext l H (upd H d (HO.dK [])):=Ext.new hd
  have x0:=hX.new (o:=HO.dK []) hd
  have hd0:=upd_same (H:=H) (a:=d) (o:=HO.dK [])
  generalize upd H d (HO.dK [])=H0 at *
  refine⟨_,rfl,h,_,rfl,.inl (SqL.of (y0 _ _ hh nhl)),fun lf hlf=>?_⟩
  have nfl:lf≠l:=x0.ne hlf
  have nfd:d≠lf:=fun z=>by rw[← z,hd0] at hlf;cases hlf
  have fd:H d=none:=hd
  have ff:H lf=none:=y0.free nfl hlf
  refine⟨fun m σ H'=>∃ (us left:LI) (pf:Int→Option Int) (pa:Int→LI) (o5 o6 o7 o8 o9 o10 o11:Option V),m=left.length∧σ=[some (.ref l),some (.ref h),some (.ref q),some (.ref d),some (.ref lf),o5,o6,o7,o8,o9,o10,o11]∧H' d=some (.dK (tabV (fun x=>opV (pf x)) us))∧H' lf=some (.lst (left.map V.int))∧us.Nodup∧left.Nodup∧(∀ x,x∈hs↔x∈us∨x∈left)∧(∀ x∈left,x∉us)∧UpS us pf pa∧(∀ x∈us,∀ y,pf x=some y→adB ls x y=true)∧XsAt H' l∧Ext l H H',⟨_,[],hs,fun _=>none,fun x=>[x],none,none,none,none,none,none,none,rfl,rfl,?_,upd_same,List.nodup_nil,w4 wh,(fun x=>by simp),(fun x _=>by simp),⟨fun _=>0,(fun x hx=>(nomatch hx)),(fun x hx=>(nomatch hx))⟩,(fun x hx=>(nomatch hx)),x0.new hlf,y0.trans (Ext.new hlf)⟩,?_⟩
  ·rw[upd_ne nfd];exact hd0
  rintro m σ H3 ⟨us,left,pf,pa,o5,o6,o7,o8,o9,o10,o11,rfl,rfl,hd3,hl3,ndu,ndL,hm,hdj,U,had,x3,y3⟩
  have hsu:∀ x∈us,x∈hs:=fun x hx=>(hm x).mpr (.inl hx)
  have us12:us.length≤12:=Nat.le_trans (we ndu hsu) l12
  have lf12:left.length≤12:=Nat.le_trans (we ndL fun x hx=>(hm x).mpr (.inr hx)) l12
  refine⟨_,rfl,(by show 0≤sizeLine;decide),fun e he=>?_⟩
  have se:=Same.new (o:=HO.lst []) he
  have xe:=x3.new (o:=HO.lst []) he
  have ye:=y3.trans (Ext.new (l:=l) (o:=HO.lst []) he)
  cases hcl:left with
  |nil =>
   rw[hcl] at hl3
   refine .inl ⟨lf,e,_,_,fun _=>true,0,rfl,rfl,.inl ⟨SqL.of (se _ _ hl3),SqL.of upd_same⟩,rfl,un 0 (by omega),(fun j x y hx=>by cases hx),_,rfl,iteN rfl ?_⟩
   have hmem:∀ x,x∈us↔x∈hs:=fun x=>by
    rw[hm x,hcl]
    simp
   have UP:=U.up
   have hd4:=se _ _ hd3
   generalize upd H3 e (HO.lst [])=H4 at *
   refine⟨(by show 0≤sizeLine;decide),fun bl hbl=>?_⟩
   have nbl:bl≠l:=xe.ne hbl
   have fbl:H bl=none:=ye.free nbl hbl
   have s5:=Same.new (o:=HO.lst []) hbl
   have hb5:=upd_same (H:=H4) (a:=bl) (o:=HO.lst [])
   have x5:=xe.new (o:=HO.lst []) hbl
   have y5:=ye.trans (Ext.new (l:=l) (o:=HO.lst []) hbl)
   have hd5:=s5 _ _ hd4
   generalize upd H4 bl (HO.lst [])=H5 at *
   refine fun dj hdj'=>?_
   have ndj:dj≠l:=x5.ne hdj'
   have fdj:H dj=none:=y5.free ndj hdj'
   have s6:=Same.new (o:=HO.dT []) hdj'
   have hj6:=upd_same (H:=H5) (a:=dj) (o:=HO.dT [])
   have x6:=x5.new (o:=HO.dT []) hdj'
   have y6:=y5.trans (Ext.new (l:=l) (o:=HO.dT []) hdj')
   have hd6:=s6 _ _ hd5
   have hb6:=s6 _ _ hb5
   generalize upd H5 dj (HO.dT [])=H6 at *
   have njb:dj≠bl:=fun z=>by rw[z,hb6] at hj6;cases hj6
   have njd:dj≠d:=fun z=>by rw[z,hd6] at hj6;cases hj6
   have nbd:bl≠d:=fun z=>by rw[z,hd6] at hb6;cases hb6
   have hq6:=y6 _ _ hq nql
   refine⟨_,rfl,q,rfl,⟨_,SqL.of hq6⟩,?_⟩
   have lr:=L.1
   generalize hlf:ldr pa=lf' at *
   refine for_list (xs:=rs) (fun i σ H'=>∃ (bs:LP) (rb:List V) (kvs:List (List Key×V)) (o9 o10 o11:Option V),σ=[some (.ref l),some (.ref h),some (.ref q),some (.ref d),some (.ref lf),o5,o6,some (.ref bl),some (.ref dj),o9,o10,o11]∧H' d=some (.dK (tabV (fun x=>opV (pf x)) us))∧H' bl=some (.lst rb)∧LnAt H' rb bs∧H' dj=some (.dT kvs)∧Bw lf' (ls.take i) bs kvs∧XsAt H' l∧Ext l H H') ?_ ?_ ?_ ?_
   ·exact⟨[],[],[],_,_,_,rfl,hd6,hb6,⟨rfl,fun n r p a1=>by simp at a1⟩,hj6,⟨List.Sublist.refl _,(fun b hb=>(nomatch hb)),(fun p hp=>by simp at hp),(fun k=>by simp),Nat.le_refl _⟩,x6,y6⟩
   ·rintro i σ H' hi ⟨bs,rb,kvs,_,_,_,_,_,_,_,_,_,_,y⟩
    exact SqL.of (y _ _ hq nql)
   ·rintro i v σ H7 hi ⟨bs,rb,kvs,o9,o10,o11,rfl,hd7,hb7,Lb,hj7,BW,x7,y7⟩
    obtain⟨⟨x,y⟩,qa,hp,rfl,hqa⟩:=(L.extX hX y7).get hi
    have hpm:=List.mem_of_getElem? hp
    have hxy:=wl.ok _ hpm
    dsimp only at hxy hqa
    have hx:=(hmem x).mpr hxy.1
    have hy:=(hmem y).mpr hxy.2.1
    have hil:i<rs.length:=(List.getElem?_eq_some_iff.mp hi).1
    have etk:ls.take (i+1)=ls.take i++[(x,y)]:=by rw[List.take_add_one,hp];rfl
    have kl:kvs.length≤66:=by
     have h1:=BW.len
     rw[List.length_take] at h1
     have:=wl.le
     omega
    refine⟨_,rfl,_,rfl,qa,_,0,_,rfl,rfl,SqT.of hqa,rfl,_,rfl,qa,_,1,_,rfl,rfl,SqT.of hqa,rfl,d,pf,pa,us,x,y,rfl,hd7,us12,UP,hx,hy,fun tb H8 htb htb8 s8=>?_⟩
    rw[hlf] at htb8
    have hd8:=s8 _ _ hd7
    have hb8:=s8 _ _ hb7
    have hj8:=s8 _ _ hj7
    have x8:=x7.same s8
    have y8:=y7.trans (Ext.same s8)
    have hqa8:=s8 _ _ hqa
    have Lb8:=Lb.same s8
    refine⟨_,rfl,tb,_,0,_,rfl,rfl,SqT.of htb8,rfl,_,rfl,tb,_,1,_,rfl,rfl,SqT.of htb8,rfl,rfl,_,rfl,?_⟩
    have hj1:(jk lf' (x,y)).1=min (lf' x) (lf' y):=rfl
    have hj2:(jk lf' (x,y)).2=max (lf' x) (lf' y):=rfl
    have go:∀ H9 (o11:Option V),lf' x≠lf' y→H9 d=some (.dK (tabV (fun x=>opV (pf x)) us))→H9 bl=some (.lst rb)→LnAt H9 rb bs→H9 dj=some (.dT kvs)→H9 qa=some (.tup [.int x,.int y])→XsAt H9 l→Ext l H H9 →
      ∃ (bs':LP) (rb':List V) (kvs':List (List Key×V)) (o9' o10' o11':Option V),([some (.ref l),some (.ref h),some (.ref q),some (.ref d),some (.ref lf),o5,o6,some (.ref bl),some (.ref dj),some (.ref qa),some (.ref tb),o11]:St)=[some (.ref l),some (.ref h),some (.ref q),some (.ref d),some (.ref lf),o5,o6,some (.ref bl),some (.ref dj),o9',o10',o11']∧(upd (upd H9 dj (.dT (putK kvs (yn (jk lf' (x,y))) (.bl true)))) bl (.lst (rb++[.ref qa]))) d=some (.dK (tabV (fun x=>opV (pf x)) us))∧(upd (upd H9 dj (.dT (putK kvs (yn (jk lf' (x,y))) (.bl true)))) bl (.lst (rb++[.ref qa]))) bl=some (.lst rb')∧LnAt (upd (upd H9 dj (.dT (putK kvs (yn (jk lf' (x,y))) (.bl true)))) bl (.lst (rb++[.ref qa]))) rb' bs'∧(upd (upd H9 dj (.dT (putK kvs (yn (jk lf' (x,y))) (.bl true)))) bl (.lst (rb++[.ref qa]))) dj=some (.dT kvs')∧Bw lf' (ls.take (i+1)) bs' kvs'∧XsAt (upd (upd H9 dj (.dT (putK kvs (yn (jk lf' (x,y))) (.bl true)))) bl (.lst (rb++[.ref qa]))) l∧Ext l H (upd (upd H9 dj (.dT (putK kvs (yn (jk lf' (x,y))) (.bl true)))) bl (.lst (rb++[.ref qa]))):=fun H9 o11 c a1 a2 a3 a4 a5 a6 a7=>by
     have b1:(upd H9 dj (.dT (putK kvs (yn (jk lf' (x,y))) (.bl true)))) bl=some (.lst rb):=(upd_ne njb.symm).trans a2
     have nqj:qa≠dj:=fun z=>by rw[z,a4] at a5;cases a5
     have L1:LnAt (upd H9 dj (.dT (putK kvs (yn (jk lf' (x,y))) (.bl true)))) rb bs:=a3.updN a4 (fun _ z=>by cases z)
     refine⟨bs++[(x,y)],rb++[.ref qa],_,_,_,_,rfl,(upd_ne nbd.symm).trans ((upd_ne njd.symm).trans a1),upd_same,(L1.snoc ((upd_ne nqj).trans a5)).updN b1 (fun _ z=>by cases z),(upd_ne njb).trans upd_same,by rw[etk];exact BW.add c,(a6.upd ndj).upd nbl,fun b o e nb=>?_⟩
     rw[upd_ne (ne_of_none e fbl),upd_ne (ne_of_none e fdj)]
     exact a7 b o e nb
    by_cases c:lf' x=lf' y
    ·refine iteN (by rw[hj1,hj2,c];simp) (iteN rfl ?_)
     refine⟨bs,rb,kvs,_,_,_,rfl,hd8,hb8,Lb8,hj8,by rw[etk];exact BW.skip fun z=>absurd c z,x8,y8⟩
    ·refine iteB (by rw[hj1,hj2];simp;omega) ?_
     have rl:rb.length≤66:=by
      have h1:=BW.sub.length_le
      rw[List.length_take] at h1
      have:=Lb.1
      have:=wl.le
      omega
     by_cases cin:yn (jk lf' (x,y))∈kvs.map (·.1)
     ·refine⟨_,rfl,_,rfl,dj,_,rfl,DGet.t (k:=yn (jk lf' (x,y))) hj8 htb8,_,rfl,iteN (by rw[valV_yes cin];rfl) ?_⟩
      refine⟨_,rfl,l,2,rfl,x8,by decide,fun t2 H9 t0 t1 x9 y9=>?_⟩
      have hd9:=y9 _ _ hd8 ndl
      have hb9:=y9 _ _ hb8 nbl
      have hj9:=y9 _ _ hj8 ndj
      have Lb9:=Lb8.extX x8 y9
      have nta:∀ {b xs},H8 b=some (.tup xs)→b≠l:=fun {b xs} e z=>by
       obtain⟨ms,e',_⟩:=x8
       rw[z,e'] at e
       cases e
      have hqa9:=y9 _ _ hqa8 (nta hqa8)
      have htb9:=y9 _ _ htb8 (nta htb8)
      refine⟨rfl,_,rfl,?_⟩
      by_cases c2:t2=0
      ·refine iteB (by simp[c2]) ?_
       refine⟨_,rfl,_,rfl,dj,_,rfl,DPut.t (k:=yn (jk lf' (x,y))) hj9 htb9 (zk (by omega)),?_⟩
       refine⟨_,rfl,.inl ⟨rfl,_,SqL.of ((upd_ne njb.symm).trans hb9)⟩,_,rfl,bl,_,_,rfl,rfl,(upd_ne njb.symm).trans hb9,zk (by omega),?_⟩
       exact go H9 _ c hd9 hb9 Lb9 hj9 hqa9 x9 (y8.trans y9)
      ·refine iteN (by simp[c2]) ?_
       refine⟨bs,rb,kvs,_,_,_,rfl,hd9,hb9,Lb9,hj9,by rw[etk];exact BW.skip fun _=>(BW.key _).mp cin,x9,y8.trans y9⟩
     ·refine⟨_,rfl,_,rfl,dj,_,rfl,DGet.t (k:=yn (jk lf' (x,y))) hj8 htb8,_,rfl,iteB (by rw[wJ cin];rfl) (xM ?_)⟩
      refine⟨_,rfl,_,rfl,dj,_,rfl,DPut.t (k:=yn (jk lf' (x,y))) hj8 htb8 (zk (by omega)),?_⟩
      refine⟨_,rfl,.inl ⟨rfl,_,SqL.of ((upd_ne njb.symm).trans hb8)⟩,_,rfl,bl,_,_,rfl,rfl,(upd_ne njb.symm).trans hb8,zk (by omega),?_⟩
      exact go H8 _ c hd8 hb8 Lb8 hj8 hqa8 x8 y8
   ·rintro σ H7 ⟨bs,rb,kvs,o9,o10,o11,rfl,hd7,hb7,Lb,hj7,BW,x7,y7⟩
    rw[lr,List.take_length] at BW
    have rl:=Lb.1
    have bl66:bs.length≤66:=Nat.le_trans BW.sub.length_le wl.le
    refine⟨_,rfl,_,rfl,bl,_,rfl,.inl (SqL.of hb7),_,_,rfl,rfl,l,_,rfl,x7,(by show(0:Int)<(rb.length:Int)+1;omega),fun at0 H8 a0 a1 x8 y8=>?_⟩
    have hb8:=y8 _ _ hb7 nbl
    have hd8:=y8 _ _ hd7 ndl
    have Lb8:=Lb.extX x7 y8
    obtain⟨n,rfl⟩:∃ n:Nat,at0=(n:Int):=⟨at0.toNat,by omega⟩
    have hn:n≤rb.length:=by omega
    refine⟨_,rfl,_,rfl,_,rfl,_,rfl,bl,_,rfl,SqL.of hb8,fun p1 hp1=>?_⟩
    have z4:=Same.new (o:=HO.lst (yV rb (some (n:Int)) none)) hp1
    refine⟨_,rfl,_,rfl,_,rfl,bl,_,rfl,SqL.of (z4 _ _ hb8),fun p2 hp2=>?_⟩
    have z5:=Same.new (o:=HO.lst (yV rb none (some (n:Int)))) hp2
    have l1:=yb rb (some (n:Int)) none
    have l2:=yb rb none (some (n:Int))
    refine⟨p1,p2,_,_,rfl,rfl,z5 _ _ upd_same,upd_same,(Nat.le_of_lt (zk (by omega))),fun p3 hp3=>?_⟩
    have z6:=Same.new (o:=HO.lst (yV rb (some (n:Int)) none++yV rb none (some (n:Int)))) hp3
    have z456:=(z4.trans z5).trans z6
    have hp33:=upd_same (H:=(upd (upd H8 p1 (HO.lst (yV rb (some (n:Int)) none))) p2 (HO.lst (yV rb none (some (n:Int)))))) (a:=p3) (o:=HO.lst (yV rb (some (n:Int)) none++yV rb none (some (n:Int))))
    rw[Xo hn,Xm hn] at *
    generalize upd (upd (upd H8 p1 (HO.lst (rb.drop n))) p2 (HO.lst (rb.take n))) p3 (HO.lst (rb.drop n++rb.take n))=H9 at *
    refine⟨(by show 2≤sizeLine;decide),fun pt hpt=>?_⟩
    have z7:=Same.new (o:=HO.tup [V.ref d,V.ref p3]) hpt
    have z8:=z456.trans z7
    have hmr:∀ b,b∈bs.drop n++bs.take n↔b∈bs:=fun b=>by
     rw[List.mem_append,Or.comm,← List.mem_append,List.take_append_drop]
    have ndb:bs.Nodup:=wl.nd.sublist BW.sub
    have hin:∀ b∈bs,b∈ls:=fun b hb=>BW.sub.subset hb
    refine k pt d p3 us pf pa (bs.drop n++bs.take n) (rb.drop n++rb.take n) _ upd_same (z8 _ _ hd8) (z7 _ _ hp33) ((Lb8.cut).same z8) ndu ⟨UP,hmem,had,⟨?_,fun b hb=>wl.ok b (hin b ((hmr b).mp hb))⟩,fun b hb=>hin b ((hmr b).mp hb),fun b hb=>by rw[hlf];exact BW.df b ((hmr b).mp hb),fun p hp hne=>?_⟩ (x8.same z8) ((y7.trans y8).trans (Ext.same z8)) ((x8.same (z4.trans z5)).ne hp3)
    ·have:(bs.drop n++bs.take n).Perm bs:=List.perm_append_comm.trans (List.Perm.of_eq (List.take_append_drop n bs))
     exact this.nodup_iff.mpr ndb
    ·rw[hlf] at hne ⊢
     obtain⟨b,h1,h2⟩:=BW.cov p hp hne
     exact⟨b,(hmr b).mpr h1,h2⟩
  |cons b0 lt =>
   rw[hcl] at hl3
   refine .inr ⟨lf,e,_,_,rfl,rfl,SqL.of (se _ _ hl3),SqL.of upd_same,(by simp),Nat.lt_of_le_of_lt (Nat.le_add_right _ 2) (un 0 (by omega)),_,rfl,xM ?_⟩
   refine⟨_,fun σ' H' h=>h,?_⟩
   rw[← hcl] at hl3
   have hd4:=se _ _ hd3
   have hl4:=se _ _ hl3
   generalize upd H3 e (HO.lst [])=H4 at *
   have hlp:0<left.length:=by rw[hcl];simp
   refine⟨_,rfl,.inl ⟨rfl,_,SqL.of hl4⟩,?_⟩
   refine⟨_,rfl,_,rfl,lf,_,rfl,.inl (SqL.of hl4),l,_,rfl,xe,(by rw[List.length_map];omega),fun kd H5 k0 k1 x5 y5=>?_⟩
   rw[List.length_map] at k1
   have hd5:=y5 _ _ hd4 ndl
   have hl5:=y5 _ _ hl4 nfl
   have ye5:=ye.trans y5
   have hk:seqIndex? kd (left.map V.int).length=some kd.toNat:=by
    have e:(if kd<0 then kd+(left.length:Int) else kd)=kd:=if_neg (by omega)
    unfold seqIndex?
    rw[List.length_map]
    simp only[e]
    rw[if_pos (by simp;omega)]
   have hkl:kd.toNat<left.length:=by omega
   obtain⟨z,hz⟩:∃ z,left[kd.toNat]?=some z:=⟨left[kd.toNat],by simp[hkl]⟩
   refine⟨lf,_,kd,kd.toNat,V.int z,rfl,rfl,hl5,by omega,by omega,hk,by rw[List.getElem?_map,hz];rfl,?_⟩
   have hl6:(upd H5 lf (HO.lst ((left.map V.int).eraseIdx kd.toNat))) lf=some (.lst ((left.eraseIdx kd.toNat).map V.int)):=by rw[upd_same,List.eraseIdx_eq_take_drop_succ,List.eraseIdx_eq_take_drop_succ,List.map_append,List.map_take,List.map_drop]
   have hd6:(upd H5 lf (HO.lst ((left.map V.int).eraseIdx kd.toNat))) d=_:=(upd_ne nfd).trans hd5
   have x6:XsAt (upd H5 lf (HO.lst ((left.map V.int).eraseIdx kd.toNat))) l:=x5.upd nfl
   have y6:Ext l H (upd H5 lf (HO.lst ((left.map V.int).eraseIdx kd.toNat))):=fun b o e nb=>by
    rw[upd_ne (ne_of_none e ff)]
    exact ye5 b o e nb
   generalize upd H5 lf (HO.lst ((left.map V.int).eraseIdx kd.toNat))=H6 at *
   have hzl:=List.mem_of_getElem? hz
   have hzh:=(hm z).mpr (.inr hzl)
   have hzu:=hdj z hzl
   have hperm:left.Perm (z::left.eraseIdx kd.toNat):=by
    have e:left=left.take kd.toNat++z::left.drop (kd.toNat+1):=by
     have h1:=List.getElem?_eq_some_iff.mp hz
     rw[← h1.2]
     exact(List.take_append_drop kd.toNat left).symm.trans (by rw[List.drop_eq_getElem_cons h1.1])
    have e2:left.eraseIdx kd.toNat=left.take kd.toNat++left.drop (kd.toNat+1):=List.eraseIdx_eq_take_drop_succ left kd.toNat
    rw[e2]
    exact(List.Perm.of_eq e).trans List.perm_middle
   have hel:(left.eraseIdx kd.toNat).length+1=left.length:=by rw[hperm.length_eq];rfl
   obtain⟨hzn,ndE⟩:=List.nodup_cons.mp (hperm.nodup_iff.mp ndL)
   have hq6:=y6 _ _ hq nql
   refine⟨_,rfl,_,rfl,q,z,rs,hs,ls,rfl,hq6,lnX y6,wh,wl,fun pn H7 hpn s7 hpn7=>?_⟩
   refine⟨pn,rfl,⟨_,SqL.of hpn7⟩,fun D hD _=>?_⟩
   have hd7:=s7 _ _ hd6
   have nDd:d≠D:=fun z=>by rw[← z,hd7] at hD;cases hD
   refine yF (K:=K) (a:=pn) (xs:=(hs.filter (adB ls z)).map V.int) (fun j zs τ H'=>∃ (o:Option V),τ=[o,some (.ref d)]∧zs=(((hs.filter (adB ls z)).take j).filter fun y=>decide (y∈us)).map V.int∧H'=upd H7 D (.lst zs)) ?_ ?_ ?_ ?_
   ·exact⟨none,rfl,rfl,rfl⟩
   ·rintro j zs τ H' ⟨o,_,_,rfl⟩
    exact SqL.of (by rw[upd_ne (ne_of_none hpn7 hD)];exact hpn7)
   ·rintro j v zs τ H' hj ⟨o,rfl,rfl,rfl⟩
    rw[List.getElem?_map] at hj
    obtain⟨y,hy,rfl⟩:=Option.map_eq_some_iff.mp hj
    have etk2:(hs.filter (adB ls z)).take (j+1)=(hs.filter (adB ls z)).take j++[y]:=by rw[List.take_add_one,hy];rfl
    have hd9:(upd H7 D (HO.lst ((((hs.filter (adB ls z)).take j).filter fun y=>decide (y∈us)).map V.int))) d=some (.dK (tabV (fun x=>opV (pf x)) us)):=by rw[upd_ne nDd];exact hd7
    have hlen:((((hs.filter (adB ls z)).take j).filter fun y=>decide (y∈us)).map V.int).length<sizeLine:=by
     rw[List.length_map]
     have h1:=List.length_filter_le (fun y=>decide (y∈us)) ((hs.filter (adB ls z)).take j)
     rw[List.length_take] at h1
     have h2:=List.length_filter_le (adB ls z) hs
     exact zk (by omega)
    by_cases c1:y∈us
    ·refine⟨_,rfl,_,rfl,d,_,rfl,wL hd9 c1,_,rfl,xM ?_⟩
     refine⟨_,rfl,upd_same,hlen,_,rfl,?_,?_⟩
     ·rw[etk2,List.filter_append,List.filter_cons_of_pos (by simpa using c1),List.filter_nil,List.map_append]
      rfl
     ·rw[xW]
    ·refine⟨_,rfl,_,rfl,d,none,rfl,Wb hd9 c1,_,rfl,iteN rfl ?_⟩
     refine⟨_,rfl,?_,rfl⟩
     rw[etk2,List.filter_append,List.filter_cons_of_neg (by simpa using c1),List.filter_nil,List.append_nil]
   ·rintro zs τ H' ⟨o,rfl,rfl,rfl⟩
    rw[List.length_map,List.take_length]
    generalize hns:(hs.filter (adB ls z)).filter (fun y=>decide (y∈us))=ns
    have hnsm:∀ y∈ns,y∈us∧adB ls z y=true:=fun y hy=>by
     rw[← hns] at hy
     obtain⟨h1,h2⟩:=List.mem_filter.mp hy
     exact⟨of_decide_eq_true h2,(List.mem_filter.mp h1).2⟩
    have s8:=s7.trans (Same.new (o:=HO.lst (ns.map V.int)) hD)
    have hD8:=upd_same (H:=H7) (a:=D) (o:=HO.lst (ns.map V.int))
    have hd8:=s8 _ _ hd6
    have hl8:=s8 _ _ hl6
    have x8:=x6.same s8
    have y8:=y6.trans (Ext.same s8)
    have nDl:D≠l:=fun zz=>by
     obtain⟨ms,e',_⟩:=x6.same s7
     rw[zz,e'] at hD
     cases hD
    have nDd2:D≠d:=nDd.symm
    have nDf:D≠lf:=fun zz=>by rw[zz,s7 _ _ hl6] at hD;cases hD
    generalize upd H7 D (HO.lst (ns.map V.int))=H8 at *
    refine⟨_,rfl,_,rfl,d,_,rfl,DPut.k (k:=.inl z) hd8 (by rw[tabV_len];exact zk (by omega)),?_⟩
    rw[YA hzu]
    have ndz:(us++[z]).Nodup:=by
     rw[List.nodup_append]
     exact⟨ndu,by simp,fun u hu v hv e=>hzu (by rw[List.mem_singleton.mp hv] at e;rw[← e];exact hu)⟩
    have fin:∀ (o:Option Int) (σ5 σ6:Option V) (H':Hp),(∀ y,o=some y→y∈us∧adB ls z y=true)→H' d=some (.dK (tabV (fun x=>opV (if x=z then o else pf x)) (us++[z])))→H' lf=some (.lst ((left.eraseIdx kd.toNat).map V.int))→XsAt H' l→Ext l H H' →
      ∃ m',m'<(b0::lt).length∧∃ (us' left':LI) (pf':Int→Option Int) (pa':Int→LI) (o5 o6 o7' o8' o9' o10' o11':Option V),m'=left'.length∧([some (.ref l),some (.ref h),some (.ref q),some (.ref d),some (.ref lf),σ5,σ6,o7,o8,o9,o10,o11]:St)=[some (.ref l),some (.ref h),some (.ref q),some (.ref d),some (.ref lf),o5,o6,o7',o8',o9',o10',o11']∧H' d=some (.dK (tabV (fun x=>opV (pf' x)) us'))∧H' lf=some (.lst (left'.map V.int))∧us'.Nodup∧left'.Nodup∧(∀ x,x∈hs↔x∈us'∨x∈left')∧(∀ x∈left',x∉us')∧UpS us' pf' pa'∧(∀ x∈us',∀ y,pf' x=some y→adB ls x y=true)∧XsAt H' l∧Ext l H H':=fun o σ5 σ6 H' ho a1 a2 a3 a4=>by
     refine⟨(left.eraseIdx kd.toNat).length,by rw[← hcl];omega,us++[z],left.eraseIdx kd.toNat,fun x=>if x=z then o else pf x,fun x=>if x=z then paF pa z o else pa x,σ5,σ6,o7,o8,o9,o10,o11,rfl,rfl,a1,a2,ndz,ndE,fun x=>?_,fun x hx hx2=>?_,U.add hzu fun y hy=>(ho y hy).1,fun x hx y hy=>?_,a3,a4⟩
     ·rw[hm x,hperm.mem_iff,List.mem_cons,List.mem_append,List.mem_singleton]
      constructor
      ·rintro(h1 | h1 | h1)
       ·exact .inl (.inl h1)
       ·exact .inl (.inr h1)
       ·exact .inr h1
      ·rintro((h1 | h1) | h1)
       ·exact .inl h1
       ·exact .inr (.inl h1)
       ·exact .inr (.inr h1)
     ·rcases List.mem_append.mp hx2 with z2 | z2
      ·exact hdj x (hperm.mem_iff.mpr (List.mem_cons_of_mem _ hx)) z2
      ·exact hzn (by rw[← List.mem_singleton.mp z2];exact hx)
     ·dsimp only at hy
      by_cases c:x=z
      ·rw[if_pos c] at hy
       rw[c]
       exact(ho y hy).2
      ·rw[if_neg c] at hy
       exact had x ((List.mem_append.mp hx).resolve_right fun e=>c (List.mem_singleton.mp e)) y hy
    have e9:tabV (fun y=>if y=z then V.non else opV (pf y)) (us++[z])=tabV (fun x=>opV (if x=z then none else pf x)) (us++[z]):=wy fun y _=>by
     by_cases c:y=z
     ·rw[if_pos c,if_pos c];rfl
     ·rw[if_neg c,if_neg c]
    rw[e9]
    have hd9:=upd_same (H:=H8) (a:=d) (o:=HO.dK (tabV (fun x=>opV (if x=z then none else pf x)) (us++[z])))
    have hl9:(upd H8 d (HO.dK (tabV (fun x=>opV (if x=z then none else pf x)) (us++[z])))) lf=_:=(upd_ne nfd.symm).trans hl8
    have hD9:(upd H8 d (HO.dK (tabV (fun x=>opV (if x=z then none else pf x)) (us++[z])))) D=_:=(upd_ne nDd2).trans hD8
    have x9:XsAt (upd H8 d (HO.dK (tabV (fun x=>opV (if x=z then none else pf x)) (us++[z])))) l:=x8.upd ndl
    have y9:Ext l H (upd H8 d (HO.dK (tabV (fun x=>opV (if x=z then none else pf x)) (us++[z])))):=fun b o e nb=>by
     rw[upd_ne (ne_of_none e fd)]
     exact y8 b o e nb
    generalize upd H8 d (HO.dK (tabV (fun x=>opV (if x=z then none else pf x)) (us++[z])))=H9 at *
    refine⟨_,rfl,(by show 0≤sizeLine;decide),fun e2 he2=>?_⟩
    have se2:=Same.new (o:=HO.lst []) he2
    have nsl:ns.length≤12:=by
     rw[← hns]
     have h1:=List.length_filter_le (fun y=>decide (y∈us)) (hs.filter (adB ls z))
     have h2:=List.length_filter_le (adB ls z) hs
     omega
    have x10:=x9.new (o:=HO.lst []) he2
    have y10:=y9.trans (Ext.new (l:=l) (o:=HO.lst []) he2)
    have hd10:=se2 _ _ hd9
    have hl10:=se2 _ _ hl9
    have hD10:=se2 _ _ hD9
    have he10:=upd_same (H:=H9) (a:=e2) (o:=HO.lst [])
    generalize upd H9 e2 (HO.lst [])=H10 at *
    cases hnc:ns with
    |nil =>
     rw[hnc] at hD10
     refine .inl ⟨D,e2,_,_,fun _=>true,0,rfl,rfl,.inl ⟨SqL.of hD10,SqL.of he10⟩,rfl,un 0 (by omega),(fun j x y hx=>by cases hx),_,rfl,iteN rfl ?_⟩
     exact iteN rfl (fin none _ _ H10 (fun y hy=>(nomatch hy)) hd10 hl10 x10 y10)
    |cons n0 nt =>
     rw[hnc] at hD10
     refine .inr ⟨D,e2,_,_,rfl,rfl,SqL.of hD10,SqL.of he10,(by simp),Nat.lt_of_le_of_lt (Nat.le_add_right _ 2) (un 0 (by omega)),_,rfl,xM ?_⟩
     rw[← hnc] at hD10
     have hnp:0<ns.length:=by rw[hnc];simp
     refine⟨_,rfl,l,4,rfl,x10,by decide,fun t4 H11 t0 t1 x11 y11=>?_⟩
     have hd11:=y11 _ _ hd10 ndl
     have hl11:=y11 _ _ hl10 nfl
     have hD11:=y11 _ _ hD10 nDl
     have yy:=y10.trans y11
     refine⟨_,_,rfl,rfl,_,rfl,?_⟩
     by_cases c4:0<t4
     ·refine iteB (by simp;omega) ?_
      refine⟨_,rfl,_,rfl,_,rfl,D,_,rfl,.inl (SqL.of hD11),l,_,rfl,x11,(by rw[List.length_map];omega),fun kk H12 kk0 kk1 x12 y12=>?_⟩
      rw[List.length_map] at kk1
      have hkk:kk.toNat<ns.length:=by omega
      obtain⟨yv,hyv⟩:∃ yv,ns[kk.toNat]?=some yv:=⟨ns[kk.toNat],by simp[hkk]⟩
      have hyn:=hnsm yv (List.mem_of_getElem? hyv)
      have hat:atI (ns.map V.int) kk=some (V.int yv):=by
       have:=yc (xs:=ns.map V.int) (j:=kk.toNat) (v:=V.int yv) (by rw[List.getElem?_map,hyv];rfl)
       rw[Int.toNat_of_nonneg kk0] at this
       exact this
      have hd12:=y12 _ _ hd11 ndl
      have hl12:=y12 _ _ hl11 nfl
      have hD12:=y12 _ _ hD11 nDl
      refine⟨D,_,_,_,rfl,rfl,SqL.of hD12,hat,?_⟩
      refine⟨_,rfl,_,rfl,d,_,rfl,DPut.k (k:=.inl z) hd12 (by rw[tabV_len,List.length_append,List.length_singleton];exact zk (by omega)),?_⟩
      rw[Yy (List.mem_append.mpr (.inr (by simp)))]
      have e12:tabV (fun y=>if y=z then V.int yv else opV (if y=z then none else pf y)) (us++[z])=tabV (fun x=>opV (if x=z then some yv else pf x)) (us++[z]):=wy fun y _=>by
       by_cases c:y=z
       ·rw[if_pos c,if_pos c];rfl
       ·rw[if_neg c,if_neg c,if_neg c]
      rw[e12]
      refine fin (some yv) _ _ _ (fun y hy=>by cases hy;exact hyn) upd_same ((upd_ne nfd.symm).trans hl12) (x12.upd ndl) fun b o e nb=>?_
      rw[upd_ne (ne_of_none e fd)]
      exact(yy.trans y12) b o e nb
     ·refine iteN (by simp;omega) ?_
      exact fin none _ _ H11 (fun y hy=>(nomatch hy)) hd11 hl11 x11 yy
open L2.Sco (PT PsAt)
noncomputable def rdW (pa:Int→LI) (h n:Int):LI:=pa n++(pa h).reverse.drop 1
def rdO (pa:Int→LI) (h n:Int) (b:Int×Int):LI:=rdW pa b.1 n++rdW pa h b.2
def dbl (ls:LP):LP:=ls.flatMap fun p=>[p,(p.2,p.1)]
theorem dbl_snoc {ls:LP}{p:Int×Int}:dbl (ls++[p])=dbl ls++[p]++[(p.2,p.1)]:=by
 unfold dbl
 rw[List.flatMap_append]
 simp
theorem mem_dbl {ls:LP}{q:Int×Int}:q∈dbl ls↔q∈ls∨(q.2,q.1)∈ls:=by
 unfold dbl
 rw[List.mem_flatMap]
 constructor
 ·rintro⟨p,hp,h⟩
  rcases List.mem_cons.mp h with e | e
  ·rw[e];exact .inl hp
  ·rw[List.mem_singleton.mp e];exact .inr hp
 ·rintro(h | h)
  ·exact⟨q,h,List.mem_cons_self⟩
  ·exact⟨_,h,by simp⟩
theorem xf:∀ {ls:LP},(dbl ls).length=2*ls.length
 |[]=>rfl
 |p::ls=>by
  have ih:=xf (ls:=ls)
  unfold dbl at ih ⊢
  rw[List.flatMap_cons,List.length_append,ih,List.length_cons,List.length_cons]
  simp
  omega
theorem zco {rs:List V}(h:1≤rs.length):yV rs (some 1) none=rs.drop 1:=Xo (n:=1) h
theorem UpP.len {us:LI}{pf:Int→Option Int}{pa:Int→LI}(U:UpP us pf pa){x:Int}(hx:x∈us):1≤(pa x).length∧(pa x).length≤us.length:=by
 obtain⟨⟨ys,e⟩,_,_,h4,h5⟩:=U.ld hx
 exact⟨by rw[e];simp,we h4 h5⟩
theorem Zr {us:LI}{pf:Int→Option Int}{pa:Int→LI}(U:UpP us pf pa){h n:Int}(hh:h∈us) (hn:n∈us):(rdW pa h n).length≤2*us.length:=by
 have h1:=(U.len hh).2
 have h2:=(U.len hn).2
 unfold rdW
 rw[List.length_append,List.length_drop,List.length_reverse]
 omega
def zcH (a:Ad):Sp:=fun vs H Q _=>∃ (p dx dp ob:Addr) (pf:Int→Option Int) (pa:Int→LI) (us:LI) (x:Int),vs=[.ref p,.int x]∧WayR a H p pf us dx dp ob∧UpP us pf pa∧x∈us∧∀ (l:Addr),H l=none→Q (.ref l) (upd H l (.lst ((pa x).map V.int)))
theorem XV (T:Txt w K mg a):FnOk P w K mg base CX0 1 a.f_qO a.d_qO ["self", "hand"] (zcH a):=(UZ T).imp fun vs H Q E h=>by
 obtain⟨p,dx,dp,ob,pf,pa,us,x,rfl,W,U,hx,k⟩:=h
 refine⟨p,dx,dp,ob,pf,us,x,rfl,W,U.cl,hx,fun l ys z hl hz hor=>?_⟩
 rcases hor with⟨_,h⟩ | ⟨_,h⟩
 ·rw[← (U.en hx).fn h]
  exact k l hl
 ·exact absurd ⟨_,U.en hx⟩ h
def zcF (a:Ad):Sp:=fun vs H Q _=>∃ (p dx dp ob:Addr) (pf:Int→Option Int) (pa:Int→LI) (us:LI) (h n:Int),vs=[.ref p,.int h,.int n]∧WayR a H p pf us dx dp ob∧UpP us pf pa∧h∈us∧n∈us∧∀ (l:Addr) (H':Hp),H l=none→H' l=some (.lst ((rdW pa h n).map V.int))→Same H H'→Q (.ref l) H'
theorem UX (T:Txt w K mg a):FnOk P w K mg base CX0 2 a.f_qk a.d_qk ["way", "hand", "neighbour"] (zcF a):=by
 refine T.F_qk.ok sc_qk (fun vs H Q E h=>?_) (fun cdv A outer s H vs Q E hr h=>?_)
 ·obtain⟨p,dx,dp,ob,pf,pa,us,h,n,rfl,_⟩:=h
  rfl
 ·obtain⟨p,dx,dp,ob,pf,pa,us,h,n,rfl,W,U,hh,hn,k⟩:=h
  have l12:=W.l12
  have lh:=U.len hh
  have ln:=U.len hn
  refine zT (zb (zj (i:=3) sc_qk.nd rfl (Or.inl rfl) (vf rfl rfl T.n_list rfl T.n_reversed (zN (zA (zg 0) (zd (zg 1) za)) za)))
   (ze (zh (zq yT (zA (zg 0) (zd (zg 2) za)) (zO yw (zg 3) (zV zf) ya))))) ?_
  refine⟨_,rfl,p,_,dx,_,_,_,_,_,_,rfl,W.p,rfl,T.cl_Way,T.mt_qO,XV (P:=P) (w:=w) T,hr.m,T.b_qO,_,rfl,p,dx,dp,ob,pf,pa,us,h,rfl,W,U,hh,fun l1 hl1=>?_⟩
  refine⟨l1,_,rfl,SqL.of upd_same,fun l2 hl2=>?_⟩
  have s2:=(Same.new (o:=HO.lst ((pa h).map V.int)) hl1).trans (Same.new (o:=HO.lst ((pa h).map V.int).reverse) hl2)
  have h2:=upd_same (H:=upd H l1 (HO.lst ((pa h).map V.int))) (a:=l2) (o:=HO.lst ((pa h).map V.int).reverse)
  generalize upd (upd H l1 (HO.lst ((pa h).map V.int))) l2 (HO.lst ((pa h).map V.int).reverse)=H2 at *
  have W2:=W.same s2
  refine⟨_,rfl,p,_,dx,_,_,_,_,_,_,rfl,W2.p,rfl,T.cl_Way,T.mt_qO,XV (P:=P) (w:=w) T,hr.m,T.b_qO,_,rfl,p,dx,dp,ob,pf,pa,us,n,rfl,W2,U,hn,fun l3 hl3=>?_⟩
  have s3:=Same.new (o:=HO.lst ((pa n).map V.int)) hl3
  have h3:=upd_same (H:=H2) (a:=l3) (o:=HO.lst ((pa n).map V.int))
  generalize upd H2 l3 (HO.lst ((pa n).map V.int))=H3 at *
  refine⟨_,rfl,_,rfl,l2,_,rfl,SqL.of (s3 _ _ h2),fun l4 hl4=>?_⟩
  rw[zco (by simp;omega)]
  have s4:=Same.new (o:=HO.lst (((pa h).map V.int).reverse.drop 1)) hl4
  refine⟨l3,l4,_,_,rfl,rfl,s4 _ _ h3,upd_same,Nat.le_of_lt (zk (by rw[List.length_drop,List.length_reverse,List.length_map,List.length_map];omega)),fun l5 hl5=>?_⟩
  have s5:=(s2.trans s3).trans s4
  refine k l5 _ (s5.free hl5) ?_ (s5.trans (Same.new hl5))
  rw[upd_same]
  unfold rdW
  rw[List.map_append,List.map_drop,List.map_reverse]
def zjj (a:Ad):Sp:=fun vs H Q _=>∃ (p dx dp ob t:Addr) (pf:Int→Option Int) (pa:Int→LI) (us:LI) (h n:Int) (b:Int×Int),vs=[.ref p,.int h,.int n,.ref t]∧WayR a H p pf us dx dp ob∧UpP us pf pa∧h∈us∧n∈us∧b.1∈us∧b.2∈us∧H t=some (.tup [.int b.1,.int b.2])∧∀ (l:Addr) (H':Hp),H l=none→H' l=some (.lst ((rdO pa h n b).map V.int))→Same H H'→Q (.ref l) H'
theorem zdj (T:Txt w K mg a):FnOk P w K mg base CX0 3 a.f_ql a.d_ql ["way", "hand", "neighbour", "bridge"] (zjj a):=by
 have c_qk:Callee P w K mg base "road_within" a.f_qk a.d_qk ["way", "hand", "neighbour"] 2 (zcF a):=⟨UX T,T.g_qk,T.F_qk.kp,T.b_qk⟩
 refine T.F_ql.ok zcT (fun vs H Q E h=>?_) (fun cdv A outer s H vs Q E hr h=>?_)
 ·obtain⟨p,dx,dp,ob,t,pf,pa,us,h,n,b,rfl,_⟩:=h
  rfl
 ·obtain⟨p,dx,dp,ob,t,pf,pa,us,h,n,b,rfl,W,U,hh,hn,hb1,hb2,ht,k⟩:=h
  have l12:=W.l12
  have n1:=Zr U hb1 hn
  have n2:=Zr U hh hb2
  refine zT (ze (zh (zq yT (zp c_qk hr.m (zd (zg 0) (zu (zx yd (zg 3) zf (fun _ _=>rfl)) (zd (zg 2) za)))) (zp c_qk hr.m (zd (zg 0) (zd (zg 1) (zu (zx yd (zg 3) zf (fun _ _=>rfl)) za))))))) ?_
  refine⟨_,rfl,_,rfl,t,_,0,_,rfl,rfl,SqT.of ht,rfl,_,rfl,p,dx,dp,ob,pf,pa,us,b.1,n,rfl,W,U,hb1,hn,fun l1 H1 hl1 h1 s1=>?_⟩
  refine⟨_,rfl,_,rfl,_,rfl,t,_,1,_,rfl,rfl,SqT.of (s1 _ _ ht),rfl,p,dx,dp,ob,pf,pa,us,h,b.2,rfl,W.same s1,U,hh,hb2,fun l2 H2 hl2 h2 s2=>?_⟩
  refine⟨l1,l2,_,_,rfl,rfl,s2 _ _ h1,h2,Nat.le_of_lt (zk (by rw[List.length_map,List.length_map];omega)),fun l3 hl3=>?_⟩
  have s12:=s1.trans s2
  refine k l3 _ (s12.free hl3) ?_ (s12.trans (Same.new hl3))
  rw[upd_same]
  unfold rdO
  rw[List.map_append]
open L2.Sco (PT PsAt)
def kvB (js:List ((Int×Int)×Addr)):List (List Key×V):=js.map fun j=>(yn j.1,V.ref j.2)
def sel (lf:Int→Int) (k:Int×Int) (ds:LP):LP:=ds.filter fun p=>decide ((lf p.1,lf p.2)=k)
structure BR (H:Hp) (d:Addr) (lf:Int→Int) (ds:LP) (js:List ((Int×Int)×Addr)):Prop where
 dd:H d=some (.dT (kvB js))
 nd:(js.map (·.1)).Nodup
 rows:∀ j∈js,∃ rs,H j.2=some (.lst rs)∧LnAt H rs (sel lf j.1 ds)
 no:∀ k,k∉js.map (·.1)→sel lf k ds=[]
structure BB (G H:Hp) (d:Addr) (lf:Int→Int) (ds:LP) (js:List ((Int×Int)×Addr)):Prop extends BR H d lf ds js where
 sm:Ext d G H
 fr:∀ j∈js,G j.2=none
 nda:(js.map (·.2)).Nodup
theorem BR.same {H H':Hp}{d:Addr}{lf:Int→Int}{ds:LP}{js:List ((Int×Int)×Addr)}(b:BR H d lf ds js) (s:Same H H'):BR H' d lf ds js :=
 ⟨s _ _ b.dd,b.nd,fun j hj=>let ⟨rs,h1,h2⟩:=b.rows j hj;⟨rs,s _ _ h1,h2.same s⟩,b.no⟩
theorem BB.same {G H H':Hp}{d:Addr}{lf:Int→Int}{ds:LP}{js:List ((Int×Int)×Addr)}(b:BB G H d lf ds js) (s:Same H H'):BB G H' d lf ds js :=
 ⟨b.toBR.same s,b.sm.trans (Ext.same s),b.fr,b.nda⟩
theorem Z6 {α β:Type}{f:α→β}:∀ {xs:List α},(xs.map f).Nodup→∀ {u v},u∈xs→v∈xs→f u=f v→u=v:=by
 intro xs
 induction xs with
 |nil=>intro _ u v hu;cases hu
 |cons x xs ih =>
  intro hn u v hu hv e
  rw[List.map_cons,List.nodup_cons] at hn
  rcases List.mem_cons.mp hu with a1 | a1<;>rcases List.mem_cons.mp hv with a2 | a2
  ·rw[a1,a2]
  ·exact absurd (List.mem_map.mpr ⟨v,a2,by rw[← e,a1]⟩) hn.1
  ·exact absurd (List.mem_map.mpr ⟨u,a1,by rw[e,a2]⟩) hn.1
  ·exact ih hn.2 a1 a2 e
theorem kvB_keys {js:List ((Int×Int)×Addr)}{k:Int×Int}:yn k∈(kvB js).map (·.1)↔k∈js.map (·.1):=by
 unfold kvB
 rw[List.map_map]
 constructor
 ·intro h
  obtain⟨j,hj,e⟩:=List.mem_map.mp h
  exact List.mem_map.mpr ⟨j,hj,yz e⟩
 ·intro h
  obtain⟨j,hj,e⟩:=List.mem_map.mp h
  exact List.mem_map.mpr ⟨j,hj,by rw[← e];rfl⟩
theorem XY {js:List ((Int×Int)×Addr)}{k:Int×Int}{v:V}(h:yK (kvB js) (yn k)=some v):∃ l,v=.ref l∧(k,l)∈js:=by
 unfold yK at h
 obtain⟨kv,h1,rfl⟩:=Option.map_eq_some_iff.mp h
 have h2:=List.find?_some h1
 obtain⟨j,hj,e⟩:=List.mem_map.mp (List.mem_of_find?_eq_some h1)
 subst e
 have e:j.1=k:=yz (of_decide_eq_true h2)
 exact⟨j.2,rfl,by rw[← e];exact hj⟩
theorem BB.put {G H:Hp}{d e:Addr}{lf:Int→Int}{ds:LP}{js:List ((Int×Int)×Addr)}(b:BB G H d lf ds js){k:Int×Int}(he:H e=some (.lst [])) (hne:∀ j∈js,j.2≠e) (hge:G e=none) (hn:yK (kvB js) (yn k)=none):BB G (upd H d (.dT (putK (kvB js) (yn k) (.ref e)))) d lf ds (js++[(k,e)]):=by
 have hk:k∉js.map (·.1):=fun z=>ug hn (kvB_keys.mpr z)
 have ned:e≠d:=fun z=>by rw[z,b.dd] at he;cases he
 refine⟨⟨?_,?_,fun j hj=>?_,fun k' hk'=>b.no k' fun z=>hk' (by rw[List.map_append];exact List.mem_append.mpr (.inl z))⟩,b.sm.trans Ext.at,fun j hj=>?_,?_⟩
 ·rw[upd_same,L2.putK_new _ hn]
  unfold kvB
  rw[List.map_append]
  rfl
 ·rw[List.map_append,List.nodup_append]
  exact⟨b.nd,by simp,fun u hu v hv e=>hk (by rw[List.map_cons,List.map_nil] at hv;rw[List.mem_singleton.mp hv] at e;have e:u=k:=e;rw[← e];exact hu)⟩
 ·rcases List.mem_append.mp hj with z | z
  ·obtain⟨rs,h1,h2⟩:=b.rows j z
   exact⟨rs,by rw[upd_ne (fun q=>by rw[q,b.dd] at h1;cases h1)];exact h1,h2.updN b.dd (fun xs q=>by cases q)⟩
  ·rw[List.mem_singleton.mp z]
   refine⟨[],by rw[upd_ne ned];exact he,?_⟩
   rw[b.no k hk]
   exact⟨rfl,fun n r p a1=>by simp at a1⟩
 ·rcases List.mem_append.mp hj with z | z
  ·exact b.fr j z
  ·rw[List.mem_singleton.mp z];exact hge
 ·rw[List.map_append,List.nodup_append]
  refine⟨b.nda,by simp,fun u hu v hv ee=>?_⟩
  obtain⟨j,hj,rfl⟩:=List.mem_map.mp hu
  rw[List.map_cons,List.map_nil] at hv
  rw[List.mem_singleton.mp hv] at ee
  exact hne j hj ee
theorem BB.app {G H:Hp}{d l t:Addr}{lf:Int→Int}{ds:LP}{js:List ((Int×Int)×Addr)}(b:BB G H d lf ds js){p:Int×Int}(hj:((lf p.1,lf p.2),l)∈js){rs:List V}(hl:H l=some (.lst rs)) (ht:H t=some (.tup [.int p.1,.int p.2])):BB G (upd H l (.lst (rs++[.ref t]))) d lf (ds++[p]) js:=by
 have hsel:∀ k,sel lf k (ds++[p])=if (lf p.1,lf p.2)=k then sel lf k ds++[p] else sel lf k ds:=fun k=>by
  unfold sel
  rw[List.filter_append]
  by_cases c:(lf p.1,lf p.2)=k
  ·rw[if_pos c,List.filter_cons_of_pos (by simpa using c)]
   rfl
  ·rw[if_neg c,List.filter_cons_of_neg (by simpa using c)]
   simp
 refine⟨⟨?_,b.nd,fun j hjm=>?_,fun k hk=>?_⟩,fun c o e n=>?_,b.fr,b.nda⟩
 ·rw[upd_ne (fun z=>by rw[← z,b.dd] at hl;cases hl)]
  exact b.dd
 ·obtain⟨rs',h1,h2⟩:=b.rows j hjm
  rw[hsel]
  by_cases c:j.2=l
  ·have ej:j=((lf p.1,lf p.2),l):=Z6 b.nda hjm hj c
   rw[ej] at h1 h2 ⊢
   rw[hl] at h1
   cases h1
   rw[if_pos rfl]
   exact⟨_,upd_same,(h2.snoc ht).updN hl (fun xs q=>by cases q)⟩
  ·have hk:(lf p.1,lf p.2)≠j.1:=fun z=>c (by rw[← Z6 b.nd hj hjm z])
   rw[if_neg hk]
   exact⟨rs',by rw[upd_ne c];exact h1,h2.updN hl (fun xs q=>by cases q)⟩
 ·rw[hsel,if_neg (fun z=>hk (by rw[← z];exact List.mem_map.mpr ⟨_,hj,rfl⟩))]
  exact b.no k hk
 ·rw[upd_ne (ne_of_none e (b.fr _ hj))]
  exact b.sm c o e n
theorem BB.set {G H:Hp}{d e kt:Addr}{lf:Int→Int}{ds:LP}{js:List ((Int×Int)×Addr)}{k:Int×Int}{Q:V→Hp→Prop}(b:BB G H d lf ds js) (he:H e=some (.lst [])) (hne:∀ j∈js,j.2≠e) (hge:G e=none) (ht:H kt=some (.tup [.int k.1,.int k.2])) (hz:js.length≤1000)
  (hJ:∀ (l:Addr) (H':Hp) (js':List ((Int×Int)×Addr)),BB G H' d lf ds js'→(k,l)∈js'→js'.length≤js.length+1→Ext d H H'→Q (.ref l) H'):zf7 H d (.ref kt) (.ref e) Q:=by
 refine .inr ⟨kvB js,yn k,kt,b.dd,rfl,ht,by unfold kvB;rw[List.length_map];exact zk hz,fun u hu=>?_,fun hn=>?_⟩
 ·obtain⟨l,rfl,hl⟩:=XY hu
  exact hJ l H js b hl (by omega) (Ext.same fun _ _ h=>h)
 ·exact hJ e _ (js++[(k,e)]) (b.put he hne hge hn) (by simp) (by simp) Ext.at
def zcO (a:Ad):Sp:=fun vs H Q _=>∃ (p dx dp ob:Addr) (pf:Int→Option Int) (pa:Int→LI) (us:LI) (bs:LP),vs=[.ref p]∧WayAt a H p pf us bs dx dp ob∧UpP us pf pa∧Bd bs∧bs.length≤63∧(∀ q∈bs,q.1∈us∧q.2∈us) ∧
 ∀ (d:Addr) (js:List ((Int×Int)×Addr)) (H':Hp),H d=none→BR H' d (ldr pa) (dbl (srt bs)) js→js.length≤132→Same H H'→Q (.ref d) H'
theorem U5 (T:Txt w K mg a):FnOk P w K mg base CX0 7 a.f_qm a.d_qm ["way"] (zcO a):=by
 refine T.F_qm.ok sc_qm (fun vs H Q E h=>?_) (fun cdv A outer s H vs Q E hr h=>?_)
 ·obtain⟨p,dx,dp,ob,pf,pa,us,bs,rfl,_⟩:=h
  rfl
 ·obtain⟨p,dx,dp,ob,pf,pa,us,bs,rfl,W,U,B,l66,hin,k⟩:=h
  have hu:=xb hr
  refine zT (zb (zj (i:=1) sc_qm.nd rfl (Or.inl rfl) yA)
   (zb (zG PassesOwn.never rfl (zC (zl Sco.call_sortX (by rfl) T.n_sorted yM (zN (zW (zg 0)) za))) (zU rfl (zm (zi (i:=2) sc_qm.nd rfl (Or.inl rfl)) (zm (zi (i:=3) sc_qm.nd rfl (Or.inl rfl)) zH)))
    (zb (zP (ym PySem.F.plainAttrs_list PySem.F.slot_list_append PySem.F.type_list_append zL (xT hu (zg 1) (zJ (zN (zA (zg 0) (zd (zg 2) za)) (zN (zA (zg 0) (zd (zg 3) za)) za))) (zE za) ⟨rfl,rfl,rfl,rfl⟩) (xV (zJ (zd (zg 2) (zd (zg 3) za))) za)))
    (ze (zP (ym PySem.F.plainAttrs_list PySem.F.slot_list_append PySem.F.type_list_append zL (xT hu (zg 1) (zJ (zN (zA (zg 0) (zd (zg 3) za)) (zN (zA (zg 0) (zd (zg 2) za)) za))) (zE za) ⟨rfl,rfl,rfl,rfl⟩) (xV (zJ (zd (zg 3) (zd (zg 2) za))) za))))))
   (ze (zh (zg 1))))) ?_
  refine fun d hd=>?_
  have s0:=Same.new (o:=HO.dT []) hd
  have h0:=upd_same (H:=H) (a:=d) (o:=HO.dT [])
  generalize upd H d (HO.dT [])=H0 at *
  refine⟨_,rfl,p,_,dx,_,_,_,_,_,_,rfl,s0 _ _ W.p,rfl,T.cl_Way,T.mt_qN,ok_ab (P:=P) (w:=w) T,hr.m,T.b_qN,p,dx,dp,ob,pf,us,bs,rfl,W.same s0,fun l rs H1 hl hl1 L1 s1=>?_⟩
  obtain⟨ps,e1,e2,e3⟩:=L1.ps B
  have lps:ps.length≤63:=by rw[← e2,List.length_map] at l66;exact l66
  refine⟨l,ps,rfl,by rw[e1];exact SqL.of hl1,lps,e3,fun sl qs hsl pm up=>?_⟩
  have Ls:=vT e3 pm up
  rw[e2] at Ls
  have s2:=Same.new (o:=HO.lst (qs.map fun p=>V.ref p.1)) hsl
  have hs2:=upd_same (H:=H1) (a:=sl) (o:=HO.lst (qs.map fun p=>V.ref p.1))
  generalize upd H1 sl (HO.lst (qs.map fun p=>V.ref p.1))=H2 at *
  generalize hrq:qs.map (fun p=>V.ref p.1)=rq at *
  have s02:=s0.trans (s1.trans s2)
  have hsm:∀ {x:Int×Int},x∈srt bs↔x∈bs:=fun {x}=>(zQ bs).mem_iff
  have lsl:(srt bs).length≤66:=by rw[(zQ bs).length_eq];omega
  have lr:=Ls.1
  have Ls2:=Ls.same s2
  generalize srt bs=sb at *
  refine⟨sl,rfl,⟨_,SqL.of hs2⟩,?_⟩
  generalize hlf:ldr pa=lf at *
  have hd2:=(s1.trans s2) _ _ h0
  have nsd:sl≠d:=fun z=>by rw[z,hd2] at hs2;cases hs2
  refine for_list (xs:=rq) (fun i σ H'=>∃ (js:List ((Int×Int)×Addr)) (o2 o3:Option V),σ=[some (.ref p),some (.ref d),o2,o3]∧BB H2 H' d lf (dbl (sb.take i)) js∧js.length≤2*i) ?_ ?_ ?_ ?_
  ·exact⟨[],none,none,rfl,⟨⟨hd2,List.nodup_nil,(fun j hj=>(nomatch hj)),fun k _=>rfl⟩,Ext.same fun _ _ h=>h,(fun j hj=>(nomatch hj)),List.nodup_nil⟩,by simp⟩
  ·rintro i σ H' hi ⟨js,o2,o3,_,b,_⟩
   exact SqL.of (b.sm _ _ hs2 nsd)
  ·rintro i v σ H3 hi ⟨js,o2,o3,rfl,b,ljs⟩
   obtain⟨⟨x,y⟩,q,hp,rfl,hq⟩:=Ls2.get hi
   have hpm:=hin _ (hsm.mp (List.mem_of_getElem? hp))
   have hi66:i<66:=by
    have:=(List.getElem?_eq_some_iff.mp hp).1
    omega
   obtain⟨hx,hy⟩:=hpm
   dsimp only at hx hy hq
   have W3:∀ {H':Hp},Ext d H2 H'→WayR a H' p pf us dx dp ob:=fun {H'} x=>by
    have W2:=W.same s02
    refine⟨x _ _ W2.p fun z=>?_,.inl (x _ _ W2.dp fun z=>?_),W2.l12⟩
    ·have:=W.p;rw[z,hd] at this;cases this
    ·have:=W.dp;rw[z,hd] at this;cases this
   have nqd:q≠d:=fun z=>by rw[z,hd2] at hq;cases hq
   refine⟨q,_,rfl,SqT.of (b.sm _ _ hq nqd),rfl,_,_,rfl,_,_,rfl,rfl,?_⟩
   have etk:sb.take (i+1)=sb.take i++[(x,y)]:=by rw[List.take_add_one,hp];rfl
   have zt:(dbl (sb.take i)).length≤2*i:=by rw[xf,List.length_take];omega
   refine⟨_,rfl,d,rfl,.inr ⟨_,.inl b.dd⟩,?_⟩
   refine⟨_,rfl,p,_,dx,_,_,_,_,_,_,rfl,(W3 b.sm).p,rfl,T.cl_Way,T.mt_qP,wt (P:=P) (w:=w) T,hr.m,T.b_qP,_,rfl,p,dx,dp,ob,pf,pa,us,x,rfl,W3 b.sm,U,hx,fun H4 s4=>?_⟩
   have b4:=b.same s4
   refine⟨_,rfl,p,_,dx,_,_,_,_,_,_,rfl,(W3 b4.sm).p,rfl,T.cl_Way,T.mt_qP,wt (P:=P) (w:=w) T,hr.m,T.b_qP,_,rfl,p,dx,dp,ob,pf,pa,us,y,rfl,W3 b4.sm,U,hy,fun H5 s5=>?_⟩
   have b5:=b4.same s5
   rw[hlf]
   refine⟨(by show 2≤sizeLine;decide),fun kt hkt=>?_⟩
   refine⟨(by show 0≤sizeLine;decide),fun e he=>?_⟩
   have sk:=Same.new (o:=HO.tup [V.int (lf x),V.int (lf y)]) hkt
   have hk6:=upd_same (H:=H5) (a:=kt) (o:=HO.tup [V.int (lf x),V.int (lf y)])
   have b6:=b5.same sk
   generalize upd H5 kt (HO.tup [V.int (lf x),V.int (lf y)])=H6 at *
   have se:=Same.new (o:=HO.lst []) he
   have he7:=upd_same (H:=H6) (a:=e) (o:=HO.lst [])
   have b7:=b6.same se
   have ned:e≠d:=fun z=>by rw[z,b6.dd] at he;cases he
   have hne:∀ j∈js,j.2≠e:=fun j hj z=>by
    obtain⟨rs,h1,_⟩:=b6.rows j hj
    rw[z,he] at h1
    cases h1
   have hk7:=se _ _ hk6
   have hge:=b6.sm.free ned he
   generalize upd H6 e (HO.lst [])=H7 at *
   refine b7.set (k:=(lf x,lf y)) he7 hne hge hk7 (by omega) fun l H8 js1 b8 hl8 n8 x8=>?_
   obtain⟨rs8,hr8,L8⟩:=b8.rows _ hl8
   have z8:=L8.1
   have z9:=List.length_filter_le (fun p:Int×Int=>decide ((lf p.1,lf p.2)=(lf x,lf y))) (dbl (sb.take i))
   refine⟨.inl ⟨rfl,_,SqL.of hr8⟩,?_⟩
   refine⟨_,rfl,_,rfl,(by show 2≤sizeLine;decide),fun t ht=>?_⟩
   have s9:=Same.new (o:=HO.tup [V.int x,V.int y]) ht
   have b9:=b8.same s9
   refine⟨l,_,_,rfl,rfl,s9 _ _ hr8,zk (by unfold sel at z8;dsimp only at z8;omega),?_⟩
   have b10:=b9.app (p:=(x,y)) hl8 (s9 _ _ hr8) upd_same
   generalize upd (upd H8 t (HO.tup [V.int x,V.int y])) l (HO.lst (rs8++[V.ref t]))=H10 at *
   refine⟨_,rfl,d,rfl,.inr ⟨_,.inl b10.dd⟩,?_⟩
   refine⟨_,rfl,p,_,dx,_,_,_,_,_,_,rfl,(W3 b10.sm).p,rfl,T.cl_Way,T.mt_qP,wt (P:=P) (w:=w) T,hr.m,T.b_qP,_,rfl,p,dx,dp,ob,pf,pa,us,y,rfl,W3 b10.sm,U,hy,fun H4' s4'=>?_⟩
   have b4':=b10.same s4'
   refine⟨_,rfl,p,_,dx,_,_,_,_,_,_,rfl,(W3 b4'.sm).p,rfl,T.cl_Way,T.mt_qP,wt (P:=P) (w:=w) T,hr.m,T.b_qP,_,rfl,p,dx,dp,ob,pf,pa,us,x,rfl,W3 b4'.sm,U,hx,fun H5' s5'=>?_⟩
   have b5':=b4'.same s5'
   rw[hlf]
   refine⟨(by show 2≤sizeLine;decide),fun kt' hkt'=>?_⟩
   refine⟨(by show 0≤sizeLine;decide),fun e' he'=>?_⟩
   have sk':=Same.new (o:=HO.tup [V.int (lf y),V.int (lf x)]) hkt'
   have hk6':=upd_same (H:=H5') (a:=kt') (o:=HO.tup [V.int (lf y),V.int (lf x)])
   have b6':=b5'.same sk'
   generalize upd H5' kt' (HO.tup [V.int (lf y),V.int (lf x)])=H6' at *
   have se':=Same.new (o:=HO.lst []) he'
   have he7':=upd_same (H:=H6') (a:=e') (o:=HO.lst [])
   have b7':=b6'.same se'
   have ned':e'≠d:=fun z=>by rw[z,b6'.dd] at he';cases he'
   have hne':∀ j∈js1,j.2≠e':=fun j hj z=>by
    obtain⟨rs,h1,_⟩:=b6'.rows j hj
    rw[z,he'] at h1
    cases h1
   have hk7':=se' _ _ hk6'
   have hge':=b6'.sm.free ned' he'
   generalize upd H6' e' (HO.lst [])=H7' at *
   refine b7'.set (k:=(lf y,lf x)) he7' hne' hge' hk7' (by omega) fun l' H8' js' b8' hl8' n8' x8'=>?_
   obtain⟨rs8',hr8',L8'⟩:=b8'.rows _ hl8'
   have z8':=L8'.1
   have z9':=List.length_filter_le (fun p:Int×Int=>decide ((lf p.1,lf p.2)=(lf y,lf x))) (dbl (sb.take i)++[(x,y)])
   refine⟨.inl ⟨rfl,_,SqL.of hr8'⟩,?_⟩
   refine⟨_,rfl,_,rfl,(by show 2≤sizeLine;decide),fun t' ht'=>?_⟩
   have s9':=Same.new (o:=HO.tup [V.int y,V.int x]) ht'
   have b9':=b8'.same s9'
   refine⟨l',_,_,rfl,rfl,s9' _ _ hr8',zk (by unfold sel at z8';dsimp only at z8';rw[List.length_append,List.length_singleton] at z9';omega),?_⟩
   have b10':=b9'.app (p:=(y,x)) hl8' (s9' _ _ hr8') upd_same
   generalize upd (upd H8' t' (HO.tup [V.int y,V.int x])) l' (HO.lst (rs8'++[V.ref t']))=H10' at *
   refine⟨js',_,_,rfl,?_,by omega⟩
   rw[etk,dbl_snoc]
   exact b10'
  ·rintro σ H' ⟨js,o2,o3,rfl,b,lj⟩
   rw[List.take_of_length_le (by omega)] at b
   refine⟨_,rfl,k d js H' hd b.toBR (by omega) fun c o hc=>?_⟩
   exact b.sm _ _ (s02 _ _ hc) fun z=>by rw[z,hd] at hc;cases hc
open L2.Sco (PT PsAt)
def rfs (pa:Int→LI) (ds:LP) (h n:Int):List (LI):=if ldr pa n=ldr pa h then[rdW pa h n] else(sel (ldr pa) (ldr pa n,ldr pa h) ds).map (rdO pa h n)
def LL (H:Hp) (l:Addr) (xss:List (LI)):Prop:=∃ ps:List (Addr×LI),H l=some (.lst (ps.map fun p=>V.ref p.1))∧(∀ p∈ps,H p.1=some (.lst (p.2.map V.int)))∧ps.map (·.2)=xss
def zcG (a:Ad):Sp:=fun vs H Q _=>∃ (p dx dp ob d:Addr) (pf:Int→Option Int) (pa:Int→LI) (us:LI) (ds:LP) (js:List ((Int×Int)×Addr)) (h n:Int),vs=[.ref p,.ref d,.int h,.int n]∧WayR a H p pf us dx dp ob∧UpP us pf pa∧BR H d (ldr pa) ds js∧(∀ q∈ds,q.1∈us∧q.2∈us)∧ds.length≤132∧h∈us∧n∈us ∧
 ∀ (l:Addr) (H':Hp),H l=none→LL H' l (rfs pa ds h n)→Same H H'→Q (.ref l) H'
theorem UY (T:Txt w K mg a):FnOk P w K mg base CX0 4 a.f_qn a.d_qn ["way", "bridges", "hand", "neighbour"] (zcG a):=by
 have c_qk:Callee P w K mg base "road_within" a.f_qk a.d_qk ["way", "hand", "neighbour"] 2 (zcF a):=⟨UX T,T.g_qk,T.F_qk.kp,T.b_qk⟩
 have c_ql:Callee P w K mg base "road_over" a.f_ql a.d_ql ["way", "hand", "neighbour", "bridge"] 3 (zjj a):=⟨zdj T,T.g_ql,T.F_ql.kp,T.b_ql⟩
 refine T.F_qn.ok sc_qn (fun vs H Q E h=>?_) (fun cdv A outer s H vs Q E hr h=>?_)
 ·obtain⟨p,dx,dp,ob,d,pf,pa,us,ds,js,h,n,rfl,_⟩:=h
  rfl
 ·obtain⟨p,dx,dp,ob,d,pf,pa,us,ds,js,h,n,rfl,W,U,b,hds,lds,hh,hn,k⟩:=h
  have hu:=xb hr
  refine zT (zb (zj (i:=4) sc_qn.nd rfl (Or.inl rfl) (zJ (zN (zA (zg 0) (zd (zg 3) za)) (zN (zA (zg 0) (zd (zg 2) za)) za))))
   (zb (zy (zn xt (zx yd (zg 4) zf (fun _ _=>rfl)) (zx yd (zg 4) zf (fun _ _=>rfl)) (zB _))
    (ze (zh (zE (zN (zp c_qk hr.m (zd (zg 0) (zd (zg 2) (zd (zg 3) za)))) za))))
    zo)
   (ze (zh (yr rfl (N':=["bridge", "way", "hand", "neighbour"]) (t:=1) (caps:=[0,2,3]) ⟨rfl,rfl,rfl⟩ (zC (uK hu (zg 1) (zg 4) (zE za) ⟨rfl,rfl,rfl,rfl⟩)) (fun _=>(zi (i:=0) (show(["bridge", "way", "hand", "neighbour"]:List Str).Nodup by decide +kernel) rfl (Or.inl rfl))) (fun _=>yC) (fun _=>(zp c_ql hr.m (zd (zg 1) (zd (zg 2) (zd (zg 3) (zd (zg 0) za))))))))))) ?_
  refine⟨_,rfl,p,_,dx,_,_,_,_,_,_,rfl,W.p,rfl,T.cl_Way,T.mt_qP,wt (P:=P) (w:=w) T,hr.m,T.b_qP,_,rfl,p,dx,dp,ob,pf,pa,us,n,rfl,W,U,hn,fun H1 s1=>?_⟩
  have W1:=W.same s1
  refine⟨_,rfl,p,_,dx,_,_,_,_,_,_,rfl,W1.p,rfl,T.cl_Way,T.mt_qP,wt (P:=P) (w:=w) T,hr.m,T.b_qP,_,rfl,p,dx,dp,ob,pf,pa,us,h,rfl,W1,U,hh,fun H2 s2=>?_⟩
  refine⟨(by show 2≤sizeLine;decide),fun t ht=>?_⟩
  have s3:=(s1.trans s2).trans (Same.new (o:=HO.tup [V.int (ldr pa n),V.int (ldr pa h)]) ht)
  have ht3:=upd_same (H:=H2) (a:=t) (o:=HO.tup [V.int (ldr pa n),V.int (ldr pa h)])
  generalize upd H2 t (HO.tup [V.int (ldr pa n),V.int (ldr pa h)])=H3 at *
  refine⟨_,rfl,t,_,0,_,rfl,rfl,SqT.of ht3,rfl,_,rfl,t,_,1,_,rfl,rfl,SqT.of ht3,rfl,rfl,_,rfl,?_⟩
  have W3:=W.same s3
  have b3:=b.same s3
  by_cases c:ldr pa n=ldr pa h
  ·refine iteB (by rw[c];simp) ?_
   refine⟨_,rfl,_,rfl,_,rfl,p,dx,dp,ob,pf,pa,us,h,n,rfl,W3,U,hh,hn,fun l H4 hl h4 s4=>?_⟩
   refine⟨(by show 1≤sizeLine;decide),fun r hr'=>?_⟩
   have s5:=Same.new (o:=HO.lst [V.ref l]) hr'
   refine k r _ ((s3.trans s4).free hr') ⟨[(l,rdW pa h n)],upd_same,fun q hq=>?_,?_⟩ (s3.trans (s4.trans s5))
   ·rw[List.mem_singleton.mp hq]
    exact s5 _ _ h4
   ·unfold rfs
    rw[if_pos c]
    rfl
  ·refine iteN (by simp[c]) ?_
   have er:rfs pa ds h n=(sel (ldr pa) (ldr pa n,ldr pa h) ds).map (rdO pa h n):=by unfold rfs;rw[if_neg c]
   rw[er] at k
   refine⟨_,rfl,d,rfl,.inr ⟨_,.inl b3.dd⟩,_,rfl,(by show 0≤sizeLine;decide),fun e he=>?_⟩
   have s4:=Same.new (o:=HO.lst []) he
   have he4:=upd_same (H:=H3) (a:=e) (o:=HO.lst [])
   generalize upd H3 e (HO.lst [])=H4 at *
   have W4:=W3.same s4
   have b4:=b3.same s4
   obtain⟨l0,rs0,hv,h0,L0⟩:∃ l0 rs0,(yK (kvB js) (yn (ldr pa n,ldr pa h))).getD (V.ref e)=V.ref l0∧H4 l0=some (.lst rs0)∧LnAt H4 rs0 (sel (ldr pa) (ldr pa n,ldr pa h) ds):=by
    cases hc:yK (kvB js) (yn (ldr pa n,ldr pa h)) with
    |none =>
     refine⟨e,[],rfl,he4,?_⟩
     rw[b4.no _ fun z=>ug hc (kvB_keys.mpr z)]
     exact⟨rfl,fun n r p a1=>by simp at a1⟩
    |some v =>
     obtain⟨l,rfl,hl⟩:=XY hc
     obtain⟨rs,h1,h2⟩:=b4.rows _ hl
     exact⟨l,rs,rfl,h1,h2⟩
   refine⟨_,DGet.t (k:=yn (ldr pa n,ldr pa h)) b4.dd (s4 _ _ ht3),?_⟩
   rw[hv]
   refine⟨l0,rfl,⟨_,SqL.of h0⟩,fun D hD _=>?_⟩
   have lsel:(sel (ldr pa) (ldr pa n,ldr pa h) ds).length≤132:=Nat.le_trans (List.length_filter_le _ _) lds
   have hsl:∀ q∈sel (ldr pa) (ldr pa n,ldr pa h) ds,q.1∈us∧q.2∈us:=fun q hq=>hds q (List.mem_filter.mp hq).1
   generalize sel (ldr pa) (ldr pa n,ldr pa h) ds=sl at *
   have fD:=(s3.trans s4).free hD
   refine yF (K:=K) (a:=l0) (xs:=rs0) (fun j zs τ H'=>∃ (o:Option V) (ps:List (Addr×LI)),τ=[o,some (.ref p),some (.int h),some (.int n)]∧zs=ps.map (fun p=>V.ref p.1)∧H' D=some (.lst zs)∧(∀ q∈ps,H' q.1=some (.lst (q.2.map V.int)))∧ps.map (·.2)=(sl.take j).map (rdO pa h n)∧Same H4 H') ?_ ?_ ?_ ?_
   ·exact⟨none,[],rfl,rfl,upd_same,(fun q hq=>(nomatch hq)),by simp,Same.new hD⟩
   ·rintro j zs τ H' ⟨o,ps,_,_,_,_,_,sm⟩
    exact SqL.of (sm _ _ h0)
   ·rintro j v zs τ H' hj ⟨o,ps,rfl,rfl,hD',hps,eps,sm⟩
    obtain⟨q,t',hq,rfl,ht'⟩:=L0.get hj
    obtain⟨hq1,hq2⟩:=hsl q (List.mem_of_getElem? hq)
    have hjl:=(List.getElem?_eq_some_iff.mp hq).1
    have lps:ps.length≤132:=by
     have:=congrArg List.length eps
     rw[List.length_map,List.length_map,List.length_take] at this
     omega
    refine Z9 ?_
    refine⟨_,rfl,_,rfl,_,rfl,_,rfl,p,dx,dp,ob,t',pf,pa,us,h,n,q,rfl,W4.same sm,U,hh,hn,hq1,hq2,sm _ _ ht',fun l H5 hl h5 s5=>?_⟩
    have nlD:l≠D:=fun z=>by rw[z,hD'] at hl;cases hl
    refine⟨s5 _ _ hD',by rw[List.length_map];exact zk (by omega),_,ps++[(l,rdO pa h n q)],rfl,by rw[List.map_append];rfl,upd_same,fun q' hq'=>?_,?_,Same.updF (sm.trans s5) hD⟩
    ·rcases List.mem_append.mp hq' with z | z
     ·have h1:=s5 _ _ (hps q' z)
      have:q'.1≠D:=fun zz=>by
       have h2:=hps q' z
       rw[zz,hD'] at h2
       injection h2 with h2
       injection h2 with h2
       have:=congrArg List.head? h2
       cases ps with
       |nil=>cases z
       |cons p0 ps => 
        cases hc:q'.2 with
        |nil=>rw[hc] at h2;cases h2
        |cons i r=>rw[hc] at h2;cases h2
      rw[upd_ne this]
      exact h1
     ·rw[List.mem_singleton.mp z,upd_ne nlD]
      exact h5
    ·rw[List.map_append,eps,List.take_add_one,hq,List.map_append]
     rfl
   ·rintro zs τ H' ⟨o,ps,rfl,rfl,hD',hps,eps,sm⟩
    rw[List.take_of_length_le (by have:=L0.1;omega)] at eps
    exact k D H' fD ⟨ps,hD',hps,eps⟩ ((s3.trans s4).trans sm)
def zcI (a:Ad):Sp:=fun vs H Q _=>∃ (p:Addr) (hs:LI) (ls:LP),vs=[.ref p]∧WbP a H p hs ls∧∀ (l:Addr) (rs:List V) (H':Hp),H l=none→H' l=some (.lst rs)→LnAt H' rs (dbl (srt ls))→Same H H'→Q (.ref l) H'
theorem U0 (T:Txt w K mg a):FnOk P w K mg base CX0 2 a.f_qo a.d_qo ["web"] (zcI a):=by
 refine T.F_qo.ok sc_qo (fun vs H Q E h=>?_) (fun cdv A outer s H vs Q E hr h=>?_)
 ·obtain⟨p,hs,ls,rfl,_⟩:=h
  rfl
 ·obtain⟨p,hs,ls,rfl,WP,k⟩:=h
  refine zT (zb (zj (i:=1) sc_qo.nd rfl (Or.inl rfl) (zE za))
   (zb (zG PassesOwn.never rfl (zC (zW (zg 0))) (zU rfl (zm (zi (i:=2) sc_qo.nd rfl (Or.inl rfl)) (zm (zi (i:=3) sc_qo.nd rfl (Or.inl rfl)) zH)))
    (zb (zP (ym PySem.F.plainAttrs_list PySem.F.slot_list_append PySem.F.type_list_append zL (zg 1) (xV (zJ (zd (zg 2) (zd (zg 3) za))) za)))
    (ze (zP (ym PySem.F.plainAttrs_list PySem.F.slot_list_append PySem.F.type_list_append zL (zg 1) (xV (zJ (zd (zg 3) (zd (zg 2) za))) za))))))
   (ze (zh (zg 1))))) ?_
  refine⟨(by show 0≤sizeLine;decide),fun l hl=>?_⟩
  have s0:=Same.new (o:=HO.lst []) hl
  have h0:=upd_same (H:=H) (a:=l) (o:=HO.lst [])
  generalize upd H l (HO.lst [])=H0 at *
  obtain⟨wdx,oh,ol,d0,ad,W⟩:=(WP.same s0).at_
  refine⟨_,rfl,p,_,wdx,_,_,_,_,_,_,rfl,W.p,rfl,T.cl_Web,T.mt_qS,XW (P:=P) (w:=w) T,hr.m,T.b_qS,p,hs,ls,wdx,oh,ol,d0,ad,rfl,W,fun lq zs hlq Lz=>?_⟩
  have s1:=Same.new (o:=HO.lst zs) hlq
  have hz1:=upd_same (H:=H0) (a:=lq) (o:=HO.lst zs)
  have Lz1:=Lz.same s1
  have h1:=s1 _ _ h0
  have lsl:(srt ls).length≤66:=by rw[(zQ ls).length_eq];exact WP.wl.le
  generalize upd H0 lq (HO.lst zs)=H1 at *
  generalize srt ls=sb at *
  have nql:lq≠l:=fun z=>by rw[z,h0] at hlq;cases hlq
  refine⟨lq,rfl,⟨_,SqL.of hz1⟩,?_⟩
  refine for_list (xs:=zs) (fun i σ H'=>∃ (rs:List V) (o2 o3:Option V),σ=[some (.ref p),some (.ref l),o2,o3]∧H' l=some (.lst rs)∧LnAt H' rs (dbl (sb.take i))∧H' lq=some (.lst zs)∧LnAt H' zs sb∧Same H H') ?_ ?_ ?_ ?_
  ·exact⟨[],none,none,rfl,h1,⟨rfl,fun n r p a1=>by simp at a1⟩,hz1,Lz1,s0.trans s1⟩
  ·rintro i σ H' hi ⟨rs,o2,o3,_,_,_,h,_⟩
   exact SqL.of h
  ·rintro i v σ H2 hi ⟨rs,o2,o3,rfl,h2,L2',hz2,Lz2,sm⟩
   obtain⟨⟨x,y⟩,q,hp,rfl,hq⟩:=Lz2.get hi
   dsimp only at hq
   have hjl:=(List.getElem?_eq_some_iff.mp hp).1
   have etk:sb.take (i+1)=sb.take i++[(x,y)]:=by rw[List.take_add_one,hp];rfl
   have lr:rs.length≤132:=by
    rw[L2'.1,xf,List.length_take]
    omega
   refine⟨q,_,rfl,SqT.of hq,rfl,_,_,rfl,_,_,rfl,rfl,?_⟩
   refine⟨_,rfl,.inl ⟨rfl,_,SqL.of h2⟩,_,rfl,_,rfl,(by show 2≤sizeLine;decide),fun t1 ht1=>?_⟩
   have n1:=Same.new (o:=HO.tup [V.int x,V.int y]) ht1
   refine⟨l,_,_,rfl,rfl,n1 _ _ h2,zk (by omega),?_⟩
   have L3:=(((L2'.same n1).snoc (p:=(x,y)) upd_same).updN (o:=HO.lst (rs++[V.ref t1])) (n1 _ _ h2) (fun xs q=>by cases q))
   have Lz3:=(Lz2.same n1).updN (o:=HO.lst (rs++[V.ref t1])) (n1 _ _ h2) (fun xs q=>by cases q)
   have hz3:(upd (upd H2 t1 (HO.tup [V.int x,V.int y])) l (HO.lst (rs++[V.ref t1]))) lq=some (.lst zs):=by rw[upd_ne nql];exact n1 _ _ hz2
   have sm3:=(sm.trans n1).updF (o:=HO.lst (rs++[V.ref t1])) hl
   have h3:=upd_same (H:=upd H2 t1 (HO.tup [V.int x,V.int y])) (a:=l) (o:=HO.lst (rs++[V.ref t1]))
   generalize upd (upd H2 t1 (HO.tup [V.int x,V.int y])) l (HO.lst (rs++[V.ref t1]))=H3 at *
   refine⟨_,rfl,.inl ⟨rfl,_,SqL.of h3⟩,_,rfl,_,rfl,(by show 2≤sizeLine;decide),fun t2 ht2=>?_⟩
   have n2:=Same.new (o:=HO.tup [V.int y,V.int x]) ht2
   refine⟨l,_,_,rfl,rfl,n2 _ _ h3,zk (by rw[List.length_append,List.length_singleton];omega),?_⟩
   refine⟨_,_,_,rfl,upd_same,?_,by rw[upd_ne nql];exact n2 _ _ hz3,(Lz3.same n2).updN (n2 _ _ h3) (fun xs q=>by cases q),(sm3.trans n2).updF hl⟩
   rw[etk,dbl_snoc]
   exact((L3.same n2).snoc (p:=(y,x)) upd_same).updN (n2 _ _ h3) (fun xs q=>by cases q)
  ·rintro σ H' ⟨rs,o2,o3,rfl,h2,L2',_,_,sm⟩
   rw[List.take_of_length_le (by have:=Lz1.1;omega)] at L2'
   exact⟨_,rfl,k l rs H' hl h2 L2' sm⟩
open L2.Sco (PT PsAt)
theorem LnAt.prs {H:Hp}:∀ {rs:List V}{ls:LP},LnAt H rs ls→∃ ps:List (Addr×Int×Int),ps.map (fun p=>V.ref p.1)=rs∧ps.map (·.2)=ls∧∀ p∈ps,H p.1=some (.tup [.int p.2.1,.int p.2.2])
 |[],[],_=>⟨[],rfl,rfl,fun p hp=>(nomatch hp)⟩
 |[],l::ls,h=>absurd h.1 (by simp)
 |r::rs,[],h=>absurd h.1 (by simp)
 |r::rs,l::ls,h=>by
  obtain⟨q,e1,e2⟩:=h.2 0 r l rfl rfl
  obtain⟨ps,h1,h2,h3⟩:=LnAt.prs (rs:=rs) (ls:=ls) ⟨by have:=h.1;simpa using this,fun i r p a1 a2=>h.2 (i+1) r p (by simpa using a1) (by simpa using a2)⟩
  refine⟨(q,l)::ps,by rw[List.map_cons,h1,e1],by rw[List.map_cons,h2],fun p hp=>?_⟩
  rcases List.mem_cons.mp hp with e | e
  ·rw[e];exact e2
  ·exact h3 p e
def kvP (js:List ((Int×Int)×Addr×LI)):List (List Key×V):=js.map fun j=>(yn j.1,V.ref j.2.1)
structure Pp (H:Hp) (d:Addr) (js:List ((Int×Int)×Addr×LI)):Prop where
 dd:H d=some (.dT (kvP js))
 nd:(js.map (·.1)).Nodup
 row:∀ j∈js,H j.2.1=some (.lst (j.2.2.map V.int))
 len:js.length≤132
theorem Pp.same {H H':Hp}{d:Addr}{js:List ((Int×Int)×Addr×LI)}(p:Pp H d js) (s:Same H H'):Pp H' d js:=⟨s _ _ p.dd,p.nd,fun j hj=>s _ _ (p.row j hj),p.len⟩
theorem xP {js:List ((Int×Int)×Addr×LI)}:(kvP js).map (·.1)=(js.map (·.1)).map yn:=by
 unfold kvP
 rw[List.map_map,List.map_map]
 rfl
theorem VD {js:List ((Int×Int)×Addr×LI)}(nd:(js.map (·.1)).Nodup){j:(Int×Int)×Addr×LI}(h:j∈js):yK (kvP js) (yn j.1)=some (.ref j.2.1):=by
 refine uh ?_ (List.mem_map.mpr ⟨j,h,rfl⟩)
 rw[xP]
 exact List.pairwise_map.mpr (nd.imp fun h e=>h (yz e))
theorem X6:∀ {ls:LP},ls.Nodup→(∀ p∈ls,p.1<p.2)→(dbl ls).Nodup
 |[],_,_=>List.nodup_nil
 |p::ls,hn,h=>by
  rw[List.nodup_cons] at hn
  have ih:=X6 (ls:=ls) hn.2 fun q hq=>h q (List.mem_cons_of_mem _ hq)
  have hp:=h p List.mem_cons_self
  show(p::(p.2,p.1)::dbl ls).Nodup
  rw[List.nodup_cons,List.nodup_cons]
  refine⟨fun z=>?_,fun z=>?_,ih⟩
  ·rcases List.mem_cons.mp z with e | e
   ·have:=congrArg Prod.fst e
    dsimp only at this
    omega
   ·rcases mem_dbl.mp e with e | e
    ·exact hn.1 e
    ·have:=h _ (List.mem_cons_of_mem _ e)
     dsimp only at this
     omega
  ·rcases mem_dbl.mp z with e | e
   ·have:=h _ (List.mem_cons_of_mem _ e)
    dsimp only at this
    omega
   ·exact hn.1 e
theorem Ls.dnd {hs:LI}{ls:LP}(L:Ls hs ls):(dbl (srt ls)).Nodup:=X6 ((zQ ls).nodup_iff.mpr L.nd) fun p hp=>(L.ok p ((zQ ls).mem_iff.mp hp)).2.2
theorem mem_ds {ls:LP}{q:Int×Int}:q∈dbl (srt ls)↔q∈dbl ls:=by
 rw[mem_dbl,mem_dbl,(zQ ls).mem_iff,(zQ ls).mem_iff]
theorem Up {as bs:LP}(na:as.Nodup) (nb:bs.Nodup) (h:∀ x∈as,x∈bs) (hl:as.length=bs.length):∀ x∈bs,x∈as:=fun x hx=>by
 by_cases c:x∈as
 ·exact c
 ·have h1:=xo (as:=x::as) (bs:=bs) (List.nodup_cons.mpr ⟨c,na⟩) fun y hy=>by
   rcases List.mem_cons.mp hy with e | e
   ·rw[e];exact hx
   ·exact h y e
  rw[List.length_cons] at h1
  omega
theorem XH {pa:Int→LI}{bs:LP}{x y:Int}(h:ldr pa x≠ldr pa y→∃ b∈bs,jk (ldr pa) b=jk (ldr pa) (x,y)):rfs pa (dbl (srt bs)) x y≠[]:=by
 unfold rfs
 by_cases c:ldr pa y=ldr pa x
 ·rw[if_pos c];simp
 ·rw[if_neg c]
  obtain⟨b,hb,e⟩:=h fun z=>c z.symm
  have e1:=congrArg Prod.fst e
  have e2:=congrArg Prod.snd e
  unfold jk at e1 e2
  dsimp only at e1 e2
  intro z
  rw[List.map_eq_nil_iff] at z
  have hz:∀ q:Int×Int,q∈dbl (srt bs)→(ldr pa q.1,ldr pa q.2)≠(ldr pa y,ldr pa x):=fun q hq e=>by
   have:q∈sel (ldr pa) (ldr pa y,ldr pa x) (dbl (srt bs)):=List.mem_filter.mpr ⟨hq,decide_eq_true e⟩
   rw[z] at this
   cases this
  by_cases c1:ldr pa b.1=ldr pa y
  ·exact hz b (mem_ds.mpr (mem_dbl.mpr (.inl hb))) (Prod.ext c1 (by show ldr pa b.2=ldr pa x;omega))
  ·exact hz (b.2,b.1) (mem_ds.mpr (mem_dbl.mpr (.inr hb))) (Prod.ext (by show ldr pa b.2=ldr pa y;omega) (by show ldr pa b.1=ldr pa x;omega))
def zcP (K:PySem.W.Frag):Sp:=fun vs H Q _=>∃ (l:Addr) (ns:LI),vs=[.ref l]∧(SqL K H l (ns.map V.int)∨SqT K H l (ns.map V.int))∧Q (.bl true) H
theorem U6 (T:Txt w K mg a):FnOk P w K mg base CX0 2 a.f_qq a.d_qq ["values"] (zcP K):=by
 have c_qa:Callee P w K mg base "is_whole" a.f_qa a.d_qa ["value"] 1 wM:=⟨vA T,T.g_qa,T.F_qa.kp,T.b_qa⟩
 refine T.F_qq.ok sc_qq (fun vs H Q E h=>?_) (fun cdv A outer s H vs Q E hr h=>?_)
 ·obtain⟨l,ns,rfl,_⟩:=h
  rfl
 ·obtain⟨l,ns,rfl,hor,k⟩:=h
  refine zT (zb (zG PassesOwn.never rfl (Yq (zC (zg 0)) (ue (zg 0))) (zi (i:=1) sc_qq.nd rfl (Or.inl rfl))
    (ze (zy (zI (zF (zp c_qa hr.m (zd (zg 1) za))))
     (ze (zh zD))
     zo)))
   (ze (zh zD))) ?_
  rcases hor with hl | hl
  ·refine .inl ⟨_,rfl,l,rfl,⟨_,hl⟩,?_⟩
   refine for_list (xs:=ns.map V.int) (fun i σ H'=>∃ (o1:Option V),σ=[some (.ref l),o1]∧H'=H) ?_ ?_ ?_ ?_
   ·exact⟨none,rfl,rfl⟩
   ·rintro i σ H' hi ⟨o1,_,rfl⟩
    exact hl
   ·rintro i v σ H' hi ⟨o1,rfl,rfl⟩
    rw[List.getElem?_map] at hi
    obtain⟨x,hx,rfl⟩:=Option.map_eq_some_iff.mp hi
    exact⟨_,rfl,_,true,rfl,.int x,_,rfl,iteN rfl ⟨_,rfl,rfl⟩⟩
   ·rintro σ H' ⟨o1,rfl,rfl⟩
    exact k
  ·refine .inr ⟨_,rfl,l,rfl,⟨_,hl⟩,?_⟩
   refine for_tup (xs:=ns.map V.int) (fun i σ H'=>∃ (o1:Option V),σ=[some (.ref l),o1]∧H'=H) ?_ ?_ ?_ ?_
   ·exact⟨none,rfl,rfl⟩
   ·rintro i σ H' hi ⟨o1,_,rfl⟩
    exact hl
   ·rintro i v σ H' hi ⟨o1,rfl,rfl⟩
    rw[List.getElem?_map] at hi
    obtain⟨x,hx,rfl⟩:=Option.map_eq_some_iff.mp hi
    exact⟨_,rfl,_,true,rfl,.int x,_,rfl,iteN rfl ⟨_,rfl,rfl⟩⟩
   ·rintro σ H' ⟨o1,rfl,rfl⟩
    exact k
def spHj:Sp:=fun vs H Q _=>∃ (d l:Addr) (js:List ((Int×Int)×Addr×LI)) (rs:List V) (qs:LP),vs=[.ref d,.ref l]∧Pp H d js∧H l=some (.lst rs)∧LnAt H rs qs∧∀ (b:Bool),(b=true↔(∀ j∈js,j.1∈qs)∧js.length=qs.length)→Q (.bl b) H
theorem zds (T:Txt w K mg a):FnOk P w K mg base CX0 3 a.f_qr a.d_qr ["paper", "pairs"] spHj:=by
 have c_qq:Callee P w K mg base "are_wholes" a.f_qq a.d_qq ["values"] 2 (zcP K):=⟨U6 T,T.g_qq,T.F_qq.kp,T.b_qq⟩
 refine T.F_qr.ok sc_qr (fun vs H Q E h=>?_) (fun cdv A outer s H vs Q E hr h=>?_)
 ·obtain⟨d,l,js,rs,qs,rfl,_⟩:=h
  rfl
 ·obtain⟨d,l,js,rs,qs,rfl,pp,hl,L,k⟩:=h
  have hu:=xb hr
  have un:=hr.units
  refine zT (zb (uG (zG PassesOwn.never rfl (vM (zg 0)) (zi (i:=2) sc_qr.nd rfl (Or.inl rfl))
    (ze (zy (vc (yo (zI (zF (zl zR (by rfl) T.n_isinstance zv (zd (zg 2) (zd (yk T.n_tuple yR) za))))) (yo (zI (zF (zp c_qq hr.m (zd (zg 2) za)))) (yj (zn ZJ (zg 2) (zg 1) (by with_unfolding_all rfl))))))
     (ze (zh zD))
     zo))))
   (ze (zh (yf xt (zl u3 (by rfl) T.n_len yi (zd (zg 0) za)) (zl zw (by rfl) T.n_len yi (zd (zg 1) za)) (zB _))))) ?_
  refine⟨_,rfl,d,kvP js,rfl,pp.dd,fun od S=>?_⟩
  have x1:Ext d H (upd H d (HO.frz od (HO.dT (kvP js)))):=Ext.at
  have hz1:=upd_same (H:=H) (a:=d) (o:=HO.frz od (HO.dT (kvP js)))
  have back:upd (upd H d (HO.frz od (HO.dT (kvP js)))) d (HO.dT (kvP js))=H:=by
   rw[xW]
   funext b
   by_cases z:b=d
   ·rw[z,upd_same,pp.dd]
   ·rw[upd_ne z]
  generalize upd H d (HO.frz od (HO.dT (kvP js)))=H1 at *
  have nld:l≠d:=fun z=>by rw[z,pp.dd] at hl;cases hl
  have hl1:=x1 _ _ hl nld
  have L1:LnAt H1 rs qs:=⟨L.1,fun n r p a1 a2=>by
   obtain⟨qq,b1,b2⟩:=L.2 n r p a1 a2
   exact⟨qq,b1,x1 _ _ b2 fun z=>by rw[z,pp.dd] at b2;cases b2⟩⟩
  obtain⟨ps,e1,e2,e3⟩:=L1.prs
  refine for_keysT (d:=d) (od:=od) (kvs:=kvP js) (fun i σ H'=>∃ (o2:Option V),σ=[some (.ref d),some (.ref l),o2]∧H'=H1∧∀ j∈js.take i,j.1∈qs) ?_ ?_ ?_ ?_
  ·exact⟨none,rfl,rfl,fun j hj=>by simp at hj⟩
  ·rintro i σ H' ⟨o2,_,rfl,_⟩
   exact hz1
  ·rintro i kv b σ H' hkv hb ⟨o2,rfl,rfl,gd⟩
   unfold kvP at hkv
   rw[List.getElem?_map] at hkv
   obtain⟨j,hj,e⟩:=Option.map_eq_some_iff.mp hkv
   subst e
   have etk:js.take (i+1)=js.take i++[j]:=by rw[List.take_add_one,hj];rfl
   refine⟨_,rfl,_,_,_,_,_,rfl,rfl,.tup hb,T.k_ttuple_ttuple,_,rfl,iteN rfl ?_⟩
   refine⟨_,rfl,b,[j.1.1,j.1.2],rfl,.inr (SqT.of hb),_,rfl,iteN rfl ?_⟩
   refine⟨_,rfl,_,rfl,l,b,ps,j.1.1,j.1.2,rfl,rfl,by rw[e1];exact SqL.of hl1,e3,hb,Nat.lt_of_le_of_lt (Nat.add_le_add_left (by decide:5≤64) _) hr.units,_,rfl,?_⟩
   rw[e2]
   by_cases c:j.1∈qs
   ·refine iteN (by rw[decide_eq_true (show(j.1.1,j.1.2)∈qs from c)];rfl) ⟨_,rfl,rfl,fun j' hj'=>?_⟩
    rw[etk] at hj'
    rcases List.mem_append.mp hj' with z | z
    ·exact gd j' z
    ·rw[List.mem_singleton.mp z];exact c
   ·refine iteB (by rw[decide_eq_false (show(j.1.1,j.1.2)∉qs from c)];rfl) ?_
    refine .inr ⟨d,od,_,S,hz1,?_⟩
    rw[back]
    exact k false ⟨fun z=>(nomatch z),fun h=>absurd (h.1 j (List.mem_of_getElem? hj)) c⟩
  ·rintro σ H' ⟨o2,rfl,rfl,gd⟩
   refine .inr ⟨d,od,_,S,hz1,?_⟩
   rw[back]
   have hlk:(kvP js).length=js.length:=by unfold kvP;rw[List.length_map]
   rw[hlk,List.take_length] at gd
   refine⟨_,rfl,d,_,rfl,pp.dd,_,rfl,l,_,rfl,.inl (SqL.of hl),rfl,?_⟩
   refine k _ ?_
   rw[decide_eq_true_eq,hlk,L.1]
   constructor
   ·intro h
    injection h with h
    exact⟨gd,by omega⟩
   ·rintro⟨_,h⟩
    rw[h]
open L2.Sco (PT PsAt)
theorem zkN {k:Nat}{A:Around}(hr:Room k A):A.units+70<cLine:=by have:=hr.un;omega
structure HoB (us:LI) (ls:LP) (pf:Int→Option Int) (bs:LP) (js:List ((Int×Int)×Addr×LI)):Prop where
 g:GrB us ls pf bs
 kk:∀ j∈js,j.1∈dbl (srt ls)
 ln:js.length=(dbl (srt ls)).length
 rd:∀ j∈js,j.2.2∈rfs (paO pf) (dbl (srt bs)) j.1.1 j.1.2
def zjq (a:Ad):Sp:=fun vs H Q _=>∃ (p q d dx dp ob:Addr) (hs us:LI) (ls bs:LP) (pf:Int→Option Int) (js:List ((Int×Int)×Addr×LI)),vs=[.ref p,.ref q,.ref d]∧WbP a H p hs ls∧WayAt a H q pf us bs dx dp ob∧(∀ x,x∈us↔x∈hs)∧Cl us pf∧BrL ls bs∧Pp H d js∧∀ (b:Bool) (H':Hp),(b=true↔HoB us ls pf bs js)→Same H H'→Q (.bl b) H'
theorem zdr (T:Txt w K mg a):FnOk P w K mg base CX0 9 a.f_qs a.d_qs ["web", "way", "paper"] (zjq a):=by
 have c_qo:Callee P w K mg base "pairs_of" a.f_qo a.d_qo ["web"] 2 (zcI a):=⟨U0 T,T.g_qo,T.F_qo.kp,T.b_qo⟩
 have c_qg:Callee P w K mg base "is_grounded" a.f_qg a.d_qg ["web", "way"] 8 (zcM a):=⟨U3 T,T.g_qg,T.F_qg.kp,T.b_qg⟩
 have c_qr:Callee P w K mg base "has_just_pairs" a.f_qr a.d_qr ["paper", "pairs"] 3 spHj:=⟨zds T,T.g_qr,T.F_qr.kp,T.b_qr⟩
 have c_qm:Callee P w K mg base "bridges_by_leaders" a.f_qm a.d_qm ["way"] 7 (zcO a):=⟨U5 T,T.g_qm,T.F_qm.kp,T.b_qm⟩
 have c_qq:Callee P w K mg base "are_wholes" a.f_qq a.d_qq ["values"] 2 (zcP K):=⟨U6 T,T.g_qq,T.F_qq.kp,T.b_qq⟩
 have c_qn:Callee P w K mg base "roads_for" a.f_qn a.d_qn ["way", "bridges", "hand", "neighbour"] 4 (zcG a):=⟨UY T,T.g_qn,T.F_qn.kp,T.b_qn⟩
 refine T.F_qs.ok sc_qs (fun vs H Q E h=>?_) (fun cdv A outer s H vs Q E hr h=>?_)
 ·obtain⟨p,q,d,dx,dp,ob,hs,us,ls,bs,pf,js,rfl,_⟩:=h
  rfl
 ·obtain⟨p,q,d,dx,dp,ob,hs,us,ls,bs,pf,js,rfl,WP,Y,hm,C,BL,pp,k⟩:=h
  have hu:=xb hr
  refine zT (zb (zj (i:=3) sc_qs.nd rfl (Or.inl rfl) (zp c_qo hr.m (zd (zg 0) za)))
   (zb (zy (vc (yo (zI (zF (zp c_qg hr.m (zd (zg 0) (zd (zg 1) za))))) (yo (zI (zF (zl zR (by rfl) T.n_isinstance zv (zd (zg 2) (zd (yk T.n_dict wn) za))))) (yj (zI (zF (zp c_qr hr.m (zd (zg 2) (zd (zg 3) za)))))))))
    (ze (zh zD))
    zo)
   (zb (zj (i:=4) sc_qs.nd rfl (Or.inl rfl) (zp c_qm hr.m (zd (zg 1) za)))
   (zb (zG PassesOwn.never rfl (zC (zg 3)) (zU rfl (zm (zi (i:=5) sc_qs.nd rfl (Or.inl rfl)) (zm (zi (i:=6) sc_qs.nd rfl (Or.inl rfl)) zH)))
    (zb (zj (i:=7) sc_qs.nd rfl (Or.inl rfl) (xv hu (zg 2) (zJ (zd (zg 5) (zd (zg 6) za))) (fun _ _=>rfl)))
    (zb (zy (vc (yo (zI (zF (zl zR (by rfl) T.n_isinstance zv (zd (zg 7) (zd (yk T.n_list bt_list) za))))) (yj (zI (zF (zp c_qq hr.m (zd (zg 7) za)))))))
     (ze (zh zD))
     zo)
    (ze (zy (zn ZK (zg 7) (zp c_qn hr.m (zd (zg 1) (zd (zg 4) (zd (zg 5) (zd (zg 6) za))))) (by with_unfolding_all rfl))
     (ze (zh zD))
     zo)))))
   (ze (zh zD)))))) ?_
  refine⟨_,rfl,p,hs,ls,rfl,WP,fun l rs H1 hl h1 L1 s1=>?_⟩
  refine⟨_,rfl,_,rfl,p,q,dx,dp,ob,hs,us,ls,bs,pf,rfl,WP.same s1,Y.same s1,hm,C,BL,fun b1 H2 hb1 s2=>⟨_,rfl,?_⟩⟩
  have s02:=s1.trans s2
  cases hc1:b1 with
  |false=>exact xM (k false _ ⟨fun z=>(nomatch z),fun h=>by have:=hb1.mpr h.g;rw[hc1] at this;cases this⟩ s02)
  |true =>
  have g:=hb1.mp hc1
  have U:=UpP.of C g.en
  have inl:∀ b∈bs,b∈ls:=fun b hb=>BL.inl WP.wl hb (g.gd.1 b hb).1
  have l66:bs.length≤63:=Nat.le_trans (xo g.gd.2 inl) WP.l63
  have Bb:Bd bs:=fun b hb=>(WP.wl.bd WP.wh) b (inl b hb)
  have bin:∀ b∈bs,b.1∈us∧b.2∈us:=fun b hb=>⟨(hm _).mpr (WP.wl.ok b (inl b hb)).1,(hm _).mpr (WP.wl.ok b (inl b hb)).2.1⟩
  have din:∀ b∈dbl (srt bs),b.1∈us∧b.2∈us:=fun b hb=>by
   rcases mem_dbl.mp (mem_ds.mp hb) with z | z
   ·exact bin b z
   ·exact⟨(bin _ z).2,(bin _ z).1⟩
  have dln:(dbl (srt bs)).length≤132:=by rw[xf,(zQ bs).length_eq];omega
  have pin:∀ b∈dbl (srt ls),b.1∈us∧b.2∈us:=fun b hb=>by
   rcases mem_dbl.mp (mem_ds.mp hb) with z | z
   ·exact⟨(hm _).mpr (WP.wl.ok _ z).1,(hm _).mpr (WP.wl.ok _ z).2.1⟩
   ·exact⟨(hm _).mpr (WP.wl.ok _ z).2.1,(hm _).mpr (WP.wl.ok _ z).1⟩
  have dnd:=WP.wl.dnd
  refine iteN rfl ?_
  have pp2:=pp.same s02
  refine⟨_,rfl,_,_,_,_,_,rfl,rfl,.dT pp2.dd,T.k_tdict_tdict,_,rfl,iteN rfl ?_⟩
  refine⟨_,rfl,_,rfl,d,l,js,rs,_,rfl,pp2,s2 _ _ h1,L1.same s2,fun b3 hb3=>⟨_,rfl,?_⟩⟩
  cases hc3:b3 with
  |false=>exact xM (k false _ ⟨fun z=>(nomatch z),fun h=>by have:=hb3.mpr ⟨h.kk,h.ln⟩;rw[hc3] at this;cases this⟩ s02)
  |true =>
  obtain⟨kk,ln⟩:=hb3.mp hc3
  refine iteN rfl ?_
  refine⟨_,rfl,q,dx,dp,ob,pf,paO pf,us,bs,rfl,Y.same s02,U,Bb,l66,bin,fun bd bj H4 hbd br4 lbj s4=>?_⟩
  have s04:=s02.trans s4
  have h4:=s4 _ _ (s2 _ _ h1)
  have L4:=(L1.same s2).same s4
  have Y4:=Y.same s04
  have pp4:=pp.same s04
  refine⟨_,rfl,l,rfl,⟨_,SqL.of h4⟩,?_⟩
  have lr:=L4.1
  generalize hqs:dbl (srt ls)=qs at *
  refine for_list (xs:=rs) (fun i σ H'=>∃ (o5 o6 o7:Option V),σ=[some (.ref p),some (.ref q),some (.ref d),some (.ref l),some (.ref bd),o5,o6,o7]∧Same H4 H'∧∀ j∈js,j.1∈qs.take i→j.2.2∈rfs (paO pf) (dbl (srt bs)) j.1.1 j.1.2) ?_ ?_ ?_ ?_
  ·exact⟨none,none,none,rfl,Same.refl _,fun j _ hj=>by simp at hj⟩
  ·rintro i σ H' hi ⟨o5,o6,o7,_,sm,_⟩
   exact SqL.of (sm _ _ h4)
  ·rintro i v σ H5 hi ⟨o5,o6,o7,rfl,sm,gd⟩
   obtain⟨⟨x,y⟩,t,hp,rfl,ht⟩:=(L4.same sm).get hi
   have hxy:=List.mem_of_getElem? hp
   obtain⟨hx,hy⟩:=pin _ hxy
   dsimp only at ht hx hy
   have etk:qs.take (i+1)=qs.take i++[(x,y)]:=by rw[List.take_add_one,hp];rfl
   refine⟨t,_,rfl,SqT.of ht,rfl,_,_,rfl,_,_,rfl,rfl,?_⟩
   have hkj:=Up pp.nd dnd (fun u hu=>by obtain⟨j,hj,rfl⟩:=List.mem_map.mp hu;exact kk j hj) (by rw[List.length_map];exact ln) _ hxy
   obtain⟨j,hj,ej⟩:=List.mem_map.mp hkj
   refine⟨_,rfl,_,rfl,_,rfl,(by show 2≤sizeLine;decide),fun kt hkt=>?_⟩
   have s6:=Same.new (o:=HO.tup [V.int x,V.int y]) hkt
   have hk6:=upd_same (H:=H5) (a:=kt) (o:=HO.tup [V.int x,V.int y])
   generalize upd H5 kt (HO.tup [V.int x,V.int y])=H6 at *
   have s46:=sm.trans s6
   have pp6:=pp4.same s46
   have hval:some (V.ref j.2.1)=yK (kvP js) (yn (x,y)):=by rw[← ej];exact(VD pp.nd hj).symm
   have hrow:=pp6.row j hj
   refine⟨d,V.ref j.2.1,rfl,by rw[hval];exact DGet.t (k:=yn (x,y)) pp6.dd hk6,?_⟩
   refine⟨_,rfl,_,_,_,_,_,rfl,rfl,.lst hrow,T.k_tlist_tlist,_,rfl,iteN rfl ?_⟩
   refine⟨_,rfl,j.2.1,j.2.2,rfl,.inl (SqL.of hrow),_,rfl,iteN rfl ?_⟩
   refine⟨_,rfl,_,rfl,_,rfl,_,rfl,_,rfl,q,dx,dp,ob,bd,pf,paO pf,us,dbl (srt bs),bj,x,y,rfl,(Y4.same s46).r,U,br4.same s46,din,dln,hx,hy,fun lr H7 hlr ll7 s7=>?_⟩
   obtain⟨ps,e1,e2,e3⟩:=ll7
   have s47:=s46.trans s7
   refine⟨lr,j.2.1,ps,j.2.2,rfl,rfl,SqL.of e1,e2,s7 _ _ hrow,zkN hr,_,rfl,?_⟩
   rw[e3]
   by_cases c:j.2.2∈rfs (paO pf) (dbl (srt bs)) x y
   ·refine iteN (by rw[decide_eq_true c];rfl) ⟨_,_,_,rfl,s47,fun j' hj' hm'=>?_⟩
    rw[etk] at hm'
    rcases List.mem_append.mp hm' with z | z
    ·exact gd j' hj' z
    ·have z:=List.mem_singleton.mp z
     have:=Z6 pp.nd hj' hj (z.trans ej.symm)
     rw[this,ej]
     exact c
   ·refine iteB (by rw[decide_eq_false c];rfl) ?_
    refine k false _ ⟨fun z=>(nomatch z),fun h=>?_⟩ (s04.trans s47)
    have:=h.rd j hj
    rw[ej] at this
    exact absurd this c
  ·rintro σ H' ⟨o5,o6,o7,rfl,sm,gd⟩
   refine k true _ ⟨fun _=>⟨g,by rw[hqs];exact kk,by rw[hqs];exact ln,fun j hj=>gd j hj ?_⟩,fun _=>rfl⟩ (s04.trans sm)
   rw[List.take_of_length_le (by omega)]
   exact kk j hj
def zjh (a:Ad):Sp:=fun vs H Q _=>∃ (p q dx dp ob:Addr) (hs us:LI) (ls bs:LP) (pf:Int→Option Int),vs=[.ref p,.ref q]∧WbP a H p hs ls∧WayAt a H q pf us bs dx dp ob∧(∀ x,x∈us↔x∈hs)∧Cl us pf∧BrL ls bs∧GG us ls pf bs∧∀ (H':Hp),Same H H'→Q .non H'
theorem zdh (T:Txt w K mg a):FnOk P w K mg base CX0 10 a.f_qj a.d_qj ["web", "way"] (zjh a):=by
 have c_qi:Callee P w K mg base "lets" a.f_qi a.d_qi ["web", "way"] 9 (zjl a):=⟨zdm T,T.g_qi,T.F_qi.kp,T.b_qi⟩
 refine T.F_qj.ok zcU (fun vs H Q E h=>?_) (fun cdv A outer s H vs Q E hr h=>?_)
 ·obtain⟨p,q,dx,dp,ob,hs,us,ls,bs,pf,rfl,_⟩:=h
  rfl
 ·obtain⟨p,q,dx,dp,ob,hs,us,ls,bs,pf,rfl,WP,Y,hm,C,BL,gg,k⟩:=h
  refine zT (ze (zy (zI (zF (zp c_qi hr.m (zd (zg 0) (zd (zg 1) za)))))
    (ze uH)
    zo)) ?_
  refine⟨_,rfl,_,rfl,p,q,dx,dp,ob,hs,us,ls,bs,pf,rfl,WP,Y,hm,C,BL,fun b H1 hb s1=>⟨_,rfl,?_⟩⟩
  rw[hb.mpr gg]
  exact iteN rfl (k _ s1)
structure RdB (us:LI) (ls:LP) (pf:Int→Option Int) (bs:LP) (js:List ((Int×Int)×Addr×LI)):Prop where
 ks:js.map (·.1)=dbl (srt ls)
 hd:∀ j∈js,(rfs (paO pf) (dbl (srt bs)) j.1.1 j.1.2).head?=some j.2.2
def zji (a:Ad):Sp:=fun vs H Q _=>∃ (p q dx dp ob:Addr) (hs us:LI) (ls bs:LP) (pf:Int→Option Int),vs=[.ref p,.ref q]∧WbP a H p hs ls∧WayAt a H q pf us bs dx dp ob∧(∀ x,x∈us↔x∈hs)∧Cl us pf∧BrL ls bs∧GG us ls pf bs∧∀ (d:Addr) (js:List ((Int×Int)×Addr×LI)) (H':Hp),H d=none→Pp H' d js→RdB us ls pf bs js→Same H H'→Q (.ref d) H'
theorem zdi (T:Txt w K mg a):FnOk P w K mg base CX0 11 a.f_qp a.d_qp ["web", "way"] (zji a):=by
 have c_qj:Callee P w K mg base "refuse_unlet" a.f_qj a.d_qj ["web", "way"] 10 (zjh a):=⟨zdh T,T.g_qj,T.F_qj.kp,T.b_qj⟩
 have c_qo:Callee P w K mg base "pairs_of" a.f_qo a.d_qo ["web"] 2 (zcI a):=⟨U0 T,T.g_qo,T.F_qo.kp,T.b_qo⟩
 have c_qm:Callee P w K mg base "bridges_by_leaders" a.f_qm a.d_qm ["way"] 7 (zcO a):=⟨U5 T,T.g_qm,T.F_qm.kp,T.b_qm⟩
 have c_qn:Callee P w K mg base "roads_for" a.f_qn a.d_qn ["way", "bridges", "hand", "neighbour"] 4 (zcG a):=⟨UY T,T.g_qn,T.F_qn.kp,T.b_qn⟩
 refine T.F_qp.ok sc_qp (fun vs H Q E h=>?_) (fun cdv A outer s H vs Q E hr h=>?_)
 ·obtain⟨p,q,dx,dp,ob,hs,us,ls,bs,pf,rfl,_⟩:=h
  rfl
 ·obtain⟨p,q,dx,dp,ob,hs,us,ls,bs,pf,rfl,WP,Y,hm,C,BL,gg,k⟩:=h
  have hu:=xb hr
  have g:=gg.g
  have U:=UpP.of C g.en
  have inl:∀ b∈bs,b∈ls:=fun b hb=>BL.inl WP.wl hb (g.gd.1 b hb).1
  have l66:bs.length≤63:=Nat.le_trans (xo g.gd.2 inl) WP.l63
  have Bb:Bd bs:=fun b hb=>(WP.wl.bd WP.wh) b (inl b hb)
  have bin:∀ b∈bs,b.1∈us∧b.2∈us:=fun b hb=>⟨(hm _).mpr (WP.wl.ok b (inl b hb)).1,(hm _).mpr (WP.wl.ok b (inl b hb)).2.1⟩
  have din:∀ b∈dbl (srt bs),b.1∈us∧b.2∈us:=fun b hb=>by
   rcases mem_dbl.mp (mem_ds.mp hb) with z | z
   ·exact bin b z
   ·exact⟨(bin _ z).2,(bin _ z).1⟩
  have dln:(dbl (srt bs)).length≤132:=by rw[xf,(zQ bs).length_eq];omega
  have pin:∀ b∈dbl (srt ls),b.1∈us∧b.2∈us:=fun b hb=>by
   rcases mem_dbl.mp (mem_ds.mp hb) with z | z
   ·exact⟨(hm _).mpr (WP.wl.ok _ z).1,(hm _).mpr (WP.wl.ok _ z).2.1⟩
   ·exact⟨(hm _).mpr (WP.wl.ok _ z).2.1,(hm _).mpr (WP.wl.ok _ z).1⟩
  have cov:∀ b∈dbl (srt ls),rfs (paO pf) (dbl (srt bs)) b.1 b.2≠[]:=fun b hb=>XH fun hne=>by
   rcases mem_dbl.mp (mem_ds.mp hb) with z | z
   ·exact gg.cov b z hne
   ·obtain⟨c,hc,e⟩:=gg.cov _ z fun zz=>hne zz.symm
    refine⟨c,hc,e.trans ?_⟩
    unfold jk
    rw[Int.min_comm,Int.max_comm]
  have dnd:=WP.wl.dnd
  have pln:(dbl (srt ls)).length≤132:=by rw[xf,(zQ ls).length_eq];have:=WP.wl.le;omega
  refine zT (zb (zP (zp c_qj hr.m (zd (zg 0) (zd (zg 1) za))))
   (zb (zj (i:=2) sc_qp.nd rfl (Or.inl rfl) (zp c_qm hr.m (zd (zg 1) za)))
   (zb (zj (i:=3) sc_qp.nd rfl (Or.inl rfl) yA)
   (zb (zG PassesOwn.never rfl (zC (zp c_qo hr.m (zd (zg 0) za))) (zU rfl (zm (zi (i:=4) sc_qp.nd rfl (Or.inl rfl)) (zm (zi (i:=5) sc_qp.nd rfl (Or.inl rfl)) zH)))
    (ze (yL hu (zg 3) (zJ (zd (zg 4) (zd (zg 5) za))) (zx zS (zp c_qn hr.m (zd (zg 1) (zd (zg 2) (zd (zg 4) (zd (zg 5) za))))) zf (fun _ _=>rfl)) rfl)))
   (ze (zh (zg 3))))))) ?_
  refine⟨_,rfl,_,rfl,p,q,dx,dp,ob,hs,us,ls,bs,pf,rfl,WP,Y,hm,C,BL,gg,fun H1 s1=>?_⟩
  refine⟨_,rfl,q,dx,dp,ob,pf,paO pf,us,bs,rfl,Y.same s1,U,Bb,l66,bin,fun bd bj H2 hbd br2 lbj s2=>?_⟩
  refine fun d hd=>?_
  have s3:=Same.new (o:=HO.dT []) hd
  have h3:=upd_same (H:=H2) (a:=d) (o:=HO.dT [])
  generalize upd H2 d (HO.dT [])=H3 at *
  have s02:=s1.trans s2
  have s03:=s02.trans s3
  refine⟨_,rfl,p,hs,ls,rfl,WP.same s03,fun l rs H4 hl h4 L4 s4=>?_⟩
  have s24:=s3.trans s4
  have fd:H d=none:=s02.free hd
  refine⟨l,rfl,⟨_,SqL.of h4⟩,?_⟩
  have lr:=L4.1
  have nld:l≠d:=fun z=>by rw[z,h3] at hl;cases hl
  have hd4:=s4 _ _ h3
  generalize hqs:dbl (srt ls)=qs at *
  have LX:∀ {G:Hp},Ext d H4 G→LnAt G rs qs:=fun {G} x=>⟨L4.1,fun n r p a1 a2=>by
   obtain⟨qq,b1,b2⟩:=L4.2 n r p a1 a2
   exact⟨qq,b1,x _ _ b2 fun z=>by rw[z,hd4] at b2;cases b2⟩⟩
  have SX:∀ {G:Hp},Ext d H4 G→Same H2 G:=fun {G} x c o hc=>x _ _ (s24 _ _ hc) fun z=>by rw[z,hd] at hc;cases hc
  refine for_list (xs:=rs) (fun i σ H'=>∃ (js:List ((Int×Int)×Addr×LI)) (o4 o5:Option V),σ=[some (.ref p),some (.ref q),some (.ref bd),some (.ref d),o4,o5]∧Pp H' d js∧js.map (·.1)=qs.take i∧(∀ j∈js,(rfs (paO pf) (dbl (srt bs)) j.1.1 j.1.2).head?=some j.2.2)∧Ext d H4 H') ?_ ?_ ?_ ?_
  ·exact⟨[],none,none,rfl,⟨hd4,List.nodup_nil,(fun j hj=>(nomatch hj)),by simp⟩,by simp,(fun j hj=>(nomatch hj)),Ext.refl⟩
  ·rintro i σ H' hi ⟨js,o4,o5,_,_,_,_,x⟩
   exact SqL.of (x _ _ h4 nld)
  ·rintro i v σ H5 hi ⟨js,o4,o5,rfl,pp,ek,eh,x5⟩
   obtain⟨⟨x,y⟩,t,hp,rfl,ht⟩:=(LX x5).get hi
   have hxy:=List.mem_of_getElem? hp
   obtain⟨hx,hy⟩:=pin _ hxy
   have hne:=cov _ hxy
   dsimp only at ht hx hy hne
   have etk:qs.take (i+1)=qs.take i++[(x,y)]:=by rw[List.take_add_one,hp];rfl
   have S5:=SX x5
   have Y5:=(Y.same s02).same S5
   refine⟨t,_,rfl,SqT.of ht,rfl,_,_,rfl,_,_,rfl,rfl,?_⟩
   refine⟨_,rfl,_,rfl,_,rfl,_,rfl,q,dx,dp,ob,bd,pf,paO pf,us,dbl (srt bs),bj,x,y,rfl,Y5.r,U,br2.same S5,din,dln,hx,hy,fun lr6 H6 hlr ll6 s6=>?_⟩
   obtain⟨ps,e1,e2,e3⟩:=ll6
   cases hps:ps with
   |nil=>rw[hps] at e3;exact absurd e3.symm hne
   |cons r0 ps' =>
   rw[hps] at e1 e2 e3
   refine⟨lr6,_,0,V.ref r0.1,rfl,rfl,SqL.of e1,yc (j:=0) rfl,?_⟩
   have hr0:=e2 r0 List.mem_cons_self
   have ehd:(rfs (paO pf) (dbl (srt bs)) x y).head?=some r0.2:=by rw[← e3];rfl
   refine⟨_,rfl,_,rfl,_,rfl,(by show 2≤sizeLine;decide),fun kt hkt=>?_⟩
   have s7:=Same.new (o:=HO.tup [V.int x,V.int y]) hkt
   have hk7:=upd_same (H:=H6) (a:=kt) (o:=HO.tup [V.int x,V.int y])
   generalize upd H6 kt (HO.tup [V.int x,V.int y])=H7 at *
   have s57:=s6.trans s7
   have pp7:=pp.same s57
   have hnew:yn (x,y)∉(kvP js).map (·.1):=by
    rw[xP]
    intro z
    obtain⟨u,hu',e⟩:=List.mem_map.mp z
    rw[yz e,ek] at hu'
    exact wc dnd hp hu'
   have ljs:js.length≤131:=by
    have h1:=congrArg List.length ek
    rw[List.length_map,List.length_take] at h1
    have h2:=(List.getElem?_eq_some_iff.mp hp).1
    omega
   refine⟨d,_,rfl,DPut.t (k:=yn (x,y)) pp7.dd hk7 (by unfold kvP;rw[List.length_map];exact zk (by omega)),?_⟩
   refine⟨js++[((x,y),r0.1,r0.2)],_,_,rfl,⟨?_,?_,fun j hj=>?_,by rw[List.length_append,List.length_singleton];omega⟩,?_,fun j hj=>?_,(x5.trans (Ext.same s57)).trans Ext.at⟩
   ·rw[upd_same,putK_new hnew]
    unfold kvP
    rw[List.map_append]
    rfl
   ·have e:(js++[((x,y),r0.1,r0.2)]).map (·.1)=qs.take (i+1):=by rw[List.map_append,ek,etk];rfl
    rw[e]
    exact dnd.sublist (List.take_sublist _ _)
   ·have hrow:∀ {b:Addr}{ns:LI},H7 b=some (.lst (ns.map V.int))→(upd H7 d (.dT (putK (kvP js) (yn (x,y)) (V.ref r0.1)))) b=some (.lst (ns.map V.int)):=fun {b ns} e=>by
     rw[upd_ne (fun z=>by rw[z,pp7.dd] at e;cases e)]
     exact e
    rcases List.mem_append.mp hj with z | z
    ·exact hrow (pp7.row j z)
    ·rw[List.mem_singleton.mp z]
     exact hrow (s7 _ _ hr0)
   ·rw[List.map_append,ek,etk]
    rfl
   ·rcases List.mem_append.mp hj with z | z
    ·exact eh j z
    ·rw[List.mem_singleton.mp z]
     exact ehd
  ·rintro σ H' ⟨js,o4,o5,rfl,pp,ek,eh,x5⟩
   rw[List.take_of_length_le (by omega)] at ek
   exact⟨_,rfl,k d js H' fd pp ⟨by rw[hqs];exact ek,eh⟩ (s02.trans (SX x5))⟩
open L2.Sco (PT PsAt)
theorem LnAt.take {H:Hp}{rs:List V}{ls:LP}{n:Nat}(h:LnAt H rs ls):LnAt H (rs.take n) (ls.take n):=by
 refine⟨by rw[List.length_take,List.length_take,h.1],fun i r p a1 a2=>?_⟩
 rw[List.getElem?_take] at a1 a2
 split at a1
 ·rw[if_pos (by assumption)] at a2
  exact h.2 i r p a1 a2
 ·cases a1
theorem zf4 {rs:List V}:yV rs none (some 14)=rs.take 14:=by
 by_cases c:14≤rs.length
 ·exact Xm (n:=14) c
 ·unfold yV HT.sIx
  simp
theorem zkO {n m:Nat}(h:m≤tri n) (hn:n≤8):m≤28:=by
 have:∀ n,n≤8→tri n≤28:=by decide
 have:=this n hn
 omega
def zjg:Sp:=fun vs H Q _=>∃ (l:Addr),vs=[.ref l]∧XsAt H l ∧
 ∀ (t h q:Addr) (hs:LI) (rs:List V) (ls:LP) (H':Hp),H' t=some (.tup [.ref h,.ref q])→H' h=some (.lst (hs.map V.int))→H' q=some (.lst rs)→LnAt H' rs ls→Hs hs→Ls hs ls→XsAt H' l→Ext l H H'→h≠l→q≠l→ls.length≤28→Q (.ref t) H'
theorem zdg (T:Txt w K mg a):FnOk P w K mg base CX0 3 a.f_qC a.d_qC ["_law_xs"] zjg:=by
 have c_qz:Callee P w K mg base "_law_take" a.f_qz a.d_qz ["_law_xs", "_law_size"] 1 wz:=⟨wb T,T.g_qz,T.F_qz.kp,T.b_qz⟩
 have c_qA:Callee P w K mg base "_law_hands" a.f_qA a.d_qA ["_law_xs", "_law_most"] 2 zjo:=⟨zdp T,T.g_qA,T.F_qA.kp,T.b_qA⟩
 have c_qB:Callee P w K mg base "_law_lines" a.f_qB a.d_qB ["_law_xs", "_law_hands_here"] 2 zjn:=⟨zdo T,T.g_qB,T.F_qB.kp,T.b_qB⟩
 refine T.F_qC.ok sc_qC (fun vs H Q E h=>?_) (fun cdv A outer s H vs Q E hr h=>?_)
 ·obtain⟨l,rfl,_⟩:=h
  rfl
 ·obtain⟨l,rfl,hX,k⟩:=h
  refine zT (zb (zj (i:=1) sc_qC.nd rfl (Or.inl rfl) (zx zS (zE (yg zf (yg zf (yg zf (yg zf (yg zf (yg zf (yg zf (yg zf za))))))))) (zp c_qz hr.m (zd (zg 0) (yg zf za))) (fun _ _=>rfl)))
   (zb (zj (i:=2) sc_qC.nd rfl (Or.inl rfl) (zp c_qA hr.m (zd (zg 0) (zd (zg 1) za))))
   (zb (zj (i:=3) sc_qC.nd rfl (Or.inl rfl) (zp c_qB hr.m (zd (zg 0) (zd (zg 2) za))))
   (ze (zh (zJ (zd (zg 2) (zu (zx zS (zE (zd (zg 3) (zu (zO yw (zg 3) ya (zV zf)) za))) (zq xO (zg 1) zf) (fun _ _=>rfl)) za)))))))) ?_
  refine⟨(by show 8≤sizeLine;decide),fun q0 hq0=>?_⟩
  refine⟨_,rfl,l,8,rfl,hX.new hq0,by decide,fun d H1 d0 d1 x1 y1=>?_⟩
  have nq0:=hX.ne hq0
  have hq1:=y1 _ _ upd_same nq0
  obtain⟨m,hat,hm⟩:∃ m:Int,atI ([V.int 8,V.int 8,V.int 8,V.int 8,V.int 8,V.int 8,V.int 8,V.int 12]) d=some (V.int m)∧(m=8∨m=12):=by
   obtain⟨n,rfl⟩:∃ n:Nat,d=(n:Int):=⟨d.toNat,by omega⟩
   have hn:n<8:=by omega
   match n,hn with
   |0,_=>exact⟨8,yc rfl,.inl rfl⟩
   |1,_=>exact⟨8,yc rfl,.inl rfl⟩
   |2,_=>exact⟨8,yc rfl,.inl rfl⟩
   |3,_=>exact⟨8,yc rfl,.inl rfl⟩
   |4,_=>exact⟨8,yc rfl,.inl rfl⟩
   |5,_=>exact⟨8,yc rfl,.inl rfl⟩
   |6,_=>exact⟨8,yc rfl,.inl rfl⟩
   |7,_=>exact⟨12,yc rfl,.inr rfl⟩
   |n+8,hn=>omega
  refine⟨q0,_,_,_,rfl,rfl,SqL.of hq1,hat,?_⟩
  refine⟨_,rfl,_,rfl,l,m,rfl,by omega,by omega,x1,fun h hs H2 hh hh2 wh hmo x2 y2=>?_⟩
  have nhl:h≠l:=x1.ne hh
  refine⟨_,rfl,_,rfl,l,h,hs,rfl,x2,hh2,nhl,wh,fun q rs ls H3 hq hq3 L3 wl htr x3 y3=>?_⟩
  have nql:q≠l:=x2.ne hq
  have hh3:=y3 _ _ hh2 nhl
  have ye:=(((Ext.new (l:=l) (o:=HO.lst [V.int 8,V.int 8,V.int 8,V.int 8,V.int 8,V.int 8,V.int 8,V.int 12]) hq0).trans y1).trans y2).trans y3
  refine⟨_,rfl,_,rfl,_,rfl,_,rfl,q,_,rfl,SqL.of hq3,fun p1 hp1=>?_⟩
  rw[zf4]
  have s4:=Same.new (o:=HO.lst (rs.take 14)) hp1
  have hp4:=upd_same (H:=H3) (a:=p1) (o:=HO.lst (rs.take 14))
  have np1:p1≠l:=x3.ne hp1
  generalize upd H3 p1 (HO.lst (rs.take 14))=H4 at *
  refine⟨(by show 2≤sizeLine;decide),fun pl hpl=>?_⟩
  have s5:=Same.new (o:=HO.lst [V.ref q,V.ref p1]) hpl
  have hpl5:=upd_same (H:=H4) (a:=pl) (o:=HO.lst [V.ref q,V.ref p1])
  generalize upd H4 pl (HO.lst [V.ref q,V.ref p1])=H5 at *
  have s35:=s4.trans s5
  refine⟨_,rfl,_,_,rfl,rfl,⟨by decide,by decide⟩,?_⟩
  have fin:∀ (q':Addr) (rs':List V) (ls':LP),H5 q'=some (.lst rs')→LnAt H5 rs' ls'→Ls hs ls'→q'≠l→ls'.length≤28→∀ pt,H5 pt=none→Q (.ref pt) (upd H5 pt (.tup [.ref h,.ref q'])):=fun q' rs' ls' e1 e2 e3 e4 e5 pt hpt=>by
   have s6:=Same.new (o:=HO.tup [V.ref h,V.ref q']) hpt
   exact k pt h q' hs rs' ls' _ upd_same (s6 _ _ (s35 _ _ hh3)) (s6 _ _ e1) (e2.same s6) wh e3 ((x3.same s35).same s6) (ye.trans (Ext.same (s35.trans s6))) nhl e4 e5
  rcases hm with rfl | rfl
  ·refine⟨pl,_,_,V.ref q,rfl,rfl,SqL.of hpl5,yc (j:=0) rfl,(by show 2≤sizeLine;decide),fun pt hpt=>?_⟩
   exact fin q rs ls (s35 _ _ hq3) (L3.same s35) wl nql (zkO htr (by omega)) pt hpt
  ·refine⟨pl,_,_,V.ref p1,rfl,rfl,SqL.of hpl5,yc (j:=1) rfl,(by show 2≤sizeLine;decide),fun pt hpt=>?_⟩
   exact fin p1 (rs.take 14) (ls.take 14) (s5 _ _ hp4) (L3.take.same s35) ⟨wl.nd.sublist (List.take_sublist _ _),fun p hp=>wl.ok p (List.mem_of_mem_take hp),by rw[List.length_take];have:=wl.le;omega⟩ np1 (by rw[List.length_take];omega) pt hpt
open L2.Sco (PT PsAt)
theorem Zo {lf:Int→Int}{k:Int×Int}{ds es:LP}:sel lf k (ds++es)=sel lf k ds++sel lf k es:=by
 unfold sel
 rw[List.filter_append]
def LLf (G H:Hp) (l:Addr) (xss:List (LI)):Prop:=∃ ps:List (Addr×LI),H l=some (.lst (ps.map fun p=>V.ref p.1))∧(∀ p∈ps,H p.1=some (.lst (p.2.map V.int))∧G p.1=none)∧ps.map (·.2)=xss
def zjm:Sp:=fun vs H Q _=>∃ (d lb:Addr) (pf:Int→Option Int) (pa:Int→LI) (us:LI) (rb:List V) (bs:LP) (h n:Int),vs=[.ref d,.ref lb,.int h,.int n]∧H d=some (.dK (tabV (fun x=>opV (pf x)) us))∧us.length≤12∧UpP us pf pa∧H lb=some (.lst rb)∧LnAt H rb bs∧Bd bs∧bs.length≤63∧(∀ q∈bs,q.1∈us∧q.2∈us)∧h∈us∧n∈us ∧
 ∀ (l:Addr) (H':Hp),H l=none→LLf H H' l (rfs pa (dbl (srt bs)) h n)→Same H H'→Q (.ref l) H'
theorem zdn (T:Txt w K mg a):FnOk P w K mg base CX0 2 a.f_qH a.d_qH ["_law_parents", "_law_bridges", "_law_hand", "_law_other"] zjm:=by
 have c_qE:Callee P w K mg base "_law_up" a.f_qE a.d_qE ["_law_parents", "_law_hand"] 1 zcE:=⟨UW T,T.g_qE,T.F_qE.kp,T.b_qE⟩
 refine T.F_qH.ok sc_qH (fun vs H Q E h=>?_) (fun cdv A outer s H vs Q E hr h=>?_)
 ·obtain⟨d,lb,pf,pa,us,rb,bs,h,n,rfl,_⟩:=h
  rfl
 ·obtain⟨d,lb,pf,pa,us,rb,bs,h,n,rfl,hd,l12,U,hlb,L,B,l66,hin,hh,hn,k⟩:=h
  have lst:∀ {z},z∈us→atI ((pa z).map V.int) (-1)=some (V.int (ldr pa z)):=fun {z} hz=>by
   obtain⟨⟨ys,e⟩,_⟩:=U.ld hz
   rw[e,List.map_append]
   exact at_last
  have fst:∀ {z},z∈us→atI (((pa z).map V.int).reverse) 0=some (V.int (ldr pa z)):=fun {z} hz=>by
   obtain⟨⟨ys,e⟩,_⟩:=U.ld hz
   refine yc (j:=0) ?_
   rw[e,List.map_append,List.reverse_append]
   rfl
  have ln:∀ {z},z∈us→1≤(pa z).length∧(pa z).length≤12:=fun {z} hz=>⟨(U.len hz).1,Nat.le_trans (U.len hz).2 l12⟩
  have lh:=ln hh
  have lnn:=ln hn
  refine zT (zb (zj (i:=4) sc_qH.nd rfl (Or.inl rfl) (zp c_qE hr.m (zd (zg 0) (zd (zg 3) za))))
   (zb (zj (i:=5) sc_qH.nd rfl (Or.inl rfl) (wF (zp c_qE hr.m (zd (zg 0) (zd (zg 2) za))) (yp yJ zf)))
   (zb (zy (zn xt (zx zS (zg 4) (yp yJ zf) (fun _ _=>rfl)) (zx zS (zg 5) zf (fun _ _=>rfl)) (zB _))
    (ze (zh (zE (xk (zq yT (zg 4) (zO yw (zg 5) (zV zf) ya)) za))))
    zo)
   (zb (zj (i:=6) sc_qH.nd rfl (Or.inl rfl) (zE za))
   (zb (zG PassesOwn.never rfl (zC (zl Sco.call_sortX (by rfl) T.n_sorted yM (zd (zg 1) za))) (zU rfl (zm (zi (i:=7) sc_qH.nd rfl (Or.inl rfl)) (zm (zi (i:=8) sc_qH.nd rfl (Or.inl rfl)) zH)))
    (ze (zG PassesOwn.never rfl (zC (zE (xV (zJ (zd (zg 7) (zd (zg 8) za))) (xV (zJ (zd (zg 8) (zd (zg 7) za))) za)))) (zU rfl (zm (zi (i:=9) sc_qH.nd rfl (Or.inl rfl)) (zm (zi (i:=10) sc_qH.nd rfl (Or.inl rfl)) zH)))
     (ze (zy (vc (yN (zn xt (zx zS (zp c_qE hr.m (zd (zg 0) (zd (zg 9) za))) (yp yJ zf) (fun _ _=>rfl)) (zx zS (zg 4) (yp yJ zf) (fun _ _=>rfl)) (zB _)) (yB (zn xt (zx zS (zp c_qE hr.m (zd (zg 0) (zd (zg 10) za))) (yp yJ zf) (fun _ _=>rfl)) (zx zS (zg 5) zf (fun _ _=>rfl)) (zB _)))))
      (ze (zP (ym PySem.F.plainAttrs_list PySem.F.slot_list_append PySem.F.type_list_append zL (zg 6) (xk (zq yT (zq yT (zq yT (zg 4) (zO yw (wF (zp c_qE hr.m (zd (zg 0) (zd (zg 9) za))) (yp yJ zf)) (zV zf) ya)) (zp c_qE hr.m (zd (zg 0) (zd (zg 10) za)))) (zO yw (zg 5) (zV zf) ya)) za))))
      zo)))))
   (ze (zh (zg 6)))))))) ?_
  refine⟨_,rfl,_,rfl,d,pf,pa,us,n,rfl,hd,l12,U,hn,fun l1 hl1=>?_⟩
  have s1:=Same.new (o:=HO.lst ((pa n).map V.int)) hl1
  have h1:=upd_same (H:=H) (a:=l1) (o:=HO.lst ((pa n).map V.int))
  generalize upd H l1 (HO.lst ((pa n).map V.int))=H1 at *
  refine⟨_,rfl,_,rfl,d,pf,pa,us,h,rfl,s1 _ _ hd,l12,U,hh,fun l2 hl2=>?_⟩
  have s2:=s1.trans (Same.new (o:=HO.lst ((pa h).map V.int)) hl2)
  have h2:=Same.new (o:=HO.lst ((pa h).map V.int)) hl2 _ _ h1
  refine⟨_,rfl,rfl,l2,_,rfl,SqL.of upd_same,fun l3 hl3=>?_⟩
  have s3:=s2.trans (Same.new (o:=HO.lst ((pa h).map V.int).reverse) hl3)
  have h31:=Same.new (o:=HO.lst ((pa h).map V.int).reverse) hl3 _ _ h2
  have h33:=upd_same (H:=upd H1 l2 (HO.lst ((pa h).map V.int))) (a:=l3) (o:=HO.lst ((pa h).map V.int).reverse)
  generalize upd (upd H1 l2 (HO.lst ((pa h).map V.int))) l3 (HO.lst ((pa h).map V.int).reverse)=H3 at *
  refine⟨_,rfl,_,rfl,l1,_,-1,_,rfl,rfl,SqL.of h31,lst hn,_,rfl,l3,_,0,_,rfl,rfl,SqL.of h33,fst hh,rfl,_,rfl,?_⟩
  by_cases c:ldr pa n=ldr pa h
  ·refine iteB (by rw[c];simp) ?_
   refine⟨_,rfl,_,rfl,_,rfl,l3,_,rfl,SqL.of h33,fun l4 hl4=>?_⟩
   rw[zco (by simp;omega)]
   have s4:=Same.new (o:=HO.lst (((pa h).map V.int).reverse.drop 1)) hl4
   refine⟨l1,l4,_,_,rfl,rfl,s4 _ _ h31,upd_same,Nat.le_of_lt (zk (by rw[List.length_drop,List.length_reverse,List.length_map,List.length_map];omega)),fun l5 hl5=>?_⟩
   have s5:=s3.trans (s4.trans (Same.new (o:=HO.lst ((pa n).map V.int++((pa h).map V.int).reverse.drop 1)) hl5))
   have f5:H l5=none:=(s3.trans s4).free hl5
   have h5:=upd_same (H:=upd H3 l4 (HO.lst (((pa h).map V.int).reverse.drop 1))) (a:=l5) (o:=HO.lst ((pa n).map V.int++((pa h).map V.int).reverse.drop 1))
   generalize upd (upd H3 l4 (HO.lst (((pa h).map V.int).reverse.drop 1))) l5 (HO.lst ((pa n).map V.int++((pa h).map V.int).reverse.drop 1))=H5 at *
   refine⟨(by show 1≤sizeLine;decide),fun l6 hl6=>?_⟩
   have s6:=Same.new (o:=HO.lst [V.ref l5]) hl6
   refine k l6 _ (s5.free hl6) ⟨[(l5,rdW pa h n)],upd_same,fun q hq=>?_,?_⟩ (s5.trans s6)
   ·rw[List.mem_singleton.mp hq]
    refine⟨?_,f5⟩
    rw[s6 _ _ h5]
    unfold rdW
    rw[List.map_append,List.map_drop,List.map_reverse]
   ·unfold rfs
    rw[if_pos c]
    rfl
  ·refine iteN (by simp[c]) ?_
   have er:rfs pa (dbl (srt bs)) h n=(sel (ldr pa) (ldr pa n,ldr pa h) (dbl (srt bs))).map (rdO pa h n):=by unfold rfs;rw[if_neg c]
   rw[er] at k
   refine⟨(by show 0≤sizeLine;decide),fun lf hlf=>?_⟩
   have s4:=s3.trans (Same.new (o:=HO.lst []) hlf)
   have n4:=Same.new (o:=HO.lst []) hlf
   have h41:=n4 _ _ h31
   have h43:=n4 _ _ h33
   have h4f:=upd_same (H:=H3) (a:=lf) (o:=HO.lst [])
   have flf:H lf=none:=s3.free hlf
   generalize upd H3 lf (HO.lst [])=H4 at *
   obtain⟨ps,e1,e2,e3⟩:=(L.same s4).ps B
   have lps:ps.length≤63:=by rw[← e2,List.length_map] at l66;exact l66
   refine⟨_,rfl,lb,ps,rfl,by rw[e1];exact SqL.of (s4 _ _ hlb),lps,e3,fun sl qs hsl pm up=>?_⟩
   have Ls:=vT e3 pm up
   rw[e2] at Ls
   have n5:=Same.new (o:=HO.lst (qs.map fun p=>V.ref p.1)) hsl
   have hs5:=upd_same (H:=H4) (a:=sl) (o:=HO.lst (qs.map fun p=>V.ref p.1))
   generalize upd H4 sl (HO.lst (qs.map fun p=>V.ref p.1))=H5 at *
   generalize hrq:qs.map (fun p=>V.ref p.1)=rq at *
   have s5:=s4.trans n5
   have h51:=n5 _ _ h41
   have h53:=n5 _ _ h43
   have h5f:=n5 _ _ h4f
   have Ls5:=Ls.same n5
   have hsm:∀ {x:Int×Int},x∈srt bs↔x∈bs:=fun {x}=>(zQ bs).mem_iff
   have lsl:(srt bs).length≤66:=by rw[(zQ bs).length_eq];omega
   have lr:=Ls5.1
   generalize srt bs=sb at *
   refine⟨sl,rfl,⟨_,SqL.of hs5⟩,?_⟩
   have nsf:sl≠lf:=fun z=>by rw[z,h4f] at hsl;cases hsl
   have n1f:l1≠lf:=fun z=>by rw[z,hlf] at h31;cases h31
   have n3f:l3≠lf:=fun z=>by rw[z,hlf] at h33;cases h33
   have d5:=s5 _ _ hd
   have ndf:d≠lf:=fun z=>by rw[z,flf] at hd;cases hd
   have LX:∀ {G:Hp},Ext lf H5 G→LnAt G rq sb:=fun {G} x=>⟨Ls5.1,fun n r p a1 a2=>by
    obtain⟨qq,b1,b2⟩:=Ls5.2 n r p a1 a2
    exact⟨qq,b1,x _ _ b2 fun z=>by rw[z,h5f] at b2;cases b2⟩⟩
   -- the roads found so far,by the directed bridges gone over
   generalize hF:(fun(H':Hp) (ds:LP)=>∃ ps:List (Addr×LI),H' lf=some (.lst (ps.map fun p=>V.ref p.1))∧(∀ p∈ps,H' p.1=some (.lst (p.2.map V.int))∧p.1≠lf∧H p.1=none)∧ps.map (·.2)=(sel (ldr pa) (ldr pa n,ldr pa h) ds).map (rdO pa h n))=F
   have Fsame:∀ {G G':Hp} {ds},F G ds→Same G G'→F G' ds:=by
    intro G G' ds f s
    rw[← hF] at f ⊢
    obtain⟨ps,f1,f2,f3⟩:=f
    exact⟨ps,s _ _ f1,fun p hp=>⟨s _ _ (f2 p hp).1,(f2 p hp).2⟩,f3⟩
   refine for_list (xs:=rq) (fun i σ H'=>∃ (o7 o8 o9 o10:Option V),σ=[some (.ref d),some (.ref lb),some (.int h),some (.int n),some (.ref l1),some (.ref l3),some (.ref lf),o7,o8,o9,o10]∧F H' (dbl (sb.take i))∧Ext lf H5 H') ?_ ?_ ?_ ?_
   ·refine⟨none,none,none,none,rfl,?_,Ext.refl⟩
    rw[← hF]
    exact⟨[],h5f,(fun p hp=>(nomatch hp)),by simp[dbl,sel]⟩
   ·rintro i σ H' hi ⟨o7,o8,o9,o10,_,_,x⟩
    exact SqL.of (x _ _ hs5 nsf)
   ·rintro i v σ H6 hi ⟨o7,o8,o9,o10,rfl,f6,x6⟩
    obtain⟨⟨x,y⟩,q,hp,rfl,hq⟩:=(LX x6).get hi
    have hpm:=hin _ (hsm.mp (List.mem_of_getElem? hp))
    have hi66:i<66:=by
     have:=(List.getElem?_eq_some_iff.mp hp).1
     omega
    obtain⟨hx,hy⟩:=hpm
    dsimp only at hx hy hq
    have etk:sb.take (i+1)=sb.take i++[(x,y)]:=by rw[List.take_add_one,hp];rfl
    refine⟨q,_,rfl,SqT.of hq,rfl,_,_,rfl,_,_,rfl,rfl,?_⟩
    refine⟨_,rfl,_,rfl,(by show 2≤sizeLine;decide),fun t1 ht1=>?_⟩
    have m1:=Same.new (o:=HO.tup [V.int x,V.int y]) ht1
    have g1:=upd_same (H:=H6) (a:=t1) (o:=HO.tup [V.int x,V.int y])
    generalize upd H6 t1 (HO.tup [V.int x,V.int y])=H7 at *
    refine⟨_,rfl,_,rfl,(by show 2≤sizeLine;decide),fun t2 ht2=>?_⟩
    have m2:=Same.new (o:=HO.tup [V.int y,V.int x]) ht2
    have g2:=upd_same (H:=H7) (a:=t2) (o:=HO.tup [V.int y,V.int x])
    generalize upd H7 t2 (HO.tup [V.int y,V.int x])=H8 at *
    refine⟨(by show 2≤sizeLine;decide),fun li hli=>?_⟩
    have m3:=Same.new (o:=HO.lst [V.ref t1,V.ref t2]) hli
    have g3:=upd_same (H:=H8) (a:=li) (o:=HO.lst [V.ref t1,V.ref t2])
    generalize upd H8 li (HO.lst [V.ref t1,V.ref t2])=H9 at *
    have m13:=(m1.trans m2).trans m3
    have x9:=x6.trans (Ext.same m13)
    have f9:=Fsame f6 m13
    have L9:LnAt H9 [V.ref t1,V.ref t2] [(x,y),(y,x)]:=by
     have z0:LnAt H9 [] []:=⟨rfl,fun n r p a1=>by simp at a1⟩
     exact(z0.snoc (p:=(x,y)) (m3 _ _ (m2 _ _ g1))).snoc (p:=(y,x)) (m3 _ _ g2)
    have h9f:∃ zs,H9 lf=some (.lst zs):=by
     rw[← hF] at f9
     obtain⟨ps,f1,_⟩:=f9
     exact⟨_,f1⟩
    have nif:li≠lf:=fun z=>by
     rw[← hF] at f6
     obtain⟨ps,f1,_⟩:=f6
     rw[z,(m1.trans m2) _ _ f1] at hli
     cases hli
    refine⟨li,rfl,⟨_,SqL.of g3⟩,?_⟩
    refine for_list (xs:=[V.ref t1,V.ref t2]) (fun j σ H'=>∃ (o9 o10:Option V),σ=[some (.ref d),some (.ref lb),some (.int h),some (.int n),some (.ref l1),some (.ref l3),some (.ref lf),some (.int x),some (.int y),o9,o10]∧F H' (dbl (sb.take i)++[(x,y),(y,x)].take j)∧Ext lf H9 H') ?_ ?_ ?_ ?_
    ·exact⟨_,_,rfl,by simpa using f9,Ext.refl⟩
    ·rintro j σ H' hj ⟨o9,o10,_,_,xx⟩
     exact SqL.of (xx _ _ g3 nif)
    ·rintro j v σ G hj ⟨o9,o10,rfl,f,xG⟩
     obtain⟨⟨u,v⟩,q',hp',rfl,hq'⟩:=L9.get hj
     dsimp only at hq'
     have huv:u∈us∧v∈us:=by
      have:=List.mem_of_getElem? hp'
      rcases List.mem_cons.mp this with z | z
      ·cases z;exact⟨hx,hy⟩
      ·cases List.mem_singleton.mp z;exact⟨hy,hx⟩
     have etj:([(x,y),(y,x)]:LP).take (j+1)=([(x,y),(y,x)]:LP).take j++[(u,v)]:=by rw[List.take_add_one,hp'];rfl
     rw[etj,← List.append_assoc]
     generalize hds:dbl (sb.take i)++([(x,y),(y,x)]:LP).take j=ds at *
     have lds:ds.length≤140:=by
      rw[← hds,List.length_append,xf,List.length_take,List.length_take]
      simp
      omega
     have nqf:q'≠lf:=fun z=>by
      obtain⟨zs,h9f⟩:=h9f
      rw[z,h9f] at hq'
      cases hq'
     have xx:=x9.trans xG
     refine⟨q',_,rfl,SqT.of (xG _ _ hq' nqf),rfl,_,_,rfl,_,_,rfl,rfl,?_⟩
     have dG:=xx _ _ d5 ndf
     refine⟨_,rfl,_,rfl,d,pf,pa,us,u,rfl,dG,l12,U,huv.1,fun r1 hr1=>?_⟩
     have a1:=Same.new (o:=HO.lst ((pa u).map V.int)) hr1
     refine⟨_,rfl,r1,_,-1,_,rfl,rfl,SqL.of upd_same,lst huv.1,?_⟩
     generalize upd G r1 (HO.lst ((pa u).map V.int))=G1 at *
     refine⟨_,rfl,_,rfl,l1,_,-1,_,rfl,rfl,SqL.of (a1 _ _ (xx _ _ h51 n1f)),lst hn,rfl,_,rfl,?_⟩
     have skip:∀ {G':Hp} (o9 o10:Option V),Same G G'→(ldr pa u,ldr pa v)≠(ldr pa n,ldr pa h)→∃ (o9' o10':Option V),([some (.ref d),some (.ref lb),some (.int h),some (.int n),some (.ref l1),some (.ref l3),some (.ref lf),some (.int x),some (.int y),o9,o10]:St)=[some (.ref d),some (.ref lb),some (.int h),some (.int n),some (.ref l1),some (.ref l3),some (.ref lf),some (.int x),some (.int y),o9',o10']∧F G' (ds++[(u,v)])∧Ext lf H9 G':=fun {G'} o9 o10 sG hne=>by
      refine⟨o9,o10,rfl,?_,xG.trans (Ext.same sG)⟩
      have fs:=Fsame f sG
      rw[← hF] at fs ⊢
      obtain⟨ps,f1,f2,f3⟩:=fs
      refine⟨ps,f1,f2,?_⟩
      have:sel (ldr pa) (ldr pa n,ldr pa h) [(u,v)]=[]:=by
       unfold sel
       rw[List.filter_cons_of_neg (by simpa using hne),List.filter_nil]
      rw[Zo,this,List.append_nil]
      exact f3
     by_cases c1:ldr pa u=ldr pa n
     ·refine iteB (by rw[c1];simp) ?_
      refine⟨_,rfl,_,rfl,d,pf,pa,us,v,rfl,a1 _ _ dG,l12,U,huv.2,fun r2 hr2=>?_⟩
      have a2:=Same.new (o:=HO.lst ((pa v).map V.int)) hr2
      refine⟨_,rfl,r2,_,-1,_,rfl,rfl,SqL.of upd_same,lst huv.2,?_⟩
      generalize upd G1 r2 (HO.lst ((pa v).map V.int))=G2 at *
      have a12:=a1.trans a2
      refine⟨_,rfl,l3,_,0,_,rfl,rfl,SqL.of (a12 _ _ (xx _ _ h53 n3f)),fst hh,rfl,_,rfl,?_⟩
      by_cases c2:ldr pa v=ldr pa h
      ·refine iteB (by rw[c2];simp) ?_
       have f2':=Fsame f a12
       rw[← hF] at f2'
       obtain⟨ps,f1,f2,f3⟩:=f2'
       have lps:ps.length≤140:=by
        have e:=congrArg List.length f3
        rw[List.length_map,List.length_map] at e
        have:=List.length_filter_le (fun p:Int×Int=>decide ((ldr pa p.1,ldr pa p.2)=(ldr pa n,ldr pa h))) ds
        unfold sel at e
        omega
       have lu:=ln huv.1
       have lv:=ln huv.2
       refine⟨_,rfl,.inl ⟨rfl,_,SqL.of f1⟩,?_⟩
       refine⟨_,rfl,_,rfl,_,rfl,d,pf,pa,us,u,rfl,a12 _ _ dG,l12,U,huv.1,fun r3 hr3=>?_⟩
       have a3:=Same.new (o:=HO.lst ((pa u).map V.int)) hr3
       refine⟨_,rfl,rfl,r3,_,rfl,SqL.of upd_same,fun r4 hr4=>?_⟩
       have a4:=Same.new (o:=HO.lst ((pa u).map V.int).reverse) hr4
       refine⟨_,rfl,r4,_,rfl,SqL.of upd_same,fun r5 hr5=>?_⟩
       rw[zco (by simp;omega)]
       have a5:=Same.new (o:=HO.lst (((pa u).map V.int).reverse.drop 1)) hr5
       have a35:=(a3.trans a4).trans a5
       have b5:=upd_same (H:=upd (upd G2 r3 (HO.lst ((pa u).map V.int))) r4 (HO.lst ((pa u).map V.int).reverse)) (a:=r5) (o:=HO.lst (((pa u).map V.int).reverse.drop 1))
       generalize upd (upd (upd G2 r3 (HO.lst ((pa u).map V.int))) r4 (HO.lst ((pa u).map V.int).reverse)) r5 (HO.lst (((pa u).map V.int).reverse.drop 1))=G5 at *
       have aG5:=a12.trans a35
       have hn1:G5 l1=some (.lst ((pa n).map V.int)):=aG5 _ _ (xx _ _ h51 n1f)
       have ldu:(((pa u).map V.int).reverse.drop 1).length≤12:=by rw[List.length_drop,List.length_reverse,List.length_map];omega
       have ldh:(((pa h).map V.int).reverse.drop 1).length≤12:=by rw[List.length_drop,List.length_reverse,List.length_map];omega
       refine⟨l1,r5,_,_,rfl,rfl,hn1,b5,Nat.le_of_lt (zk (by rw[List.length_map];omega)),fun r6 hr6=>?_⟩
       have a6:=Same.new (o:=HO.lst ((pa n).map V.int++((pa u).map V.int).reverse.drop 1)) hr6
       have b6:=upd_same (H:=G5) (a:=r6) (o:=HO.lst ((pa n).map V.int++((pa u).map V.int).reverse.drop 1))
       generalize upd G5 r6 (HO.lst ((pa n).map V.int++((pa u).map V.int).reverse.drop 1))=G6 at *
       have aG6:=aG5.trans a6
       refine⟨_,rfl,_,rfl,d,pf,pa,us,v,rfl,aG6 _ _ dG,l12,U,huv.2,fun r7 hr7=>?_⟩
       have a7:=Same.new (o:=HO.lst ((pa v).map V.int)) hr7
       refine⟨r6,r7,_,_,rfl,rfl,a7 _ _ b6,upd_same,Nat.le_of_lt (zk (by rw[List.length_append,List.length_map,List.length_map];omega)),fun r8 hr8=>?_⟩
       have a8:=a7.trans (Same.new (o:=HO.lst ((pa n).map V.int++((pa u).map V.int).reverse.drop 1++(pa v).map V.int)) hr8)
       have b8:=upd_same (H:=upd G6 r7 (HO.lst ((pa v).map V.int))) (a:=r8) (o:=HO.lst ((pa n).map V.int++((pa u).map V.int).reverse.drop 1++(pa v).map V.int))
       generalize upd (upd G6 r7 (HO.lst ((pa v).map V.int))) r8 (HO.lst ((pa n).map V.int++((pa u).map V.int).reverse.drop 1++(pa v).map V.int))=G8 at *
       have aG8:=aG6.trans a8
       refine⟨_,rfl,_,rfl,l3,_,rfl,SqL.of (aG8 _ _ (xx _ _ h53 n3f)),fun r9 hr9=>?_⟩
       rw[zco (by simp;omega)]
       have a9:=Same.new (o:=HO.lst (((pa h).map V.int).reverse.drop 1)) hr9
       refine⟨r8,r9,_,_,rfl,rfl,a9 _ _ b8,upd_same,Nat.le_of_lt (zk (by rw[List.length_append,List.length_append,List.length_map,List.length_map];omega)),fun r10 hr10=>?_⟩
       have a10:=a9.trans (Same.new (o:=HO.lst ((pa n).map V.int++((pa u).map V.int).reverse.drop 1++(pa v).map V.int++((pa h).map V.int).reverse.drop 1)) hr10)
       have b10:=upd_same (H:=upd G8 r9 (HO.lst (((pa h).map V.int).reverse.drop 1))) (a:=r10) (o:=HO.lst ((pa n).map V.int++((pa u).map V.int).reverse.drop 1++(pa v).map V.int++((pa h).map V.int).reverse.drop 1))
       have er10:(pa n).map V.int++((pa u).map V.int).reverse.drop 1++(pa v).map V.int++((pa h).map V.int).reverse.drop 1=(rdO pa h n (u,v)).map V.int:=by
        unfold rdO rdW
        rw[List.map_append,List.map_append,List.map_append,List.map_drop,List.map_drop,List.map_reverse,List.map_reverse]
        simp only[List.append_assoc]
       have fr10:H r10=none:=by
        cases e:H r10 with
        |none=>rfl
        |some o =>
         have:=(aG8.trans a9) _ _ (xx _ _ (s5 _ _ e) (fun z=>by rw[z,flf] at e;cases e))
         rw[hr10] at this
         cases this
       rw[er10] at a10 b10 ⊢
       generalize upd (upd G8 r9 (HO.lst (((pa h).map V.int).reverse.drop 1))) r10 (HO.lst ((rdO pa h n (u,v)).map V.int))=G10 at *
       have aG10:=aG8.trans a10
       have a210:=((a35.trans a6).trans a8).trans a10
       have f10:=a210 _ _ f1
       refine⟨lf,_,_,rfl,rfl,f10,by rw[List.length_map];exact zk (by omega),?_⟩
       have nrf:r10≠lf:=fun z=>by
        rw[z,f10] at b10
        injection b10 with b10
        injection b10 with b10
        cases hc:ps with
        |nil =>
         rw[hc] at b10
         have hl:=congrArg List.length b10
         unfold rdO rdW at hl
         simp at hl
         omega
        |cons p0 ps0 =>
         rw[hc] at b10
         cases hr:rdO pa h n (u,v) with
         |nil=>rw[hr] at b10;cases b10
         |cons i0 r0=>rw[hr] at b10;cases b10
       refine⟨_,_,rfl,?_,?_⟩
       ·rw[← hF]
        refine⟨ps++[(r10,rdO pa h n (u,v))],?_,fun p hp=>?_,?_⟩
        ·rw[upd_same,List.map_append]
         rfl
        ·rcases List.mem_append.mp hp with z | z
         ·have:=f2 p z
          exact⟨by rw[upd_ne this.2.1];exact a210 _ _ this.1,this.2⟩
         ·rw[List.mem_singleton.mp z]
          exact⟨by rw[upd_ne nrf];exact b10,nrf,fr10⟩
        ·have:sel (ldr pa) (ldr pa n,ldr pa h) [(u,v)]=[(u,v)]:=by
          unfold sel
          rw[List.filter_cons_of_pos (by simp[c1,c2]),List.filter_nil]
         rw[Zo,this,List.map_append,f3,List.map_append]
         rfl
       ·exact(xG.trans (Ext.same aG10)).trans Ext.at
      ·refine iteN (by simp[c2]) ?_
       exact skip _ _ a12 fun z=>c2 (congrArg Prod.snd z)
     ·refine iteN (by simp[c1]) ?_
      exact skip _ _ a1 fun z=>c1 (congrArg Prod.fst z)
    ·rintro σ G ⟨o9,o10,rfl,f,xG⟩
     refine⟨_,_,_,_,rfl,?_,x9.trans xG⟩
     rw[etk,dbl_snoc]
     have e:dbl (sb.take i)++([(x,y),(y,x)]:LP).take ([V.ref t1,V.ref t2]:List V).length=dbl (sb.take i)++[(x,y)]++[((x,y).2,(x,y).1)]:=by simp
     rw[← e]
     exact f
   ·rintro σ H' ⟨o7,o8,o9,o10,rfl,f,x⟩
    rw[List.take_of_length_le (by omega)] at f
    rw[← hF] at f
    obtain⟨ps,f1,f2,f3⟩:=f
    refine⟨_,rfl,k lf H' flf ⟨ps,f1,fun p hp=>⟨(f2 p hp).1,(f2 p hp).2.2⟩,f3⟩ fun c o hc=>?_⟩
    exact x _ _ (s5 _ _ hc) fun z=>by rw[z,flf] at hc;cases hc
open L2.Sco (PT PsAt)
def prsO (hs:LI) (ls:LP) (xs:LI):LP:=xs.flatMap fun x=>(hs.filter (adB ls x)).map fun y=>(x,y)
theorem Zu {hs:LI}{ls:LP}{xs:LI}{x:Int}:prsO hs ls (xs++[x])=prsO hs ls xs++(hs.filter (adB ls x)).map fun y=>(x,y):=by
 unfold prsO
 rw[List.flatMap_append]
 simp
theorem prsO_mem {hs:LI}{ls:LP}{xs:LI}{p:Int×Int}:p∈prsO hs ls xs↔p.1∈xs∧p.2∈hs∧adB ls p.1 p.2=true:=by
 unfold prsO
 rw[List.mem_flatMap]
 constructor
 ·rintro⟨x,hx,h⟩
  obtain⟨y,hy,rfl⟩:=List.mem_map.mp h
  exact⟨hx,(List.mem_filter.mp hy).1,(List.mem_filter.mp hy).2⟩
 ·rintro⟨h1,h2,h3⟩
  exact⟨p.1,h1,List.mem_map.mpr ⟨p.2,List.mem_filter.mpr ⟨h2,h3⟩,rfl⟩⟩
theorem prsO_nd {hs:LI}{ls:LP}(nh:hs.Nodup):∀ {xs:LI},xs.Nodup→(prsO hs ls xs).Nodup
 |[],_=>List.nodup_nil
 |x::xs,hn=>by
  rw[List.nodup_cons] at hn
  have ih:=prsO_nd (ls:=ls) nh hn.2
  show((hs.filter (adB ls x)).map (fun y=>(x,y))++prsO hs ls xs).Nodup
  rw[List.nodup_append]
  refine⟨List.pairwise_map.mpr ((nh.filter _).imp fun h e=>h (congrArg Prod.snd e)),ih,fun p hp q hq e=>?_⟩
  obtain⟨y,_,rfl⟩:=List.mem_map.mp hp
  rw[← e] at hq
  exact hn.1 (prsO_mem.mp hq).1
theorem mem_adB {ls:LP}{p:Int×Int}:p∈dbl ls↔adB ls p.1 p.2=true:=by
 rw[mem_dbl]
 unfold adB
 rw[Bool.or_eq_true,decide_eq_true_eq,decide_eq_true_eq]
theorem wR {hs:LI}{ls:LP}(L:Ls hs ls){p:Int×Int}:p∈prsO hs ls hs↔p∈dbl ls:=by
 rw[prsO_mem,mem_adB]
 exact⟨fun h=>h.2.2,fun h=>⟨uF L (by rw[uE];exact h),uF L h,h⟩⟩
theorem uo {hs:LI}{ls:LP}(wh:Hs hs) (L:Ls hs ls):(prsO hs ls hs).length=(dbl (srt ls)).length:=by
 have n1:=prsO_nd (ls:=ls) (w4 wh) (w4 wh)
 have n2:=L.dnd
 refine Nat.le_antisymm (xo n1 fun x hx=>mem_ds.mpr ((wR L).mp hx)) (xo n2 fun x hx=>(wR L).mpr (mem_ds.mp hx))
theorem um {hs:LI}{ls:LP}(wh:Hs hs) (L:Ls hs ls){i:Nat}:(prsO hs ls (hs.take i)).length≤132:=by
 have n1:=prsO_nd (ls:=ls) (w4 wh) ((w4 wh).sublist (List.take_sublist i hs))
 have h:=xo n1 (bs:=prsO hs ls hs) fun x hx=>by
  have:=prsO_mem.mp hx
  exact prsO_mem.mpr ⟨List.mem_of_mem_take this.1,this.2⟩
 rw[uo wh L,xf,(zQ ls).length_eq] at h
 have:=L.le
 omega
structure PpB (ls:LP) (pa:Int→LI) (bs:LP) (js:List ((Int×Int)×Addr×LI)):Prop where
 kk:∀ j∈js,j.1∈dbl (srt ls)
 ln:js.length=(dbl (srt ls)).length
 rd:∀ j∈js,j.2.2∈rfs pa (dbl (srt bs)) j.1.1 j.1.2
def zjk:Sp:=fun vs H Q _=>∃ (l h q d lb:Addr) (rs rb:List V) (hs us:LI) (ls bs:LP) (pf:Int→Option Int) (pa:Int→LI),vs=[.ref l,.ref h,.ref q,.ref d,.ref lb]∧XsAt H l∧H h=some (.lst (hs.map V.int))∧h≠l∧H q=some (.lst rs)∧q≠l∧LnAt H rs ls∧Hs hs∧Ls hs ls∧ls.length≤63∧H d=some (.dK (tabV (fun x=>opV (pf x)) us))∧us.Nodup∧H lb=some (.lst rb)∧lb≠l∧LnAt H rb bs∧Gd hs ls pf pa us bs ∧
 ∀ (dp:Addr) (js:List ((Int×Int)×Addr×LI)) (H':Hp),H dp=none→Pp H' dp js→PpB ls pa bs js→XsAt H' l→Ext l H H'→Q (.ref dp) H'
theorem zdl (T:Txt w K mg a):FnOk P w K mg base CX0 3 a.f_qI a.d_qI ["_law_xs", "_law_hands_here", "_law_lines_here", "_law_parents", "_law_bridges"] zjk:=by
 have c_qz:Callee P w K mg base "_law_take" a.f_qz a.d_qz ["_law_xs", "_law_size"] 1 wz:=⟨wb T,T.g_qz,T.F_qz.kp,T.b_qz⟩
 have c_qD:Callee P w K mg base "_law_near" a.f_qD a.d_qD ["_law_lines_here", "_law_hand"] 1 zcK:=⟨U1 T,T.g_qD,T.F_qD.kp,T.b_qD⟩
 have c_qH:Callee P w K mg base "_law_roads" a.f_qH a.d_qH ["_law_parents", "_law_bridges", "_law_hand", "_law_other"] 2 zjm:=⟨zdn T,T.g_qH,T.F_qH.kp,T.b_qH⟩
 refine T.F_qI.ok sc_qI (fun vs H Q E h=>?_) (fun cdv A outer s H vs Q E hr h=>?_)
 ·obtain⟨l,h,q,d,lb,rs,rb,hs,us,ls,bs,pf,pa,rfl,_⟩:=h
  rfl
 ·obtain⟨l,h,q,d,lb,rs,rb,hs,us,ls,bs,pf,pa,rfl,hX,hh,nhl,hq,nql,L,wh,wl,l63,hd,ndu,hlb,nbl,Lb,D,k⟩:=h
  have hu:=xb hr
  have us12:us.length≤12:=Nat.le_trans (we ndu fun x hx=>(D.m x).mp hx) wh.l12
  have l12:=wh.l12
  have Bb:Bd bs:=fun b hb=>(wl.bd wh) b (D.inl b hb)
  have bin:∀ b∈bs,b.1∈us∧b.2∈us:=fun b hb=>⟨(D.m _).mpr (D.B.ok b hb).1,(D.m _).mpr (D.B.ok b hb).2.1⟩
  have b66:bs.length≤63:=Nat.le_trans (xo D.B.nd D.inl) l63
  have cov:∀ b∈dbl ls,rfs pa (dbl (srt bs)) b.1 b.2≠[]:=fun b hb=>XH fun hne=>by
   rcases mem_dbl.mp hb with z | z
   ·exact D.cov b z hne
   ·obtain⟨c,hc,e⟩:=D.cov _ z fun zz=>hne zz.symm
    refine⟨c,hc,e.trans ?_⟩
    unfold jk
    rw[Int.min_comm,Int.max_comm]
  refine zT (zb (zj (i:=5) sc_qI.nd rfl (Or.inl rfl) (zE za))
   (zb (zG PassesOwn.never rfl (zC (zg 1)) (zi (i:=6) sc_qI.nd rfl (Or.inr rfl))
    (ze (zj (i:=5) sc_qI.nd rfl (Or.inl rfl) (zq yT (zg 5) (yr rfl (N':=["_law_other", "_law_hand"]) (t:=1) (caps:=[6]) ⟨rfl,rfl,rfl⟩ (zC (zp c_qD hr.m (zd (zg 2) (zd (zg 6) za)))) (fun _=>(zi (i:=0) (show(["_law_other", "_law_hand"]:List Str).Nodup by decide +kernel) rfl (Or.inl rfl))) (fun _=>yC) (fun _=>(zJ (zd (zg 1) (zd (zg 0) za)))))))))
   (zb (zj (i:=7) sc_qI.nd rfl (Or.inl rfl) (zp c_qz hr.m (zd (zg 0) (xk (zq yZ (zl zw (by rfl) T.n_len yi (zd (zg 5) za)) zf) za))))
   (zb (zj (i:=8) sc_qI.nd rfl (Or.inl rfl) yA)
   (zb (zG PassesOwn.never rfl (zC (zq yT (zO yw (zg 5) (zV (zg 7)) ya) (zO yw (zg 5) ya (zV (zg 7))))) (zU rfl (zm (zi (i:=6) sc_qI.nd rfl (Or.inr rfl)) (zm (zi (i:=9) sc_qI.nd rfl (Or.inl rfl)) zH)))
    (zb (zj (i:=10) sc_qI.nd rfl (Or.inl rfl) (zp c_qH hr.m (zd (zg 3) (zd (zg 4) (zd (zg 6) (zd (zg 9) za))))))
    (ze (yL hu (zg 8) (zJ (zd (zg 6) (zd (zg 9) za))) (zx zS (zg 10) (zp c_qz hr.m (zd (zg 0) (zN (zl zw (by rfl) T.n_len yi (zd (zg 10) za)) za))) (fun _ _=>rfl)) rfl))))
   (ze (zh (zg 8)))))))) ?_
  refine⟨(by show 0≤sizeLine;decide),fun p0 hp0=>?_⟩
  have s0:=Same.new (o:=HO.lst []) hp0
  have h0:=upd_same (H:=H) (a:=p0) (o:=HO.lst [])
  generalize upd H p0 (HO.lst [])=H0 at *
  refine⟨_,rfl,h,rfl,⟨_,SqL.of (s0 _ _ hh)⟩,?_⟩
  refine for_list (xs:=hs.map V.int) (fun i σ H'=>∃ (lp:Addr) (zs:List V) (o6:Option V),σ=[some (.ref l),some (.ref h),some (.ref q),some (.ref d),some (.ref lb),some (.ref lp),o6,none,none,none,none]∧H' lp=some (.lst zs)∧lp≠l∧LnAt H' zs (prsO hs ls (hs.take i))∧Same H H') ?_ ?_ ?_ ?_
  ·exact⟨p0,[],none,rfl,h0,hX.ne hp0,⟨rfl,fun n r p a1=>by simp at a1⟩,s0⟩
  ·rintro i σ H' hi ⟨lp,zs,o6,_,_,_,_,sm⟩
   exact SqL.of (sm _ _ hh)
  ·rintro i v σ H1 hi ⟨lp,zs,o6,rfl,hlp,nlp,Lz,sm⟩
   rw[List.getElem?_map] at hi
   obtain⟨x,hx,rfl⟩:=Option.map_eq_some_iff.mp hi
   have etk:hs.take (i+1)=hs.take i++[x]:=by rw[List.take_add_one,hx];rfl
   refine⟨_,rfl,_,rfl,_,rfl,q,x,rs,hs,ls,rfl,sm _ _ hq,L.same sm,wh,wl,fun pn H2 hpn s2 hpn2=>?_⟩
   refine⟨pn,rfl,⟨_,SqL.of hpn2⟩,fun Dd hDd _=>?_⟩
   have lfil:(hs.filter (adB ls x)).length≤12:=Nat.le_trans (List.length_filter_le _ _) l12
   refine yF (K:=K) (a:=pn) (xs:=(hs.filter (adB ls x)).map V.int) (fun j ys τ H'=>∃ (o:Option V),τ=[o,some (.int x)]∧H' Dd=some (.lst ys)∧LnAt H' ys (((hs.filter (adB ls x)).take j).map fun y=>(x,y))∧Same H2 H') ?_ ?_ ?_ ?_
   ·exact⟨none,rfl,upd_same,⟨rfl,fun n r p a1=>by simp at a1⟩,Same.new hDd⟩
   ·rintro j ys τ H' ⟨o,_,_,_,sm'⟩
    exact SqL.of (sm' _ _ hpn2)
   ·rintro j v ys τ H' hj ⟨o,rfl,hDd',Ly,sm'⟩
    rw[List.getElem?_map] at hj
    obtain⟨y,hy,rfl⟩:=Option.map_eq_some_iff.mp hj
    refine Z9 ?_
    refine⟨_,rfl,_,rfl,(by show 2≤sizeLine;decide),fun t ht=>?_⟩
    have n1:=Same.new (o:=HO.tup [V.int x,V.int y]) ht
    have ly:ys.length≤12:=by
     rw[Ly.1,List.length_map,List.length_take]
     omega
    refine⟨n1 _ _ hDd',zk (by omega),_,rfl,upd_same,?_,Same.updF (sm'.trans n1) hDd⟩
    rw[List.take_add_one,hy,Option.toList_some,List.map_append]
    exact((Ly.same n1).snoc (p:=(x,y)) upd_same).updN (n1 _ _ hDd') (fun xs q=>by cases q)
   ·rintro ys τ H3 ⟨o,rfl,hDd3,Ly,sm'⟩
    rw[List.length_map,List.take_length] at Ly
    have s3:=sm.trans (s2.trans sm')
    have lz:zs.length≤132:=by rw[Lz.1];exact um wh wl
    have ly:ys.length≤12:=by rw[Ly.1,List.length_map];exact lfil
    refine⟨lp,Dd,_,_,rfl,rfl,(s2.trans sm') _ _ hlp,hDd3,Nat.le_of_lt (zk (by omega)),fun p hp=>?_⟩
    have n4:=Same.new (o:=HO.lst (zs++ys)) hp
    refine⟨p,_,_,rfl,upd_same,(hX.same s3).ne hp,?_,s3.trans n4⟩
    rw[etk,Zu]
    have Lz3:=(Lz.same (s2.trans sm')).same n4
    have Ly3:=Ly.same n4
    refine⟨by rw[List.length_append,List.length_append,Lz3.1,Ly3.1],fun n r p' a1 a2=>?_⟩
    by_cases c:n<zs.length
    ·rw[List.getElem?_append_left c] at a1
     rw[List.getElem?_append_left (by rw[← Lz3.1];exact c)] at a2
     exact Lz3.2 n r p' a1 a2
    ·rw[List.getElem?_append_right (by omega)] at a1
     rw[List.getElem?_append_right (by rw[← Lz3.1];omega),← Lz3.1] at a2
     exact Ly3.2 _ r p' a1 a2
  ·rintro σ H1 ⟨lp,zs,o6,rfl,hlp,nlp,Lz,sm⟩
   rw[List.length_map,List.take_length] at Lz
   have lz:zs.length≤132:=by
    have:=um wh wl (i:=hs.length)
    rw[List.take_length] at this
    rw[Lz.1];exact this
   have pnd:=prsO_nd (ls:=ls) (w4 wh) (w4 wh)
   have pml:=uo wh wl
   have pmm:∀ {p:Int×Int},p∈prsO hs ls hs↔p∈dbl ls:=fun {p}=>wR wl
   generalize prsO hs ls hs=pr at *
   refine⟨_,rfl,_,rfl,lp,_,rfl,.inl (SqL.of hlp),_,_,rfl,rfl,l,_,rfl,hX.same sm,(by show(0:Int)<(zs.length:Int)+1;omega),fun at0 H2 a0 a1 x2 y2=>?_⟩
   have hlp2:=y2 _ _ hlp nlp
   have Lz2:=Lz.extX (hX.same sm) y2
   obtain⟨n,rfl⟩:∃ n:Nat,at0=(n:Int):=⟨at0.toNat,by omega⟩
   have hn:n≤zs.length:=by omega
   have Y2:Ext l H H2:=(Ext.same sm).trans y2
   refine fun dp hdp=>?_
   have n3:=Same.new (o:=HO.dT []) hdp
   have hdp3:=upd_same (H:=H2) (a:=dp) (o:=HO.dT [])
   have ndp:dp≠l:=x2.ne hdp
   have fdp:H dp=none:=Y2.free ndp hdp
   generalize upd H2 dp (HO.dT [])=H3 at *
   have x3:=x2.same n3
   refine⟨_,rfl,_,rfl,_,rfl,lp,_,rfl,SqL.of (n3 _ _ hlp2),fun p1 hp1=>?_⟩
   have z4:=Same.new (o:=HO.lst (yV zs (some (n:Int)) none)) hp1
   refine⟨_,rfl,_,rfl,_,rfl,lp,_,rfl,SqL.of (z4 _ _ (n3 _ _ hlp2)),fun p2 hp2=>?_⟩
   have z5:=Same.new (o:=HO.lst (yV zs none (some (n:Int)))) hp2
   have l1:=yb zs (some (n:Int)) none
   have l2:=yb zs none (some (n:Int))
   refine⟨p1,p2,_,_,rfl,rfl,z5 _ _ upd_same,upd_same,(Nat.le_of_lt (zk (by omega))),fun p3 hp3=>?_⟩
   have z6:=Same.new (o:=HO.lst (yV zs (some (n:Int)) none++yV zs none (some (n:Int)))) hp3
   have z456:=(z4.trans z5).trans z6
   have hp33:=upd_same (H:=(upd (upd H3 p1 (HO.lst (yV zs (some (n:Int)) none))) p2 (HO.lst (yV zs none (some (n:Int)))))) (a:=p3) (o:=HO.lst (yV zs (some (n:Int)) none++yV zs none (some (n:Int))))
   rw[Xo hn,Xm hn] at *
   generalize upd (upd (upd H3 p1 (HO.lst (zs.drop n))) p2 (HO.lst (zs.take n))) p3 (HO.lst (zs.drop n++zs.take n))=H4 at *
   have x4:=x3.same z456
   have hdp4:=z456 _ _ hdp3
   have Lr:=(Lz2.cut (n:=n)).same (n3.trans z456)
   have s24:=n3.trans z456
   have np3:p3≠l:=(x3.same (z4.trans z5)).ne hp3
   have n3d:p3≠dp:=fun z=>by rw[z,(z4.trans z5) _ _ hdp3] at hp3;cases hp3
   have prm:(pr.drop n++pr.take n).Perm pr:=List.perm_append_comm.trans (List.Perm.of_eq (List.take_append_drop n pr))
   have qnd:=prm.nodup_iff.mpr pnd
   have qmm:∀ {p:Int×Int},p∈pr.drop n++pr.take n↔p∈dbl ls:=fun {p}=>prm.mem_iff.trans pmm
   have qln:(pr.drop n++pr.take n).length=(dbl (srt ls)).length:=prm.length_eq.trans pml
   have q132:(pr.drop n++pr.take n).length≤132:=by rw[prm.length_eq,← Lz.1];exact lz
   generalize zs.drop n++zs.take n=rq at *
   generalize pr.drop n++pr.take n=qs at *
   refine⟨p3,rfl,⟨_,SqL.of hp33⟩,?_⟩
   have lr:=Lr.1
   -- all but the draws and the paper stays
   have KX:∀ {G:Hp},(∀ b o,H4 b=some o→b≠l→b≠dp→G b=some o)→LnAt G rq qs:=fun {G} x=>⟨Lr.1,fun n r p a1 a2=>by
    obtain⟨qq,b1,b2⟩:=Lr.2 n r p a1 a2
    exact⟨qq,b1,x _ _ b2 (fun z=>by obtain⟨ms,e',_⟩:=x4;rw[z,e'] at b2;cases b2) (fun z=>by rw[z,hdp4] at b2;cases b2)⟩⟩
   have KY:∀ {G:Hp},(∀ b o,H4 b=some o→b≠l→b≠dp→G b=some o)→Ext l H G:=fun {G} x c o hc ncl=>x _ _ (s24 _ _ (Y2 _ _ hc ncl)) ncl fun z=>by rw[z,fdp] at hc;cases hc
   refine for_list (xs:=rq) (fun i σ H'=>∃ (js:List ((Int×Int)×Addr×LI)) (o6 o9 o10:Option V),σ=[some (.ref l),some (.ref h),some (.ref q),some (.ref d),some (.ref lb),some (.ref lp),o6,some (.int n),some (.ref dp),o9,o10]∧Pp H' dp js∧js.map (·.1)=qs.take i∧(∀ j∈js,j.2.2∈rfs pa (dbl (srt bs)) j.1.1 j.1.2∧j.2.1≠l)∧XsAt H' l∧∀ b o,H4 b=some o→b≠l→b≠dp→H' b=some o) ?_ ?_ ?_ ?_
   ·exact⟨[],_,_,_,rfl,⟨hdp4,List.nodup_nil,(fun j hj=>(nomatch hj)),by simp⟩,by simp,(fun j hj=>(nomatch hj)),x4,fun b o e _ _=>e⟩
   ·rintro i σ H' hi ⟨js,o6,o9,o10,_,_,_,_,_,x⟩
    exact SqL.of (x _ _ hp33 np3 n3d)
   ·rintro i v σ H5 hi ⟨js,o6,o9,o10,rfl,pp,ek,er,x5,k5⟩
    obtain⟨⟨x,y⟩,t,hp,rfl,ht⟩:=(KX k5).get hi
    have hxy:=qmm.mp (List.mem_of_getElem? hp)
    have hxs:x∈us∧y∈us:=by
     rcases mem_dbl.mp hxy with z | z
     ·exact⟨(D.m _).mpr (wl.ok _ z).1,(D.m _).mpr (wl.ok _ z).2.1⟩
     ·exact⟨(D.m _).mpr (wl.ok _ z).2.1,(D.m _).mpr (wl.ok _ z).1⟩
    have hne:=cov _ hxy
    dsimp only at ht hne
    have etk:qs.take (i+1)=qs.take i++[(x,y)]:=by rw[List.take_add_one,hp];rfl
    have Y5:=KY k5
    have nxl:∀ {b:Addr} {kvs},H b=some (.dK kvs)→b≠l:=fun {b kvs} e z=>by obtain⟨ms,e',_⟩:=hX;rw[z,e'] at e;cases e
    refine⟨t,_,rfl,SqT.of ht,rfl,_,_,rfl,_,_,rfl,rfl,?_⟩
    refine⟨_,rfl,_,rfl,_,rfl,_,rfl,d,lb,pf,pa,us,rb,bs,x,y,rfl,Y5 _ _ hd (nxl hd),us12,D.U,Y5 _ _ hlb nbl,Lb.extX hX Y5,Bb,b66,bin,hxs.1,hxs.2,fun lr6 H6 hlr ll6 s6=>?_⟩
    obtain⟨ps,e1,e2,e3⟩:=ll6
    have lps:0<ps.length:=by
     have:=congrArg List.length e3
     rw[List.length_map] at this
     have h2:=List.length_pos_iff.mpr hne
     omega
    have x6:=x5.same s6
    have nlr:lr6≠l:=x5.ne hlr
    refine⟨_,rfl,_,rfl,_,rfl,lr6,_,rfl,.inl (SqL.of e1),l,_,rfl,x6,(by rw[List.length_map];omega),fun tk H7 t0 t1 x7 y7=>?_⟩
    rw[List.length_map] at t1
    obtain⟨m,rfl⟩:∃ m:Nat,tk=(m:Int):=⟨tk.toNat,by omega⟩
    have hml:m<ps.length:=by omega
    obtain⟨r0,hr0⟩:∃ r0,ps[m]?=some r0:=⟨ps[m],by simp[hml]⟩
    have hrm:=List.mem_of_getElem? hr0
    obtain⟨f1,f2⟩:=e2 r0 hrm
    have nrl:r0.1≠l:=x5.ne f2
    have e17:=y7 _ _ e1 nlr
    refine⟨lr6,_,_,V.ref r0.1,rfl,rfl,SqL.of e17,yc (by rw[List.getElem?_map,hr0];rfl),?_⟩
    refine⟨_,rfl,_,rfl,_,rfl,(by show 2≤sizeLine;decide),fun kt hkt=>?_⟩
    have n8:=Same.new (o:=HO.tup [V.int x,V.int y]) hkt
    have hk8:=upd_same (H:=H7) (a:=kt) (o:=HO.tup [V.int x,V.int y])
    generalize upd H7 kt (HO.tup [V.int x,V.int y])=H8 at *
    have pp6:=pp.same s6
    have ndpl:dp≠l:=ndp
    have dd8:=n8 _ _ (y7 _ _ pp6.dd ndpl)
    have hnew:yn (x,y)∉(kvP js).map (·.1):=by
     rw[xP]
     intro z
     obtain⟨u,hu',e⟩:=List.mem_map.mp z
     rw[yz e,ek] at hu'
     exact wc qnd hp hu'
    have ljs:js.length≤131:=by
     have h1:=congrArg List.length ek
     rw[List.length_map,List.length_take] at h1
     have h2:=(List.getElem?_eq_some_iff.mp hp).1
     omega
    refine⟨dp,_,rfl,DPut.t (k:=yn (x,y)) dd8 hk8 (by unfold kvP;rw[List.length_map];exact zk (by omega)),?_⟩
    have hrow:∀ {b:Addr}{ns:LI},b≠l→H6 b=some (.lst (ns.map V.int))→(upd H8 dp (.dT (putK (kvP js) (yn (x,y)) (V.ref r0.1)))) b=some (.lst (ns.map V.int)):=fun {b ns} nb e=>by
     rw[upd_ne (fun z=>by rw[z,pp6.dd] at e;cases e)]
     exact n8 _ _ (y7 _ _ e nb)
    have e:(js++[((x,y),r0.1,r0.2)]).map (·.1)=qs.take (i+1):=by rw[List.map_append,ek,etk];rfl
    refine⟨js++[((x,y),r0.1,r0.2)],_,_,_,rfl,⟨?_,?_,fun j hj=>?_,by rw[List.length_append,List.length_singleton];omega⟩,e,fun j hj=>?_,(x7.same n8).upd ndpl,fun b o eb nb1 nb2=>?_⟩
    ·rw[upd_same,putK_new hnew]
     unfold kvP
     rw[List.map_append]
     rfl
    ·rw[e]
     exact qnd.sublist (List.take_sublist _ _)
    ·rcases List.mem_append.mp hj with z | z
     ·exact hrow (er j z).2 (pp6.row j z)
     ·rw[List.mem_singleton.mp z]
      exact hrow nrl f1
    ·rcases List.mem_append.mp hj with z | z
     ·exact er j z
     ·rw[List.mem_singleton.mp z]
      refine⟨?_,nrl⟩
      show r0.2∈rfs pa (dbl (srt bs)) x y
      rw[← e3]
      exact List.mem_map.mpr ⟨r0,hrm,rfl⟩
    ·rw[upd_ne nb2]
     exact n8 _ _ (y7 _ _ (s6 _ _ (k5 _ _ eb nb1 nb2)) nb1)
   ·rintro σ H5 ⟨js,o6,o9,o10,rfl,pp,ek,er,x5,k5⟩
    rw[List.take_of_length_le (by omega)] at ek
    refine⟨_,rfl,k dp js H5 fdp pp ⟨fun j hj=>?_,?_,fun j hj=>(er j hj).1⟩ x5 (KY k5)⟩
    ·exact mem_ds.mpr (qmm.mp (by rw[← ek];exact List.mem_map.mpr ⟨j,hj,rfl⟩))
    ·rw[← qln,← ek,List.length_map]
theorem zlt {K:PySem.W.Frag}{H H':Hp}{a:Addr}{xs:List V}(h:SqL K H a xs) (s:Same H H'):SqL K H' a xs:=by
 rcases h with(h | ⟨o,h⟩) | h
 ·exact .inl (.inl (s _ _ h))
 ·exact .inl (.inr ⟨o,s _ _ h⟩)
 ·exact .inr h
theorem LnAt.rev {H:Hp}{rs:List V}{ls:LP}(h:LnAt H rs ls):LnAt H rs.reverse ls.reverse:=by
 refine⟨by rw[List.length_reverse,List.length_reverse,h.1],fun i r p a1 a2=>?_⟩
 have hi:=(List.getElem?_eq_some_iff.mp a1).1
 rw[List.length_reverse] at hi
 rw[List.getElem?_reverse hi] at a1
 rw[List.getElem?_reverse (by rw[← h.1];exact hi),← h.1] at a2
 exact h.2 _ r p a1 a2
theorem Near.extX {H H':Hp}{l d:Addr}{hs:LI}{ls:LP}{ad:Int→Addr}(n:Near H d hs ls ad) (y:Ext l H H') (n1:d≠l) (n2:∀ x∈hs,ad x≠l):Near H' d hs ls ad:=⟨y _ _ n.d n1,fun h m=>y _ _ (n.nb h m) (n2 h m)⟩
theorem WebAt.extX {a:Ad}{H H':Hp}{l p dx oh ol d:Addr}{hs:LI}{ls:LP}{ad:Int→Addr}(w:WebAt a H p hs ls dx oh ol d ad) (x:XsAt H l) (y:Ext l H H') (n1:oh≠l) (n2:ol≠l) (n4:∀ x∈hs,ad x≠l):WebAt a H' p hs ls dx oh ol d ad:=by
 obtain⟨ms,e',_⟩:=x
 refine⟨y _ _ w.p fun z=>?_,y _ _ w.oh n1,w.nr.extX y (fun z=>?_) n4,by obtain⟨zs,e1,e2⟩:=w.ol;exact⟨zs,y _ _ e1 n2,e2.extX ⟨ms,e',by assumption⟩ y⟩⟩
 ·have:=w.p;rw[z,e'] at this;cases this
 ·have:=w.nr.d;rw[z,e'] at this;cases this
theorem WayAt.extX {a:Ad}{H H':Hp}{l p dx dp ob:Addr}{pf:Int→Option Int}{us:LI}{ls:LP}(w:WayAt a H p pf us ls dx dp ob) (x:XsAt H l) (y:Ext l H H') (n1:ob≠l):WayAt a H' p pf us ls dx dp ob:=by
 have x':=x
 obtain⟨ms,e',_⟩:=x
 refine⟨y _ _ w.p fun z=>?_,y _ _ w.dp fun z=>?_,by obtain⟨rs,e1,e2⟩:=w.ob;exact⟨rs,y _ _ e1 n1,e2.extX x' y⟩,w.nd,w.l12,w.l66⟩
 ·have:=w.p;rw[z,e'] at this;cases this
 ·have:=w.dp;rw[z,e'] at this;cases this
theorem Gd.pa {hs:LI}{ls:LP}{pf:Int→Option Int}{pa:Int→LI}{us:LI}{bs:LP}(D:Gd hs ls pf pa us bs){x:Int}(hx:x∈us):paO pf x=pa x:=wC (D.U.en hx)
theorem vD {pa pb:Int→LI}{x:Int}(h:pa x=pb x):ldr pa x=ldr pb x:=by unfold ldr;rw[h]
theorem Uv {pa pb:Int→LI}{ds:LP}{us:LI}(hp:∀ x∈us,pa x=pb x) (hd:∀ q∈ds,q.1∈us∧q.2∈us){h n:Int}(hh:h∈us) (hn:n∈us):rfs pa ds h n=rfs pb ds h n:=by
 unfold rfs
 rw[vD (hp h hh),vD (hp n hn)]
 have e1:rdW pa h n=rdW pb h n:=by unfold rdW;rw[hp h hh,hp n hn]
 have e2:sel (ldr pa) (ldr pb n,ldr pb h) ds=sel (ldr pb) (ldr pb n,ldr pb h) ds:=by
  unfold sel
  exact List.filter_congr fun q hq=>by rw[vD (hp _ (hd q hq).1),vD (hp _ (hd q hq).2)]
 rw[e1,e2]
 have e3:(sel (ldr pb) (ldr pb n,ldr pb h) ds).map (rdO pa h n)=(sel (ldr pb) (ldr pb n,ldr pb h) ds).map (rdO pb h n):=List.map_congr_left fun q hq=>by
  have hq':=hd q (List.mem_filter.mp hq).1
  unfold rdO rdW
  rw[hp h hh,hp n hn,hp _ hq'.1,hp _ hq'.2]
 rw[e3]
theorem Gd.gg {hs:LI}{ls:LP}{pf:Int→Option Int}{pa:Int→LI}{us:LI}{bs:LP}(D:Gd hs ls pf pa us bs) (wl:Ls hs ls):GG us ls pf bs:=by
 have el:∀ {x},x∈us→ldr (paO pf) x=ldr pa x:=fun {x} hx=>vD (D.pa hx)
 have bu:∀ {b},b∈bs→b.1∈us∧b.2∈us:=fun {b} hb=>⟨(D.m _).mpr (D.B.ok b hb).1,(D.m _).mpr (D.B.ok b hb).2.1⟩
 refine⟨⟨D.ad,fun x hx=>⟨_,D.U.en hx⟩,fun b hb=>⟨Int.le_of_lt (D.B.ok b hb).2.2,?_⟩,D.B.nd⟩,fun p hp hne=>?_⟩
 ·rw[el (bu hb).1,el (bu hb).2]
  exact D.df b hb
 ·have hpu:p.1∈us∧p.2∈us:=⟨(D.m _).mpr (wl.ok p hp).1,(D.m _).mpr (wl.ok p hp).2.1⟩
  rw[el hpu.1,el hpu.2] at hne
  obtain⟨b,hb,e⟩:=D.cov p hp hne
  refine⟨b,hb,?_⟩
  unfold jk at e ⊢
  rw[el hpu.1,el hpu.2,el (bu hb).1,el (bu hb).2]
  exact e
theorem Gd.rev {hs:LI}{ls:LP}{pf:Int→Option Int}{pa:Int→LI}{us:LI}{bs:LP}(D:Gd hs ls pf pa us bs):Gd hs ls pf pa us bs.reverse :=
 ⟨D.U,D.m,D.ad,⟨(List.reverse_perm bs).nodup_iff.mpr D.B.nd,fun p hp=>D.B.ok p (List.mem_reverse.mp hp)⟩,fun b hb=>D.inl b (List.mem_reverse.mp hb),fun b hb=>D.df b (List.mem_reverse.mp hb),fun p hp h=>by
  obtain⟨b,hb,e⟩:=D.cov p hp h
  exact⟨b,List.mem_reverse.mpr hb,e⟩⟩
theorem Gd.brl {hs:LI}{ls:LP}{pf:Int→Option Int}{pa:Int→LI}{us:LI}{bs:LP}(D:Gd hs ls pf pa us bs):BrL ls bs:=fun b hb=>mem_adB.mp (mem_dbl.mpr (.inl (D.inl b hb)))
theorem Gd.ho {hs:LI}{ls:LP}{pf:Int→Option Int}{pa:Int→LI}{us:LI}{bs:LP}(D:Gd hs ls pf pa us bs) (wl:Ls hs ls){js:List ((Int×Int)×Addr×LI)}(B:PpB ls pa bs js):HoB us ls pf bs js:=by
 refine⟨(D.gg wl).g,B.kk,B.ln,fun j hj=>?_⟩
 have hk:=mem_dbl.mp (mem_ds.mp (B.kk j hj))
 have hu:j.1.1∈us∧j.1.2∈us:=by
  rcases hk with z | z
  ·exact⟨(D.m _).mpr (wl.ok _ z).1,(D.m _).mpr (wl.ok _ z).2.1⟩
  ·exact⟨(D.m _).mpr (wl.ok _ z).2.1,(D.m _).mpr (wl.ok _ z).1⟩
 rw[Uv (us:=us) (pb:=pa) (fun x hx=>D.pa hx) (fun q hq=>?_) hu.1 hu.2]
 ·exact B.rd j hj
 ·rcases mem_dbl.mp (mem_ds.mp hq) with z | z
  ·exact⟨(D.m _).mpr (D.B.ok _ z).1,(D.m _).mpr (D.B.ok _ z).2.1⟩
  ·exact⟨(D.m _).mpr (D.B.ok _ z).2.1,(D.m _).mpr (D.B.ok _ z).1⟩
theorem WZ {hs:LI}{ls bs:LP}(wh:Hs hs) (wl:Ls hs ls) (inl:∀ b∈bs,b∈ls):srt bs.reverse=srt bs :=
 XE (fun b hb=>(wl.bd wh) b (inl b hb)) ((zQ _).trans (List.reverse_perm bs)) (XD _)
theorem RdB.ho {us:LI}{ls:LP}{pf:Int→Option Int}{bs:LP}{js:List ((Int×Int)×Addr×LI)}(B:RdB us ls pf bs js) (g:GrB us ls pf bs):HoB us ls pf bs js :=
 ⟨g,fun j hj=>by rw[← B.ks];exact List.mem_map.mpr ⟨j,hj,rfl⟩,by rw[← B.ks,List.length_map],fun j hj=>List.mem_of_head? (B.hd j hj)⟩
section
variable {X:Cx}
theorem Ya {H:Hp}{i:Int}:EqP X H (.int i) (.int i) true 0:=by
 have:=EqP.of (X:=X) (H:=H) (n:=0) (EqD.flat (K:=X.K) (H:=H) (x:=.int i) (y:=.int i) rfl rfl)
 have e:eqV (.int i) (.int i)=true:=by simp[eqV]
 rw[e] at this
 exact this
theorem VL {H:Hp}{a b:Addr}{ns:LI}(ha:H a=some (.lst (ns.map V.int))) (hb:H b=some (.lst (ns.map V.int))):EqP X H (.ref a) (.ref b) true 2:=EqP.lst (n:=0) (SqL.of ha) (SqL.of hb) rfl fun j x y e1 e2=>by
 rw[e1] at e2
 cases e2
 rw[List.getElem?_map] at e1
 obtain⟨i,_,rfl⟩:=Option.map_eq_some_iff.mp e1
 exact Ya
theorem zbc {H:Hp}{rs rs':List V}{bs:LP}(L:LnAt H rs bs) (L':LnAt H rs' bs):∀ (j:Nat) x y,rs[j]?=some x→rs'[j]?=some y→EqP X H x y true 2:=fun j x y e1 e2=>by
 obtain⟨p,q,hp,rfl,hq⟩:=L.get e1
 obtain⟨p',q',hp',rfl,hq'⟩:=L'.get e2
 rw[hp] at hp'
 cases hp'
 refine EqP.tup (n:=0) (SqT.of hq) (SqT.of hq') rfl fun i u v e3 e4=>?_
 match i,e3,e4 with
 |0,e3,e4=>cases e3;cases e4;exact Ya
 |1,e3,e4=>cases e3;cases e4;exact Ya
 |i+2,e3,e4=>simp at e3
end
def spLaw (K:PySem.W.Frag):Sp:=fun vs H Q _=>∃ (a:Addr) (ns:LI),vs=[.ref a]∧SqL K H a (ns.map V.int)∧ns.length≤63∧∀ H',Q (.bl true) H'
theorem sp_law_of {K:PySem.W.Frag}{H:Hp}{a:Addr}{ns:LI}(hl:ns.length≤63) (hO:zbh H) (hS:SqL K H a (ns.map V.int)):spLaw K [.ref a] H (fun v _=>v=.bl true) fun _ _ _=>False:=⟨a,ns,rfl,hS,hl,fun _=>rfl⟩
theorem ok_law (T:Txt w K mg a):FnOk P w K mg base CX0 26 a.f_qJ a.d_qJ ["_law_script"] (spLaw K):=by
 have c_qx:Callee P w K mg base "_law_cell_at" a.f_qx a.d_qx ["_law_script", "_law_k"] 1 (XG K):=⟨Vy T,T.g_qx,T.F_qx.kp,T.b_qx⟩
 have c_qy:Callee P w K mg base "_law_draws" a.f_qy a.d_qy ["_law_cell", "_law_many"] 1 Zm:=⟨YY T,T.g_qy,T.F_qy.kp,T.b_qy⟩
 have c_qC:Callee P w K mg base "_law_web_drawn" a.f_qC a.d_qC ["_law_xs"] 3 zjg:=⟨zdg T,T.g_qC,T.F_qC.kp,T.b_qC⟩
 have c_qG:Callee P w K mg base "_law_drawn_way" a.f_qG a.d_qG ["_law_xs", "_law_hands_here", "_law_lines_here"] 3 zjs:=⟨zdu T,T.g_qG,T.F_qG.kp,T.b_qG⟩
 have c_qI:Callee P w K mg base "_law_paper" a.f_qI a.d_qI ["_law_xs", "_law_hands_here", "_law_lines_here", "_law_parents", "_law_bridges"] 3 zjk:=⟨zdl T,T.g_qI,T.F_qI.kp,T.b_qI⟩
 have c_qs:Callee P w K mg base "holds" a.f_qs a.d_qs ["web", "way", "paper"] 9 (zjq a):=⟨zdr T,T.g_qs,T.F_qs.kp,T.b_qs⟩
 have c_qp:Callee P w K mg base "roads" a.f_qp a.d_qp ["web", "way"] 11 (zji a):=⟨zdi T,T.g_qp,T.F_qp.kp,T.b_qp⟩
 have m_Way:Maker P w K mg base "Way" a.c_Way a.f_qK a.d_qK ["self", "parents", "bridges"] 6 (Ur a):=⟨UU T,T.g_Way,T.mk_Way,T.b_qK⟩
 have m_Web:Maker P w K mg base "Web" a.c_Web a.f_qQ a.d_qQ ["self", "hands", "lines"] 4 (Uq a):=⟨UT T,T.g_Web,T.mk_Web,T.b_qQ⟩
 refine T.F_qJ.ok sc_qJ (fun vs H Q E h=>?_) (fun cdv A outer s H vs Q E hr h=>?_)
 ·obtain⟨x,ns,rfl,_⟩:=h
  rfl
 ·obtain⟨sc,ns,rfl,hS,hlen,k⟩:=h
  have un:∀ n:Nat,n≤8→(A.deeper (PyProof.Rows.envOfC "law" (defScope YD) s.heap.objs.size a.f_qJ cdv)).units+n+2<cLine:=fun n hn=>by
   have:=hr.units
   omega
  refine zT (zb (zG PassesOwn.never rfl (zC (zq yT (zE (zN (zp c_qx hr.m (zd (zg 0) (yg zf za))) za)) (zO yw (zg 0) (zV zf) (zV zf)))) (zi (i:=1) sc_qJ.nd rfl (Or.inl rfl))
    (zb (zj (i:=2) sc_qJ.nd rfl (Or.inl rfl) (zp c_qy hr.m (zd (zg 1) (yg zf za))))
    (zb (ud (zp c_qC hr.m (zd (zg 2) za)) (zU rfl (zm (zi (i:=3) sc_qJ.nd rfl (Or.inl rfl)) (zm (zi (i:=4) sc_qJ.nd rfl (Or.inl rfl)) zH))))
    (zb (zj (i:=5) sc_qJ.nd rfl (Or.inl rfl) (Ze m_Web hr.m (zd (zg 3) (zd (zg 4) za))))
    (zb (ud (zp c_qG hr.m (zd (zg 2) (zd (zg 3) (zd (zg 4) za)))) (zU rfl (zm (zi (i:=6) sc_qJ.nd rfl (Or.inl rfl)) (zm (zi (i:=7) sc_qJ.nd rfl (Or.inl rfl)) zH))))
    (zb (zj (i:=8) sc_qJ.nd rfl (Or.inl rfl) (Ze m_Way hr.m (zd (zg 6) (zd (zg 7) za))))
    (zb (zG PassesOwn.never rfl (yD rfl T.n_range (yg zf za)) (zi (i:=9) sc_qJ.nd rfl (Or.inl rfl))
     (zb (zj (i:=10) sc_qJ.nd rfl (Or.inl rfl) (zp c_qI hr.m (zd (zg 2) (zd (zg 3) (zd (zg 4) (zd (zg 6) (zd (zg 7) za)))))))
     (zb (zj (i:=11) sc_qJ.nd rfl (Or.inl rfl) (zX (u4 rfl) (by rfl) T.n_dict wn (zu (uI (yr rfl (N':=["_law_pair", "_law_road"]) (t:=2) (caps:=[]) ⟨rfl,rfl,rfl⟩ (vN (zg 10)) (fun _=>(zU rfl (zm (zi (i:=0) (show(["_law_pair", "_law_road"]:List Str).Nodup by decide +kernel) rfl (Or.inl rfl)) (zm (zi (i:=1) (show(["_law_pair", "_law_road"]:List Str).Nodup by decide +kernel) rfl (Or.inl rfl)) zH)))) (fun _=>yC) (fun _=>(zJ (zd (zg 0) (zN (zX yu (by rfl) T.n_list bt_list (zd (zg 1) za)) za)))))) za)))
     (zb (zy (vc (yo (zn vZ (zp c_qs hr.m (zd (zg 5) (zd (zg 8) (zd (zg 10) za)))) zD (zB _)) (yj (zn Vv (zg 10) (zg 11) (zB _)))))
      (ze (zh zD))
      zo)
     (ze (zy (zn vZ (zp c_qs hr.m (zd (zg 5) (zN (Ze m_Way hr.m (zd (zg 6) (zu (wF (zg 7) (yp yJ zf)) za))) (zd (zg 10) za)))) zD (zB _))
      (ze (zh zD))
      zo))))))
    (ze (zy (vc (yo (zn vZ (zp c_qs hr.m (zd (zg 5) (zd (zg 8) (zN (zp c_qp hr.m (zd (zg 5) (zd (zg 8) za))) za)))) zD (zB _)) (yj (zn UQ (zW (zg 8)) (zg 7) (zB _)))))
     (ze (zh zD))
     zo)))))))))
   (ze (zh zD))) ?_
  refine⟨_,rfl,sc,ns,0,rfl,hS,by decide,fun c0=>?_⟩
  refine⟨(by show 1≤sizeLine;decide),fun p1 hp1=>?_⟩
  have s1:=Same.new (o:=HO.lst [V.int c0]) hp1
  refine⟨_,rfl,_,rfl,_,rfl,sc,_,rfl,zlt hS s1,fun p2 hp2=>?_⟩
  have s2:=Same.new (o:=HO.lst (yV (ns.map V.int) (some 1) (some 3))) hp2
  have hcl:=yb (ns.map V.int) (some 1) (some 3)
  rw[List.length_map] at hcl
  have hz:[V.int c0].length+(yV (ns.map V.int) (some 1) (some 3)).length≤sizeLine:=by
   have:1000≤sizeLine:=by decide
   show 1+_≤_
   omega
  refine⟨p1,p2,_,_,rfl,rfl,s2 _ _ upd_same,upd_same,hz,fun p3 hp3=>?_⟩
  refine⟨p3,rfl,⟨_,SqL.of upd_same⟩,?_⟩
  have hall:∀ (i:Nat) v,([V.int c0]++yV (ns.map V.int) (some 1) (some 3))[i]?=some v→∃ c,v=V.int c:=fun i v hi=>by
   cases i with
   |zero=>exact⟨c0,by cases hi;rfl⟩
   |succ i=>exact Xn (i:=i) (by simpa using hi)
  generalize hxs:[V.int c0]++yV (ns.map V.int) (some 1) (some 3)=xs at *
  refine for_list (K:=K) (a:=p3) (xs:=xs) (fun i σ H'=>∃ (o1 o2 o3 o4 o5 o6 o7 o8 o9 o10 o11:Option V),σ=[some (.ref sc),o1,o2,o3,o4,o5,o6,o7,o8,o9,o10,o11]∧H' p3=some (.lst xs)) ?_ ?_ ?_ ?_
  ·exact⟨none,none,none,none,none,none,none,none,none,none,none,rfl,upd_same⟩
  ·rintro i σ H' _ ⟨_,_,_,_,_,_,_,_,_,_,_,_,e⟩
   exact SqL.of e
  ·rintro i v σ H0 hi ⟨o1,o2,o3,o4,o5,o6,o7,o8,o9,o10,o11,rfl,h3⟩
   obtain⟨c,rfl⟩:=hall i v hi
   refine⟨_,rfl,c,330,rfl,by decide,fun l H1 hl0 x1 y1=>?_⟩
   have hpl:p3≠l:=fun z=>by rw[z,hl0] at h3;cases h3
   refine⟨_,rfl,l,rfl,x1,fun t h q hs rs ls H2 ht hh hq L wh wl x2 y2 nhl nql l28=>?_⟩
   have h32:=y2 _ _ (y1 _ _ h3) hpl
   refine⟨t,_,rfl,SqT.of ht,rfl,_,_,rfl,_,_,rfl,rfl,?_⟩
   refine⟨_,rfl,_,rfl,fun x wx nx ndx nex=>?_⟩
   have m1:Same H2 (upd (upd H2 wx (.own x)) x (.ins a.c_Web wx [])):=(Same.new ndx).updF nx
   refine⟨x,wx,h,q,rs,hs,ls,rfl,upd_same,m1 _ _ hh,m1 _ _ hq,L.same m1,wh,wl,by omega,fun oh ol wd ad H3 foh fol fd fad x3' Wb3=>⟨rfl,?_⟩⟩
   have s3:Same H2 H3:=fun b o e=>x3' b o (m1 b o e) (ne_of_none e nx)
   have x1m:=x2.same m1
   have noh:oh≠l:=x1m.ne foh
   have nol:ol≠l:=x1m.ne fol
   have nad:∀ z∈hs,ad z≠l:=fun z hz=>x1m.ne (fad z hz)
   have x3:=x2.same s3
   have hh3:=s3 _ _ hh
   have hq3:=s3 _ _ hq
   have L3:=L.same s3
   have h33:=s3 _ _ h32
   clear m1 x3' x1m s3 hh hq L h32 x2 y2 x1 y1 ht
   refine⟨_,rfl,_,rfl,_,rfl,l,h,q,rs,hs,ls,rfl,x3,hh3,nhl,hq3,nql,L3,wh,wl,fun t4 d lb us pf pa bs rb H4 ht4 hd hlb Lb nd D x4 y4 nbl=>?_⟩
   have l12:us.length≤12:=Nat.le_trans (we nd fun x hx=>(D.m x).mp hx) wh.l12
   have l66:bs.length≤66:=Nat.le_trans (xo D.B.nd D.inl) wl.le
   have Wb4:=Wb3.extX x3 y4 noh nol nad
   have hh4:=y4 _ _ hh3 nhl
   have hq4:=y4 _ _ hq3 nql
   have L4:=L3.extX x3 y4
   have h34:=y4 _ _ h33 hpl
   clear Wb3 y4 hh3 hq3 L3 h33 x3
   refine⟨t4,_,rfl,SqT.of ht4,rfl,_,_,rfl,_,_,rfl,rfl,?_⟩
   refine⟨_,rfl,_,rfl,fun y dx ny ndx' ney=>?_⟩
   have m1:Same H4 (upd (upd H4 dx (.own y)) y (.ins a.c_Way dx [])):=(Same.new ndx').updF ny
   refine⟨y,dx,d,lb,pf,us,rb,bs,rfl,upd_same,m1 _ _ hd,nd,l12,m1 _ _ hlb,Lb.same m1,by omega,fun dp ob H5 fdp fob x5' W5=>⟨rfl,?_⟩⟩
   have s5:Same H4 H5:=fun b o e=>x5' b o (m1 b o e) (ne_of_none e ny)
   have nob:ob≠l:=(x4.same m1).ne fob
   have x5:=x4.same s5
   have ndl:d≠l:=fun z=>by obtain⟨ms,e',_⟩:=x4;rw[z,e'] at hd;cases hd
   have Wb5:=Wb4.same s5
   have hh5:=s5 _ _ hh4
   have hq5:=s5 _ _ hq4
   have L5:=L4.same s5
   have h35:=s5 _ _ h34
   have hd5:=s5 _ _ hd
   have hlb5:=s5 _ _ hlb
   have Lb5:=Lb.same s5
   clear Wb4 hh4 hq4 L4 h34 hd hlb Lb x4 s5 m1 x5' fdp fob ht4
   have WPx:∀ {G:Hp},Ext l H5 G→WbP a G x hs ls:=fun {G} yy=>⟨wh,wl,by omega,wx,oh,ol,wd,ad,Wb5.extX x5 yy noh nol nad⟩
   have gg:=D.gg wl
   have brl:=D.brl
   have cl:=D.U.cl
   refine⟨2,rfl,by decide,by decide,?_⟩
   refine for_range (lo:=0) (n:=2) (fun i σ H'=>∃ (o9 o10 o11:Option V),σ=[some (.ref sc),some (.int c),some (.ref l),some (.ref h),some (.ref q),some (.ref x),some (.ref d),some (.ref lb),some (.ref y),o9,o10,o11]∧XsAt H' l∧Ext l H5 H') ?_ ?_ ?_
   ·exact⟨_,_,_,rfl,x5,Ext.refl⟩
   ·rintro j σ G hj ⟨o9,o10,o11,rfl,xG,yG⟩
    have hdG:=yG _ _ hd5 ndl
    have hlbG:=yG _ _ hlb5 nbl
    have LbG:=Lb5.extX x5 yG
    refine⟨_,rfl,_,rfl,_,rfl,_,rfl,_,rfl,l,h,q,d,lb,rs,rb,hs,us,ls,bs,pf,pa,rfl,xG,yG _ _ hh5 nhl,nhl,yG _ _ hq5 nql,nql,L5.extX x5 yG,wh,wl,by omega,hdG,nd,hlbG,nbl,LbG,D,fun pd js G1 hpd pp pb x1 y1=>?_⟩
    have yG1:=yG.trans y1
    refine⟨_,rfl,pd,kvP js,rfl,pp.dd,fun od S Dd hDd _=>?_⟩
    have nDd:Dd≠pd:=fun z=>by rw[z,upd_same] at hDd;cases hDd
    generalize hG2:upd G1 pd (HO.frz od (HO.dT (kvP js)))=G2 at *
    have hz2:G2 pd=some (.frz od (.dT (kvP js))):=by rw[← hG2];exact upd_same
    have x2:Ext pd G1 G2:=by rw[← hG2];exact Ext.at
    have back:∀ {G':Hp},Same G2 G'→Same G1 (upd G' pd (.dT (kvP js))):=fun {G'} sm b o e=>by
     by_cases z:b=pd
     ·rw[z,pp.dd] at e;cases e;rw[z];exact upd_same
     ·rw[upd_ne z];exact sm _ _ (x2 _ _ e z)
    have rowx:∀ j∈js,G2 j.2.1=some (.lst (j.2.2.map V.int)):=fun j hj=>x2 _ _ (pp.row j hj) fun z=>by have:=pp.row j hj;rw[z,pp.dd] at this;cases this
    have ljs:=pp.len
    refine u0 (d:=pd) (od:=od) (kvs:=kvP js) (fun i zs τ G'=>∃ (o1 o2:Option V) (ms:List (Addr×Addr×(Int×Int)×Addr×LI)),τ=[o1,o2]∧zs=(ms.map (·.1)).map V.ref∧G' Dd=some (.lst zs)∧ms.map (fun m=>(m.2.2.1,m.2.2.2.2))=(js.take i).map (fun j=>(j.1,j.2.2))∧(∀ m∈ms,G' m.1=some (.tup [.ref m.2.1,.ref m.2.2.2.1])∧G' m.2.1=some (.tup ((yn m.2.2.1).map kV))∧G' m.2.2.2.1=some (.lst (m.2.2.2.2.map V.int))∧m.2.2.2.1≠Dd)∧Same G2 G') ?_ ?_ ?_ ?_
    ·exact⟨none,none,[],rfl,rfl,upd_same,by simp,(fun m hm=>(nomatch hm)),Same.new hDd⟩
    ·rintro i zs τ G' ⟨o1,o2,ms,_,_,_,_,_,sm⟩
     exact sm _ _ hz2
    ·rintro i kv b p zs τ G' hkv hb hp ⟨o1,o2,ms,rfl,rfl,hD',em,hms,sm⟩
     unfold kvP at hkv
     rw[List.getElem?_map] at hkv
     obtain⟨j,hj,e⟩:=Option.map_eq_some_iff.mp hkv
     subst e
     have hjm:=List.mem_of_getElem? hj
     have lms:ms.length≤132:=by
      have e:=congrArg List.length em
      rw[List.length_map,List.length_map,List.length_take] at e
      omega
     have n1:=Same.new (o:=HO.tup [V.ref b,V.ref j.2.1]) hp
     have e1:=upd_same (H:=G') (a:=p) (o:=HO.tup [V.ref b,V.ref j.2.1])
     dsimp only
     generalize upd G' p (HO.tup [V.ref b,V.ref j.2.1])=G3 at *
     refine⟨p,_,rfl,SqT.of e1,rfl,_,_,rfl,_,_,rfl,rfl,yes_if ?_⟩
     refine⟨_,rfl,_,rfl,j.2.1,_,rfl,.inl (SqL.of (n1 _ _ (sm _ _ (rowx j hjm)))),fun lc hlc=>?_⟩
     have n2:=Same.new (o:=HO.lst (j.2.2.map V.int)) hlc
     have e2:=upd_same (H:=G3) (a:=lc) (o:=HO.lst (j.2.2.map V.int))
     have ncD:lc≠Dd:=fun z=>by rw[z,n1 _ _ hD'] at hlc;cases hlc
     generalize upd G3 lc (HO.lst (j.2.2.map V.int))=G4 at *
     refine⟨(by show 2≤sizeLine;decide),fun pt hpt=>?_⟩
     have n3:=Same.new (o:=HO.tup [V.ref b,V.ref lc]) hpt
     have e3:=upd_same (H:=G4) (a:=pt) (o:=HO.tup [V.ref b,V.ref lc])
     generalize upd G4 pt (HO.tup [V.ref b,V.ref lc])=G5 at *
     have n13:=(n1.trans n2).trans n3
     have hD5:=n13 _ _ hD'
     have tne:∀ {b:Addr}{xs:List V},G5 b=some (.tup xs)→b≠Dd:=fun {b xs} e z=>by rw[z,hD5] at e;cases e
     refine⟨hD5,by rw[List.length_map,List.length_map];exact zk (by omega),_,_,ms++[(pt,b,j.1,lc,j.2.2)],rfl,by simp,upd_same,?_,fun m hm=>?_,Same.updF (sm.trans n13) hDd⟩
     ·rw[List.map_append,em,List.take_add_one,hj,List.map_append]
      rfl
     ·rcases List.mem_append.mp hm with z | z
      ·obtain⟨q1,q2,q3,q4⟩:=hms m z
       have q1:=n13 _ _ q1
       have q2:=n13 _ _ q2
       exact⟨by rw[upd_ne (tne q1)];exact q1,by rw[upd_ne (tne q2)];exact q2,by rw[upd_ne q4];exact n13 _ _ q3,q4⟩
      ·rw[List.mem_singleton.mp z]
       have hb5:=n13 _ _ hb
       exact⟨by rw[upd_ne (tne e3)];exact e3,by rw[upd_ne (tne hb5)];exact hb5,by rw[upd_ne ncD];exact n3 _ _ e2,ncD⟩
    ·rintro zs τ G3 ⟨o1,o2,ms,rfl,rfl,hD3,em,hms,sm⟩
     have hlk:(kvP js).length=js.length:=by unfold kvP;rw[List.length_map]
     rw[hlk,List.take_length] at em
     refine .inr ⟨pd,od,_,S,sm _ _ hz2,?_⟩
     have s14:=back sm
     have ne4:∀ {b:Addr}{o:HO},G3 b=some o→(∀ od u,o≠.frz od u)→(upd G3 pd (.dT (kvP js))) b=some o:=fun {b o} e n=>by
      rw[upd_ne (fun z=>by rw[z,sm _ _ hz2] at e;injection e with e;exact n _ _ e.symm)]
      exact e
     have hD4:=ne4 hD3 (fun _ _ z=>by cases z)
     have hms4:∀ m∈ms,(upd G3 pd (.dT (kvP js))) m.1=some (.tup [.ref m.2.1,.ref m.2.2.2.1])∧(upd G3 pd (.dT (kvP js))) m.2.1=some (.tup ((yn m.2.2.1).map kV))∧(upd G3 pd (.dT (kvP js))) m.2.2.2.1=some (.lst (m.2.2.2.2.map V.int)):=fun m hm=>by
      obtain⟨q1,q2,q3,_⟩:=hms m hm
      exact⟨ne4 q1 (fun _ _ z=>by cases z),ne4 q2 (fun _ _ z=>by cases z),ne4 q3 (fun _ _ z=>by cases z)⟩
     generalize upd G3 pd (.dT (kvP js))=G4 at *
     have kml:ms.length=js.length:=by
      have e:=congrArg List.length em
      rw[List.length_map,List.length_map] at e
      exact e
     have e1:(ms.map (·.2.2)).map (·.1)=js.map (·.1):=by
      have e:=congrArg (List.map (·.1)) em
      rw[List.map_map,List.map_map] at e
      rw[List.map_map]
      exact e
     refine⟨Dd,ms.map (·.1),ms.map (·.2.1),kvP (ms.map (·.2.2)),rfl,hD4,?_,?_,?_,?_,un 3 (by omega),fun i q' b' kv' a1 a2 a3=>?_,fun dk hdk=>?_⟩
     ·unfold kvP
      rw[List.length_map,List.length_map,List.length_map]
     ·unfold kvP
      rw[List.length_map,List.length_map,List.length_map]
     ·unfold kvP
      rw[List.length_map,List.length_map]
      omega
     ·rw[xP,e1]
      exact List.pairwise_map.mpr (pp.nd.imp fun h e=>h (yz e))
     ·unfold kvP at a3
      rw[List.map_map] at a3
      rw[List.getElem?_map] at a1 a2 a3
      obtain⟨m,hm,rfl⟩:=Option.map_eq_some_iff.mp a1
      rw[hm] at a2 a3
      cases a2
      cases a3
      have:=hms4 m (List.mem_of_getElem? hm)
      exact⟨this.1,this.2.1⟩
     have n5:=Same.new (o:=HO.dT (kvP (ms.map (·.2.2)))) hdk
     have hk5:=upd_same (H:=G4) (a:=dk) (o:=HO.dT (kvP (ms.map (·.2.2))))
     generalize upd G4 dk (HO.dT (kvP (ms.map (·.2.2))))=G5 at *
     have s15:=s14.trans n5
     have yG5:=yG1.trans (Ext.same s15)
     refine⟨_,rfl,_,rfl,_,rfl,x,y,pd,dx,dp,ob,hs,us,ls,bs,pf,js,rfl,WPx yG5,W5.extX x5 yG5 nob,D.m,cl,brl,pp.same s15,fun b G6 hb s6=>?_⟩
     rw[hb.mpr (D.ho wl pb)]
     refine⟨true,rfl,rfl,_,rfl,iteN rfl ?_⟩
     have s16:=s15.trans s6
     refine⟨_,rfl,_,rfl,pd,dk,kvP js,kvP (ms.map (·.2.2)),2,rfl,rfl,(pp.same s16).dd,s6 _ _ hk5,?_,un 2 (by omega),fun p hp=>?_,_,rfl,iteN rfl ?_⟩
     ·unfold kvP
      rw[List.length_map,List.length_map,List.length_map,kml]
     ·obtain⟨j,hj,rfl⟩:=List.mem_map.mp hp
      have hjm:(j.1,j.2.2)∈ms.map (fun m=>(m.2.2.1,m.2.2.2.2)):=by rw[em];exact List.mem_map.mpr ⟨j,hj,rfl⟩
      obtain⟨m,hm,e⟩:=List.mem_map.mp hjm
      injection e with e1 e2
      refine⟨V.ref m.2.2.2.1,List.mem_map.mpr ⟨m.2.2,List.mem_map.mpr ⟨m,hm,rfl⟩,by rw[e1]⟩,?_⟩
      have r1:=(pp.same s16).row j hj
      have r2:=s6 _ _ (n5 _ _ (hms4 m hm).2.2)
      rw[e2] at r2
      exact VL r1 r2
     have yG6:=yG1.trans (Ext.same s16)
     have hlb6:=s16 _ _ (y1 _ _ hlbG nbl)
     refine⟨_,rfl,_,rfl,_,rfl,_,rfl,rfl,lb,_,rfl,SqL.of hlb6,fun rv hrv=>?_⟩
     have n7:=Same.new (o:=HO.lst rb.reverse) hrv
     have hr7:=upd_same (H:=G6) (a:=rv) (o:=HO.lst rb.reverse)
     generalize upd G6 rv (HO.lst rb.reverse)=G7 at *
     have Lb7:=(((LbG.extX xG y1).same s16).same n7).rev
     have hd7:=n7 _ _ (s16 _ _ (y1 _ _ hdG ndl))
     refine fun y2 dx2 ny2 ndx2 ney2=>?_
     have m1:Same G7 (upd (upd G7 dx2 (.own y2)) y2 (.ins a.c_Way dx2 [])):=(Same.new ndx2).updF ny2
     refine⟨y2,dx2,d,rv,pf,us,rb.reverse,bs.reverse,rfl,upd_same,m1 _ _ hd7,nd,l12,m1 _ _ hr7,Lb7.same m1,by rw[List.length_reverse];omega,fun dp2 ob2 G8 fdp2 fob2 x8' W8=>⟨rfl,?_⟩⟩
     have s8:Same G7 G8:=fun b o e=>x8' b o (m1 b o e) (ne_of_none e ny2)
     have s18:=s16.trans (n7.trans s8)
     have yG8:=yG1.trans (Ext.same s18)
     have D2:=D.rev
     refine⟨_,rfl,x,y2,pd,dx2,dp2,ob2,hs,us,ls,bs.reverse,pf,js,rfl,WPx yG8,W8,D2.m,D2.U.cl,D2.brl,pp.same s18,fun b G9 hb s9=>?_⟩
     have pb2:PpB ls pa bs.reverse js:=⟨pb.kk,pb.ln,by rw[WZ wh wl D.inl];exact pb.rd⟩
     rw[hb.mpr (D2.ho wl pb2)]
     refine⟨true,rfl,rfl,_,rfl,iteN rfl ?_⟩
     exact⟨_,_,_,rfl,(x1.same s18).same s9,yG8.trans (Ext.same s9)⟩
   ·rintro σ G ⟨o9,o10,o11,rfl,xG,yG⟩
    have WG:=W5.extX x5 yG nob
    have WPG:=WPx yG
    refine⟨_,rfl,_,rfl,_,rfl,_,rfl,x,y,dx,dp,ob,hs,us,ls,bs,pf,rfl,WPG,WG,D.m,cl,brl,gg,fun pd js G1 hpd pp pb s1=>?_⟩
    refine⟨x,y,pd,dx,dp,ob,hs,us,ls,bs,pf,js,rfl,WPG.same s1,WG.same s1,D.m,cl,brl,pp,fun b G2 hb s2=>?_⟩
    rw[hb.mpr (pb.ho gg.g)]
    refine⟨true,rfl,rfl,_,rfl,iteN rfl ?_⟩
    have s12:=s1.trans s2
    have Y:=WG.same s12
    refine⟨_,rfl,y,_,dx,_,_,_,_,_,_,rfl,Y.p,rfl,T.cl_Way,T.mt_qN,ok_ab (P:=P) (w:=w) T,hr.m,T.b_qN,y,dx,dp,ob,pf,us,bs,rfl,Y,fun l2 rs2 G3 hl2 hl22 L2' u2=>?_⟩
    have U2:=s12.trans u2
    have LbG:=(Lb5.extX x5 yG).same U2
    refine⟨_,rfl,l2,lb,_,_,2,rfl,rfl,.inl ⟨SqL.of hl22,SqL.of (U2 _ _ (yG _ _ hlb5 nbl))⟩,L2'.1.trans Lb5.1.symm,un 2 (by omega),zbc L2' LbG,_,rfl,iteN rfl ?_⟩
    exact⟨_,_,_,_,_,_,_,_,_,_,_,rfl,U2 _ _ (yG _ _ h35 hpl)⟩
  ·rintro σ H0 ⟨o1,o2,o3,o4,o5,o6,o7,o8,o9,o10,o11,rfl,h3⟩
   exact k H0
end
end K04
noncomputable section
noncomputable def PySem.W.Fast.tw13666248295787501759:=0
noncomputable def PySem.W.Fast.tw14633931826345236324:=0
noncomputable def PySem.W.Fast.tw8856144728478018897:=0
noncomputable def PySem.W.Fast.tw17062198468877432609:=0
noncomputable def PySem.W.Fast.tw10598372733321371305:=0
noncomputable def PySem.W.Fast.tw11616086253799572649:=0
noncomputable def PySem.W.Fast.tw17758467707605542250:=0
noncomputable def PySem.W.Fast.tw14338876466950056905:=0
noncomputable def PySem.W.Fast.tw6496138341281078435:=0
noncomputable def PySem.W.Fast.tw6216741656489410486:=0
noncomputable def PySem.W.Fast.tw6123116592370679677:=0
noncomputable def PySem.W.Fast.tw16627384631628985244:=0
noncomputable def PySem.W.Fast.tw1688954305291010661:=0
noncomputable def PySem.W.Fast.tw8697170791317315040:=0
noncomputable def PySem.W.Fast.tw10579265108948214604:=0
noncomputable def PySem.W.Fast.tw9532633636177338432:=0
noncomputable def PySem.W.Fast.tw3299963512692046226:=0
noncomputable def PySem.W.Fast.tw9316987155075272405:=0
noncomputable def PySem.W.Fast.tw5518260327533038333:=0
noncomputable def PySem.W.Fast.tw13793158388811680729:=0
noncomputable def PySem.W.Fast.tw10330366778594210143:=0
noncomputable def PySem.W.Fast.tw2679819212127310782:=0
noncomputable def PySem.W.Fast.tw1689613642844212636:=0
noncomputable def PySem.W.Fast.tw9031915412781655692:=0
noncomputable def PySem.W.Fast.tw3858109914732617049:=0
namespace Hd
open PySem PySem.W PySem.Calls PyProof.Rows
noncomputable abbrev pw:=PySem.Challenge.pw_beatless_k32_papers_that_hold
variable (P:Params)
noncomputable def tt {α:Type}(_:α):Bool:=true
noncomputable def S (i:Nat):Stmt:=pw.main.body.getD i (.Pass ⟨0,0,0,0⟩)
def fd (n q:Str) (s:Stmt) (g:Addr) (cl:List (Str×Addr)) (d k c m:Value) (an:Option Addr) (cd ct:Value) (b:Addr):FuncData :=
 ⟨n,q,L2.defArgs s,.stmts (L2.defBody s),L2.defScope s,g,cl,d,k,c,m,an,cd,ct,b⟩
noncomputable abbrev an:Option Value:=(Option.some (.ref 6))
noncomputable def env:Env:={ scope:=pw.main.scope,locals:=mainNs,globals:=mainNs,cells:=[],code:=(.ref 13),frame:=some 14 }
noncomputable abbrev bE:List Stmt:=behindTheImports pw
abbrev cE:Code:=.body bE env
noncomputable abbrev qE:Pos:=(Pos.mk 0 0 0 0)
noncomputable abbrev B:List Frame:=[topFrame qE]
def s0 (w:World) (os:OsState):Shared:=⟨boot_heap w.params,⟨[]⟩,boot_drawn,boot_toks,os⟩
def zs:List Str:=List.map Str.ofString ["/claim/cut.py", "<module>", "__main__", "__name__", "beatless.errors", "__doc__", "__package__", "__loader__", "__spec__", "__annotations__", "__builtins__", "__file__", "__cached__", "_wall", "BeatlessError", "NoWeb", "k", "__module__", "__qualname__", "__firstlineno__", "__static_attributes__", "__weakref__", "beatless.ways", "NoWay", "is_whole", "copied", "value", "beatless.wholes", "Way", "are_parents", "come_to_leaders", "__init__", "parent_of", "all_parents", "all_bridges", "path_up", "leader", "depth_of", "depth", "children", "bridges_at", "self", "parents", "bridges", "Way.__init__", "hand", "each", "parent", "Way.parent_of", "Way.all_parents", "Way.all_bridges", "path", "above", "Way.path_up", "Way.leader", "Way.depth_of", "Way.depth", "Way.children", "Way.bridges_at", "own_bridges", "own_parents", "__dict__", "web", "way", "beatless.webs", "is_bridge", "are_bridges", "is_grounded", "first_joins", "lets", "refuse_unlet", "road_within", "road_over", "bridges_by_leaders", "roads_for", "pairs_of", "roads", "are_wholes", "has_just_pairs", "holds", "MOST_HANDS", "LAST_HAND", "are_hands", "is_line", "bridge", "seen", "lines", "found", "one", "other", "leaders", "bridged", "neighbour", "down", "beatless.roads", "pairs", "paper", "values", "key", "road", "hands", "ahead", "line", "law_beatless_k32_papers_that_hold", "are_lines", "near_by_hand", "Web", "_law_cell_at", "_law_draws", "near", "has_hand", "has_line", "neighbours", "groups", "group_of", "Web.__init__", "Web.hands", "Web.lines", "Web.has_hand", "Web.has_line", "Web.neighbours", "Web.groups", "Web.group_of", "own_hands", "own_lines", "_law_script", "_law_k", "_law_cell", "_law_many", "_law_found", "_law_rest", "_law_number", "_law_mixed", "_law_take", "_law_hands", "_law_lines", "_law_web_drawn", "_law_near", "_law_up", "_law_both", "_law_drawn_way", "_law_roads", "_law_paper", "law", "_law_xs", "_law_size", "_law_hands_here", "_law_way", "_law_j", "_law_near_here", "_law_draw", "_law_at", "_law_most", "_law_lines_here", "_law_parents", "_law_hand", "_law_one", "_law_other", "_law_bridges", "_law_up_here", "_law_down", "_law_two", "_law_far"]
def s (n:Nat):Str:=zs.getD n ⟨#[]⟩
noncomputable def k0:Value:=.type "tuple"
noncomputable def k1:Value:=.type "code"
noncomputable def k2:Value:=.type "function"
noncomputable def k3:Value:=.type "frame"
noncomputable def k4:Value:=.type "dict"
noncomputable def k5:Value:=.builtin "__main__.__loader__#opaque"
noncomputable def k6:Value:=.type "ValueError"
noncomputable def k7:Value:=.type "builtin_function_or_method"
noncomputable def k8:Value:=.builtin "type.__prepare__"
noncomputable def k9:Value:=.type "type"
noncomputable def k10:Value:=.type "Exception"
noncomputable def k11:Value:=.type "BaseException"
noncomputable def k12:Value:=.type "object"
noncomputable def k13:Value:=.builtin "ValueError.__new__"
noncomputable def k14:Value:=.type "getset_descriptor"
noncomputable def k15:Value:=.builtin "ExceptionGroup.__weakref__"
noncomputable def k16:Value:=.type "super"
noncomputable def k17:Value:=.builtin "object.__init_subclass__"
noncomputable def k18:Value:=.builtin "object.__new__"
noncomputable def k19:Value:=.builtin "function.__dict__"
noncomputable def k20:Value:=.builtin "function.__dict__#set"
instance (n:Nat):OfNat Value n:=⟨.ref n⟩
noncomputable def iv (n:Int):Value:=.int n 0
def sv (n:Nat) (t:Tok):Value:=.str (s n) t
def en (P:Params) (x:Nat) (t:Tok) (v:Value):DictEntry:=⟨PyData.keyHash P (s x),sv x t,v⟩
def tO (l:Array Value):Obj:=Obj.mk k0 .none (Data.seq l 0) #[]
noncomputable def vO (l:Array Value):Obj:=Obj.mk .none .none (Data.fields l) #[]
def cO (n q:Nat) (a b c:Tok) (l m:Int) (k:Int) (r1 r2 r3 r4 r5:Addr) (x:Int) (y:Tok):Obj:=Obj.mk k1 .none (Data.fields #[(sv n a),(sv q b),(.str (s 0) c),(.int l 0),(.int m 0),(.int 0 0),(.int 0 0),(.int k 0),(.ref r1),(.bool true),(.int 181 0),(.ref r2),.none,(.ref r3),(.ref r4),(.ref r5),(.int x 0),(.int l 0),(.str (s 0) y)]) #[]
def uO (n q:Nat) (z:Stmt) (m:Nat) (t:Tok) (r:Addr):Obj:=Obj.mk k2 .none (Data.func (fd (s n) (s q) z 3 [] .none .none .none (sv m t) .none (.ref r) .none 0)) #[]
def gO (n q:Nat) (z:Stmt):Obj:=Obj.mk .none .none (Data.func (fd (s n) (s q) z 0 [] .none .none .none .none .none .none .none 0)) #[]
def o0:=tO #[]
def o1:=vO #[]
def o2:=Obj.mk k1 .none (Data.fields #[(sv 1 182),(sv 1 183),(sv 0 184),(iv 1),(iv 0),(iv 0),(iv 0),(iv 0),11,(.bool false),(iv 181),12,.none,.none,.none,.none,(iv 185),(iv 1),(sv 0 186)]) #[]
def o3:=Obj.mk k3 .none Data.plain #[(some 13),(some 3),(some 3),.none,(some (sv 2 164)),.none,(some 0)]
noncomputable abbrev N:=@BT.node
def t14:=N (boot_o_0 P) (N (boot_o_1 P) (N (boot_o_3 P) (N (boot_o_7 P) .nil .nil) (N o0 .nil .nil)) (N (boot_o_5 P) (N (boot_o_9 P) .nil .nil) (N o2 .nil .nil))) (N (boot_o_2 P) (N (boot_o_4 P) (N (boot_o_8 P) .nil .nil) (N o1 .nil .nil)) (N (boot_o_6 P) (N (boot_o_10 P) .nil .nil) (N o3 .nil .nil)))
def sa (w:World) (os:OsState):SharedT:=⟨(t14 w.params),15,(Life.mk [] [] [] 0 [] [] false #[] [] 0 false false false 0 [2000,10,10] false 0 true [] [] 0 false),⟨[]⟩,(Drawn.mk 0 0 0 0),187,os⟩
def La (w:World) (os:OsState):Option (Shared×Thread):=topGo treeTable pw w 11 an 12 (s0 w os) (topStub pw)
def Ra (w:World) (os:OsState):Option (Shared×Thread):=some ((sa w os).abs,⟨denote treeTable cE,cE,(Pos.mk 0 0 0 0),B⟩)
theorem qa:tt (Hd.La,Hd.Ra)=true:=by k_qdec
theorem ra:∀ w,Fast.tw11367235000924431832 w=Fast.tw15912052731592885781 w:=fun w=>by kernel_rfl
theorem ea (w:World) (os:OsState):Hd.La w os=Hd.Ra w os:=((congrFun (congrFun Fast.te11367235000924431832 w) os).trans (congrFun (ra w) os)).trans (congrFun (congrFun Fast.te15912052731592885781 w) os).symm
def sb0 (w:World) (os:OsState):SharedT:=⟨(t14 w.params),15,(Life.mk [] [] [] 0 [] [] false #[] [] 0 false false false 0 [2000,10,10] false 0 true [] [] 0 false),⟨[]⟩,(Drawn.mk 0 0 0 0),187,os⟩
def Lb (w:World) (os:OsState):Option (Flow×SharedT×Code×Pos):=segRunT treeTable pw w 11 an 1 1 (sa w os) (blockOf bE env cE (Pos.mk 0 0 0 0) B)
def Rb (w:World) (os:OsState):Option (Flow×SharedT×Code×Pos):=some (.next,sb0 w os,cE,(Pos.mk 0 0 0 0))
theorem qb:tt (Hd.Lb,Hd.Rb)=true:=by k_qdec
theorem rb:∀ w,Fast.tw16430817790641568776 w=Hd.Rb w:=fun w=>by kernel_rfl
theorem eb (w:World) (os:OsState):Hd.Lb w os=Hd.Rb w os:=(congrFun (congrFun Fast.te16430817790641568776 w) os).trans (congrFun (rb w) os)
def zjf:List Stmt:=[S 0,S 1,S 2,S 3]
def o4:=Obj.mk k4 .none (Data.dict #[en P 3 165 (sv 4 194),en P 5 166 .none,en P 6 167 .none,en P 7 168 k5,en P 8 169 .none,en P 9 170 6,en P 10 171 4,en P 11 173 (sv 0 172),en P 12 174 .none,en P 13 193 21,en P 14 213 31,en P 15 229 44] 12) #[]
def o5:=vO #[(iv 1),(iv 0),20,(iv 5),(iv 0),27,(iv 7),(iv 0),40]
def o6:=tO #[]
def o7:=vO #[]
def o8:=tO #[(sv 16 190)]
def o9:=tO #[]
def o10:=gO 13 13 (S 0)
def o11:=cO 13 13 187 188 189 1 1 3 15 16 17 18 19 191 192
def o12:=uO 13 13 (S 0) 2 164 20
def o13:=tO #[k6]
def o14:=Obj.mk k7 .none (Data.fields #[k8,k9]) #[]
def o15:=Obj.mk k4 .none (Data.dict #[en P 17 203 (sv 4 194),en P 18 205 (sv 14 204),en P 19 207 (.int 5 206),en P 20 208 29] 4) #[]
def o16:=tO #[]
def o17:=vO #[]
def o18:=Obj.mk k1 .none (Data.fields #[(sv 14 198),(sv 14 199),(sv 0 200),(iv 5),(iv 0),(iv 0),(iv 0),(iv 0),25,(.bool false),(iv 181),26,.none,.none,.none,.none,(iv 201),(iv 5),(sv 0 202)]) #[]
def o19:=Obj.mk k3 .none Data.plain #[(some 27),(some 3),(some 24),.none,(some (sv 4 194)),.none,(some 0)]
def o20:=tO #[]
def o21:=Obj.mk k4 .none (Data.dict #[en P 17 203 (sv 4 194),en P 19 207 (.int 5 206),en P 20 208 29,en P 21 210 32,en P 5 211 .none] 3) #[]
def o22:=Obj.mk k9 .none (Data.cls (ClassData.mk (s 14) [k6] [31,k6,k10,k11,k12] 30 (s 14) true [] [44] false .none false)) #[(some 22),.none,(some (sv 14 196)),(some (sv 14 204)),(some k13),(some (.bool true))]
def o23:=Obj.mk k14 .none (Data.fields #[(sv 21 209),31,k15,.none]) #[]
def o24:=Obj.mk k16 .none (Data.fields #[31,31,31]) #[]
def o25:=Obj.mk k7 .none (Data.fields #[k17,31]) #[]
def o26:=tO #[31]
def o27:=Obj.mk k7 .none (Data.fields #[k8,k9]) #[]
def o28:=Obj.mk k4 .none (Data.dict #[en P 17 221 (sv 4 194),en P 18 223 (sv 15 222),en P 19 225 (.int 7 224),en P 20 226 42] 4) #[]
def o29:=tO #[]
def o30:=vO #[]
def o31:=Obj.mk k1 .none (Data.fields #[(sv 15 216),(sv 15 217),(sv 0 218),(iv 7),(iv 0),(iv 0),(iv 0),(iv 0),38,(.bool false),(iv 181),39,.none,.none,.none,.none,(iv 219),(iv 7),(sv 0 220)]) #[]
def o32:=Obj.mk k3 .none Data.plain #[(some 40),(some 3),(some 37),.none,(some (sv 4 194)),.none,(some 0)]
def o33:=tO #[]
def o34:=Obj.mk k4 .none (Data.dict #[en P 17 221 (sv 4 194),en P 19 225 (.int 7 224),en P 20 226 42,en P 5 227 .none] 2) #[]
def o35:=Obj.mk k9 .none (Data.cls (ClassData.mk (s 15) [31] [44,31,k6,k10,k11,k12] 43 (s 15) true [] [] false .none false)) #[(some 35),.none,(some (sv 15 214)),(some (sv 15 222)),(some k13),(some (.bool true))]
def o36:=Obj.mk k16 .none (Data.fields #[44,44,44]) #[]
def o37:=Obj.mk k7 .none (Data.fields #[k17,44]) #[]
def t17:=N o30 .nil .nil
def t22:=N (o34 P) .nil .nil
def t28:=N o32 .nil .nil
def t33:=N o36 .nil .nil
def t40:=N o31 .nil .nil
def t45:=N o35 .nil .nil
def t51:=N o33 .nil .nil
def t56:=N o37 .nil .nil
def t60:=N (boot_o_2 P) (N (boot_o_4 P) (N (boot_o_8 P) (N o7 (N o23 .nil .nil) .nil) (N (o15 P) t40 .nil)) (N o5 (N o11 (N o27 .nil .nil) .nil) (N o19 t45 .nil))) (N (boot_o_6 P) (N (boot_o_10 P) (N o9 (N o25 .nil .nil) .nil) (N o17 t51 .nil)) (N o3 (N o13 (N o29 .nil .nil) .nil) (N (o21 P) t56 .nil)))
def t61:=N (boot_o_0 P) (N (boot_o_1 P) (N (o4 P) (N (boot_o_7 P) (N o6 (N o22 .nil .nil) .nil) (N o14 t17 .nil)) (N o0 (N o10 (N o26 .nil .nil) .nil) (N o18 (t22 P) .nil))) (N (boot_o_5 P) (N (boot_o_9 P) (N o8 (N o24 .nil .nil) .nil) (N o16 t28 .nil)) (N o2 (N o12 (N (o28 P) .nil .nil) .nil) (N o20 t33 .nil)))) (t60 P)
def sb1 (w:World) (os:OsState):SharedT:=⟨(t61 w.params),47,(Life.mk [] [] [] 0 [] [] false #[] [] 0 false false false 0 [2000,10,10] false 0 true [] [] 0 false),⟨[]⟩,(Drawn.mk 0 0 0 0),230,os⟩
def L0 (w:World) (os:OsState):Option (Flow×SharedT×Code×Pos):=segRunT treeTable pw w 11 an 1 438 (sb0 w os) (piecesOf zjf env cE (Pos.mk 0 0 0 0) B)
def R0 (w:World) (os:OsState):Option (Flow×SharedT×Code×Pos):=some (.next,sb1 w os,cE,(Pos.mk 7 0 8 8))
theorem q0:tt (Hd.L0,Hd.R0)=true:=by k_qdec
theorem r0:∀ w,Fast.tw4453942571644881324 w=Hd.R0 w:=fun w=>by kernel_rfl
theorem e0 (w:World) (os:OsState):Hd.L0 w os=Hd.R0 w os:=(congrFun (congrFun Fast.te4453942571644881324 w) os).trans (congrFun (r0 w) os)
def zje:List Stmt:=[S 4,S 5,S 6,S 7,S 8]
def o38:=Obj.mk k4 .none (Data.dict #[en P 3 165 (sv 22 255),en P 5 166 .none,en P 6 167 .none,en P 7 168 k5,en P 8 169 .none,en P 9 170 6,en P 10 171 4,en P 11 173 (sv 0 172),en P 12 174 .none,en P 13 193 21,en P 14 213 31,en P 15 229 44,en P 23 245 56,en P 24 254 65,en P 25 262 70] 15) #[]
def o39:=vO #[(iv 1),(iv 0),20,(iv 5),(iv 0),27,(iv 7),(iv 0),40,(iv 9),(iv 0),52,(iv 12),(iv 0),64,(iv 15),(iv 0),69]
def o40:=Obj.mk k9 .none (Data.cls (ClassData.mk (s 14) [k6] [31,k6,k10,k11,k12] 30 (s 14) true [] [44,56] false .none false)) #[(some 22),.none,(some (sv 14 196)),(some (sv 14 204)),(some k13),(some (.bool true))]
def o41:=tO #[31]
def o42:=Obj.mk k7 .none (Data.fields #[k8,k9]) #[]
def o43:=Obj.mk k4 .none (Data.dict #[en P 17 237 (sv 4 194),en P 18 239 (sv 23 238),en P 19 241 (.int 9 240),en P 20 242 54] 4) #[]
def o44:=tO #[]
def o45:=vO #[]
def o46:=Obj.mk k1 .none (Data.fields #[(sv 23 232),(sv 23 233),(sv 0 234),(iv 9),(iv 0),(iv 0),(iv 0),(iv 0),50,(.bool false),(iv 181),51,.none,.none,.none,.none,(iv 235),(iv 9),(sv 0 236)]) #[]
def o47:=Obj.mk k3 .none Data.plain #[(some 52),(some 3),(some 49),.none,(some (sv 4 194)),.none,(some 0)]
def o48:=tO #[]
def o49:=Obj.mk k4 .none (Data.dict #[en P 17 237 (sv 4 194),en P 19 241 (.int 9 240),en P 20 242 54,en P 5 243 .none] 2) #[]
def o50:=Obj.mk k9 .none (Data.cls (ClassData.mk (s 23) [31] [56,31,k6,k10,k11,k12] 55 (s 23) true [] [] false .none false)) #[(some 47),.none,(some (sv 23 230)),(some (sv 23 238)),(some k13),(some (.bool true))]
def o51:=Obj.mk k16 .none (Data.fields #[56,56,56]) #[]
def o52:=Obj.mk k7 .none (Data.fields #[k17,56]) #[]
def o53:=tO #[]
def o54:=vO #[]
def o55:=tO #[(sv 26 251)]
def o56:=tO #[]
def o57:=gO 24 24 (S 6)
def o58:=cO 24 24 248 249 250 12 1 3 59 60 61 62 63 252 253
def o59:=uO 24 24 (S 6) 27 246 64
def o60:=tO #[]
def o61:=vO #[]
def o62:=gO 25 25 (S 8)
def o63:=Obj.mk k1 .none (Data.fields #[(sv 25 257),(sv 25 258),(sv 0 259),(iv 15),(iv 1),(iv 0),(iv 0),(iv 3),66,(.bool true),(iv 181),67,.none,.none,.none,68,(iv 260),(iv 15),(sv 0 261)]) #[]
def o64:=uO 25 25 (S 8) 22 255 69
def t91:=N (boot_o_5 P) (N (boot_o_9 P) (N o8 (N o24 (N o59 .nil .nil) .nil) (N (o43 P) .nil .nil)) (N o16 t28 (N o51 .nil .nil))) (N o2 (N o12 (N (o28 P) (N o63 .nil .nil) .nil) (N o47 .nil .nil)) (N o20 t33 (N o55 .nil .nil)))
def zls:=N (boot_o_6 P) (N (boot_o_10 P) (N o9 (N o25 (N o60 .nil .nil) .nil) (N o44 .nil .nil)) (N o17 t51 (N o52 .nil .nil))) (N o3 (N o13 (N o29 (N o64 .nil .nil) .nil) (N o48 .nil .nil)) (N (o21 P) t56 (N o56 .nil .nil)))
def zlr:=N (boot_o_2 P) (N (boot_o_4 P) (N (boot_o_8 P) (N o7 (N o23 (N o58 .nil .nil) .nil) (N o42 .nil .nil)) (N (o15 P) t40 (N o50 .nil .nil))) (N o39 (N o11 (N o27 (N o62 .nil .nil) .nil) (N o46 .nil .nil)) (N o19 t45 (N o54 .nil .nil)))) (zls P)
def zlq:=N (boot_o_0 P) (N (boot_o_1 P) (N (o38 P) (N (boot_o_7 P) (N o6 (N o40 (N o57 .nil .nil) .nil) (N o41 .nil .nil)) (N o14 t17 (N (o49 P) .nil .nil))) (N o0 (N o10 (N o26 (N o61 .nil .nil) .nil) (N o45 .nil .nil)) (N o18 (t22 P) (N o53 .nil .nil)))) (t91 P)) (zlr P)
def sb2 (w:World) (os:OsState):SharedT:=⟨(zlq w.params),71,(Life.mk [] [] [] 0 [] [] false #[] [] 0 false false false 0 [2000,10,10] false 0 true [] [] 0 false),⟨[]⟩,(Drawn.mk 0 0 0 0),263,os⟩
def L1 (w:World) (os:OsState):Option (Flow×SharedT×Code×Pos):=segRunT treeTable pw w 11 an 1 287 (sb1 w os) (piecesOf zje env cE (Pos.mk 7 0 8 8) B)
def R1 (w:World) (os:OsState):Option (Flow×SharedT×Code×Pos):=some (.next,sb2 w os,cE,(Pos.mk 15 0 22 16))
theorem q1:tt (Hd.L1,Hd.R1)=true:=by k_qdec
theorem r1:∀ w,Fast.tw6387051279210280424 w=Hd.R1 w:=fun w=>by kernel_rfl
theorem e1 (w:World) (os:OsState):Hd.L1 w os=Hd.R1 w os:=(congrFun (congrFun Fast.te6387051279210280424 w) os).trans (congrFun (r1 w) os)
def zjd:List Stmt:=[S 9,S 10,S 11]
def o65:=Obj.mk k4 .none (Data.dict #[en P 3 165 (sv 22 255),en P 5 166 .none,en P 6 167 .none,en P 7 168 k5,en P 8 169 .none,en P 9 170 6,en P 10 171 4,en P 11 173 (sv 0 172),en P 12 174 .none,en P 13 193 21,en P 14 213 31,en P 15 229 44,en P 23 245 56,en P 24 254 65,en P 25 262 70,en P 28 366 150,en P 29 376 161,en P 30 385 168] 18) #[]
def o66:=vO #[(iv 1),(iv 0),20,(iv 5),(iv 0),27,(iv 7),(iv 0),40,(iv 9),(iv 0),52,(iv 12),(iv 0),64,(iv 15),(iv 0),69,(iv 23),(iv 0),76,(iv 63),(iv 0),160,(iv 72),(iv 0),167]
def o67:=tO #[]
def o68:=Obj.mk k7 .none (Data.fields #[k8,k9]) #[]
def o69:=Obj.mk k4 .none (Data.dict #[en P 17 270 (sv 22 255),en P 18 272 (sv 28 271),en P 19 274 (.int 23 273),en P 31 283 84,en P 32 293 91,en P 33 300 98,en P 34 307 105,en P 35 317 112,en P 36 325 119,en P 37 333 126,en P 38 340 133,en P 39 348 140,en P 40 356 147,en P 20 359 148] 14) #[]
def o70:=tO #[]
def o71:=vO #[(iv 25),(iv 4),83,(iv 29),(iv 4),90,(iv 35),(iv 4),97,(iv 38),(iv 4),104,(iv 41),(iv 4),111,(iv 49),(iv 4),118,(iv 52),(iv 4),125,(iv 55),(iv 4),132,(iv 58),(iv 4),139,(iv 61),(iv 4),146]
def o72:=Obj.mk k1 .none (Data.fields #[(sv 28 265),(sv 28 266),(sv 0 267),(iv 23),(iv 0),(iv 0),(iv 0),(iv 0),74,(.bool false),(iv 181),75,.none,.none,.none,.none,(iv 268),(iv 23),(sv 0 269)]) #[]
def o73:=Obj.mk k3 .none Data.plain #[(some 76),(some 3),(some 73),.none,(some (sv 22 255)),.none,(some 0)]
def o74:=tO #[]
def o75:=vO #[]
def o76:=tO #[(sv 41 278),(sv 42 279),(sv 43 280)]
def o77:=tO #[]
def o78:=gO 31 44 (L2.inClass (S 9) 0)
def o79:=cO 31 44 275 276 277 25 3 3 78 79 80 81 82 281 282
def o80:=uO 31 44 (L2.inClass (S 9) 0) 22 255 83
def o81:=tO #[]
def o82:=vO #[]
def o83:=tO #[(sv 41 287),(sv 45 288),(sv 46 289),(sv 47 290)]
def o84:=tO #[]
def o85:=gO 32 48 (L2.inClass (S 9) 1)
def o86:=cO 32 48 284 285 286 29 2 3 85 86 87 88 89 291 292
def o87:=uO 32 48 (L2.inClass (S 9) 1) 22 255 90
def o88:=tO #[]
def o89:=vO #[]
def o90:=tO #[(sv 41 297)]
def o91:=tO #[]
def o92:=gO 33 49 (L2.inClass (S 9) 2)
def o93:=cO 33 49 294 295 296 35 1 3 92 93 94 95 96 298 299
def o94:=uO 33 49 (L2.inClass (S 9) 2) 22 255 97
def o95:=tO #[]
def o96:=vO #[]
def o97:=tO #[(sv 41 304)]
def o98:=tO #[]
def o99:=gO 34 50 (L2.inClass (S 9) 3)
def V6:=cO 34 50 301 302 303 38 1 3 99 100 101 102 103 305 306
def V5:=uO 34 50 (L2.inClass (S 9) 3) 22 255 104
def V4:=tO #[]
def zaY:=vO #[]
def V3:=tO #[(sv 41 311),(sv 45 312),(sv 51 313),(sv 52 314)]
def V2:=tO #[]
def zaX:=gO 35 53 (L2.inClass (S 9) 4)
def V1:=cO 35 53 308 309 310 41 2 3 106 107 108 109 110 315 316
def V0:=uO 35 53 (L2.inClass (S 9) 4) 22 255 111
def VZ:=tO #[]
def zaW:=vO #[]
def VY:=tO #[(sv 41 321),(sv 45 322)]
def VX:=tO #[]
def zaV:=gO 36 54 (L2.inClass (S 9) 5)
def VW:=cO 36 54 318 319 320 49 2 3 113 114 115 116 117 323 324
def VV:=uO 36 54 (L2.inClass (S 9) 5) 22 255 118
def VU:=tO #[]
def zaU:=vO #[]
def VT:=tO #[(sv 41 329),(sv 45 330)]
def VS:=tO #[]
def zaT:=gO 37 55 (L2.inClass (S 9) 6)
def VR:=cO 37 55 326 327 328 52 2 3 120 121 122 123 124 331 332
def VQ:=uO 37 55 (L2.inClass (S 9) 6) 22 255 125
def zaS:=tO #[]
def zcn:=vO #[]
def zaR:=tO #[(sv 41 337)]
def zaQ:=tO #[]
def zcm:=gO 38 56 (L2.inClass (S 9) 7)
def zaP:=cO 38 56 334 335 336 55 1 3 127 128 129 130 131 338 339
def zaO:=uO 38 56 (L2.inClass (S 9) 7) 22 255 132
def zaN:=tO #[]
def zcl:=vO #[]
def zaM:=tO #[(sv 41 344),(sv 45 345)]
def zaL:=tO #[]
def zck:=gO 39 57 (L2.inClass (S 9) 8)
def zaK:=cO 39 57 341 342 343 58 2 3 134 135 136 137 138 346 347
def zaJ:=uO 39 57 (L2.inClass (S 9) 8) 22 255 139
def zaI:=tO #[]
def zcj:=vO #[]
def zaH:=tO #[(sv 41 352),(sv 45 353)]
def zaG:=tO #[]
def zci:=gO 40 58 (L2.inClass (S 9) 9)
def zaF:=cO 40 58 349 350 351 61 2 3 141 142 143 144 145 354 355
def zaE:=uO 40 58 (L2.inClass (S 9) 9) 22 255 146
def zaD:=tO #[(sv 59 357),(sv 60 358)]
def zaC:=Obj.mk k4 .none (Data.dict #[en P 17 270 (sv 22 255),en P 19 274 (.int 23 273),en P 31 283 84,en P 32 293 91,en P 33 300 98,en P 34 307 105,en P 35 317 112,en P 36 325 119,en P 37 333 126,en P 38 340 133,en P 39 348 140,en P 40 356 147,en P 20 359 148,en P 61 361 151,en P 21 363 152,en P 5 364 .none] 4) #[]
def zaB:=Obj.mk k9 .none (Data.cls (ClassData.mk (s 28) [k12] [150,k12] 149 (s 28) true [] [] false .none false)) #[.none,.none,(some (sv 28 263)),(some (sv 28 271)),(some k18),(some (.bool true))]
def zaA:=Obj.mk k14 .none (Data.fields #[(sv 61 360),150,k19,k20]) #[]
def zaz:=Obj.mk k14 .none (Data.fields #[(sv 21 362),150,k15,.none]) #[]
def zch:=Obj.mk k16 .none (Data.fields #[150,150,150]) #[]
def zcg:=Obj.mk k7 .none (Data.fields #[k17,150]) #[]
def zay:=tO #[]
def zcf:=vO #[]
def zax:=tO #[(sv 62 370),(sv 42 371),(sv 45 372),(sv 47 373)]
def zaw:=tO #[]
def zce:=gO 29 29 (S 10)
def zav:=cO 29 29 367 368 369 63 2 3 155 156 157 158 159 374 375
def zau:=uO 29 29 (S 10) 22 255 160
def zat:=tO #[]
def zcd:=vO #[]
def zas:=tO #[(sv 62 380),(sv 63 381),(sv 45 382)]
def zar:=tO #[]
def zcc:=gO 30 30 (S 11)
def zaq:=cO 30 30 377 378 379 72 2 3 162 163 164 165 166 383 384
def zap:=uO 30 30 (S 11) 22 255 167
def zi9:=N zce .nil .nil
def zi8:=N zaq .nil .nil
def zi7:=N zcd .nil .nil
def zlp:=N o0 (N o10 (N o26 (N o61 (N zcm .nil .nil) .nil) (N o95 zi7 .nil)) (N o45 (N o79 (N zaE .nil .nil) .nil) (N VY .nil .nil))) (N o18 (N (o34 P) (N o71 (N zaK .nil .nil) .nil) (N zaY .nil .nil)) (N o53 (N o87 (N zay .nil .nil) .nil) (N VS .nil .nil)))
def zi6:=N zau .nil .nil
def zi5:=N zar .nil .nil
def zlo:=N o2 (N o12 (N (o28 P) (N o63 (N zaO .nil .nil) .nil) (N o97 zi5 .nil)) (N o47 (N o81 (N (zaC P) .nil .nil) .nil) (N zaV .nil .nil))) (N o20 (N o36 (N o73 (N zaI .nil .nil) .nil) (N V2 .nil .nil)) (N o55 (N o89 (N zax .nil .nil) .nil) (N VR .nil .nil)))
def zln:=N (boot_o_5 P) (N (boot_o_9 P) (N o8 (N o24 (N o59 (N zaR .nil .nil) .nil) (N o93 zi6 .nil)) (N (o43 P) (N o77 (N zci .nil .nil) .nil) (N VZ .nil .nil))) (N o16 (N o32 (N (o69 P) (N zaL .nil .nil) .nil) (N V5 .nil .nil)) (N o51 (N o85 (N zch .nil .nil) .nil) (N zaU .nil .nil)))) (zlo P)
def zi4:=N zav .nil .nil
def zi3:=N zap .nil .nil
def zi2:=N zas .nil .nil
def zlm:=N o66 (N o11 (N o27 (N o62 (N zaP .nil .nil) .nil) (N o96 zi2 .nil)) (N o46 (N o80 (N zaD .nil .nil) .nil) (N VX .nil .nil))) (N o19 (N o35 (N o72 (N zaJ .nil .nil) .nil) (N V3 .nil .nil)) (N o54 (N o88 (N zcf .nil .nil) .nil) (N zaT .nil .nil)))
def zi1:=N zat .nil .nil
def zi0:=N zcc .nil .nil
def ziZ:=N zaw .nil .nil
def zll:=N o3 (N o13 (N o29 (N o64 (N zaN .nil .nil) .nil) (N o98 zi0 .nil)) (N o48 (N o82 (N zaB .nil .nil) .nil) (N VW .nil .nil))) (N (o21 P) (N o37 (N o74 (N zcj .nil .nil) .nil) (N zaX .nil .nil)) (N o56 (N o90 ziZ .nil) (N VQ .nil .nil)))
def zlk:=N (boot_o_6 P) (N (boot_o_10 P) (N o9 (N o25 (N o60 (N zaQ .nil .nil) .nil) (N o94 zi1 .nil)) (N o44 (N o78 (N zaF .nil .nil) .nil) (N zaW .nil .nil))) (N o17 (N o33 (N o70 (N zck .nil .nil) .nil) (N V4 .nil .nil)) (N o52 (N o86 (N zcg .nil .nil) .nil) (N VT .nil .nil)))) (zll P)
def zlj:=N (boot_o_2 P) (N (boot_o_4 P) (N (boot_o_8 P) (N o7 (N o23 (N o58 (N zcn .nil .nil) .nil) (N o92 zi4 .nil)) (N o42 (N o76 (N zaG .nil .nil) .nil) (N V0 .nil .nil))) (N (o15 P) (N o31 (N o68 (N zaM .nil .nil) .nil) (N V6 zi3 .nil)) (N o50 (N o84 (N zaz .nil .nil) .nil) (N VU .nil .nil)))) zlm) (zlk P)
def zli:=N (boot_o_0 P) (N (boot_o_1 P) (N (o65 P) (N (boot_o_7 P) (N o6 (N o40 (N o57 (N zaS .nil .nil) .nil) (N o91 zi9 .nil)) (N o41 (N o75 (N zaH .nil .nil) .nil) (N V1 .nil .nil))) (N o14 (N o30 (N o67 (N zcl .nil .nil) .nil) (N o99 zi8 .nil)) (N (o49 P) (N o83 (N zaA .nil .nil) .nil) (N VV .nil .nil)))) (zlp P)) (zln P)) (zlj P)
def sb3 (w:World) (os:OsState):SharedT:=⟨(zli w.params),169,(Life.mk [] [] [] 0 [] [] false #[] [] 0 false false false 0 [2000,10,10] false 0 true [] [] 0 false),⟨[]⟩,(Drawn.mk 0 0 0 0),386,os⟩
def L2 (w:World) (os:OsState):Option (Flow×SharedT×Code×Pos):=segRunT treeTable pw w 11 an 1 577 (sb2 w os) (piecesOf zjd env cE (Pos.mk 15 0 22 16) B)
def R2 (w:World) (os:OsState):Option (Flow×SharedT×Code×Pos):=some (.next,sb3 w os,cE,(Pos.mk 72 0 76 15))
theorem q2:tt (Hd.L2,Hd.R2)=true:=by k_qdec
theorem r2:∀ w,Fast.tw9171306275460833034 w=Hd.R2 w:=fun w=>by kernel_rfl
theorem e2 (w:World) (os:OsState):Hd.L2 w os=Hd.R2 w os:=(congrFun (congrFun Fast.te9171306275460833034 w) os).trans (congrFun (r2 w) os)
def zjc:List Stmt:=[S 12,S 13,S 14,S 15,S 16,S 17,S 18,S 19,S 20,S 21,S 22,S 23,S 24,S 25,S 26,S 27,S 28,S 29,S 30,S 31,S 32]
def zlQ:=Obj.mk k4 .none (Data.dict #[en P 3 165 (sv 64 535),en P 5 166 .none,en P 6 167 .none,en P 7 168 k5,en P 8 169 .none,en P 9 170 6,en P 10 171 4,en P 11 173 (sv 0 172),en P 12 174 .none,en P 13 193 21,en P 14 213 31,en P 15 229 44,en P 23 245 56,en P 24 254 65,en P 25 262 70,en P 28 366 150,en P 29 376 161,en P 30 385 168,en P 65 394 175,en P 66 405 182,en P 67 413 189,en P 68 425 196,en P 69 435 203,en P 70 443 210,en P 71 455 217,en P 72 465 224,en P 73 475 231,en P 74 481 236,en P 75 491 243,en P 76 503 250,en P 77 511 257,en P 78 520 264,en P 79 534 271,en P 80 538 (.int 12 537),en P 81 540 (.int 99 539),en P 82 549 278,en P 83 557 285] 37) #[]
def zlP:=vO #[(iv 1),(iv 0),20,(iv 5),(iv 0),27,(iv 7),(iv 0),40,(iv 9),(iv 0),52,(iv 12),(iv 0),64,(iv 15),(iv 0),69,(iv 23),(iv 0),76,(iv 63),(iv 0),160,(iv 72),(iv 0),167,(iv 77),(iv 0),174,(iv 83),(iv 0),181,(iv 92),(iv 0),188,(iv 96),(iv 0),195,(iv 103),(iv 0),202,(iv 111),(iv 0),209,(iv 115),(iv 0),216,(iv 118),(iv 0),223,(iv 120),(iv 0),230,(iv 126),(iv 0),235,(iv 131),(iv 0),242,(iv 137),(iv 0),249,(iv 144),(iv 0),256,(iv 149),(iv 0),263,(iv 154),(iv 0),270,(iv 169),(iv 0),277,(iv 178),(iv 0),284]
def zao:=tO #[]
def zcb:=vO #[]
def zan:=tO #[(sv 62 389),(sv 63 390),(sv 84 391)]
def zam:=tO #[]
def zca:=gO 65 65 (S 12)
def zal:=cO 65 65 386 387 388 77 3 3 169 170 171 172 173 392 393
def zak:=uO 65 65 (S 12) 22 255 174
def zaj:=tO #[]
def zb9:=vO #[]
def zai:=tO #[(sv 62 398),(sv 63 399),(sv 43 400),(sv 85 401),(sv 84 402)]
def zah:=tO #[]
def zb8:=gO 66 66 (S 13)
def zag:=cO 66 66 395 396 397 83 3 3 176 177 178 179 180 403 404
def zaf:=uO 66 66 (S 13) 22 255 181
def zae:=tO #[]
def zb7:=vO #[]
def zad:=tO #[(sv 62 409),(sv 63 410)]
def zac:=tO #[]
def zb6:=gO 67 67 (S 14)
def zab:=cO 67 67 406 407 408 92 2 3 183 184 185 186 187 411 412
def zaa:=uO 67 67 (S 14) 22 255 188
def U9:=tO #[]
def zb5:=vO #[]
def U8:=tO #[(sv 63 417),(sv 86 418),(sv 87 419),(sv 88 420),(sv 89 421),(sv 90 422)]
def U7:=tO #[]
def zb4:=gO 68 68 (S 15)
def zb3:=cO 68 68 414 415 416 96 2 3 190 191 192 193 194 423 424
def zb2:=uO 68 68 (S 15) 22 255 195
def zb1:=tO #[]
def zf0:=vO #[]
def zb0:=tO #[(sv 62 429),(sv 63 430),(sv 91 431),(sv 90 432)]
def zbZ:=tO #[]
def zfZ:=gO 69 69 (S 16)
def zbY:=cO 69 69 426 427 428 103 2 3 197 198 199 200 201 433 434
def zbX:=uO 69 69 (S 16) 22 255 202
def zbW:=tO #[]
def zfY:=vO #[]
def zbV:=tO #[(sv 62 439),(sv 63 440)]
def zbU:=tO #[]
def zfX:=gO 70 70 (S 17)
def zbT:=cO 70 70 436 437 438 111 2 3 204 205 206 207 208 441 442
def zbS:=uO 70 70 (S 17) 22 255 209
def zbR:=tO #[]
def zfW:=vO #[]
def zbQ:=tO #[(sv 63 449),(sv 45 450),(sv 92 451),(sv 93 452)]
def zbP:=tO #[]
def zfV:=gO 71 71 (S 19)
def zbO:=cO 71 71 446 447 448 115 3 3 211 212 213 214 215 453 454
def zbN:=uO 71 71 (S 19) 94 444 216
def zbM:=tO #[]
def zfU:=vO #[]
def zbL:=tO #[(sv 63 459),(sv 45 460),(sv 92 461),(sv 84 462)]
def zbK:=tO #[]
def zfT:=gO 72 72 (S 20)
def zbJ:=cO 72 72 456 457 458 118 4 3 218 219 220 221 222 463 464
def zbI:=uO 72 72 (S 20) 94 444 223
def zbH:=tO #[]
def zfS:=vO #[]
def zbG:=tO #[(sv 63 469),(sv 87 470),(sv 88 471),(sv 89 472)]
def zbF:=tO #[]
def zfR:=gO 73 73 (S 21)
def zbE:=cO 73 73 466 467 468 120 1 3 225 226 227 228 229 473 474
def zbD:=uO 73 73 (S 21) 94 444 230
def zbC:=tO #[]
def zfQ:=vO #[]
def zfP:=gO 74 74 (S 22)
def zbB:=Obj.mk k1 .none (Data.fields #[(sv 74 476),(sv 74 477),(sv 0 478),(iv 126),(iv 4),(iv 0),(iv 0),(iv 3),232,(.bool true),(iv 181),233,.none,.none,.none,234,(iv 479),(iv 126),(sv 0 480)]) #[]
def zbA:=uO 74 74 (S 22) 94 444 235
def zbz:=tO #[]
def zfO:=vO #[]
def zby:=tO #[(sv 62 485),(sv 95 486),(sv 88 487),(sv 89 488)]
def zbx:=tO #[]
def zfN:=gO 75 75 (S 23)
def zbw:=cO 75 75 482 483 484 131 1 3 237 238 239 240 241 489 490
def zbv:=uO 75 75 (S 23) 94 444 242
def zbu:=tO #[]
def zfM:=vO #[]
def zbt:=tO #[(sv 62 495),(sv 63 496),(sv 43 497),(sv 96 498),(sv 45 499),(sv 92 500)]
def zbs:=tO #[]
def zfL:=gO 76 76 (S 24)
def zbr:=cO 76 76 492 493 494 137 2 3 244 245 246 247 248 501 502
def zbq:=uO 76 76 (S 24) 94 444 249
def zbp:=tO #[]
def zfK:=vO #[]
def zbo:=tO #[(sv 97 507),(sv 26 508)]
def zbn:=tO #[]
def zkH:=gO 77 77 (S 25)
def zfJ:=cO 77 77 504 505 506 144 1 3 251 252 253 254 255 509 510
def zfI:=uO 77 77 (S 25) 94 444 256
def zfH:=tO #[]
def zkG:=vO #[]
def zfG:=tO #[(sv 96 515),(sv 95 516),(sv 98 517)]
def zfF:=tO #[]
def zkF:=gO 78 78 (S 26)
def zfE:=cO 78 78 512 513 514 149 2 3 258 259 260 261 262 518 519
def zfD:=uO 78 78 (S 26) 94 444 263
def zfC:=tO #[]
def zkE:=vO #[]
def zfB:=tO #[(sv 62 524),(sv 63 525),(sv 96 526),(sv 95 527),(sv 43 528),(sv 45 529),(sv 92 530),(sv 99 531)]
def zfA:=tO #[]
def zkD:=gO 79 79 (S 27)
def zfz:=cO 79 79 521 522 523 154 3 3 265 266 267 268 269 532 533
def zfy:=uO 79 79 (S 27) 94 444 270
def zfx:=tO #[]
def zkC:=vO #[]
def zfw:=tO #[(sv 100 544),(sv 101 545),(sv 45 546)]
def zfv:=tO #[]
def zkB:=gO 82 82 (S 31)
def zfu:=cO 82 82 541 542 543 169 1 3 272 273 274 275 276 547 548
def zft:=uO 82 82 (S 31) 64 535 277
def zfs:=tO #[]
def zkA:=vO #[]
def zfr:=tO #[(sv 102 553),(sv 100 554)]
def zfq:=tO #[]
def zkz:=gO 83 83 (S 32)
def zfp:=cO 83 83 550 551 552 178 2 3 279 280 281 282 283 555 556
def zfo:=uO 83 83 (S 32) 64 535 284
def ziY:=N zkH .nil .nil
def ziX:=N zfy .nil .nil
def ziW:=N zaH ziX .nil
def ziV:=N zfE .nil .nil
def ziU:=N zcl ziV .nil
def ziT:=N zfs .nil .nil
def ziS:=N zaA ziT .nil
def zlh:=N o14 (N o30 (N o67 ziU (N zb0 .nil .nil)) (N o99 zi8 (N zbD .nil .nil))) (N (o49 P) (N o83 ziS (N zfV .nil .nil)) (N VV (N zae .nil .nil) (N zbs .nil .nil)))
def ziR:=N zkG .nil .nil
def ziQ:=N zcm ziR .nil
def ziP:=N zfv .nil .nil
def ziO:=N zaE ziP .nil
def ziN:=N zfB .nil .nil
def ziM:=N zaK ziN .nil
def ziL:=N zkz .nil .nil
def ziK:=N zay ziL .nil
def zlg:=N o18 (N (o34 P) (N o71 ziM (N zbX .nil .nil)) (N zaY (N zan .nil .nil) (N zbB .nil .nil))) (N o53 (N o87 ziK (N zfU .nil .nil)) (N VS (N zb6 .nil .nil) (N zbp .nil .nil)))
def zlf:=N o0 (N o10 (N o26 (N o61 ziQ (N zb3 .nil .nil)) (N o95 zi7 (N zbG .nil .nil))) (N o45 (N o79 ziO (N zbR .nil .nil)) (N VY (N zah .nil .nil) (N zbv .nil .nil)))) (zlg P)
def ziJ:=N zfI .nil .nil
def ziI:=N zaR ziJ .nil
def ziH:=N zkC .nil .nil
def ziG:=N zci ziH .nil
def ziF:=N zfC .nil .nil
def ziE:=N zaL ziF .nil
def ziD:=N zfr .nil .nil
def ziC:=N zch ziD .nil
def zle:=N o16 (N o32 (N (o69 P) ziE (N zfZ .nil .nil)) (N V5 (N zao .nil .nil) (N zfQ .nil .nil))) (N o51 (N o85 ziC (N zbN .nil .nil)) (N zaU (N zad .nil .nil) (N zbr .nil .nil)))
def ziB:=N zfF .nil .nil
def ziA:=N zaO ziB .nil
def ziz:=N zfu .nil .nil
def ziy:=N (zaC P) ziz .nil
def zix:=N zkD .nil .nil
def ziw:=N zaI zix .nil
def ziv:=N zfo .nil .nil
def ziu:=N zax ziv .nil
def zld:=N o20 (N o36 (N o73 ziw (N zfY .nil .nil)) (N V2 (N zca .nil .nil) (N zbz .nil .nil))) (N o55 (N o89 ziu (N zbK .nil .nil)) (N VR (N zaa .nil .nil) (N zbo .nil .nil)))
def zlc:=N o2 (N o12 (N (o28 P) (N o63 ziA (N zb1 .nil .nil)) (N o97 zi5 (N zfR .nil .nil))) (N o47 (N o81 (ziy P) (N zbQ .nil .nil)) (N zaV (N zag .nil .nil) (N zfM .nil .nil)))) zld
def zlb:=N (boot_o_5 P) (N (boot_o_9 P) (N o8 (N o24 (N o59 ziI (N U7 .nil .nil)) (N o93 zi6 (N zbH .nil .nil))) (N (o43 P) (N o77 ziG (N zbT .nil .nil)) (N VZ (N zb9 .nil .nil) (N zfN .nil .nil)))) (zle P)) (zlc P)
def zit:=N zfJ .nil .nil
def zis:=N zcn zit .nil
def zir:=N zfx .nil .nil
def ziq:=N zaG zir .nil
def zio:=N zfD .nil .nil
def zin:=N zaM zio .nil
def zim:=N zkA .nil .nil
def zil:=N zaz zim .nil
def zla:=N (o15 P) (N o31 (N o68 zin (N zbZ .nil .nil)) (N V6 zi3 (N zbC .nil .nil))) (N o50 (N o84 zil (N zbO .nil .nil)) (N VU (N zb7 .nil .nil) (N zfL .nil .nil)))
def zik:=N zfG .nil .nil
def zij:=N zaP zik .nil
def zii:=N zkB .nil .nil
def zih:=N zaD zii .nil
def zig:=N zfA .nil .nil
def zif:=N zaJ zig .nil
def zie:=N zfp .nil .nil
def zid:=N zcf zie .nil
def zk9:=N o19 (N o35 (N o72 zif (N zbW .nil .nil)) (N V3 (N zam .nil .nil) (N zbA .nil .nil))) (N o54 (N o88 zid (N zbL .nil .nil)) (N zaT (N zab .nil .nil) (N zfK .nil .nil)))
def zk8:=N zlP (N o11 (N o27 (N o62 zij (N zb2 .nil .nil)) (N o96 zi2 (N zbF .nil .nil))) (N o46 (N o80 zih (N zfW .nil .nil)) (N VX (N zb8 .nil .nil) (N zbu .nil .nil)))) zk9
def zic:=N zfH .nil .nil
def zib:=N zaQ zic .nil
def zia:=N zfw .nil .nil
def zh9:=N zaF zia .nil
def zh8:=N zkE .nil .nil
def zh7:=N zck zh8 .nil
def zh6:=N zfq .nil .nil
def zh5:=N zcg zh6 .nil
def zk7:=N o17 (N o33 (N o70 zh7 (N zbY .nil .nil)) (N V4 (N zcb .nil .nil) (N zfP .nil .nil))) (N o52 (N o86 zh5 (N zbM .nil .nil)) (N VT (N zac .nil .nil) (N zbq .nil .nil)))
def zh4:=N zkF .nil .nil
def zh3:=N zaN zh4 .nil
def zh2:=N zft .nil .nil
def zh1:=N zaB zh2 .nil
def zh0:=N zfz .nil .nil
def zhZ:=N zcj zh0 .nil
def zk6:=N (o21 P) (N o37 (N o74 zhZ (N zbV .nil .nil)) (N zaX (N zal .nil .nil) (N zfO .nil .nil))) (N o56 (N o90 ziZ (N zfT .nil .nil)) (N VQ (N U9 .nil .nil) (N zbn .nil .nil)))
def zk5:=N o3 (N o13 (N o29 (N o64 zh3 (N zf0 .nil .nil)) (N o98 zi0 (N zbE .nil .nil))) (N o48 (N o82 zh1 (N zbP .nil .nil)) (N VW (N zaf .nil .nil) (N zbt .nil .nil)))) (zk6 P)
def zk4:=N (boot_o_6 P) (N (boot_o_10 P) (N o9 (N o25 (N o60 zib (N zb4 .nil .nil)) (N o94 zi1 (N zfS .nil .nil))) (N o44 (N o78 zh9 (N zbS .nil .nil)) (N zaW (N zai .nil .nil) (N zbw .nil .nil)))) zk7) (zk5 P)
def zk3:=N (boot_o_2 P) (N (boot_o_4 P) (N (boot_o_8 P) (N o7 (N o23 (N o58 zis (N U8 .nil .nil)) (N o92 zi4 (N zbI .nil .nil))) (N o42 (N o76 ziq (N zfX .nil .nil)) (N V0 (N zaj .nil .nil) (N zbx .nil .nil)))) (zla P)) zk8) (zk4 P)
def zk2:=N (boot_o_0 P) (N (boot_o_1 P) (N (zlQ P) (N (boot_o_7 P) (N o6 (N o40 (N o57 (N zaS ziY .nil) (N zb5 .nil .nil)) (N o91 zi9 (N zbJ .nil .nil))) (N o41 (N o75 ziW (N zbU .nil .nil)) (N V1 (N zak .nil .nil) (N zby .nil .nil)))) (zlh P)) (zlf P)) (zlb P)) (zk3 P)
def sb4 (w:World) (os:OsState):SharedT:=⟨(zk2 w.params),286,(Life.mk [] [] [] 0 [] [] false #[] [] 0 false false false 0 [2000,10,10] false 0 true [] [] 0 false),⟨[]⟩,(Drawn.mk 0 0 0 0),558,os⟩
def L3 (w:World) (os:OsState):Option (Flow×SharedT×Code×Pos):=segRunT treeTable pw w 11 an 1 573 (sb3 w os) (piecesOf zjc env cE (Pos.mk 72 0 76 15) B)
def R3 (w:World) (os:OsState):Option (Flow×SharedT×Code×Pos):=some (.next,sb4 w os,cE,(Pos.mk 178 0 183 72))
theorem q3:tt (Hd.L3,Hd.R3)=true:=by k_qdec
theorem r3:∀ w,Fast.tw6196771281854559479 w=Hd.R3 w:=fun w=>by kernel_rfl
theorem e3 (w:World) (os:OsState):Hd.L3 w os=Hd.R3 w os:=(congrFun (congrFun Fast.te6196771281854559479 w) os).trans (congrFun (r3 w) os)
def zjb:List Stmt:=[S 33,S 34,S 35,S 36,S 37,S 38]
def zlO:=Obj.mk k4 .none (Data.dict #[en P 3 165 (sv 103 666),en P 5 166 .none,en P 6 167 .none,en P 7 168 k5,en P 8 169 .none,en P 9 170 6,en P 10 171 4,en P 11 173 (sv 0 172),en P 12 174 .none,en P 13 193 21,en P 14 213 31,en P 15 229 44,en P 23 245 56,en P 24 254 65,en P 25 262 70,en P 28 366 150,en P 29 376 161,en P 30 385 168,en P 65 394 175,en P 66 405 182,en P 67 413 189,en P 68 425 196,en P 69 435 203,en P 70 443 210,en P 71 455 217,en P 72 465 224,en P 73 475 231,en P 74 481 236,en P 75 491 243,en P 76 503 250,en P 77 511 257,en P 78 520 264,en P 79 534 271,en P 80 538 (.int 12 537),en P 81 540 (.int 99 539),en P 82 549 278,en P 83 557 285,en P 104 567 292,en P 105 579 299,en P 106 665 365,en P 107 675 376,en P 108 688 383] 42) #[]
def zlN:=vO #[(iv 1),(iv 0),20,(iv 5),(iv 0),27,(iv 7),(iv 0),40,(iv 9),(iv 0),52,(iv 12),(iv 0),64,(iv 15),(iv 0),69,(iv 23),(iv 0),76,(iv 63),(iv 0),160,(iv 72),(iv 0),167,(iv 77),(iv 0),174,(iv 83),(iv 0),181,(iv 92),(iv 0),188,(iv 96),(iv 0),195,(iv 103),(iv 0),202,(iv 111),(iv 0),209,(iv 115),(iv 0),216,(iv 118),(iv 0),223,(iv 120),(iv 0),230,(iv 126),(iv 0),235,(iv 131),(iv 0),242,(iv 137),(iv 0),249,(iv 144),(iv 0),256,(iv 149),(iv 0),263,(iv 154),(iv 0),270,(iv 169),(iv 0),277,(iv 178),(iv 0),284,(iv 184),(iv 0),291,(iv 193),(iv 0),298,(iv 201),(iv 0),305,(iv 233),(iv 0),375,(iv 237),(iv 0),382]
def zfn:=tO #[]
def zky:=vO #[]
def zfm:=tO #[(sv 86 561),(sv 100 562),(sv 85 563),(sv 102 564)]
def zfl:=tO #[]
def zkx:=gO 104 104 (S 33)
def zfk:=cO 104 104 558 559 560 184 2 3 286 287 288 289 290 565 566
def zfj:=uO 104 104 (S 33) 64 535 291
def zfi:=tO #[]
def zkw:=vO #[]
def zfh:=tO #[(sv 100 571),(sv 86 572),(sv 109 573),(sv 45 574),(sv 88 575),(sv 89 576)]
def zfg:=tO #[]
def zkv:=gO 105 105 (S 34)
def zff:=cO 105 105 568 569 570 193 2 3 293 294 295 296 297 577 578
def zfe:=uO 105 105 (S 34) 64 535 298
def zku:=tO #[]
def zkt:=Obj.mk k7 .none (Data.fields #[k8,k9]) #[]
def zks:=Obj.mk k4 .none (Data.dict #[en P 17 587 (sv 64 535),en P 18 589 (sv 106 588),en P 19 591 (.int 201 590),en P 31 600 313,en P 100 607 320,en P 86 614 327,en P 110 622 334,en P 111 631 341,en P 112 639 348,en P 113 646 355,en P 114 654 362,en P 20 658 363] 12) #[]
def zkr:=tO #[]
def zkq:=vO #[(iv 203),(iv 4),312,(iv 212),(iv 4),319,(iv 215),(iv 4),326,(iv 218),(iv 4),333,(iv 221),(iv 4),340,(iv 224),(iv 4),347,(iv 227),(iv 4),354,(iv 230),(iv 4),361]
def zkp:=Obj.mk k1 .none (Data.fields #[(sv 106 582),(sv 106 583),(sv 0 584),(iv 201),(iv 0),(iv 0),(iv 0),(iv 0),303,(.bool false),(iv 181),304,.none,.none,.none,.none,(iv 585),(iv 201),(sv 0 586)]) #[]
def zko:=Obj.mk k3 .none Data.plain #[(some 305),(some 3),(some 302),.none,(some (sv 64 535)),.none,(some 0)]
def zfd:=tO #[]
def zkn:=vO #[]
def zfc:=tO #[(sv 41 595),(sv 100 596),(sv 86 597)]
def zfb:=tO #[]
def zkm:=gO 31 115 (L2.inClass (S 35) 0)
def zfa:=cO 31 115 592 593 594 203 3 3 307 308 309 310 311 598 599
def ze9:=uO 31 115 (L2.inClass (S 35) 0) 64 535 312
def ze8:=tO #[]
def zkl:=vO #[]
def ze7:=tO #[(sv 41 604)]
def ze6:=tO #[]
def zkk:=gO 100 116 (L2.inClass (S 35) 1)
def ze5:=cO 100 116 601 602 603 212 1 3 314 315 316 317 318 605 606
def ze4:=uO 100 116 (L2.inClass (S 35) 1) 64 535 319
def ze3:=tO #[]
def zkj:=vO #[]
def ze2:=tO #[(sv 41 611)]
def ze1:=tO #[]
def zki:=gO 86 117 (L2.inClass (S 35) 2)
def ze0:=cO 86 117 608 609 610 215 1 3 321 322 323 324 325 612 613
def zeZ:=uO 86 117 (L2.inClass (S 35) 2) 64 535 326
def zeY:=tO #[]
def zkh:=vO #[]
def zeX:=tO #[(sv 41 618),(sv 45 619)]
def zeW:=tO #[]
def zkg:=gO 110 118 (L2.inClass (S 35) 3)
def zeV:=cO 110 118 615 616 617 218 2 3 328 329 330 331 332 620 621
def zeU:=uO 110 118 (L2.inClass (S 35) 3) 64 535 333
def zeT:=tO #[]
def zkf:=vO #[]
def zeS:=tO #[(sv 41 626),(sv 88 627),(sv 89 628)]
def zeR:=tO #[]
def zke:=gO 111 119 (L2.inClass (S 35) 4)
def zeQ:=cO 111 119 623 624 625 221 3 3 335 336 337 338 339 629 630
def zeP:=uO 111 119 (L2.inClass (S 35) 4) 64 535 340
def zeO:=tO #[]
def zkd:=vO #[]
def zeN:=tO #[(sv 41 635),(sv 45 636)]
def zeM:=tO #[]
def zkc:=gO 112 120 (L2.inClass (S 35) 5)
def zeL:=cO 112 120 632 633 634 224 2 3 342 343 344 345 346 637 638
def zeK:=uO 112 120 (L2.inClass (S 35) 5) 64 535 347
def zeJ:=tO #[]
def zkb:=vO #[]
def zeI:=tO #[(sv 41 643)]
def zeH:=tO #[]
def zka:=gO 113 121 (L2.inClass (S 35) 6)
def zeG:=cO 113 121 640 641 642 227 1 3 349 350 351 352 353 644 645
def zeF:=uO 113 121 (L2.inClass (S 35) 6) 64 535 354
def zeE:=tO #[]
def zj9:=vO #[]
def zeD:=tO #[(sv 41 650),(sv 45 651)]
def zeC:=tO #[]
def zj8:=gO 114 122 (L2.inClass (S 35) 7)
def zeB:=cO 114 122 647 648 649 230 2 3 356 357 358 359 360 652 653
def zeA:=uO 114 122 (L2.inClass (S 35) 7) 64 535 361
def zez:=tO #[(sv 109 655),(sv 123 656),(sv 124 657)]
def zey:=Obj.mk k4 .none (Data.dict #[en P 17 587 (sv 64 535),en P 19 591 (.int 201 590),en P 31 600 313,en P 100 607 320,en P 86 614 327,en P 110 622 334,en P 111 631 341,en P 112 639 348,en P 113 646 355,en P 114 654 362,en P 20 658 363,en P 61 660 366,en P 21 662 367,en P 5 663 .none] 4) #[]
def zex:=Obj.mk k9 .none (Data.cls (ClassData.mk (s 106) [k12] [365,k12] 364 (s 106) true [] [] false .none false)) #[.none,.none,(some (sv 106 580)),(some (sv 106 588)),(some k18),(some (.bool true))]
def zew:=Obj.mk k14 .none (Data.fields #[(sv 61 659),365,k19,k20]) #[]
def zev:=Obj.mk k14 .none (Data.fields #[(sv 21 661),365,k15,.none]) #[]
def zj7:=Obj.mk k16 .none (Data.fields #[365,365,365]) #[]
def zj6:=Obj.mk k7 .none (Data.fields #[k17,365]) #[]
def zeu:=tO #[]
def zj5:=vO #[]
def zet:=tO #[(sv 125 671),(sv 126 672)]
def zes:=tO #[]
def zj4:=gO 107 107 (S 37)
def zer:=cO 107 107 668 669 670 233 2 3 370 371 372 373 374 673 674
def zeq:=uO 107 107 (S 37) 103 666 375
def zep:=tO #[]
def zj3:=vO #[]
def zeo:=tO #[(sv 127 679),(sv 128 680),(sv 129 681),(sv 130 682),(sv 131 683),(sv 126 684),(sv 132 685)]
def zen:=tO #[]
def zj2:=gO 108 108 (S 38)
def zem:=cO 108 108 676 677 678 237 2 3 377 378 379 380 381 686 687
def zel:=uO 108 108 (S 38) 103 666 382
def zhY:=N zaS ziY (N zel .nil .nil)
def zhX:=N ze5 .nil .nil
def zhW:=N zky .nil .nil
def zhV:=N zbJ (N zeI .nil .nil) .nil
def zhU:=N zbU (N zeT .nil .nil) .nil
def zhT:=N zkr .nil .nil
def zhS:=N zby (N zev .nil .nil) .nil
def zhR:=N zb0 (N zeZ .nil .nil) .nil
def zhQ:=N zfh .nil .nil
def zhP:=N zbD (N zeC .nil .nil) .nil
def zhO:=N zfV (N zkd .nil .nil) .nil
def zhN:=N zkm .nil .nil
def zhM:=N zbs (N zer .nil .nil) .nil
def zhL:=N zb3 (N ze2 .nil .nil) .nil
def zhK:=N zfk .nil .nil
def zhJ:=N zbG (N zeF .nil .nil) .nil
def zhI:=N zbR (N zke .nil .nil) .nil
def zhH:=N zfd .nil .nil
def zhG:=N zbv (N zj5 .nil .nil) .nil
def zhF:=N zbX (N zeW .nil .nil) .nil
def zhE:=N zfe .nil .nil
def zhD:=N zbB (N zez .nil .nil) .nil
def zhC:=N zfU (N zeL .nil .nil) .nil
def zhB:=N zkl .nil .nil
def zhA:=N zbp (N zeo .nil .nil) .nil
def zk1:=N o0 (N o10 (N o26 (N o61 ziQ zhL) (N o95 (N zcd zhK .nil) zhJ)) (N o45 (N o79 ziO zhI) (N VY (N zah zhH .nil) zhG))) (N o18 (N (o34 P) (N o71 ziM zhF) (N zaY (N zan zhE .nil) zhD)) (N o53 (N o87 ziK zhC) (N VS (N zb6 zhB .nil) zhA)))
def zhz:=N ze3 .nil .nil
def zhy:=N zfl .nil .nil
def zhx:=N zbH (N zka .nil .nil) .nil
def zhw:=N zbT (N zeS .nil .nil) .nil
def zhv:=N zkp .nil .nil
def zhu:=N zfN (N zj6 .nil .nil) .nil
def zht:=N zfZ (N zkh .nil .nil) .nil
def zhs:=N zkv .nil .nil
def zhr:=N zfQ (N zeB .nil .nil) .nil
def zhq:=N zbN (N zeM .nil .nil) .nil
def zhp:=N ze9 .nil .nil
def zho:=N zbr (N zep .nil .nil) .nil
def zhn:=N zb1 (N zki .nil .nil) .nil
def zhm:=N zfi .nil .nil
def zhl:=N zfR (N zj9 .nil .nil) .nil
def zhk:=N zbQ (N zeP .nil .nil) .nil
def zhj:=N zfc .nil .nil
def zhi:=N zfM (N zes .nil .nil) .nil
def zhh:=N zfY (N zeV .nil .nil) .nil
def zhg:=N zkt .nil .nil
def zhf:=N zbz (N zex .nil .nil) .nil
def zhe:=N zbK (N zeJ .nil .nil) .nil
def zhd:=N ze6 .nil .nil
def zhc:=N zbo (N zj2 .nil .nil) .nil
def zk0:=N o2 (N o12 (N (o28 P) (N o63 ziA zhn) (N o97 (N zar zhm .nil) zhl)) (N o47 (N o81 (ziy P) zhk) (N zaV (N zag zhj .nil) zhi))) (N o20 (N o36 (N o73 ziw zhh) (N V2 (N zca zhg .nil) zhf)) (N o55 (N o89 ziu zhe) (N VR (N zaa zhd .nil) zhc)))
def zkZ:=N (boot_o_5 P) (N (boot_o_9 P) (N o8 (N o24 (N o59 ziI (N U7 zhz .nil)) (N o93 (N zau zhy .nil) zhx)) (N (o43 P) (N o77 ziG zhw) (N VZ (N zb9 zhv .nil) zhu))) (N o16 (N o32 (N (o69 P) ziE zht) (N V5 (N zao zhs .nil) zhr)) (N o51 (N o85 ziC zhq) (N zaU (N zad zhp .nil) zho)))) (zk0 P)
def zhb:=N ze4 .nil .nil
def zha:=N zfm .nil .nil
def zg9:=N zbI (N zeH .nil .nil) .nil
def zg8:=N zfX (N zkf .nil .nil) .nil
def zg7:=N zkq .nil .nil
def zg6:=N zbx (N zj7 .nil .nil) .nil
def zg5:=N zbZ (N zeY .nil .nil) .nil
def zg4:=N zfg .nil .nil
def zg3:=N zbC (N zj8 .nil .nil) .nil
def zg2:=N zbO (N zeN .nil .nil) .nil
def zg1:=N zfa .nil .nil
def zg0:=N zfL (N zeq .nil .nil) .nil
def zgZ:=N zb2 (N ze1 .nil .nil) .nil
def zgY:=N zfj .nil .nil
def zgX:=N zbF (N zeE .nil .nil) .nil
def zgW:=N zfW (N zeQ .nil .nil) .nil
def zgV:=N zkn .nil .nil
def zgU:=N zbu (N zet .nil .nil) .nil
def zgT:=N zbW (N zkg .nil .nil) .nil
def zgS:=N zku .nil .nil
def zgR:=N zbA (N (zey P) .nil .nil) .nil
def zgQ:=N zbL (N zeK .nil .nil) .nil
def zgP:=N ze7 .nil .nil
def zgO:=N zfK (N zen .nil .nil) .nil
def zkY:=N zlN (N o11 (N o27 (N o62 zij zgZ) (N o96 (N zas zgY .nil) zgX)) (N o46 (N o80 zih zgW) (N VX (N zb8 zgV .nil) zgU))) (N o19 (N o35 (N o72 zif zgT) (N V3 (N zam zgS .nil) (zgR P))) (N o54 (N o88 zid zgQ) (N zaT (N zab zgP .nil) zgO)))
def zgN:=N zkj .nil .nil
def zgM:=N zkx .nil .nil
def zgL:=N zfS (N zeG .nil .nil) .nil
def zgK:=N zbS (N zeR .nil .nil) .nil
def zgJ:=N zko .nil .nil
def zgI:=N zbw (N zeu .nil .nil) .nil
def zgH:=N zbY (N zeX .nil .nil) .nil
def zgG:=N zff .nil .nil
def zgF:=N zfP (N zeA .nil .nil) .nil
def zgE:=N zbM (N zkc .nil .nil) .nil
def zgD:=N ze8 .nil .nil
def zgC:=N zbq (N zj3 .nil .nil) .nil
def zgB:=N zf0 (N ze0 .nil .nil) .nil
def zgA:=N zkw .nil .nil
def zgz:=N zbE (N zeD .nil .nil) .nil
def zgy:=N zbP (N zeO .nil .nil) .nil
def zgx:=N zfb .nil .nil
def zgw:=N zbt (N zj4 .nil .nil) .nil
def zgv:=N zbV (N zeU .nil .nil) .nil
def zgu:=N (zks P) .nil .nil
def zgt:=N zfO (N zew .nil .nil) .nil
def zgs:=N zfn .nil .nil
def zgr:=N zfT (N zkb .nil .nil) .nil
def zgq:=N zkk .nil .nil
def zgp:=N zbn (N zem .nil .nil) .nil
def zkX:=N o3 (N o13 (N o29 (N o64 zh3 zgB) (N o98 (N zcc zgA .nil) zgz)) (N o48 (N o82 zh1 zgy) (N VW (N zaf zgx .nil) zgw))) (N (o21 P) (N o37 (N o74 zhZ zgv) (N zaX (N zal (zgu P) .nil) zgt)) (N o56 (N o90 (N zaw zgs .nil) zgr) (N VQ (N U9 zgq .nil) zgp)))
def zkW:=N (boot_o_6 P) (N (boot_o_10 P) (N o9 (N o25 (N o60 zib (N zb4 zgN .nil)) (N o94 (N zat zgM .nil) zgL)) (N o44 (N o78 zh9 zgK) (N zaW (N zai zgJ .nil) zgI))) (N o17 (N o33 (N o70 zh7 zgH) (N V4 (N zcb zgG .nil) zgF)) (N o52 (N o86 zh5 zgE) (N VT (N zac zgD .nil) zgC)))) (zkX P)
def zkV:=N (boot_o_2 P) (N (boot_o_4 P) (N (boot_o_8 P) (N o7 (N o23 (N o58 zis (N U8 zhb .nil)) (N o92 (N zav zha .nil) zg9)) (N o42 (N o76 ziq zg8) (N V0 (N zaj zg7 .nil) zg6))) (N (o15 P) (N o31 (N o68 zin zg5) (N V6 (N zap zg4 .nil) zg3)) (N o50 (N o84 zil zg2) (N VU (N zb7 zg1 .nil) zg0)))) (zkY P)) (zkW P)
def zkU:=N (boot_o_0 P) (N (boot_o_1 P) (N (zlO P) (N (boot_o_7 P) (N o6 (N o40 (N o57 zhY (N zb5 zhX .nil)) (N o91 (N zce zhW .nil) zhV)) (N o41 (N o75 ziW zhU) (N V1 (N zak zhT .nil) zhS))) (N o14 (N o30 (N o67 ziU zhR) (N o99 (N zaq zhQ .nil) zhP)) (N (o49 P) (N o83 ziS zhO) (N VV (N zae zhN .nil) zhM)))) (zk1 P)) (zkZ P)) (zkV P)
def sb5 (w:World) (os:OsState):SharedT:=⟨(zkU w.params),384,(Life.mk [] [] [] 0 [] [] false #[] [] 0 false false false 0 [2000,10,10] false 0 true [] [] 0 false),⟨[]⟩,(Drawn.mk 0 0 0 0),689,os⟩
def L4 (w:World) (os:OsState):Option (Flow×SharedT×Code×Pos):=segRunT treeTable pw w 11 an 1 588 (sb4 w os) (piecesOf zjb env cE (Pos.mk 178 0 183 72) B)
def R4 (w:World) (os:OsState):Option (Flow×SharedT×Code×Pos):=some (.next,sb5 w os,cE,(Pos.mk 237 0 250 21))
theorem q4:tt (Hd.L4,Hd.R4)=true:=by k_qdec
theorem r4:∀ w,Fast.tw18063231807419426806 w=Hd.R4 w:=fun w=>by kernel_rfl
theorem e4 (w:World) (os:OsState):Hd.L4 w os=Hd.R4 w os:=(congrFun (congrFun Fast.te18063231807419426806 w) os).trans (congrFun (r4 w) os)
def zja:List Stmt:=[S 39,S 40,S 41,S 42,S 43,S 44,S 45,S 46,S 47,S 48,S 49]
def zek:=Obj.mk k4 .none (Data.dict #[en P 3 165 (sv 103 666),en P 5 166 .none,en P 6 167 .none,en P 7 168 k5,en P 8 169 .none,en P 9 170 6,en P 10 171 4,en P 11 173 (sv 0 172),en P 12 174 .none,en P 13 193 21,en P 14 213 31,en P 15 229 44,en P 23 245 56,en P 24 254 65,en P 25 262 70,en P 28 366 150,en P 29 376 161,en P 30 385 168,en P 65 394 175,en P 66 405 182,en P 67 413 189,en P 68 425 196,en P 69 435 203,en P 70 443 210,en P 71 455 217,en P 72 465 224,en P 73 475 231,en P 74 481 236,en P 75 491 243,en P 76 503 250,en P 77 511 257,en P 78 520 264,en P 79 534 271,en P 80 538 (.int 12 537),en P 81 540 (.int 99 539),en P 82 549 278,en P 83 557 285,en P 104 567 292,en P 105 579 299,en P 106 665 365,en P 107 675 376,en P 108 688 383,en P 133 696 390,en P 134 702 395,en P 135 717 402,en P 136 727 409,en P 137 733 414,en P 138 742 421,en P 139 751 428,en P 140 757 433,en P 141 774 440,en P 142 780 445,en P 143 786 450] 53) #[]
def zj1:=vO #[(iv 1),(iv 0),20,(iv 5),(iv 0),27,(iv 7),(iv 0),40,(iv 9),(iv 0),52,(iv 12),(iv 0),64,(iv 15),(iv 0),69,(iv 23),(iv 0),76,(iv 63),(iv 0),160,(iv 72),(iv 0),167,(iv 77),(iv 0),174,(iv 83),(iv 0),181,(iv 92),(iv 0),188,(iv 96),(iv 0),195,(iv 103),(iv 0),202,(iv 111),(iv 0),209,(iv 115),(iv 0),216,(iv 118),(iv 0),223,(iv 120),(iv 0),230,(iv 126),(iv 0),235,(iv 131),(iv 0),242,(iv 137),(iv 0),249,(iv 144),(iv 0),256,(iv 149),(iv 0),263,(iv 154),(iv 0),270,(iv 169),(iv 0),277,(iv 178),(iv 0),284,(iv 184),(iv 0),291,(iv 193),(iv 0),298,(iv 201),(iv 0),305,(iv 233),(iv 0),375,(iv 237),(iv 0),382,(iv 251),(iv 0),389,(iv 255),(iv 0),394,(iv 264),(iv 0),401,(iv 275),(iv 0),408,(iv 280),(iv 0),413,(iv 283),(iv 0),420,(iv 290),(iv 0),427,(iv 292),(iv 0),432,(iv 310),(iv 0),439,(iv 321),(iv 0),444,(iv 331),(iv 0),449]
def zej:=tO #[]
def zj0:=vO #[]
def zei:=tO #[(sv 144 692),(sv 145 693)]
def zeh:=tO #[]
def zjZ:=gO 133 133 (S 39)
def zeg:=cO 133 133 689 690 691 251 2 3 384 385 386 387 388 694 695
def zef:=uO 133 133 (S 39) 103 666 389
def zee:=tO #[]
def zjY:=vO #[]
def zjX:=gO 134 134 (S 40)
def zed:=Obj.mk k1 .none (Data.fields #[(sv 134 697),(sv 134 698),(sv 0 699),(iv 255),(iv 2),(iv 0),(iv 0),(iv 3),391,(.bool true),(iv 181),392,.none,.none,.none,393,(iv 700),(iv 255),(sv 0 701)]) #[]
def zec:=uO 134 134 (S 40) 103 666 394
def zeb:=tO #[]
def zjW:=vO #[]
def zea:=tO #[(sv 144 706),(sv 146 707),(sv 147 708),(sv 129 709),(sv 148 710),(sv 126 711),(sv 149 712),(sv 150 713),(sv 151 714)]
def zd9:=tO #[]
def zjV:=gO 135 135 (S 41)
def zd8:=cO 135 135 703 704 705 264 2 3 396 397 398 399 400 715 716
def zd7:=uO 135 135 (S 41) 103 666 401
def zd6:=tO #[]
def zjU:=vO #[]
def zd5:=tO #[(sv 144 721),(sv 152 722),(sv 146 723),(sv 153 724)]
def zd4:=tO #[]
def zjT:=gO 136 136 (S 42)
def zd3:=cO 136 136 718 719 720 275 1 3 403 404 405 406 407 725 726
def zd2:=uO 136 136 (S 42) 103 666 408
def zd1:=tO #[]
def zjS:=vO #[]
def zjR:=gO 137 137 (S 43)
def zd0:=Obj.mk k1 .none (Data.fields #[(sv 137 728),(sv 137 729),(sv 0 730),(iv 280),(iv 2),(iv 0),(iv 0),(iv 3),410,(.bool true),(iv 181),411,.none,.none,.none,412,(iv 731),(iv 280),(sv 0 732)]) #[]
def zdZ:=uO 137 137 (S 43) 103 666 413
def zdY:=tO #[]
def zjQ:=vO #[]
def zdX:=tO #[(sv 154 737),(sv 155 738),(sv 129 739)]
def zdW:=tO #[]
def zjP:=gO 138 138 (S 44)
def zdV:=cO 138 138 734 735 736 283 2 3 415 416 417 418 419 740 741
def zdU:=uO 138 138 (S 44) 103 666 420
def zdT:=tO #[]
def zjO:=vO #[]
def zdS:=tO #[(sv 154 746),(sv 156 747),(sv 157 748)]
def zdR:=tO #[]
def zjN:=gO 139 139 (S 45)
def zdQ:=cO 139 139 743 744 745 290 3 3 422 423 424 425 426 749 750
def zdP:=uO 139 139 (S 45) 103 666 427
def zdO:=tO #[]
def zjM:=vO #[]
def zjL:=gO 140 140 (S 46)
def zdN:=Obj.mk k1 .none (Data.fields #[(sv 140 752),(sv 140 753),(sv 0 754),(iv 292),(iv 3),(iv 0),(iv 0),(iv 3),429,(.bool true),(iv 181),430,.none,.none,.none,431,(iv 755),(iv 292),(sv 0 756)]) #[]
def zdM:=uO 140 140 (S 46) 103 666 432
def zdL:=tO #[]
def zjK:=vO #[]
def zdK:=tO #[(sv 154 761),(sv 158 762),(sv 155 763),(sv 157 764),(sv 159 765),(sv 160 766),(sv 129 767),(sv 156 768),(sv 161 769),(sv 149 770),(sv 162 771)]
def zdJ:=tO #[]
def zjJ:=gO 141 141 (S 47)
def zdI:=cO 141 141 758 759 760 310 4 3 434 435 436 437 438 772 773
def zdH:=uO 141 141 (S 47) 103 666 439
def zdG:=tO #[]
def zjI:=vO #[]
def zjH:=gO 142 142 (S 48)
def zdF:=Obj.mk k1 .none (Data.fields #[(sv 142 775),(sv 142 776),(sv 0 777),(iv 321),(iv 5),(iv 0),(iv 0),(iv 3),441,(.bool true),(iv 181),442,.none,.none,.none,443,(iv 778),(iv 321),(sv 0 779)]) #[]
def zdE:=uO 142 142 (S 48) 103 666 444
def zdD:=tO #[]
def zjG:=vO #[]
def zjF:=gO 143 143 (S 49)
def zdC:=Obj.mk k1 .none (Data.fields #[(sv 143 781),(sv 143 782),(sv 0 783),(iv 331),(iv 1),(iv 0),(iv 0),(iv 3),446,(.bool true),(iv 181),447,.none,.none,.none,448,(iv 784),(iv 331),(sv 0 785)]) #[]
def zdB:=uO 143 143 (S 49) 103 666 449
def zkT:=N o14 (N o30 (N o67 (N zcl ziV (N zee .nil .nil)) zhR) (N o99 (N zaq zhQ (N zjO .nil .nil)) zhP)) (N (o49 P) (N o83 (N zaA ziT (N zjT .nil .nil)) zhO) (N VV (N zae zhN (N zdI .nil .nil)) zhM))
def zkS:=N o18 (N (o34 P) (N o71 (N zaK ziN (N zec .nil .nil)) zhF) (N zaY (N zan zhE (N zdQ .nil .nil)) zhD)) (N o53 (N o87 (N zay ziL (N zjS .nil .nil)) zhC) (N VS (N zb6 zhB (N zjH .nil .nil)) zhA))
def zkR:=N o0 (N o10 (N o26 (N o61 (N zcm ziR (N zeh .nil .nil)) zhL) (N o95 (N zcd zhK (N zjP .nil .nil)) zhJ)) (N o45 (N o79 (N zaE ziP (N zd6 .nil .nil)) zhI) (N VY (N zah zhH (N zjK .nil .nil)) zhG))) (zkS P)
def zkQ:=N o16 (N o32 (N (o69 P) (N zaL ziF (N zjX .nil .nil)) zht) (N V5 (N zao zhs (N zdR .nil .nil)) zhr)) (N o51 (N o85 (N zch ziD (N zd2 .nil .nil)) zhq) (N zaU (N zad zhp (N zdG .nil .nil)) zho))
def zcC:=N o20 (N o36 (N o73 (N zaI zix (N zjW .nil .nil)) zhh) (N V2 (N zca zhg (N zdO .nil .nil)) zhf)) (N o55 (N o89 (N zax ziv (N zd0 .nil .nil)) zhe) (N VR (N zaa zhd (N zdE .nil .nil)) zhc))
def zcB:=N o2 (N o12 (N (o28 P) (N o63 (N zaO ziB (N zeg .nil .nil)) zhn) (N o97 (N zar zhm (N zdU .nil .nil)) zhl)) (N o47 (N o81 (N (zaC P) ziz (N zd5 .nil .nil)) zhk) (N zaV (N zag zhj (N zdJ .nil .nil)) zhi))) zcC
def zcA:=N (boot_o_5 P) (N (boot_o_9 P) (N o8 (N o24 (N o59 (N zaR ziJ (N zj0 .nil .nil)) (N U7 zhz (N zdC .nil .nil))) (N o93 (N zau zhy (N zdX .nil .nil)) zhx)) (N (o43 P) (N o77 (N zci ziH (N zd8 .nil .nil)) zhw) (N VZ (N zb9 zhv (N zdM .nil .nil)) zhu))) (zkQ P)) (zcB P)
def zcz:=N (o15 P) (N o31 (N o68 (N zaM zio (N zjY .nil .nil)) zg5) (N V6 (N zap zg4 (N zdS .nil .nil)) zg3)) (N o50 (N o84 (N zaz zim (N zd3 .nil .nil)) zg2) (N VU (N zb7 zg1 (N zdH .nil .nil)) zg0))
def zcy:=N o19 (N o35 (N o72 (N zaJ zig (N zeb .nil .nil)) zgT) (N V3 (N zam zgS (N zdP .nil .nil)) (zgR P))) (N o54 (N o88 (N zcf zie (N zjR .nil .nil)) zgQ) (N zaT (N zab zgP (N zdF .nil .nil)) zgO))
def zcx:=N zj1 (N o11 (N o27 (N o62 (N zaP zik (N zjZ .nil .nil)) zgZ) (N o96 (N zas zgY (N zdV .nil .nil)) zgX)) (N o46 (N o80 (N zaD zii (N zjU .nil .nil)) zgW) (N VX (N zb8 zgV (N zdK .nil .nil)) zgU))) (zcy P)
def zcw:=N o17 (N o33 (N o70 (N zck zh8 (N zed .nil .nil)) zgH) (N V4 (N zcb zgG (N zjN .nil .nil)) zgF)) (N o52 (N o86 (N zcg zh6 (N zd1 .nil .nil)) zgE) (N VT (N zac zgD (N zjI .nil .nil)) zgC))
def zcv:=N (o21 P) (N o37 (N o74 (N zcj zh0 (N zea .nil .nil)) zgv) (N zaX (N zal (zgu P) (N zjM .nil .nil)) zgt)) (N o56 (N o90 (N zaw zgs (N zdZ .nil .nil)) zgr) (N VQ (N U9 zgq (N zdD .nil .nil)) zgp))
def zcu:=N o3 (N o13 (N o29 (N o64 (N zaN zh4 (N zef .nil .nil)) zgB) (N o98 (N zcc zgA (N zdT .nil .nil)) zgz)) (N o48 (N o82 (N zaB zh2 (N zd4 .nil .nil)) zgy) (N VW (N zaf zgx (N zjJ .nil .nil)) zgw))) (zcv P)
def zct:=N (boot_o_6 P) (N (boot_o_10 P) (N o9 (N o25 (N o60 (N zaQ zic (N zei .nil .nil)) (N zb4 zgN (N zdB .nil .nil))) (N o94 (N zat zgM (N zdW .nil .nil)) zgL)) (N o44 (N o78 (N zaF zia (N zd7 .nil .nil)) zgK) (N zaW (N zai zgJ (N zdL .nil .nil)) zgI))) zcw) (zcu P)
def zcs:=N (boot_o_2 P) (N (boot_o_4 P) (N (boot_o_8 P) (N o7 (N o23 (N o58 (N zcn zit (N zej .nil .nil)) (N U8 zhb (N zjF .nil .nil))) (N o92 (N zav zha (N zjQ .nil .nil)) zg9)) (N o42 (N o76 (N zaG zir (N zjV .nil .nil)) zg8) (N V0 (N zaj zg7 (N zdN .nil .nil)) zg6))) (zcz P)) (zcx P)) (zct P)
def zcr:=N (boot_o_0 P) (N (boot_o_1 P) (N (zek P) (N (boot_o_7 P) (N o6 (N o40 (N o57 zhY (N zb5 zhX (N zjG .nil .nil))) (N o91 (N zce zhW (N zdY .nil .nil)) zhV)) (N o41 (N o75 (N zaH ziX (N zd9 .nil .nil)) zhU) (N V1 (N zak zhT (N zjL .nil .nil)) zhS))) (zkT P)) (zkR P)) (zcA P)) (zcs P)
def sb6 (w:World) (os:OsState):SharedT:=⟨(zcr w.params),451,(Life.mk [] [] [] 0 [] [] false #[] [] 0 false false false 0 [2000,10,10] false 0 true [] [] 0 false),⟨[]⟩,(Drawn.mk 0 0 0 0),787,os⟩
def L5 (w:World) (os:OsState):Option (Flow×SharedT×Code×Pos):=segRunT treeTable pw w 11 an 1 331 (sb5 w os) (piecesOf zja env cE (Pos.mk 237 0 250 21) B)
def R5 (w:World) (os:OsState):Option (Flow×SharedT×Code×Pos):=some (.next,sb6 w os,cE,(Pos.mk 331 0 347 15))
theorem q5:tt (Hd.L5,Hd.R5)=true:=by k_qdec
theorem r5:∀ w,Fast.tw7289443652863241282 w=Hd.R5 w:=fun w=>by kernel_rfl
theorem e5 (w:World) (os:OsState):Hd.L5 w os=Hd.R5 w os:=(congrFun (congrFun Fast.te7289443652863241282 w) os).trans (congrFun (r5 w) os)
def h37:List Obj:=zdF::zdE::zdD::zjG::zjF::zdC::zdB::[]
def h36:List Obj:=zdN::zdM::zdL::zjK::zdK::zdJ::zjJ::zdI::zdH::zdG::zjI::zjH::h37
def h35:List Obj:=zdV::zdU::zdT::zjO::zdS::zdR::zjN::zdQ::zdP::zdO::zjM::zjL::h36
def h34:List Obj:=zd3::zd2::zd1::zjS::zjR::zd0::zdZ::zdY::zjQ::zdX::zdW::zjP::h35
def h33:List Obj:=zeb::zjW::zea::zd9::zjV::zd8::zd7::zd6::zjU::zd5::zd4::zjT::h34
def h32:List Obj:=zej::zj0::zei::zeh::zjZ::zeg::zef::zee::zjY::zjX::zed::zec::h33
def h31:List Obj:=zet::zes::zj4::zer::zeq::zep::zj3::zeo::zen::zj2::zem::zel::h32
def h30:List Obj:=zj8::zeB::zeA::zez::zey P::zex::zew::zev::zj7::zj6::zeu::zj5::h31
def h29:List Obj:=zeK::zeJ::zkb::zeI::zeH::zka::zeG::zeF::zeE::zj9::zeD::zeC::h30 P
def h28:List Obj:=zkf::zeS::zeR::zke::zeQ::zeP::zeO::zkd::zeN::zeM::zkc::zeL::h29 P
def h27:List Obj:=ze1::zki::ze0::zeZ::zeY::zkh::zeX::zeW::zkg::zeV::zeU::zeT::h28 P
def h26:List Obj:=zfa::ze9::ze8::zkl::ze7::ze6::zkk::ze5::ze4::ze3::zkj::ze2::h27 P
def h25:List Obj:=zku::zkt::zks P::zkr::zkq::zkp::zko::zfd::zkn::zfc::zfb::zkm::h26 P
def h24:List Obj:=zfm::zfl::zkx::zfk::zfj::zfi::zkw::zfh::zfg::zkv::zff::zfe::h25 P
def h23:List Obj:=zkB::zfu::zft::zfs::zkA::zfr::zfq::zkz::zfp::zfo::zfn::zky::h24 P
def h22:List Obj:=zfD::zfC::zkE::zfB::zfA::zkD::zfz::zfy::zfx::zkC::zfw::zfv::h23 P
def h21:List Obj:=zfK::zbo::zbn::zkH::zfJ::zfI::zfH::zkG::zfG::zfF::zkF::zfE::h22 P
def h20:List Obj:=zbx::zfN::zbw::zbv::zbu::zfM::zbt::zbs::zfL::zbr::zbq::zbp::h21 P
def h19:List Obj:=zbF::zfR::zbE::zbD::zbC::zfQ::zfP::zbB::zbA::zbz::zfO::zby::h20 P
def h18:List Obj:=zbO::zbN::zbM::zfU::zbL::zbK::zfT::zbJ::zbI::zbH::zfS::zbG::h19 P
def h17:List Obj:=zbW::zfY::zbV::zbU::zfX::zbT::zbS::zbR::zfW::zbQ::zbP::zfV::h18 P
def h16:List Obj:=U8::U7::zb4::zb3::zb2::zb1::zf0::zb0::zbZ::zfZ::zbY::zbX::h17 P
def h15:List Obj:=zb8::zag::zaf::zae::zb7::zad::zac::zb6::zab::zaa::U9::zb5::h16 P
def h14:List Obj:=zap::zao::zcb::zan::zam::zca::zal::zak::zaj::zb9::zai::zah::h15 P
def h13:List Obj:=zcf::zax::zaw::zce::zav::zau::zat::zcd::zas::zar::zcc::zaq::h14 P
def h12:List Obj:=zaG::zci::zaF::zaE::zaD::zaC P::zaB::zaA::zaz::zch::zcg::zay::h13 P
def h11:List Obj:=zaP::zaO::zaN::zcl::zaM::zaL::zck::zaK::zaJ::zaI::zcj::zaH::h12 P
def h10:List Obj:=VU::zaU::VT::VS::zaT::VR::VQ::zaS::zcn::zaR::zaQ::zcm::h11 P
def h9:List Obj:=V3::V2::zaX::V1::V0::VZ::zaW::VY::VX::zaV::VW::VV::h10 P
def h8:List Obj:=o92::o93::o94::o95::o96::o97::o98::o99::V6::V5::V4::zaY::h9 P
def h7:List Obj:=o80::o81::o82::o83::o84::o85::o86::o87::o88::o89::o90::o91::h8 P
def h6:List Obj:=o68::o69 P::o70::o71::o72::o73::o74::o75::o76::o77::o78::o79::h7 P
def h5:List Obj:=o54::o55::o56::o57::o58::o59::o60::o61::o62::o63::o64::o67::h6 P
def h4:List Obj:=o42::o43 P::o44::o45::o46::o47::o48::o49 P::o50::o51::o52::o53::h5 P
def h3:List Obj:=o27::o28 P::o29::o30::o31::o32::o33::o34 P::o35::o36::o37::o41::h4 P
def h2:List Obj:=o15 P::o16::o17::o18::o19::o20::o21 P::o40::o23::o24::o25::o26::h3 P
def h1:List Obj:=zj1::o2::o3::o6::o7::o8::o9::o10::o11::o12::o13::o14::h2 P
def h0:List Obj:=boot_o_0 P::boot_o_1 P::boot_o_2 P::zek P::boot_o_4 P::boot_o_5 P::boot_o_6 P::boot_o_7 P::boot_o_8 P::boot_o_9 P::boot_o_10 P::o0::h1 P
def H1:Heap:=⟨⟨h0 P⟩,(Life.mk [] [] [] 0 [] [] false #[] [] 0 false false false 0 [2000,10,10] false 0 true [] [] 0 false)⟩
def sf (w:World) (os:OsState):Shared:=⟨H1 w.params,⟨[]⟩,(Drawn.mk 0 0 0 0),787,os⟩
def Lf (w:World) (os:OsState):Option Shared:=topRun treeTable pw w 11 an 2 (sb6 w os).abs ⟨doneF .next,cE,(Pos.mk 331 0 347 15),B⟩
def Rf (w:World) (os:OsState):Option Shared:=some (sf w os)
theorem qf:tt (Hd.Lf,Hd.Rf)=true:=by k_qdec
theorem rf:∀ w,Fast.tw2640074843757178226 w=Hd.Rf w:=fun w=>by kernel_rfl
theorem ef (w:World) (os:OsState):Hd.Lf w os=Hd.Rf w os:=(congrFun (congrFun Fast.te2640074843757178226 w) os).trans (congrFun (rf w) os)
theorem cut:bE=zjf++(zje++(zjd++(zjc++(zjb++(zja++([])))))):=by kernel_rfl
theorem run (w:World) (os:OsState):topRun treeTable pw w 11 an (12+(1+(438+(287+(577+(573+(588+(331+2)))))))) (s0 w os) (topStub pw)=some (sf w os):=by
 refine go_top (ea w os) (piece_block (q:=qE) (env:=env) (b:=bE) (segRun_of (eb w os)) ?_)
 rw[show restOf bE env cE (Pos.mk 0 0 0 0) [topFrame qE]=restOf _ env cE _ [topFrame qE] from congrArg (fun l=>restOf l env cE (Pos.mk 0 0 0 0) [topFrame qE]) cut]
 refine piece_app (segRun_of (e0 w os)) ?_
 refine piece_app (segRun_of (e1 w os)) ?_
 refine piece_app (segRun_of (e2 w os)) ?_
 refine piece_app (segRun_of (e3 w os)) ?_
 refine piece_app (segRun_of (e4 w os)) ?_
 refine piece_app (segRun_of (e5 w os)) ?_
 exact ef w os
noncomputable def M:Nat:=12+(1+(438+(287+(577+(573+(588+(331+2)))))))
noncomputable abbrev rW:RowW:=(PySem.Challenge.rw_beatless_k32_papers_that_hold.row).toRowW
def Q:Program:={ pw with main:={ pw.main with body:=[S 0,S 2,S 3,S 4,S 6,S 8,S 9,S 10,S 11,S 12,S 13,S 14,S 15,S 16,S 17,S 19,S 20,S 21,S 22,S 23,S 24,S 25,S 26,S 27,S 29,S 30,S 31,S 32,S 33,S 34,S 35,S 37,S 38,S 39,S 40,S 41,S 42,S 43,S 44,S 45,S 46,S 47,S 48,S 49] } }
def Xt (s:Shared):Bool:=xlAt Q [] s&&recOk (RowW.records rW) s
def K:Frag:=(nat_lit 2,boot_o_2 P)::(nat_lit 3,zek P)::(nat_lit 15,o6)::(nat_lit 17,o8)::(nat_lit 18,o9)::(nat_lit 20,o11)::(nat_lit 21,o12)::(nat_lit 22,o13)::(nat_lit 29,o20)::(nat_lit 30,o21 P)::(nat_lit 31,o40)::(nat_lit 32,o23)::(nat_lit 35,o26)::(nat_lit 42,o33)::(nat_lit 43,o34 P)::(nat_lit 44,o35)::(nat_lit 47,o41)::(nat_lit 54,o48)::(nat_lit 55,o49 P)::(nat_lit 56,o50)::(nat_lit 59,o53)::(nat_lit 61,o55)::(nat_lit 62,o56)::(nat_lit 64,o58)::(nat_lit 65,o59)::(nat_lit 66,o60)::(nat_lit 69,o63)::(nat_lit 70,o64)::(nat_lit 78,o74)::(nat_lit 80,o76)::(nat_lit 81,o77)::(nat_lit 83,o79)::(nat_lit 84,o80)::(nat_lit 85,o81)::(nat_lit 87,o83)::(nat_lit 88,o84)::(nat_lit 90,o86)::(nat_lit 91,o87)::(nat_lit 92,o88)::(nat_lit 94,o90)::(nat_lit 95,o91)::(nat_lit 97,o93)::(nat_lit 98,o94)::(nat_lit 99,o95)::(nat_lit 101,o97)::(nat_lit 102,o98)::(nat_lit 104,V6)::(nat_lit 105,V5)::(nat_lit 106,V4)::(nat_lit 108,V3)::(nat_lit 109,V2)::(nat_lit 111,V1)::(nat_lit 112,V0)::(nat_lit 113,VZ)::(nat_lit 115,VY)::(nat_lit 116,VX)::(nat_lit 118,VW)::(nat_lit 119,VV)::(nat_lit 120,VU)::(nat_lit 122,VT)::(nat_lit 123,VS)::(nat_lit 125,VR)::(nat_lit 126,VQ)::(nat_lit 127,zaS)::(nat_lit 129,zaR)::(nat_lit 130,zaQ)::(nat_lit 132,zaP)::(nat_lit 133,zaO)::(nat_lit 134,zaN)::(nat_lit 136,zaM)::(nat_lit 137,zaL)::(nat_lit 139,zaK)::(nat_lit 140,zaJ)::(nat_lit 141,zaI)::(nat_lit 143,zaH)::(nat_lit 144,zaG)::(nat_lit 146,zaF)::(nat_lit 147,zaE)::(nat_lit 148,zaD)::(nat_lit 149,zaC P)::(nat_lit 150,zaB)::(nat_lit 151,zaA)::(nat_lit 152,zaz)::(nat_lit 155,zay)::(nat_lit 157,zax)::(nat_lit 158,zaw)::(nat_lit 160,zav)::(nat_lit 161,zau)::(nat_lit 162,zat)::(nat_lit 164,zas)::(nat_lit 165,zar)::(nat_lit 167,zaq)::(nat_lit 168,zap)::(nat_lit 169,zao)::(nat_lit 171,zan)::(nat_lit 172,zam)::(nat_lit 174,zal)::(nat_lit 175,zak)::(nat_lit 176,zaj)::(nat_lit 178,zai)::(nat_lit 179,zah)::(nat_lit 181,zag)::(nat_lit 182,zaf)::(nat_lit 183,zae)::(nat_lit 185,zad)::(nat_lit 186,zac)::(nat_lit 188,zab)::(nat_lit 189,zaa)::(nat_lit 190,U9)::(nat_lit 192,U8)::(nat_lit 193,U7)::(nat_lit 195,zb3)::(nat_lit 196,zb2)::(nat_lit 197,zb1)::(nat_lit 199,zb0)::(nat_lit 200,zbZ)::(nat_lit 202,zbY)::(nat_lit 203,zbX)::(nat_lit 204,zbW)::(nat_lit 206,zbV)::(nat_lit 207,zbU)::(nat_lit 209,zbT)::(nat_lit 210,zbS)::(nat_lit 211,zbR)::(nat_lit 213,zbQ)::(nat_lit 214,zbP)::(nat_lit 216,zbO)::(nat_lit 217,zbN)::(nat_lit 218,zbM)::(nat_lit 220,zbL)::(nat_lit 221,zbK)::(nat_lit 223,zbJ)::(nat_lit 224,zbI)::(nat_lit 225,zbH)::(nat_lit 227,zbG)::(nat_lit 228,zbF)::(nat_lit 230,zbE)::(nat_lit 231,zbD)::(nat_lit 232,zbC)::(nat_lit 235,zbB)::(nat_lit 236,zbA)::(nat_lit 237,zbz)::(nat_lit 239,zby)::(nat_lit 240,zbx)::(nat_lit 242,zbw)::(nat_lit 243,zbv)::(nat_lit 244,zbu)::(nat_lit 246,zbt)::(nat_lit 247,zbs)::(nat_lit 249,zbr)::(nat_lit 250,zbq)::(nat_lit 251,zbp)::(nat_lit 253,zbo)::(nat_lit 254,zbn)::(nat_lit 256,zfJ)::(nat_lit 257,zfI)::(nat_lit 258,zfH)::(nat_lit 260,zfG)::(nat_lit 261,zfF)::(nat_lit 263,zfE)::(nat_lit 264,zfD)::(nat_lit 265,zfC)::(nat_lit 267,zfB)::(nat_lit 268,zfA)::(nat_lit 270,zfz)::(nat_lit 271,zfy)::(nat_lit 272,zfx)::(nat_lit 274,zfw)::(nat_lit 275,zfv)::(nat_lit 277,zfu)::(nat_lit 278,zft)::(nat_lit 279,zfs)::(nat_lit 281,zfr)::(nat_lit 282,zfq)::(nat_lit 284,zfp)::(nat_lit 285,zfo)::(nat_lit 286,zfn)::(nat_lit 288,zfm)::(nat_lit 289,zfl)::(nat_lit 291,zfk)::(nat_lit 292,zfj)::(nat_lit 293,zfi)::(nat_lit 295,zfh)::(nat_lit 296,zfg)::(nat_lit 298,zff)::(nat_lit 299,zfe)::(nat_lit 307,zfd)::(nat_lit 309,zfc)::(nat_lit 310,zfb)::(nat_lit 312,zfa)::(nat_lit 313,ze9)::(nat_lit 314,ze8)::(nat_lit 316,ze7)::(nat_lit 317,ze6)::(nat_lit 319,ze5)::(nat_lit 320,ze4)::(nat_lit 321,ze3)::(nat_lit 323,ze2)::(nat_lit 324,ze1)::(nat_lit 326,ze0)::(nat_lit 327,zeZ)::(nat_lit 328,zeY)::(nat_lit 330,zeX)::(nat_lit 331,zeW)::(nat_lit 333,zeV)::(nat_lit 334,zeU)::(nat_lit 335,zeT)::(nat_lit 337,zeS)::(nat_lit 338,zeR)::(nat_lit 340,zeQ)::(nat_lit 341,zeP)::(nat_lit 342,zeO)::(nat_lit 344,zeN)::(nat_lit 345,zeM)::(nat_lit 347,zeL)::(nat_lit 348,zeK)::(nat_lit 349,zeJ)::(nat_lit 351,zeI)::(nat_lit 352,zeH)::(nat_lit 354,zeG)::(nat_lit 355,zeF)::(nat_lit 356,zeE)::(nat_lit 358,zeD)::(nat_lit 359,zeC)::(nat_lit 361,zeB)::(nat_lit 362,zeA)::(nat_lit 363,zez)::(nat_lit 364,zey P)::(nat_lit 365,zex)::(nat_lit 366,zew)::(nat_lit 367,zev)::(nat_lit 370,zeu)::(nat_lit 372,zet)::(nat_lit 373,zes)::(nat_lit 375,zer)::(nat_lit 376,zeq)::(nat_lit 377,zep)::(nat_lit 379,zeo)::(nat_lit 380,zen)::(nat_lit 382,zem)::(nat_lit 383,zel)::(nat_lit 384,zej)::(nat_lit 386,zei)::(nat_lit 387,zeh)::(nat_lit 389,zeg)::(nat_lit 390,zef)::(nat_lit 391,zee)::(nat_lit 394,zed)::(nat_lit 395,zec)::(nat_lit 396,zeb)::(nat_lit 398,zea)::(nat_lit 399,zd9)::(nat_lit 401,zd8)::(nat_lit 402,zd7)::(nat_lit 403,zd6)::(nat_lit 405,zd5)::(nat_lit 406,zd4)::(nat_lit 408,zd3)::(nat_lit 409,zd2)::(nat_lit 410,zd1)::(nat_lit 413,zd0)::(nat_lit 414,zdZ)::(nat_lit 415,zdY)::(nat_lit 417,zdX)::(nat_lit 418,zdW)::(nat_lit 420,zdV)::(nat_lit 421,zdU)::(nat_lit 422,zdT)::(nat_lit 424,zdS)::(nat_lit 425,zdR)::(nat_lit 427,zdQ)::(nat_lit 428,zdP)::(nat_lit 429,zdO)::(nat_lit 432,zdN)::(nat_lit 433,zdM)::(nat_lit 434,zdL)::(nat_lit 436,zdK)::(nat_lit 437,zdJ)::(nat_lit 439,zdI)::(nat_lit 440,zdH)::(nat_lit 441,zdG)::(nat_lit 444,zdF)::(nat_lit 445,zdE)::(nat_lit 446,zdD)::(nat_lit 449,zdC)::(nat_lit 450,zdB)::[]
noncomputable def as:List Addr:=[2,3,15,17,18,20,21,22,29,30,31,32,35,42,43,44,47,54,55,56,59,61,62,64,65,66,69,70,78,80,81,83,84,85,87,88,90,91,92,94,95,97,98,99,101,102,104,105,106,108,109,111,112,113,115,116,118,119,120,122,123,125,126,127,129,130,132,133,134,136,137,139,140,141,143,144,146,147,148,149,150,151,152,155,157,158,160,161,162,164,165,167,168,169,171,172,174,175,176,178,179,181,182,183,185,186,188,189,190,192,193,195,196,197,199,200,202,203,204,206,207,209,210,211,213,214,216,217,218,220,221,223,224,225,227,228,230,231,232,235,236,237,239,240,242,243,244,246,247,249,250,251,253,254,256,257,258,260,261,263,264,265,267,268,270,271,272,274,275,277,278,279,281,282,284,285,286,288,289,291,292,293,295,296,298,299,307,309,310,312,313,314,316,317,319,320,321,323,324,326,327,328,330,331,333,334,335,337,338,340,341,342,344,345,347,348,349,351,352,354,355,356,358,359,361,362,363,364,365,366,367,370,372,373,375,376,377,379,380,382,383,384,386,387,389,390,391,394,395,396,398,399,401,402,403,405,406,408,409,410,413,414,415,417,418,420,421,422,424,425,427,428,429,432,433,434,436,437,439,440,441,444,445,446,449,450]
theorem asK (P:Params):as=(K P).map (·.1):=by kernel_rfl
def Ly (w:World) (os:OsState):List (Option Obj):=as.map (sf w os).heap.get?
def Ry (w:World) (_:OsState):List (Option Obj):=(K w.params).map fun p=>some p.2
theorem qy:tt (Hd.Ly,Hd.Ry)=true:=by k_qdec
theorem ry:∀ w,Fast.tw691215026958702249 w=Hd.Ry w:=fun w=>by kernel_rfl
theorem ey (w:World) (os:OsState):Hd.Ly w os=Hd.Ry w os:=(congrFun (congrFun Fast.te691215026958702249 w) os).trans (congrFun (ry w) os)
abbrev hk:Hook:=kHook K as asK
noncomputable abbrev zkI:List Str:=importedModules pw.main.body
def A (w:World) (os:OsState):=openSeen Q [] zkI Xt true (sf w os)
def G (_:World) (_:OsState):=openGood Q []
def A0 (w:World) (os:OsState):=(A w os).1
def G0 (w:World) (os:OsState):=(G w os).1
theorem qA0:tt (Hd.A0,Hd.G0)=true:=by k_qdec
theorem rA0:∀ w,Fast.tw6131166808449026830 w=Hd.G0 w:=fun w=>by kernel_rfl
theorem eA0 (w:World) (os:OsState):Hd.A0 w os=Hd.G0 w os:=(congrFun (congrFun Fast.te6131166808449026830 w) os).trans (congrFun (rA0 w) os)
def A1 (w:World) (os:OsState):=(A w os).2.1
def G1 (w:World) (os:OsState):=(G w os).2.1
theorem qA1:tt (Hd.A1,Hd.G1)=true:=by k_qdec
theorem rA1:∀ w,Fast.tw7581016493306269660 w=Hd.G1 w:=fun w=>by kernel_rfl
theorem eA1 (w:World) (os:OsState):Hd.A1 w os=Hd.G1 w os:=(congrFun (congrFun Fast.te7581016493306269660 w) os).trans (congrFun (rA1 w) os)
def A2 (w:World) (os:OsState):=(A w os).2.2.1
def G2 (w:World) (os:OsState):=(G w os).2.2.1
theorem qA2:tt (Hd.A2,Hd.G2)=true:=by k_qdec
theorem rA2:∀ w,Fast.tw2900191123710467766 w=Hd.G2 w:=fun w=>by kernel_rfl
theorem eA2 (w:World) (os:OsState):Hd.A2 w os=Hd.G2 w os:=(congrFun (congrFun Fast.te2900191123710467766 w) os).trans (congrFun (rA2 w) os)
def A3 (w:World) (os:OsState):=(A w os).2.2.2.1
def G3 (w:World) (os:OsState):=(G w os).2.2.2.1
theorem qA3:tt (Hd.A3,Hd.G3)=true:=by k_qdec
theorem rA3:∀ w,Fast.tw447134267514248570 w=Hd.G3 w:=fun w=>by kernel_rfl
theorem eA3 (w:World) (os:OsState):Hd.A3 w os=Hd.G3 w os:=(congrFun (congrFun Fast.te447134267514248570 w) os).trans (congrFun (rA3 w) os)
def A4 (w:World) (os:OsState):=(A w os).2.2.2.2.1
def G4 (w:World) (os:OsState):=(G w os).2.2.2.2.1
theorem qA4:tt (Hd.A4,Hd.G4)=true:=by k_qdec
theorem rA4:∀ w,Fast.tw14409291123802741499 w=Hd.G4 w:=fun w=>by kernel_rfl
theorem eA4 (w:World) (os:OsState):Hd.A4 w os=Hd.G4 w os:=(congrFun (congrFun Fast.te14409291123802741499 w) os).trans (congrFun (rA4 w) os)
def A5 (w:World) (os:OsState):=(A w os).2.2.2.2.2.1
def G5 (w:World) (os:OsState):=(G w os).2.2.2.2.2.1
theorem qA5:tt (Hd.A5,Hd.G5)=true:=by k_qdec
theorem rA5:∀ w,Fast.tw7163156141784225904 w=Hd.G5 w:=fun w=>by kernel_rfl
theorem eA5 (w:World) (os:OsState):Hd.A5 w os=Hd.G5 w os:=(congrFun (congrFun Fast.te7163156141784225904 w) os).trans (congrFun (rA5 w) os)
def A6 (w:World) (os:OsState):=(A w os).2.2.2.2.2.2.1
def G6 (w:World) (os:OsState):=(G w os).2.2.2.2.2.2.1
theorem qA6:tt (Hd.A6,Hd.G6)=true:=by k_qdec
theorem rA6:∀ w,Fast.tw148487786646926683 w=Hd.G6 w:=fun w=>by kernel_rfl
theorem eA6 (w:World) (os:OsState):Hd.A6 w os=Hd.G6 w os:=(congrFun (congrFun Fast.te148487786646926683 w) os).trans (congrFun (rA6 w) os)
def A7 (w:World) (os:OsState):=(A w os).2.2.2.2.2.2.2.1
def G7 (w:World) (os:OsState):=(G w os).2.2.2.2.2.2.2.1
theorem qA7:tt (Hd.A7,Hd.G7)=true:=by k_qdec
theorem rA7:∀ w,Fast.tw17782257788342479682 w=Hd.G7 w:=fun w=>by kernel_rfl
theorem eA7 (w:World) (os:OsState):Hd.A7 w os=Hd.G7 w os:=(congrFun (congrFun Fast.te17782257788342479682 w) os).trans (congrFun (rA7 w) os)
def A8 (w:World) (os:OsState):=(A w os).2.2.2.2.2.2.2.2
def G8 (w:World) (os:OsState):=(G w os).2.2.2.2.2.2.2.2
theorem qA8:tt (Hd.A8,Hd.G8)=true:=by k_qdec
theorem rA8:∀ w,Fast.tw8885869309975874061 w=Hd.G8 w:=fun w=>by kernel_rfl
theorem eA8 (w:World) (os:OsState):Hd.A8 w os=Hd.G8 w os:=(congrFun (congrFun Fast.te8885869309975874061 w) os).trans (congrFun (rA8 w) os)
def Ls (w:World) (os:OsState):Bool:=staticsOk zkI (boot_heap w.params) (H1 w.params)&&namesBound pw (H1 w.params)&&gensDone (sf w os)&&laidKept (boot_heap w.params) (H1 w.params)
noncomputable def Rs (_:World) (_:OsState):Bool:=true
def Lz (w:World) (_:OsState):=((boot_heap w.params).isNs mainGlobals&&(⟨[]⟩:Array GenState).size == 0,(boot_heap w.params).objs.size,(boot_heap w.params).nsMap mainGlobals "__annotations__")
noncomputable def Rz (_:World) (_:OsState):Bool×Nat×Option Value:=(true,11,an)
theorem qs:tt Hd.Ls=true:=by k_qdec
theorem rs:∀ w,Fast.tw4959303863618478765 w=Hd.Rs w:=fun w=>by kernel_rfl
theorem es (w:World) (os:OsState):Hd.Ls w os=Hd.Rs w os:=(congrFun (congrFun Fast.te4959303863618478765 w) os).trans (congrFun (rs w) os)
theorem qz:tt Hd.Lz=true:=by k_qdec
theorem rz:∀ w,Fast.tw17831390912981975158 w=Hd.Rz w:=fun w=>by kernel_rfl
theorem ez (w:World) (os:OsState):Hd.Lz w os=Hd.Rz w os:=(congrFun (congrFun Fast.te17831390912981975158 w) os).trans (congrFun (rz w) os)
theorem op:opening pw=plainProg pw.main.scope.names:=by kernel_rfl
theorem fe (s:Shared):fenceModules? pw s=some s:=by kernel_rfl
theorem left:LeftO pw Q [] Xt hk.obs hk.val 5702 :=
 LeftO.of_pieces (M:=M) (m₀:=11) (ann:=an) (H₀:=boot_heap) (H₁:=H1) (boot_open op (by kernel_rfl) fe) (fun w=>ez w (start pw).1.os) run (by kernel_rfl) (fun w=>funext fun os=>looks_pair (es w os) (looks_pair
  (Prod.ext (eA0 w os) (Prod.ext (eA1 w os) (Prod.ext (eA2 w os) (Prod.ext (eA3 w os) (Prod.ext (eA4 w os) (Prod.ext (eA5 w os) (Prod.ext (eA6 w os) (Prod.ext (eA7 w os) (eA8 w os)))))))))
  (ey w os)))
theorem both {a b:Bool}(z:(a&&b)=true):a=true∧b=true:=Bool.and_eq_true_iff.mp z
end Hd
end
namespace K04
open PySem L2
open PySem.W (nsIn findIn isFn codeIn keepIn plainGet hasDictIn plainOver makesIn mroIn specialIn takesIn kitOne mg_of mg_none_of excIn)
theorem txt_mk {w:World}{K:PySem.W.Frag}{h:Heap}{mg:Str→Option Value}(X:K.In h) (G:h.Ns mainGlobals mg)
  {f_qa f_qb f_qc f_qd f_qe f_qf f_qg f_qh f_qi f_qj f_qk f_ql f_qm f_qn f_qo f_qp f_qq f_qr f_qs f_qt f_qu f_qv f_qw f_qx f_qy f_qz f_qA f_qB f_qC f_qD f_qE f_qF f_qG f_qH f_qI f_qJ f_qK f_qL f_qM f_qN f_qO f_qP f_qQ f_qR f_qS f_qT f_qU c_Way c_Web:Addr}{t_MOST_HANDS:Tok}{t_LAST_HAND:Tok}
  (z_len:nsIn K mainGlobals "len" = some none)
  (z_int:nsIn K mainGlobals "int" = some none)
  (z_range:nsIn K mainGlobals "range" = some none)
  (z_isinstance:nsIn K mainGlobals "isinstance" = some none)
  (z_list:nsIn K mainGlobals "list" = some none)
  (z_dict:nsIn K mainGlobals "dict" = some none)
  (z_sorted:nsIn K mainGlobals "sorted" = some none)
  (z_bool:nsIn K mainGlobals "bool" = some none)
  (z_tuple:nsIn K mainGlobals "tuple" = some none)
  (z_reversed:nsIn K mainGlobals "reversed" = some none)
  (z_ValueError:nsIn K mainGlobals "ValueError" = some none)
  (A_Way:nsIn K mainGlobals "Way" = some (some (.ref c_Way)))
  (A_Web:nsIn K mainGlobals "Web" = some (some (.ref c_Web)))
  (a_0:nsIn K mainGlobals "is_whole" = some (some (.ref f_qa)))
  (a_1:nsIn K mainGlobals "copied" = some (some (.ref f_qb)))
  (a_2:nsIn K mainGlobals "are_parents" = some (some (.ref f_qc)))
  (a_3:nsIn K mainGlobals "come_to_leaders" = some (some (.ref f_qd)))
  (a_4:nsIn K mainGlobals "is_bridge" = some (some (.ref f_qe)))
  (a_5:nsIn K mainGlobals "are_bridges" = some (some (.ref f_qf)))
  (a_6:nsIn K mainGlobals "is_grounded" = some (some (.ref f_qg)))
  (a_7:nsIn K mainGlobals "first_joins" = some (some (.ref f_qh)))
  (a_8:nsIn K mainGlobals "lets" = some (some (.ref f_qi)))
  (a_9:nsIn K mainGlobals "refuse_unlet" = some (some (.ref f_qj)))
  (a_10:nsIn K mainGlobals "road_within" = some (some (.ref f_qk)))
  (a_11:nsIn K mainGlobals "road_over" = some (some (.ref f_ql)))
  (a_12:nsIn K mainGlobals "bridges_by_leaders" = some (some (.ref f_qm)))
  (a_13:nsIn K mainGlobals "roads_for" = some (some (.ref f_qn)))
  (a_14:nsIn K mainGlobals "pairs_of" = some (some (.ref f_qo)))
  (a_15:nsIn K mainGlobals "roads" = some (some (.ref f_qp)))
  (a_16:nsIn K mainGlobals "are_wholes" = some (some (.ref f_qq)))
  (a_17:nsIn K mainGlobals "has_just_pairs" = some (some (.ref f_qr)))
  (a_18:nsIn K mainGlobals "holds" = some (some (.ref f_qs)))
  (a_19:nsIn K mainGlobals "are_hands" = some (some (.ref f_qt)))
  (a_20:nsIn K mainGlobals "is_line" = some (some (.ref f_qu)))
  (a_21:nsIn K mainGlobals "are_lines" = some (some (.ref f_qv)))
  (a_22:nsIn K mainGlobals "near_by_hand" = some (some (.ref f_qw)))
  (a_23:nsIn K mainGlobals "_law_cell_at" = some (some (.ref f_qx)))
  (a_24:nsIn K mainGlobals "_law_draws" = some (some (.ref f_qy)))
  (a_25:nsIn K mainGlobals "_law_take" = some (some (.ref f_qz)))
  (a_26:nsIn K mainGlobals "_law_hands" = some (some (.ref f_qA)))
  (a_27:nsIn K mainGlobals "_law_lines" = some (some (.ref f_qB)))
  (a_28:nsIn K mainGlobals "_law_web_drawn" = some (some (.ref f_qC)))
  (a_29:nsIn K mainGlobals "_law_near" = some (some (.ref f_qD)))
  (a_30:nsIn K mainGlobals "_law_up" = some (some (.ref f_qE)))
  (a_31:nsIn K mainGlobals "_law_both" = some (some (.ref f_qF)))
  (a_32:nsIn K mainGlobals "_law_drawn_way" = some (some (.ref f_qG)))
  (a_33:nsIn K mainGlobals "_law_roads" = some (some (.ref f_qH)))
  (a_34:nsIn K mainGlobals "_law_paper" = some (some (.ref f_qI)))
  (a_35:nsIn K mainGlobals "law" = some (some (.ref f_qJ)))
  (a_36:findIn K (.ref c_Way) "__init__" = some (some (.ref f_qK)))
  (i_36:isFn K (.ref f_qK)=true)
  (a_37:findIn K (.ref c_Way) "parent_of" = some (some (.ref f_qL)))
  (i_37:isFn K (.ref f_qL)=true)
  (a_38:findIn K (.ref c_Way) "all_parents" = some (some (.ref f_qM)))
  (i_38:isFn K (.ref f_qM)=true)
  (a_39:findIn K (.ref c_Way) "all_bridges" = some (some (.ref f_qN)))
  (i_39:isFn K (.ref f_qN)=true)
  (a_40:findIn K (.ref c_Way) "path_up" = some (some (.ref f_qO)))
  (i_40:isFn K (.ref f_qO)=true)
  (a_41:findIn K (.ref c_Way) "leader" = some (some (.ref f_qP)))
  (i_41:isFn K (.ref f_qP)=true)
  (a_42:findIn K (.ref c_Web) "__init__" = some (some (.ref f_qQ)))
  (i_42:isFn K (.ref f_qQ)=true)
  (a_43:findIn K (.ref c_Web) "hands" = some (some (.ref f_qR)))
  (i_43:isFn K (.ref f_qR)=true)
  (a_44:findIn K (.ref c_Web) "lines" = some (some (.ref f_qS)))
  (i_44:isFn K (.ref f_qS)=true)
  (a_45:findIn K (.ref c_Web) "has_hand" = some (some (.ref f_qT)))
  (i_45:isFn K (.ref f_qT)=true)
  (a_46:findIn K (.ref c_Web) "has_line" = some (some (.ref f_qU)))
  (i_46:isFn K (.ref f_qU)=true)
  (F_0:∃ d,Fun K "is_whole" "is_whole" WD f_qa d)
  (F_1:∃ d,Fun K "copied" "copied" WC f_qb d)
  (F_2:∃ d,Fun K "are_parents" "are_parents" WB f_qc d)
  (F_3:∃ d,Fun K "come_to_leaders" "come_to_leaders" WA f_qd d)
  (F_4:∃ d,Fun K "is_bridge" "is_bridge" Wz f_qe d)
  (F_5:∃ d,Fun K "are_bridges" "are_bridges" Wy f_qf d)
  (F_6:∃ d,Fun K "is_grounded" "is_grounded" Wx f_qg d)
  (F_7:∃ d,Fun K "first_joins" "first_joins" Ww f_qh d)
  (F_8:∃ d,Fun K "lets" "lets" Wv f_qi d)
  (F_9:∃ d,Fun K "refuse_unlet" "refuse_unlet" Wu f_qj d)
  (F_10:∃ d,Fun K "road_within" "road_within" Wt f_qk d)
  (F_11:∃ d,Fun K "road_over" "road_over" Ws f_ql d)
  (F_12:∃ d,Fun K "bridges_by_leaders" "bridges_by_leaders" Wr f_qm d)
  (F_13:∃ d,Fun K "roads_for" "roads_for" Wq f_qn d)
  (F_14:∃ d,Fun K "pairs_of" "pairs_of" Wp f_qo d)
  (F_15:∃ d,Fun K "roads" "roads" Wo f_qp d)
  (F_16:∃ d,Fun K "are_wholes" "are_wholes" Wn f_qq d)
  (F_17:∃ d,Fun K "has_just_pairs" "has_just_pairs" Wm f_qr d)
  (F_18:∃ d,Fun K "holds" "holds" Wl f_qs d)
  (F_19:∃ d,Fun K "are_hands" "are_hands" Wk f_qt d)
  (F_20:∃ d,Fun K "is_line" "is_line" Wj f_qu d)
  (F_21:∃ d,Fun K "are_lines" "are_lines" Wi f_qv d)
  (F_22:∃ d,Fun K "near_by_hand" "near_by_hand" Wh f_qw d)
  (F_23:∃ d,Fun K "_law_cell_at" "_law_cell_at" Wg f_qx d)
  (F_24:∃ d,Fun K "_law_draws" "_law_draws" Wf f_qy d)
  (F_25:∃ d,Fun K "_law_take" "_law_take" YC f_qz d)
  (F_26:∃ d,Fun K "_law_hands" "_law_hands" WY f_qA d)
  (F_27:∃ d,Fun K "_law_lines" "_law_lines" WX f_qB d)
  (F_28:∃ d,Fun K "_law_web_drawn" "_law_web_drawn" WW f_qC d)
  (F_29:∃ d,Fun K "_law_near" "_law_near" WV f_qD d)
  (F_30:∃ d,Fun K "_law_up" "_law_up" WU f_qE d)
  (F_31:∃ d,Fun K "_law_both" "_law_both" WT f_qF d)
  (F_32:∃ d,Fun K "_law_drawn_way" "_law_drawn_way" YE f_qG d)
  (F_33:∃ d,Fun K "_law_roads" "_law_roads" WS f_qH d)
  (F_34:∃ d,Fun K "_law_paper" "_law_paper" WR f_qI d)
  (F_35:∃ d,Fun K "law" "law" YD f_qJ d)
  (F_36:∃ d,Fun K "__init__" "Way.__init__" WQ f_qK d)
  (F_37:∃ d,Fun K "parent_of" "Way.parent_of" WO f_qL d)
  (F_38:∃ d,Fun K "all_parents" "Way.all_parents" WN f_qM d)
  (F_39:∃ d,Fun K "all_bridges" "Way.all_bridges" WM f_qN d)
  (F_40:∃ d,Fun K "path_up" "Way.path_up" WL f_qO d)
  (F_41:∃ d,Fun K "leader" "Way.leader" WK f_qP d)
  (F_42:∃ d,Fun K "__init__" "Web.__init__" WJ f_qQ d)
  (F_43:∃ d,Fun K "hands" "Web.hands" WI f_qR d)
  (F_44:∃ d,Fun K "lines" "Web.lines" WH f_qS d)
  (F_45:∃ d,Fun K "has_hand" "Web.has_hand" WF f_qT d)
  (F_46:∃ d,Fun K "has_line" "Web.has_line" WE f_qU d)
  (pg_Way:plainGet K c_Way Str.empty=true)
  (hd_Way:hasDictIn K c_Way=true)
  (po_Way:plainOver K c_Way=true)
  (sa_Way:findIn K (.ref c_Way) "__setattr__" = some (some (.builtin "object.__setattr__")))
  (mk_Way:makesIn K c_Way=true)
  (kc_Way:keepIn K (.ref c_Way)=true)
  (ha_Way:findIn K (.ref c_Way) "__class__" = some (some (.builtin "object.__class__")))
  (hm_Way:mroIn K c_Way (.type "object")=some true)
  (na_Way_own_parents:findIn K (.ref c_Way) "own_parents" = some none)
  (na_Way_own_bridges:findIn K (.ref c_Way) "own_bridges" = some none)
  (pg_Web:plainGet K c_Web Str.empty=true)
  (hd_Web:hasDictIn K c_Web=true)
  (po_Web:plainOver K c_Web=true)
  (sa_Web:findIn K (.ref c_Web) "__setattr__" = some (some (.builtin "object.__setattr__")))
  (mk_Web:makesIn K c_Web=true)
  (kc_Web:keepIn K (.ref c_Web)=true)
  (ha_Web:findIn K (.ref c_Web) "__class__" = some (some (.builtin "object.__class__")))
  (hm_Web:mroIn K c_Web (.type "object")=some true)
  (na_Web_own_hands:findIn K (.ref c_Web) "own_hands" = some none)
  (na_Web_own_lines:findIn K (.ref c_Web) "own_lines" = some none)
  (na_Web_near:findIn K (.ref c_Web) "near" = some none)
  (hn:specialIn K (.builtin "object.__class__") "__get__" = some (some (.builtin "getset_descriptor.__get__")))
  (htk:takesIn K (.builtin "object.__class__")=some true)
  (k_tint_tint:kitOne K (.type "int") (.type "int")=some true)
  (k_tint_tbool:kitOne K (.type "int") (.type "bool")=some false)
  (k_tlist_tlist:kitOne K (.type "list") (.type "list")=some true)
  (k_ttuple_ttuple:kitOne K (.type "tuple") (.type "tuple")=some true)
  (k_ttuple_tlist:kitOne K (.type "tuple") (.type "list")=some false)
  (k_tdict_tlist:kitOne K (.type "dict") (.type "list")=some false)
  (k_tdict_ttuple:kitOne K (.type "dict") (.type "tuple")=some false)
  (k_tdict_tdict:kitOne K (.type "dict") (.type "dict")=some true)
  (k_tint_tlist:kitOne K (.type "int") (.type "list")=some false)
  (k_tint_ttuple:kitOne K (.type "int") (.type "tuple")=some false)
  (k_tint_tdict:kitOne K (.type "int") (.type "dict")=some false)
  (k_tNoneType_tlist:kitOne K (.type "NoneType") (.type "list")=some false)
  (k_tNoneType_ttuple:kitOne K (.type "NoneType") (.type "tuple")=some false)
  (k_tNoneType_tdict:kitOne K (.type "NoneType") (.type "dict")=some false)
  (k_tNoneType_tint:kitOne K (.type "NoneType") (.type "int")=some false)
  (k_tstr_tint:kitOne K (.type "str") (.type "int")=some false)
  (k_Way_Way:kitOne K (.ref c_Way) (.ref c_Way)=some true)
  (G_MOST_HANDS:nsIn K mainGlobals "MOST_HANDS" = some (some (.int 12 t_MOST_HANDS)))
  (G_LAST_HAND:nsIn K mainGlobals "LAST_HAND" = some (some (.int 99 t_LAST_HAND))) :
  ∃ a:Ad,Txt w K mg a:=by
 obtain⟨d0,F0⟩:=F_0
 obtain⟨d1,F1⟩:=F_1
 obtain⟨d2,F2⟩:=F_2
 obtain⟨d3,F3⟩:=F_3
 obtain⟨d4,F4⟩:=F_4
 obtain⟨d5,F5⟩:=F_5
 obtain⟨d6,F6⟩:=F_6
 obtain⟨d7,F7⟩:=F_7
 obtain⟨d8,F8⟩:=F_8
 obtain⟨d9,F9⟩:=F_9
 obtain⟨d10,F10⟩:=F_10
 obtain⟨d11,F11⟩:=F_11
 obtain⟨d12,F12⟩:=F_12
 obtain⟨d13,F13⟩:=F_13
 obtain⟨d14,F14⟩:=F_14
 obtain⟨d15,F15⟩:=F_15
 obtain⟨d16,F16⟩:=F_16
 obtain⟨d17,F17⟩:=F_17
 obtain⟨d18,F18⟩:=F_18
 obtain⟨d19,F19⟩:=F_19
 obtain⟨d20,F20⟩:=F_20
 obtain⟨d21,F21⟩:=F_21
 obtain⟨d22,F22⟩:=F_22
 obtain⟨d23,F23⟩:=F_23
 obtain⟨d24,F24⟩:=F_24
 obtain⟨d25,F25⟩:=F_25
 obtain⟨d26,F26⟩:=F_26
 obtain⟨d27,F27⟩:=F_27
 obtain⟨d28,F28⟩:=F_28
 obtain⟨d29,F29⟩:=F_29
 obtain⟨d30,F30⟩:=F_30
 obtain⟨d31,F31⟩:=F_31
 obtain⟨d32,F32⟩:=F_32
 obtain⟨d33,F33⟩:=F_33
 obtain⟨d34,F34⟩:=F_34
 obtain⟨d35,F35⟩:=F_35
 obtain⟨d36,F36⟩:=F_36
 obtain⟨d37,F37⟩:=F_37
 obtain⟨d38,F38⟩:=F_38
 obtain⟨d39,F39⟩:=F_39
 obtain⟨d40,F40⟩:=F_40
 obtain⟨d41,F41⟩:=F_41
 obtain⟨d42,F42⟩:=F_42
 obtain⟨d43,F43⟩:=F_43
 obtain⟨d44,F44⟩:=F_44
 obtain⟨d45,F45⟩:=F_45
 obtain⟨d46,F46⟩:=F_46
 refine⟨⟨f_qa,d0,f_qb,d1,f_qc,d2,f_qd,d3,f_qe,d4,f_qf,d5,f_qg,d6,f_qh,d7,f_qi,d8,f_qj,d9,f_qk,d10,f_ql,d11,f_qm,d12,f_qn,d13,f_qo,d14,f_qp,d15,f_qq,d16,f_qr,d17,f_qs,d18,f_qt,d19,f_qu,d20,f_qv,d21,f_qw,d22,f_qx,d23,f_qy,d24,f_qz,d25,f_qA,d26,f_qB,d27,f_qC,d28,f_qD,d29,f_qE,d30,f_qF,d31,f_qG,d32,f_qH,d33,f_qI,d34,f_qJ,d35,f_qK,d36,f_qL,d37,f_qM,d38,f_qN,d39,f_qO,d40,f_qP,d41,f_qQ,d42,f_qR,d43,f_qS,d44,f_qT,d45,f_qU,d46,c_Way,c_Web,t_MOST_HANDS,t_LAST_HAND⟩,?_⟩
 exact⟨mg_none_of X G z_len,
  mg_none_of X G z_int,
  mg_none_of X G z_range,
  mg_none_of X G z_isinstance,
  mg_none_of X G z_list,
  mg_none_of X G z_dict,
  mg_none_of X G z_sorted,
  mg_none_of X G z_bool,
  mg_none_of X G z_tuple,
  mg_none_of X G z_reversed,
  mg_none_of X G z_ValueError,
  F0,
  F0.binds fun _ _ _ _ _ _ us hl=>match us,hl with | [_],_=>rfl,
  mg_of X G a_0,
  F1,
  F1.binds fun _ _ _ _ _ _ us hl=>match us,hl with | [_],_=>rfl,
  mg_of X G a_1,
  F2,
  F2.binds fun _ _ _ _ _ _ us hl=>match us,hl with | [_,_],_=>rfl,
  mg_of X G a_2,
  F3,
  F3.binds fun _ _ _ _ _ _ us hl=>match us,hl with | [_,_],_=>rfl,
  mg_of X G a_3,
  F4,
  F4.binds fun _ _ _ _ _ _ us hl=>match us,hl with | [_,_,_],_=>rfl,
  mg_of X G a_4,
  F5,
  F5.binds fun _ _ _ _ _ _ us hl=>match us,hl with | [_,_,_],_=>rfl,
  mg_of X G a_5,
  F6,
  F6.binds fun _ _ _ _ _ _ us hl=>match us,hl with | [_,_],_=>rfl,
  mg_of X G a_6,
  F7,
  F7.binds fun _ _ _ _ _ _ us hl=>match us,hl with | [_,_],_=>rfl,
  mg_of X G a_7,
  F8,
  F8.binds fun _ _ _ _ _ _ us hl=>match us,hl with | [_,_],_=>rfl,
  mg_of X G a_8,
  F9,
  F9.binds fun _ _ _ _ _ _ us hl=>match us,hl with | [_,_],_=>rfl,
  mg_of X G a_9,
  F10,
  F10.binds fun _ _ _ _ _ _ us hl=>match us,hl with | [_,_,_],_=>rfl,
  mg_of X G a_10,
  F11,
  F11.binds fun _ _ _ _ _ _ us hl=>match us,hl with | [_,_,_,_],_=>rfl,
  mg_of X G a_11,
  F12,
  F12.binds fun _ _ _ _ _ _ us hl=>match us,hl with | [_],_=>rfl,
  mg_of X G a_12,
  F13,
  F13.binds fun _ _ _ _ _ _ us hl=>match us,hl with | [_,_,_,_],_=>rfl,
  mg_of X G a_13,
  F14,
  F14.binds fun _ _ _ _ _ _ us hl=>match us,hl with | [_],_=>rfl,
  mg_of X G a_14,
  F15,
  F15.binds fun _ _ _ _ _ _ us hl=>match us,hl with | [_,_],_=>rfl,
  mg_of X G a_15,
  F16,
  F16.binds fun _ _ _ _ _ _ us hl=>match us,hl with | [_],_=>rfl,
  mg_of X G a_16,
  F17,
  F17.binds fun _ _ _ _ _ _ us hl=>match us,hl with | [_,_],_=>rfl,
  mg_of X G a_17,
  F18,
  F18.binds fun _ _ _ _ _ _ us hl=>match us,hl with | [_,_,_],_=>rfl,
  mg_of X G a_18,
  F19,
  F19.binds fun _ _ _ _ _ _ us hl=>match us,hl with | [_],_=>rfl,
  mg_of X G a_19,
  F20,
  F20.binds fun _ _ _ _ _ _ us hl=>match us,hl with | [_,_],_=>rfl,
  mg_of X G a_20,
  F21,
  F21.binds fun _ _ _ _ _ _ us hl=>match us,hl with | [_,_],_=>rfl,
  mg_of X G a_21,
  F22,
  F22.binds fun _ _ _ _ _ _ us hl=>match us,hl with | [_,_],_=>rfl,
  mg_of X G a_22,
  F23,
  F23.binds fun _ _ _ _ _ _ us hl=>match us,hl with | [_,_],_=>rfl,
  mg_of X G a_23,
  F24,
  F24.binds fun _ _ _ _ _ _ us hl=>match us,hl with | [_,_],_=>rfl,
  mg_of X G a_24,
  F25,
  F25.binds fun _ _ _ _ _ _ us hl=>match us,hl with | [_,_],_=>rfl,
  mg_of X G a_25,
  F26,
  F26.binds fun _ _ _ _ _ _ us hl=>match us,hl with | [_,_],_=>rfl,
  mg_of X G a_26,
  F27,
  F27.binds fun _ _ _ _ _ _ us hl=>match us,hl with | [_,_],_=>rfl,
  mg_of X G a_27,
  F28,
  F28.binds fun _ _ _ _ _ _ us hl=>match us,hl with | [_],_=>rfl,
  mg_of X G a_28,
  F29,
  F29.binds fun _ _ _ _ _ _ us hl=>match us,hl with | [_,_],_=>rfl,
  mg_of X G a_29,
  F30,
  F30.binds fun _ _ _ _ _ _ us hl=>match us,hl with | [_,_],_=>rfl,
  mg_of X G a_30,
  F31,
  F31.binds fun _ _ _ _ _ _ us hl=>match us,hl with | [_,_,_],_=>rfl,
  mg_of X G a_31,
  F32,
  F32.binds fun _ _ _ _ _ _ us hl=>match us,hl with | [_,_,_],_=>rfl,
  mg_of X G a_32,
  F33,
  F33.binds fun _ _ _ _ _ _ us hl=>match us,hl with | [_,_,_,_],_=>rfl,
  mg_of X G a_33,
  F34,
  F34.binds fun _ _ _ _ _ _ us hl=>match us,hl with | [_,_,_,_,_],_=>rfl,
  mg_of X G a_34,
  F35,
  F35.binds fun _ _ _ _ _ _ us hl=>match us,hl with | [_],_=>rfl,
  by obtain⟨_,_,_,_,_,_,_,_,_,rfl,_,_⟩:=F35.ex;exact fun s v=>.of_eq rfl,
  mg_of X G a_35,
  F36,
  F36.binds fun _ _ _ _ _ _ us hl=>match us,hl with | [_,_,_],_=>rfl,
  F37,
  F37.binds fun _ _ _ _ _ _ us hl=>match us,hl with | [_,_],_=>rfl,
  ⟨a_37,i_37,F37.kp⟩,
  F38,
  F38.binds fun _ _ _ _ _ _ us hl=>match us,hl with | [_],_=>rfl,
  ⟨a_38,i_38,F38.kp⟩,
  F39,
  F39.binds fun _ _ _ _ _ _ us hl=>match us,hl with | [_],_=>rfl,
  ⟨a_39,i_39,F39.kp⟩,
  F40,
  F40.binds fun _ _ _ _ _ _ us hl=>match us,hl with | [_,_],_=>rfl,
  ⟨a_40,i_40,F40.kp⟩,
  F41,
  F41.binds fun _ _ _ _ _ _ us hl=>match us,hl with | [_,_],_=>rfl,
  ⟨a_41,i_41,F41.kp⟩,
  F42,
  F42.binds fun _ _ _ _ _ _ us hl=>match us,hl with | [_,_,_],_=>rfl,
  F43,
  F43.binds fun _ _ _ _ _ _ us hl=>match us,hl with | [_],_=>rfl,
  ⟨a_43,i_43,F43.kp⟩,
  F44,
  F44.binds fun _ _ _ _ _ _ us hl=>match us,hl with | [_],_=>rfl,
  ⟨a_44,i_44,F44.kp⟩,
  F45,
  F45.binds fun _ _ _ _ _ _ us hl=>match us,hl with | [_,_],_=>rfl,
  ⟨a_45,i_45,F45.kp⟩,
  F46,
  F46.binds fun _ _ _ _ _ _ us hl=>match us,hl with | [_,_,_],_=>rfl,
  ⟨a_46,i_46,F46.kp⟩,
  mg_of X G A_Way,
  ⟨pg_Way,hd_Way,po_Way,sa_Way⟩,
  ⟨mk_Way,a_36,i_36,kc_Way⟩,
  fun H p dx fs e=>.ins e ⟨pg_Way,hd_Way,po_Way,sa_Way⟩ ha_Way hn htk hm_Way,
  na_Way_own_parents,
  na_Way_own_bridges,
  mg_of X G A_Web,
  ⟨pg_Web,hd_Web,po_Web,sa_Web⟩,
  ⟨mk_Web,a_42,i_42,kc_Web⟩,
  fun H p dx fs e=>.ins e ⟨pg_Web,hd_Web,po_Web,sa_Web⟩ ha_Web hn htk hm_Web,
  na_Web_own_hands,
  na_Web_own_lines,
  na_Web_near,
  k_tint_tint,
  k_tint_tbool,
  k_tlist_tlist,
  k_ttuple_ttuple,
  k_ttuple_tlist,
  k_tdict_tlist,
  k_tdict_ttuple,
  k_tdict_tdict,
  k_tint_tlist,
  k_tint_ttuple,
  k_tint_tdict,
  k_tNoneType_tlist,
  k_tNoneType_ttuple,
  k_tNoneType_tdict,
  k_tNoneType_tint,
  k_tstr_tint,
  k_Way_Way,
  mg_of X G G_MOST_HANDS,
  mg_of X G G_LAST_HAND⟩
end K04
open PySem PySem.W PyProof.Rows
set_option maxRecDepth 100000 in
set_option maxHeartbeats 0 in
theorem PySem.Challenge.cw_beatless_k32_papers_that_hold_holds : PySem.Challenge.rw_beatless_k32_papers_that_hold.Holds := by
 w_on;o_law
 refine holds_open (XP:=XL Hd.Q []) (YP:=(kHook Hd.K Hd.as Hd.asK).says) Hd.left Hd.hk.of Hd.hk.keeps
  (fun s z=>xl_of s (Hd.both z).1) XL.keeps (by rfl) (by rfl) (by rfl)
  (fun s z=>recFacts_of (Hd.both z).2) (by rfl) (by assumption) (by decide +kernel)
  ⟨rfl,rfl,rfl,rfl,rfl,by decide +kernel⟩ ?hw ?hc
 case hw=>w_witness2
 k_fill
 refine L2.walk_ofK (l:=PySem.Challenge.rw_beatless_k32_papers_that_hold) (n:=63) (k:=26) (x := "_law_script") (CX:=L2.CX0) (sp:=K04.spLaw) rfl (by decide) rfl ⟨rfl,by decide,by decide⟩ (fun w h Y=>PySem.W.kIn_of Y) ?F ?S ?C
 case F =>
  intro w mg fa h KX G hmg
  have T:∃ a,K04.Txt w (L2.KOf KX) mg a:=by
   dsimp only[L2.KOf]
   refine' K04.txt_mk KX G ?z_len ?z_int ?z_range ?z_isinstance ?z_list ?z_dict ?z_sorted ?z_bool ?z_tuple ?z_reversed ?z_ValueError ?A_Way ?A_Web ?a_0 ?a_1 ?a_2 ?a_3 ?a_4 ?a_5 ?a_6 ?a_7 ?a_8 ?a_9 ?a_10 ?a_11 ?a_12 ?a_13 ?a_14 ?a_15 ?a_16 ?a_17 ?a_18 ?a_19 ?a_20 ?a_21 ?a_22 ?a_23 ?a_24 ?a_25 ?a_26 ?a_27 ?a_28 ?a_29 ?a_30 ?a_31 ?a_32 ?a_33 ?a_34 ?a_35 ?a_36 ?i_36 ?a_37 ?i_37 ?a_38 ?i_38 ?a_39 ?i_39 ?a_40 ?i_40 ?a_41 ?i_41 ?a_42 ?i_42 ?a_43 ?i_43 ?a_44 ?i_44 ?a_45 ?i_45 ?a_46 ?i_46 ?F_0 ?F_1 ?F_2 ?F_3 ?F_4 ?F_5 ?F_6 ?F_7 ?F_8 ?F_9 ?F_10 ?F_11 ?F_12 ?F_13 ?F_14 ?F_15 ?F_16 ?F_17 ?F_18 ?F_19 ?F_20 ?F_21 ?F_22 ?F_23 ?F_24 ?F_25 ?F_26 ?F_27 ?F_28 ?F_29 ?F_30 ?F_31 ?F_32 ?F_33 ?F_34 ?F_35 ?F_36 ?F_37 ?F_38 ?F_39 ?F_40 ?F_41 ?F_42 ?F_43 ?F_44 ?F_45 ?F_46 ?pg_Way ?hd_Way ?po_Way ?sa_Way ?mk_Way ?kc_Way ?ha_Way ?hm_Way ?na_Way_own_parents ?na_Way_own_bridges ?pg_Web ?hd_Web ?po_Web ?sa_Web ?mk_Web ?kc_Web ?ha_Web ?hm_Web ?na_Web_own_hands ?na_Web_own_lines ?na_Web_near ?hn ?htk ?k_tint_tint ?k_tint_tbool ?k_tlist_tlist ?k_ttuple_ttuple ?k_ttuple_tlist ?k_tdict_tlist ?k_tdict_ttuple ?k_tdict_tdict ?k_tint_tlist ?k_tint_ttuple ?k_tint_tdict ?k_tNoneType_tlist ?k_tNoneType_ttuple ?k_tNoneType_tdict ?k_tNoneType_tint ?k_tstr_tint ?k_Way_Way ?G_MOST_HANDS ?G_LAST_HAND
   (case z_len|z_int|z_range|z_isinstance|z_list|z_dict|z_sorted|z_bool|z_tuple|z_reversed|z_ValueError|A_Way|A_Web|a_0|a_1|a_2|a_3|a_4|a_5|a_6|a_7|a_8|a_9|a_10|a_11|a_12|a_13|a_14|a_15|a_16|a_17|a_18|a_19|a_20|a_21|a_22|a_23|a_24|a_25|a_26|a_27|a_28|a_29|a_30|a_31|a_32|a_33|a_34|a_35|a_36|i_36|a_37|i_37|a_38|i_38|a_39|i_39|a_40|i_40|a_41=>k_is)
   (case i_41|a_42|i_42|a_43|i_43|a_44|i_44|a_45|i_45|a_46|i_46=>k_is)
   (case F_0|F_1|F_2|F_3|F_4|F_5|F_6|F_7|F_8|F_9|F_10|F_11|F_12|F_13|F_14|F_15|F_16|F_17|F_18|F_19|F_20|F_21|F_22|F_23|F_24|F_25|F_26|F_27|F_28|F_29|F_30|F_31|F_32|F_33|F_34|F_35|F_36|F_37|F_38|F_39|F_40|F_41|F_42|F_43|F_44|F_45|F_46=>exact⟨_,L2.fun_mk (by k_is) (by k_is) (by k_is)⟩)
   (case pg_Way|hd_Way|po_Way|sa_Way|mk_Way|kc_Way|ha_Way|hm_Way|na_Way_own_parents|na_Way_own_bridges|pg_Web|hd_Web|po_Web|sa_Web|mk_Web|kc_Web|ha_Web|hm_Web|na_Web_own_hands|na_Web_own_lines|na_Web_near|hn|htk=>k_is)
   (case k_tint_tint|k_tint_tbool|k_tlist_tlist|k_ttuple_ttuple|k_ttuple_tlist|k_tdict_tlist|k_tdict_ttuple|k_tdict_tdict|k_tint_tlist|k_tint_ttuple|k_tint_tdict|k_tNoneType_tlist|k_tNoneType_ttuple|k_tNoneType_tdict|k_tNoneType_tint|k_tstr_tint|k_Way_Way=>kit_is)
   (case G_MOST_HANDS|G_LAST_HAND=>k_is)
  obtain⟨a,T⟩:=T
  have e0:=hmg.symm.trans T.g_qJ
  cases e0
  exact⟨_,T.b0_qJ,fun base kb nb=>K04.ok_law T⟩
 case S=>exact fun K H a ns hl hO hS=>K04.sp_law_of hl hO hS
 case C=>exact fun _ _ _ _ z=>z