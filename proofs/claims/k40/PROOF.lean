import PyProof.Rows.All
import Wide.All
import OpenK.AllK
import Wide.FinOn
import PySem.Challenge.RW_beatless_k40_one_hand_alone
import Lean
import PyProof.EqAt
import PyProof.EqKinds
import PyProof.TupleCall
import PyProof.ZipIter
import PyProof.WalksMore
import KE.KRevSl
import KE.KIntText
import KE.KRevIter
import PyProof.Draws
import PyProof.EnumFor
import PyProof.EnumStmt
import PyProof.AttrMissHeap
import PyProof.DictUpdate
import PyProof.DictValues
import KE.KDictList
import PyProof.DictItemsLoops
import PyProof.DictWalks
import PyProof.Rows.SetFrom
import PyProof.DictItems
import PyProof.Rows.SeqMore
set_option Elab.async false
set_option compiler.extract_closed false
set_option linter.all false
set_option maxRecDepth 100000
abbrev LI:=List Int
abbrev LP:=List (Int×Int)
namespace L2
open PySem PySem.Spec PyProof.Rows
structure Bx (p:Prop):Prop where
 of:p
abbrev Key:=Sum Int Str
def ww:Key→Value→Bool
 |.inl k,v=>Value.isInt k v
 |.inr x,v=>Value.isStrOf x v
def zHi (w:World):Key→Int
 |.inl k=>hashInt k
 |.inr x=>hashStr w x
theorem zF:∀ {k:Key}{v:Value},ww k v=true→(∃ i t,k=Sum.inl i∧v=Value.int i t)∨(∃ x t,k=Sum.inr x∧v=Value.str x t)
 |.inl i,v,h=>by
  obtain⟨t,e⟩:=Value.isInt_shape (k:=i) (v:=v) h
  exact .inl ⟨i,t,rfl,e⟩
 |.inr x,v,h=>by
  obtain⟨t,e⟩:=Value.isStrOf_shape (x:=x) (v:=v) h
  exact .inr ⟨x,t,rfl,e⟩
theorem Yg (i:Int) (t:Tok):ww (.inl i) (.int i t)=true:=by simp[ww,Value.isInt]
theorem Yf (x:Str) (t:Tok):ww (.inr x) (.str x t)=true:=by simp[ww,Value.isStrOf]
theorem zpj (a b:Int):decide ((Sum.inl a:Key)=Sum.inl b)=(a == b):=by
 by_cases e:a=b
 ·subst e;simp
 ·have h:¬ (Sum.inl a:Key)=Sum.inl b:=fun q=>e (Sum.inl.inj q)
  rw[decide_eq_false h]
  exact(beq_eq_false_iff_ne.mpr e).symm
theorem zpg (a b:Str):decide ((Sum.inr a:Key)=Sum.inr b)=decide (a=b):=by
 by_cases e:a=b
 ·subst e;simp
 ·have h:¬ (Sum.inr a:Key)=Sum.inr b:=fun q=>e (Sum.inr.inj q)
  rw[decide_eq_false h,decide_eq_false e]
theorem zpi (a:Int) (b:Str):decide ((Sum.inl a:Key)=Sum.inr b)=false:=decide_eq_false (fun q=>nomatch q)
theorem zph (a:Str) (b:Int):decide ((Sum.inr a:Key)=Sum.inl b)=false:=decide_eq_false (fun q=>nomatch q)
def zu (prog:Program) (w:World):PySem.KeyKind prog w Key where
 is:=ww
 hash:=zHi w
 inj:=fun v a b ha hb=>by
  rcases zF ha with⟨i,t,rfl,rfl⟩ | ⟨x,t,rfl,rfl⟩
  ·rcases zF hb with⟨j,u,rfl,e⟩ | ⟨y,u,rfl,e⟩
   ·injection e with e1 _;rw[e1]
   ·exact nomatch e
  ·rcases zF hb with⟨j,u,rfl,e⟩ | ⟨y,u,rfl,e⟩
   ·exact nomatch e
   ·injection e with e1 _;rw[e1]
 byValue:=fun k v h=>by
  rcases zF h with⟨i,t,rfl,rfl⟩ | ⟨x,t,rfl,rfl⟩<;>rfl
 pyHash:=fun hv h=>by
  rcases zF hv with⟨i,t,rfl,rfl⟩ | ⟨x,t,rfl,rfl⟩
  ·exact wpAny_pyHash_int h
  ·exact wpAny_pyHash_str h
 eqBool:=fun hu hv h=>by
  rcases zF hu with⟨i,t,rfl,rfl⟩ | ⟨x,t,rfl,rfl⟩
  ·rcases zF hv with⟨j,u,rfl,rfl⟩ | ⟨y,u,rfl,rfl⟩
   ·rw[zpj] at h;exact wpAny_eqBool_int h
   ·rw[zpi] at h;exact SeqAt.EqAt.int_str i t y u _ _ _ _ h
  ·rcases zF hv with⟨j,u,rfl,rfl⟩ | ⟨y,u,rfl,rfl⟩
   ·rw[zph] at h;exact SeqAt.EqAt.str_int x t j u _ _ _ _ h
   ·rw[zpg] at h;exact wpAny_eqBool_str h
 «strs»:=fun k x t v h=>by
  rcases zF h with⟨i,u,rfl,e⟩ | ⟨y,u,rfl,e⟩
  ·exact nomatch e
  ·injection e with e1 _
   subst e1
   cases v<;>rfl
theorem uG (prog:Program) (w:World) (k:Key) (v:Value):(zu prog w).is k v=ww k v:=rfl
theorem vD (prog:Program) (w:World) (i:Int) (t:Tok):(zu prog w).is (.inl i) (.int i t)=true:=Yg i t
theorem vC (prog:Program) (w:World) (x:Str) (t:Tok):(zu prog w).is (.inr x) (.str x t)=true:=Yf x t
inductive V where
 |non | bl (b:Bool) | int (i:Int) | str (x:Str) | byt (b:Array UInt8) | flt (b:UInt64) | ref (a:Addr) | ty (n:String)
 deriving DecidableEq
def RelV:V→Value→Prop
 |.non,u=>u=Value.none
 |.bl b,u=>u=Value.bool b
 |.int i,u=>∃ t,u=Value.int i t
 |.str x,u=>∃ t,u=Value.str x t
 |.byt b,u=>∃ t,u=Value.bytes b t
 |.flt b,u=>∃ t,u=Value.float b t
 |.ref a,u=>u=Value.ref a
 |.ty n,u=>u=Value.type n
abbrev Vals:List V→List Value→Prop:=Paired RelV
theorem Vals.length {xs:List V}{us:List Value}(r:Vals xs us):xs.length=us.length:=Paired.length r
theorem Vals.get:∀ {xs:List V}{us:List Value}{i:Nat}{x:V},Vals xs us→xs[i]?=some x→∃ u,us[i]?=some u∧RelV x u
 |_,_,_,_,.nil,e=>by simp at e
 |_,_,0,_,.cons r _,e=>by simp at e;subst e;exact⟨_,rfl,r⟩
 |_,_,i+1,x,.cons _ t,e=>by
  obtain⟨u,h1,h2⟩:=Vals.get (i:=i) (x:=x) t (by simpa using e)
  exact⟨u,by simpa using h1,h2⟩
theorem Vals.set {x:V}{u:Value}(r:RelV x u):∀ {xs:List V}{us:List Value}(i:Nat),Vals xs us→Vals (xs.set i x) (us.set i u)
 |_,_,_,.nil=>.nil
 |_,_,0,.cons _ t=>.cons r t
 |_,_,i+1,.cons q t=>.cons q (Vals.set r i t)
theorem Vals.append:∀ {xs ys:List V}{us ws:List Value},Vals xs us→Vals ys ws→Vals (xs++ys) (us++ws)
 |_,_,_,_,.nil,s=>s
 |_,_,_,_,.cons r t,s=>.cons r (Vals.append t s)
theorem Vals.take:∀ {xs:List V}{us:List Value}(n:Nat),Vals xs us→Vals (xs.take n) (us.take n)
 |_,_,0,_=>.nil
 |_,_,_+1,.nil=>.nil
 |_,_,n+1,.cons r t=>.cons r (Vals.take n t)
theorem Vals.drop:∀ {xs:List V}{us:List Value}(n:Nat),Vals xs us→Vals (xs.drop n) (us.drop n)
 |_,_,0,r=>r
 |_,_,_+1,.nil=>.nil
 |_,_,n+1,.cons _ t=>Vals.drop n t
def RelO:Option V→Option Value→Prop
 |some v,some u=>RelV v u
 |none,none=>True
 |_,_=>False
def KV {κ:Type}:List (κ×V)→List (κ×Value)→Prop:=Paired fun(p:κ×V) (q:κ×Value)=>p.1=q.1∧RelV p.2 q.2
def kV:Key→V
 |.inl i=>.int i
 |.inr x=>.str x
inductive HO where
 /-- a list -/
 |lst (xs:List V)
 /-- a tuple (never changes) -/
 |tup (xs:List V)
 /-- a dict whose keys are ints and texts;one whose keys are tuples of ints and texts (the empty one is both) -/
 |dK (kvs:List (Key×V)) | dT (kvs:List (List Key×V))
 /-- a set of ints: its members,its size -/
 |set (S:Int→Bool) (n:Nat)
 /-- an instance of the class at C,its dict at dx,its attributes -/
 |ins (C dx:Addr) (fs:List (Str×V))
 /-- the dict of the instance at x -/
 |own (x:Addr)
 /-- the dict of an exception -/
 |xd (fs:List (Str×V))
 /-- a bound method,f of x -/
 |met (f x:Addr)
 /-- a range object lo,lo+1,.. below hi -/
 |rng (lo hi:Int)
 /-- a thing that is known to the object (the script;a dict while a loop walks it): read,never written while it is so -/
 |frz (o:Obj) (u:HO)
 /-- a code object's table -/
 |tbl (ps:Array Value)
 /-- any other thing,by what is true of its one object (a def of one's own: SetO a S n:=HO.ext fun h=>..) -/
 |ext (φ:Heap→Prop)
abbrev Hp:=Addr→Option HO
def upd (H:Hp) (a:Addr) (o:HO):Hp:=fun b=>if b=a then some o else H b
theorem upd_same {H:Hp}{a:Addr}{o:HO}:upd H a o a=some o:=by unfold upd;rw[if_pos rfl]
theorem ze {H:Hp}{a b:Addr}{o:HO}(h:b≠a):upd H a o b=H b:=by unfold upd;rw[if_neg h]
theorem yn {H:Hp}{a:Addr}{o u:HO}:upd (upd H a o) a u=upd H a u:=by
 funext b;unfold upd;split<;>rfl
theorem zyw {H:Hp}{a b:Addr}{o u:HO}(h:H a=some o) (h':H b=some u) (d:o≠u):a≠b:=by
 intro e;subst e;rw[h] at h';exact d (Option.some.inj h')
theorem ne_of_none {H:Hp}{a b:Addr}{o:HO}(h:H a=some o) (h':H b=none):a≠b:=by
 intro e;subst e;rw[h] at h';cases h'
section
variable (P:Program) (w:World)
def ObjOk (H:Hp) (h:Heap) (a:Addr):HO→Prop
 |.lst xs=>xs.length≤sizeLine∧∃ (its:List Value) (n:Nat),Vals xs its∧h.get? a=some { cls:=.type "list",data:=.seq its.toArray n }
 |.tup xs=>xs.length≤sizeLine∧∃ its:List Value,Vals xs its∧IsTup h a its.toArray
 |.dK kvs=>kvs.length≤sizeLine∧(a == sysModules)=false∧∃ vs,KV kvs vs∧h.DictOf (zu P w) a vs
 |.dT kvs=>kvs.length≤sizeLine∧(a == sysModules)=false∧∃ xs:List (List Key×Addr×Value),
   Paired (fun(p:List Key×V) (q:List Key×Addr×Value)=>p.1=q.1∧H q.2.1=some (.tup (p.1.map kV))∧RelV p.2 q.2.2) kvs xs ∧
   ∃ o es ep,h.get? a=some o∧o.ExactDict∧o.data=.dict es ep∧es.toList=xs.map (entryOfKey (tupleKind (zu P w)))∧(xs.map (·.1)).Nodup
 |.set S n=>h.SetOf (intKind P w) a S n
 |.ins C dx fs=>H dx=some (.own a)∧fs.length≤1000∧dx≠a∧h.get? a=some (PySem.W.instObj C dx) ∧
   ∃ mA,h.Ns1 dx mA∧(∀ f,RelO (fs.lookup f) (mA f))∧PySem.Within mA (fs.map (·.1))
 |.own _=>∃ o,h.get? a=some o
 |.xd fs=>∃ mA,h.Ns1 a mA∧∀ f,RelO (fs.lookup f) (mA f)
 |.rng lo hi=>∃ t u v,h.get? a=some { cls:=.type "range",data:=.fields #[.int lo t,.int hi u,.int 1 v] }
 |.frz o u=>h.get? a=some o∧ObjOk H h a u
 |.tbl ps=>h.get? a=some { cls:=.none,data:=.fields ps }
 |.met f x=>h.get? a=some (PySem.W.methodObj (.ref f) (.ref x))
 |.ext φ=>φ h∧(∃ o,h.get? a=some o)∧∀ h1 h2:Heap,φ h1→(∀ o,h1.get? a=some o→h2.get? a=some o)→φ h2
def HOk (H:Hp) (h:Heap):Prop:=∀ a o,H a=some o→ObjOk P w H h a o
end
section
variable {P:Program}{w:World}{H H':Hp}{h h':Heap}{a:Addr}{o:HO}
theorem ObjOk.lt (x:ObjOk P w H h a o):a<h.objs.size:=by
 cases o with
 |lst xs=>obtain⟨_,_,_,_,e⟩:=x;exact Heap.lt_size e
 |tup xs=>obtain⟨_,_,_,p⟩:=x;exact p.lt
 |dK kvs=>obtain⟨_,_,_,_,o,_,_,e,_⟩:=x;exact Heap.lt_size e
 |dT kvs=>obtain⟨_,_,_,_,o,_,_,e,_⟩:=x;exact Heap.lt_size e
 |set S n=>obtain⟨o,_,_,_,e,_⟩:=x;exact Heap.lt_size e
 |ins C dx fs=>obtain⟨_,_,_,e,_⟩:=x;exact Heap.lt_size e
 |own y=>obtain⟨_,e⟩:=x;exact Heap.lt_size e
 |xd fs=>obtain⟨_,⟨_,_,_,e,_⟩,_⟩:=x;exact Heap.lt_size e
 |rng lo hi=>obtain⟨_,_,_,e⟩:=x;exact Heap.lt_size e
 |frz ob u=>obtain⟨e,_⟩:=x;exact Heap.lt_size e
 |tbl ps=>exact Heap.lt_size (show h.get? a=some _ from x)
 |met f y=>exact Heap.lt_size (show h.get? a=some _ from x)
 |ext φ=>obtain⟨_,⟨_,e⟩,_⟩:=x;exact Heap.lt_size e
theorem Paired.mapP {α β:Type}{F G:α→β→Prop}:∀ {l₁:List α}{l₂:List β},Paired F l₁ l₂→(∀ a b,F a b→G a b)→Paired G l₁ l₂
 |_,_,.nil,_=>.nil
 |_,_,.cons r t,f=>.cons (f _ _ r) (Paired.mapP t f)
theorem ObjOk.stay (x:ObjOk P w H h a o) (k:∀ b u,(b=a∨H b=some (.own a))→h.get? b=some u→h'.get? b=some u)
  (ho:∀ b,H b=some (.own a)→H' b=some (.own a)) (ht:∀ b xs,H b=some (.tup xs)→H' b=some (.tup xs)):ObjOk P w H' h' a o:=by
 induction o with
 |lst xs=>obtain⟨z,its,n,r,e⟩:=x;exact⟨z,its,n,r,k _ _ (.inl rfl) e⟩
 |tup xs=>obtain⟨z,its,r,ob,e,c⟩:=x;exact⟨z,its,r,ob,k _ _ (.inl rfl) e,c⟩
 |dK kvs=>obtain⟨z,y,vs,r,ob,es,ep,e,c⟩:=x;exact⟨z,y,vs,r,ob,es,ep,k _ _ (.inl rfl) e,c⟩
 |dT kvs =>
  obtain⟨z,y,xs,r,ob,es,ep,e,c⟩:=x
  exact⟨z,y,xs,Paired.mapP r fun p q z=>⟨z.1,ht _ _ z.2.1,z.2.2⟩,ob,es,ep,k _ _ (.inl rfl) e,c⟩
 |set S n=>obtain⟨ob,es,ep,t,e,c⟩:=x;exact⟨ob,es,ep,t,k _ _ (.inl rfl) e,c⟩
 |ins C dx fs =>
  obtain⟨d,z,ne,e,mA,⟨od,es,ep,e2,c⟩,r⟩:=x
  exact⟨ho _ d,z,ne,k _ _ (.inl rfl) e,mA,⟨od,es,ep,k _ _ (.inr d) e2,c⟩,r⟩
 |own y=>obtain⟨ob,e⟩:=x;exact⟨ob,k _ _ (.inl rfl) e⟩
 |xd fs=>obtain⟨mA,⟨od,es,ep,e,c⟩,r⟩:=x;exact⟨mA,⟨od,es,ep,k _ _ (.inl rfl) e,c⟩,r⟩
 |rng lo hi=>obtain⟨t,u,v,e⟩:=x;exact⟨t,u,v,k _ _ (.inl rfl) e⟩
 |frz ob u ih=>obtain⟨e,q⟩:=x;exact⟨k _ _ (.inl rfl) e,ih q⟩
 |tbl ps =>
  have e:h.get? a=some { cls:=.none,data:=.fields ps }:=x
  show h'.get? a=some { cls:=.none,data:=.fields ps }
  exact k a _ (.inl rfl) e
 |met f y =>
  have e:h.get? a=some (PySem.W.methodObj (.ref f) (.ref y)):=x
  show h'.get? a=some (PySem.W.methodObj (.ref f) (.ref y))
  exact k a _ (.inl rfl) e
 |ext φ=>obtain⟨p,⟨o,e⟩,st⟩:=x;exact⟨st _ _ p fun o q=>k _ _ (.inl rfl) q,⟨o,k _ _ (.inl rfl) e⟩,st⟩
theorem HOk.lt (x:HOk P w H h) (e:H a=some o):a<h.objs.size:=(x a o e).lt
theorem HOk.fresh (x:HOk P w H h) (e:h.objs.size≤a):H a=none:=by
 cases q:H a with
 |none=>rfl
 |some u=>exact absurd (Nat.lt_of_lt_of_le (x.lt q) e) (Nat.lt_irrefl _)
theorem HOk.kept (x:HOk P w H h) (k:∀ b u,h.get? b=some u→h'.get? b=some u):HOk P w H h':=fun a o e =>
 (x a o e).stay (fun b u _ q=>k b u q) (fun _ q=>q) fun _ _ q=>q
theorem HOk.laid (x:HOk P w H h) (k:∀ b u,h.get? b=some u→h'.get? b=some u) (hp:h.objs.size≤a) (new:ObjOk P w (upd H a o) h' a o):HOk P w (upd H a o) h':=fun b u e=>by
 have hn:=x.fresh hp
 by_cases hb:b=a
 ·subst hb;rw[upd_same] at e;cases e;exact new
 ·rw[ze hb] at e
  exact(x b u e).stay (fun c v _ q=>k c v q) (fun c q=>by rw[ze (ne_of_none q hn)];exact q) fun c xs q=>by rw[ze (ne_of_none q hn)];exact q
end
def Rd (H:Hp) (a:Addr) (u:HO):Prop:=H a=some u∨∃ o,H a=some (.frz o u)
theorem Rd.ok {P:Program}{w:World}{H:Hp}{h:Heap}{a:Addr}{u:HO}(r:Rd H a u) (x:HOk P w H h):ObjOk P w H h a u:=by
 rcases r with r | ⟨o,r⟩
 ·exact x a u r
 ·obtain⟨_,q⟩:=x a _ r
  exact q
def Mut:Option HO→Prop
 |some (.lst _)=>True
 |some (.dK _)=>True
 |some (.dT _)=>True
 |some (.set _ _)=>True
 |some (.ins _ _ _)=>True
 |some (.ext _)=>True
 |_=>False
section
variable {P:Program}{w:World}{H:Hp}{h h':Heap}{x e:Addr}{o':HO}
theorem HOk.write (ok:HOk P w H h) (mu:Mut (H x)) (he:e=x∨H e=some (.own x)) (k:∀ b u,b≠e→h.get? b=some u→h'.get? b=some u) (heo:∃ u,h'.get? e=some u)
  (new:ObjOk P w (upd H x o') h' x o'):HOk P w (upd H x o') h':=fun b u q=>by
 have nown:∀ c y,H c=some (.own y)→c≠x:=fun c y r z=>by subst z;rw[r] at mu;exact mu
 have ntup:∀ c xs,H c=some (.tup xs)→c≠x:=fun c xs r z=>by subst z;rw[r] at mu;exact mu
 by_cases hb:b=x
 ·subst hb;rw[upd_same] at q;cases q;exact new
 ·rw[ze hb] at q
  by_cases hbe:b=e
  ·have q':H b=some (.own x):=by
    rcases he with z | z
    ·exact absurd (hbe.trans z) hb
    ·rw[hbe];exact z
   rw[q] at q';cases q'
   obtain⟨v,hv⟩:=heo
   exact⟨v,by rw[hbe];exact hv⟩
  ·refine(ok b u q).stay (fun c v hc r=>k c v ?_ r) (fun c r=>by rw[ze (nown c b r)];exact r) fun c xs r=>by rw[ze (ntup c xs r)];exact r
   rcases hc with rfl | hc
   ·exact hbe
   ·rintro rfl
    rcases he with z | z
    ·exact nown c b hc z
    ·rw[hc] at z;cases z;exact hb rfl
end
structure Un (fs ex:List Addr) (H H':Hp) (h h':Heap):Prop where
 keep:∀ b o,h.get? b=some o→H b=none→b∉fs→b∉ex→h'.get? b=some o
 slot:∀ b o,h.get? b=some o→H b=none→b∈fs→b∉ex→∃ sl,h'.get? b=some { o with slots:=sl }
 free:∀ b o,h.get? b=some o→H b=none→b∉ex→H' b=none
 there:∀ b o,h.get? b=some o→b∉ex→∃ o',h'.get? b=some o'
 tups:∀ b xs,H b=some (.tup xs)→H' b=some (.tup xs)
 frzs:∀ b o u,H b=some (.frz o u)→H' b=some (.frz o u)
 tbls:∀ b ps,H b=some (.tbl ps)→∃ more,H' b=some (.tbl (ps++more))
section
variable {fs fs' ex ex':List Addr}{H H1 H2:Hp}{h h1 h2 h':Heap}{a x e:Addr}{o:HO}
theorem Un.any (u:Un fs ex H H1 h h1){b:Addr}{ob:Obj}(q:h.get? b=some ob) (n:H b=none) (hx:b∉ex):∃ sl,h1.get? b=some { ob with slots:=sl }:=by
 by_cases hb:b∈fs
 ·exact u.slot b ob q n hb hx
 ·exact⟨ob.slots,u.keep b ob q n hb hx⟩
theorem Un.kept (k:∀ b u,h.get? b=some u→h'.get? b=some u):Un fs ex H H h h' :=
 ⟨fun b ob q _ _ _=>k b ob q,fun b ob q _ _ _=>⟨ob.slots,k b ob q⟩,fun _ _ _ n _=>n,fun b ob q _=>⟨ob,k b ob q⟩,fun _ _ q=>q,fun _ _ _ q=>q,fun _ ps q=>⟨#[],by rw[q];simp⟩⟩
theorem Un.refl:Un fs ex H H h h:=Un.kept fun _ _ q=>q
theorem Un.laid (k:∀ b u,h.get? b=some u→h'.get? b=some u) (hp:h.objs.size≤a) (hn:H a=none):Un fs ex H (upd H a o) h h' where
 keep:=fun b u q _ _ _=>k b u q
 slot:=fun b u q _ _ _=>⟨u.slots,k b u q⟩
 free:=fun b u q n _=>by rw[ze (Nat.ne_of_lt (Nat.lt_of_lt_of_le (Heap.lt_size q) hp))];exact n
 there:=fun b u q _=>⟨u,k b u q⟩
 tups:=fun b xs q=>by rw[ze (ne_of_none q hn)];exact q
 frzs:=fun b u xs q=>by rw[ze (ne_of_none q hn)];exact q
 tbls:=fun b ps q=>⟨#[],by rw[ze (ne_of_none q hn),q];simp⟩
theorem Un.write (mu:Mut (H x)) (he:e=x∨H e=some (.own x)) (k:∀ b u,b≠e→h.get? b=some u→h'.get? b=some u) (heo:∃ u,h'.get? e=some u):Un fs ex H (upd H x o) h h':=by
 have hx:∀ b,H b=none→b≠x:=fun b n z=>by subst z;rw[n] at mu;exact mu
 have hb:∀ b,H b=none→b≠e:=fun b n z=>by
  subst z
  rcases he with r | r
  ·exact hx b n r
  ·rw[n] at r;cases r
 have hm:∀ b u,H b=some u→¬ Mut (some u)→b≠x:=fun b u q nm z=>by subst z;rw[q] at mu;exact nm mu
 refine⟨fun b u q n _ _=>k b u (hb b n) q,fun b u q n _ _=>⟨u.slots,k b u (hb b n) q⟩,fun b u q n _=>by rw[ze (hx b n)];exact n,fun b u q _=>?_,
  fun b xs q=>by rw[ze (hm b _ q fun z=>z)];exact q,fun b u xs q=>by rw[ze (hm b _ q fun z=>z)];exact q,fun b ps q=>⟨#[],by rw[ze (hm b _ q fun z=>z),q];simp⟩⟩
 by_cases hbe:b=e
 ·subst hbe;exact heo
 ·exact⟨u,k b u hbe q⟩
end
def trk (h:Heap) (H:Hp):List Addr:=(List.range h.objs.size).filter fun a=>(H a).isSome
def XN (h:Heap) (H:Hp):Heap:=PySem.W.hideAll h (trk h H)
theorem Yn (h:Heap) (H:Hp):(XN h H).objs.size=h.objs.size:=PySem.W.hideAll_size _ _
theorem XM {h:Heap}{H:Hp}{b:Addr}{o:Obj}(e:h.get? b=some o) (n:H b=none):(XN h H).get? b=some o :=
 PySem.W.hideAll_get _ e fun hm=>by
  have q:(H b).isSome=true:=(List.mem_filter.mp hm).2
  rw[n] at q;simp at q
theorem UM {h:Heap}{H:Hp}{b:Addr}{o:Obj}(e:(XN h H).get? b=some o):h.get? b=some o∧H b=none:=by
 have e':h.get? b=some o:=PySem.W.of_hideAll (trk h H) e
 refine⟨e',?_⟩
 cases q:H b with
 |none=>rfl
 |some x =>
  have hm:b∈trk h H:=List.mem_filter.mpr ⟨List.mem_range.mpr (Heap.lt_size e'),by simp[q]⟩
  have z:(XN h H).get? b=none:=PySem.W.hideAll_none (trk h H) hm
  rw[z] at e;cases e
structure Mod (K:PySem.W.Frag) (mg:Str→Option Value) (base:Heap):Prop where
 kin:K.In base
 glob:base.Ns mainGlobals mg
 blt:∃ mb,base.Ns builtinsNs mb∧∀ x:Str,x ≠ "__name__" → mb x=bootBuiltins x
 nolimit:base.NoLimit
structure Cx where
 prog:Program
 w:World
 K:PySem.W.Frag
 mg:Str→Option Value
 base:Heap
 A:Around
 N:List Str
 s₀:Shared
 H₀:Hp
 env:Env
 outer:List Env
 stack:List Env
 ex:List Addr
 fn:Str→Bool
 calm:Bool
 pn:List (Addr×Obj)
 xe:Value→Shared→Prop
def frs (l:List Env):List Addr:=l.filterMap (·.frame)
abbrev Cx.fs (X:Cx):List Addr:=frs X.outer
def Vis (sc:Scope) (x:Str):Prop:=sc.names.lookup x=some .local∨sc.names.lookup x=some .cell∨sc.names.lookup x=some .free
def Loc (sc:Scope) (x:Str):Prop:=sc.names.lookup x=some .local∨sc.names.lookup x=some .cell
def zHu (env:Env) (h:Heap) (m:Str→Option Value) (x:Str) (u:Value):Prop :=
 (env.kindOf x=some .local∧m x=some u)∨((env.kindOf x=some .cell∨env.kindOf x=some .free)∧∃ c,env.cells.lookup x=some c∧h.IsCell c (some u))
structure Cx.Ok (X:Cx):Prop where
 mod:Mod X.K X.mg X.base
 kind:X.env.scope.kind=.function
 glob:X.env.globals=mainGlobals
 blt:X.env.builtins=builtinsNs
 above:X.s₀.heap.objs.size≤X.env.locals
 inj:∀ x y c,X.env.cells.lookup x=some c→X.env.cells.lookup y=some c→x=y
 has:∀ x,(X.env.kindOf x=some .cell∨X.env.kindOf x=some .free)→∃ c,X.env.cells.lookup x=some c
 cab:∀ x c,X.fn x=true→X.env.cells.lookup x=some c→X.s₀.heap.objs.size≤c
 hd:X.calm=true→X.A.handled=none
 frames:X.A.frames=some X.stack
 stk:X.stack=X.outer∨(X.stack=X.env::X.outer∧X.env.frame=some X.env.locals)
 exf:∀ b∈X.ex,b≠X.env.locals∧∀ x c,X.env.cells.lookup x=some c→c≠b
 bs:∀ b o,X.base.get? b=some o→X.s₀.heap.get? b=some o∧X.H₀ b=none
 bsz:X.base.objs.size≤X.s₀.heap.objs.size
 noex:∀ b o,X.base.get? b=some o→b∉X.ex
 exfs:∀ b∈X.ex,b∉X.fs
 funs:X.s₀.heap.FunFrames X.base X.outer
 frf:∀ b∈X.fs,X.H₀ b=none
structure Inv (X:Cx) (pins:List (Addr×Obj)) (σ:List (Option V)) (H:Hp) (s:Shared):Prop where
 ok:X.Ok
 os:s.os=X.s₀.os
 bare:AllBare s.gens
 base:Un X.fs X.ex X.H₀ H X.s₀.heap s.heap
 loc:∃ m,s.heap.Ns X.env.locals m∧∀ (i:Nat) (x:Str) (v:V),X.N[i]?=some x→σ[i]?=some (some v)→Vis X.env.scope x→∃ u,RelV v u∧zHu X.env s.heap m x u
 cell:∀ x c,X.env.cells.lookup x=some c→∃ v,s.heap.IsCell c v
 free:H X.env.locals=none
 freeC:∀ x c,X.env.cells.lookup x=some c→H c=none
 pin:∀ p∈X.pn++pins,s.heap.get? p.1=some p.2∧H p.1=none∧p.1≠X.env.locals∧p.1∉X.fs∧∀ v,p.2.data≠.cell v
 hok:HOk X.prog X.w H s.heap
 len:σ.length=X.N.length
section
variable {X:Cx}{pins:List (Addr×Obj)}{σ:List (Option V)}{H H':Hp}{s:Shared}{h':Heap}
theorem Cx.Ok.nofr (ok:X.Ok){b:Addr}{o:Obj}(e:X.base.get? b=some o):b∉X.fs:=fun hb=>by
 have:=(ok.funs.mem hb).1
 rw[e] at this;cases this
theorem Inv.bs (I:Inv X pins σ H s):∀ b o,X.base.get? b=some o→s.heap.get? b=some o∧H b=none:=fun b o e =>
 ⟨I.base.keep b o (I.ok.bs b o e).1 (I.ok.bs b o e).2 (I.ok.nofr e) (I.ok.noex b o e),I.base.free b o (I.ok.bs b o e).1 (I.ok.bs b o e).2 (I.ok.noex b o e)⟩
theorem Inv.bk (I:Inv X pins σ H s):∀ b o,X.base.get? b=some o→s.heap.get? b=some o:=fun b o e=>(I.bs b o e).1
theorem Inv.mod (I:Inv X pins σ H s):Mod X.K X.mg X.base:=I.ok.mod
theorem Inv.kIn (I:Inv X pins σ H s):X.K.In s.heap:=I.ok.mod.kin.keeps I.bk
theorem Inv.lt (I:Inv X pins σ H s):X.env.locals<s.heap.objs.size:=let ⟨_,hn,_⟩:=I.loc;hn.lt
theorem Inv.sz (I:Inv X pins σ H s):X.s₀.heap.objs.size≤s.heap.objs.size:=Nat.le_trans I.ok.above (Nat.le_of_lt I.lt)
theorem Inv.nofs (I:Inv X pins σ H s){a:Addr}(h:s.heap.objs.size≤a):a∉X.fs:=fun hb=>by
 obtain⟨_,o,ho,_⟩:=I.ok.funs.mem hb
 exact absurd (Nat.lt_of_lt_of_le (Heap.lt_size ho) (Nat.le_trans I.sz h)) (Nat.lt_irrefl _)
theorem Inv.cne (I:Inv X pins σ H s):∀ x c,X.env.cells.lookup x=some c→c≠X.env.locals:=fun x c e z=>by
 obtain⟨v,o,ho,hd⟩:=I.cell x c e
 obtain⟨m,⟨o',es,ep,ho',hd',_⟩,_⟩:=I.loc
 rw[z,ho'] at ho;cases ho;rw[hd'] at hd;cases hd
theorem Inv.funs (I:Inv X pins σ H s):s.heap.FunFrames X.base X.outer:=by
 have all:∀ (l:List Env),(∀ b∈frs l,b∈X.fs)→X.s₀.heap.FunFrames X.base l→s.heap.FunFrames X.base l:=by
  intro l
  induction l with
  |nil=>intro _ _;trivial
  |cons env r ih =>
   intro hs hl
   obtain⟨hk,⟨L,o,hf,hn,ho,hd⟩,hr⟩:=hl
   have hL:L∈X.fs:=hs L (by unfold frs;rw[List.filterMap_cons,hf];exact List.mem_cons_self)
   obtain⟨sl,e⟩:=I.base.slot L o ho (I.ok.frf L hL) hL fun z=>I.ok.exfs L z hL
   exact⟨hk,⟨L,_,hf,hn,e,hd⟩,ih (fun b hb=>hs b (by unfold frs;rw[List.filterMap_cons,hf];exact List.mem_cons_of_mem _ hb)) hr⟩
 exact all X.outer (fun _ hb=>hb) I.ok.funs
theorem Inv.stack (I:Inv X pins σ H s):s.heap.FunFrames X.base X.stack:=by
 rcases I.ok.stk with e | ⟨e,hf⟩
 ·rw[e];exact I.funs
 ·rw[e]
  obtain⟨m,hn,_⟩:=I.loc
  refine .cons (by rw[I.ok.kind];decide) hf hn ?_ I.funs
  exact Heap.get?_none_of_le (Nat.le_trans I.ok.bsz I.ok.above)
theorem Inv.stkSub (I:Inv X pins σ H s):∀ b∈frs X.stack,b∈X.env.locals::X.fs:=fun b hb=>by
 rcases I.ok.stk with e | ⟨e,hf⟩
 ·rw[e] at hb;exact List.mem_cons_of_mem _ hb
 ·rw[e] at hb
  unfold frs at hb
  rw[List.filterMap_cons,hf] at hb
  exact hb
theorem Inv.stkFree (I:Inv X pins σ H s):∀ b∈frs X.stack,H b=none:=fun b hb=>by
 rcases List.mem_cons.mp (I.stkSub b hb) with e | hb
 ·rw[e];exact I.free
 ·obtain⟨_,o,ho,_⟩:=I.ok.funs.mem hb
  exact I.base.free b o ho (I.ok.frf b hb) fun z=>I.ok.exfs b z hb
theorem Inv.step {g':Array GenState}{t':Nat}{d':Drawn}{ch:List Addr}(I:Inv X pins σ H s)
  (hch:∀ b∈ch,(b∈X.ex∨X.s₀.heap.objs.size≤b)∧b≠X.env.locals∧(∀ x c,X.env.cells.lookup x=some c→c≠b)∧∀ p∈X.pn++pins,p.1≠b)
  (keep:∀ b o,b≠X.env.locals→b∉X.fs→b∉ch→s.heap.get? b=some o→H b=none→h'.get? b=some o)
  (slot:∀ b o,b≠X.env.locals→b∈X.fs→b∉ch→s.heap.get? b=some o→H b=none→∃ sl,h'.get? b=some { o with slots:=sl }) (free:∀ b o,b∉ch→s.heap.get? b=some o→H b=none→H' b=none)
  (there:∀ b o,b∉ch→s.heap.get? b=some o→∃ o',h'.get? b=some o')
  (tups:∀ b xs,H b=some (.tup xs)→H' b=some (.tup xs)) (frzs:∀ b o u,H b=some (.frz o u)→H' b=some (.frz o u)) (tbls:∀ b ps,H b=some (.tbl ps)→∃ more,H' b=some (.tbl (ps++more)))
  (ns:∀ m,s.heap.Ns X.env.locals m→h'.Ns X.env.locals m) (hok:HOk X.prog X.w H' h') (hg:AllBare g') :
  Inv X pins σ H' { s with heap:=h',gens:=g',drawn:=d',toks:=t' }:=by
 have neL:∀ b o,X.s₀.heap.get? b=some o→b≠X.env.locals:=fun b o e=>Nat.ne_of_lt (Nat.lt_of_lt_of_le (Heap.lt_size e) I.ok.above)
 have neC:∀ b o,X.s₀.heap.get? b=some o→b∉X.ex→b∉ch:=fun b o e hx hb=>by
  rcases(hch b hb).1 with z | z
  ·exact hx z
  ·exact absurd (Nat.lt_of_lt_of_le (Heap.lt_size e) z) (Nat.lt_irrefl _)
 have cellK:∀ x c,X.env.cells.lookup x=some c→∀ v,s.heap.IsCell c v→h'.IsCell c v:=fun x c e v ⟨o,ho,hd⟩=>by
  have nch:c∉ch:=fun z=>(hch c z).2.2.1 x c e rfl
  by_cases hc:c∈X.fs
  ·obtain⟨sl,q⟩:=slot c o (I.cne x c e) hc nch ho (I.freeC x c e)
   exact⟨_,q,hd⟩
  ·exact⟨o,keep c o (I.cne x c e) hc nch ho (I.freeC x c e),hd⟩
 refine⟨I.ok,I.os,hg,⟨fun b o e n hb hx=>?_,fun b o e n hb hx=>?_,fun b o e n hx=>?_,fun b o e hx=>?_,fun b xs e=>tups b xs (I.base.tups b xs e),fun b o xs e=>frzs b o xs (I.base.frzs b o xs e),fun b ps e=>?_⟩,?_,fun x c e=>?_,?_,fun x c e=>?_,fun p hp=>?_,hok,I.len⟩
 ·exact keep b o (neL b o e) hb (neC b o e hx) (I.base.keep b o e n hb hx) (I.base.free b o e n hx)
 ·obtain⟨sl,e1⟩:=I.base.slot b o e n hb hx
  obtain⟨sl',e2⟩:=slot b _ (neL b o e) hb (neC b o e hx) e1 (I.base.free b o e n hx)
  exact⟨sl',e2⟩
 ·obtain⟨o',e1⟩:=I.base.there b o e hx
  exact free b o' (neC b o e hx) e1 (I.base.free b o e n hx)
 ·obtain⟨o',e1⟩:=I.base.there b o e hx
  exact there b o' (neC b o e hx) e1
 ·obtain⟨m1,e1⟩:=I.base.tbls b ps e
  obtain⟨m2,e2⟩:=tbls b _ e1
  exact⟨m1++m2,by rw[e2,Array.append_assoc]⟩
 ·obtain⟨m,hn,hl⟩:=I.loc
  refine⟨m,ns m hn,fun i x v e1 e2 e3=>?_⟩
  obtain⟨u,r,l⟩:=hl i x v e1 e2 e3
  refine⟨u,r,?_⟩
  rcases l with l | ⟨k,c,e,z⟩
  ·exact .inl l
  ·exact .inr ⟨k,c,e,cellK x c e _ z⟩
 ·obtain⟨v,z⟩:=I.cell x c e
  exact⟨v,cellK x c e v z⟩
 ·obtain⟨m,⟨o,_,_,ho,_⟩,_⟩:=I.loc
  exact free _ o (fun z=>(hch _ z).2.1 rfl) ho I.free
 ·obtain⟨v,o,ho,hd⟩:=I.cell x c e
  exact free c o (fun z=>(hch c z).2.2.1 x c e rfl) ho (I.freeC x c e)
 ·obtain⟨e,n,ne,nf,d⟩:=I.pin p hp
  have nch:p.1∉ch:=fun z=>(hch p.1 z).2.2.2 p hp rfl
  exact⟨keep p.1 p.2 ne nf nch e n,free p.1 p.2 nch e n,ne,nf,d⟩
theorem Inv.un {t':Nat}(I:Inv X pins σ H s) (u:Un X.fs [] H H' s.heap h') (hok:HOk X.prog X.w H' h'):Inv X pins σ H' { s with heap:=h',toks:=t' }:=by
 obtain⟨m,⟨o,es,ep,ho,r⟩,_⟩:=id I.loc
 obtain⟨sl,hL⟩:=u.any ho I.free (by simp)
 exact I.step (g':=s.gens) (d':=s.drawn) (ch:=[]) (fun _ z=>nomatch z) (fun b o _ hb _ e n=>u.keep b o e n hb (by simp)) (fun b o _ hb _ e n=>u.slot b o e n hb (by simp)) (fun b o _ e n=>u.free b o e n (by simp)) (fun b o _ e=>u.there b o e (by simp)) u.tups u.frzs u.tbls (fun m' hm=>by
  obtain⟨o',es',ep',ho',r'⟩:=hm
  rw[ho] at ho';cases ho'
  exact⟨_,es',ep',hL,r'⟩) hok I.bare
theorem Inv.call {g':Array GenState}{t':Nat}{d':Drawn}{ch:List Addr}(I:Inv X pins σ H s) (u:Un (frs X.stack) ch H H' s.heap h') (hok:HOk X.prog X.w H' h') (hg:AllBare g')
  (hch:∀ b∈ch,(b∈X.ex∨X.s₀.heap.objs.size≤b)∧b≠X.env.locals∧(∀ x c,X.env.cells.lookup x=some c→c≠b)∧∀ p∈X.pn++pins,p.1≠b) :
  Inv X pins σ H' { s with heap:=h',gens:=g',drawn:=d',toks:=t' }:=by
 obtain⟨m,⟨o,es,ep,ho,r⟩,_⟩:=id I.loc
 obtain⟨sl,hL⟩:=u.any ho I.free fun z=>(hch _ z).2.1 rfl
 exact I.step (ch:=ch) hch (fun b o hL hb hc e n=>u.keep b o e n (fun z=>(List.mem_cons.mp (I.stkSub b z)).elim hL hb) hc) (fun b o _ _ hc e n=>u.any e n hc) (fun b o hc e n=>u.free b o e n hc) (fun b o hc e=>u.there b o e hc) u.tups u.frzs u.tbls (fun m' hm=>by
  obtain⟨o',es',ep',ho',r'⟩:=hm
  rw[ho] at ho';cases ho'
  exact⟨_,es',ep',hL,r'⟩) hok hg
theorem Inv.turned {t':Nat}{it:Addr}(I:Inv X pins σ H s) (k:∀ b o,b≠it→s.heap.get? b=some o→h'.get? b=some o) (hn:H it=none) (hL:it≠X.env.locals)
  (h1:it∈X.ex∨X.s₀.heap.objs.size≤it) (h2:∀ x c,X.env.cells.lookup x=some c→c≠it) (h3:∀ p∈X.pn++pins,p.1≠it):Inv X pins σ H { s with heap:=h',toks:=t' }:=by
 have nit:∀ b u,H b=some u→b≠it:=fun b u e z=>by rw[z,hn] at e;cases e
 refine I.step (g':=s.gens) (d':=s.drawn) (ch:=[it]) (fun b hb=>?_) (fun b o _ _ hc e _=>k b o (fun z=>hc (by simp[z])) e) (fun b o _ _ hc e _=>⟨o.slots,k b o (fun z=>hc (by simp[z])) e⟩) (fun _ _ _ _ n=>n)
  (fun b o hc e=>⟨o,k b o (fun z=>hc (by simp[z])) e⟩) (fun _ _ e=>e) (fun _ _ _ e=>e) (fun b ps e=>⟨#[],by rw[e];simp⟩) (fun m hm=>?_) (fun b u e=>?_) I.bare
 ·have e:b=it:=by simpa using hb
  subst e
  exact⟨h1,hL,h2,h3⟩
 ·obtain⟨o,es,ep,ho,r⟩:=hm
  exact⟨o,es,ep,k _ o (Ne.symm hL) ho,r⟩
 ·refine(I.hok b u e).stay (fun c v hc q=>k c v ?_ q) (fun _ q=>q) fun _ _ q=>q
  rcases hc with z | z
  ·rw[z];exact nit b u e
  ·exact nit c _ z
theorem Inv.tok (I:Inv X pins σ H s) (t:Nat):Inv X pins σ H { s with toks:=t }:=I.un (h':=s.heap) (t':=t) Un.refl I.hok
theorem Inv.kept {t':Nat}(I:Inv X pins σ H s) (k:∀ b u,s.heap.get? b=some u→h'.get? b=some u):Inv X pins σ H { s with heap:=h',toks:=t' }:=I.un (Un.kept k) (I.hok.kept k)
theorem Inv.laid {a:Addr}{o:HO}{t':Nat}(I:Inv X pins σ H s) (k:∀ b u,s.heap.get? b=some u→h'.get? b=some u) (hp:s.heap.objs.size≤a) (new:ObjOk X.prog X.w (upd H a o) h' a o) :
  Inv X pins σ (upd H a o) { s with heap:=h',toks:=t' }:=I.un (Un.laid k hp (I.hok.fresh hp)) (I.hok.laid k hp new)
theorem Inv.write {x e:Addr}{o:HO}{t':Nat}(I:Inv X pins σ H s) (mu:Mut (H x)) (he:e=x∨H e=some (.own x)) (k:∀ b u,b≠e→s.heap.get? b=some u→h'.get? b=some u) (heo:∃ u,h'.get? e=some u)
  (new:ObjOk X.prog X.w (upd H x o) h' x o):Inv X pins σ (upd H x o) { s with heap:=h',toks:=t' }:=I.un (Un.write mu he k heo) (I.hok.write mu he k heo new)
theorem Inv.pins_of {pins':List (Addr×Obj)}(I:Inv X pins σ H s) (h:∀ p∈pins',s.heap.get? p.1=some p.2∧H p.1=none∧p.1≠X.env.locals∧p.1∉X.fs∧∀ v,p.2.data≠.cell v):Inv X pins' σ H s :=
 ⟨I.ok,I.os,I.bare,I.base,I.loc,I.cell,I.free,I.freeC,fun p hp=>(List.mem_append.mp hp).elim (fun z=>I.pin p (List.mem_append_left _ z)) (h p),I.hok,I.len⟩
theorem nodup_ix {N:List Str}(hN:N.Nodup){i j:Nat}{x:Str}(a:N[i]?=some x) (b:N[j]?=some x):i=j:=by
 obtain⟨h1,e1⟩:=List.getElem?_eq_some_iff.mp a
 obtain⟨h2,e2⟩:=List.getElem?_eq_some_iff.mp b
 exact(List.getElem_inj hN).mp (e1.trans e2.symm)
theorem wL {M:Model}{A:Around}{E:Value→Shared→Prop}{i:Nat}{x:Str}{v:V}{u:Value}{Q:Unit→Shared→Prop}(I:Inv X pins σ H s) (hN:X.N.Nodup) (hi:X.N[i]?=some x) (hx:Loc X.env.scope x) (r:RelV v u)
  (h:∀ s',Inv X pins (σ.set i (some v)) H s'→(∃ a,Heap.SameBut a s.heap s'.heap∧(a=X.env.locals∨X.env.cells.lookup x=some a))→Q () s') (hf:X.fn x=true∨X.env.scope.names.lookup x=some .local:=by first | exact .inl rfl | exact .inr rfl | assumption):wpAny M A (storeName X.env x u) Q E s:=by
 obtain⟨m,hn,hl⟩:=id I.loc
 have hcls:(X.env.scope.kind == .class||(X.env.scope.kind == .module&&X.env.locals != X.env.globals))=false:=by rw[I.ok.kind];rfl
 have hiσ:i<σ.length:=by rw[I.len];exact(List.getElem?_eq_some_iff.mp hi).1
 have cne:=I.cne
 have tracked:∀ {a:Addr}{h':Heap},(∃ o,s.heap.get? a=some o∧H a=none)→Heap.SameBut a s.heap h'→HOk X.prog X.w H h':=fun {a h'} ha hs b ob e=>by
  obtain⟨_,_,hfree⟩:=ha
  refine(I.hok b ob e).stay (fun c w' hc q=>(hs.2 c ?_).trans q) (fun _ q=>q) fun _ _ q=>q
  rintro rfl
  rcases hc with rfl | hc
  ·rw[hfree] at e;cases e
  ·rw[hfree] at hc;cases hc
 rcases hx with hk | hk
 ·refine wpAny_storeName_local hk hn (fun h' hn' hs=>?_) hcls
  obtain⟨oL,_,_,hoL,_⟩:=id hn
  refine h _ ⟨I.ok,I.os,I.bare,⟨fun b o e n hb hx=>?_,fun b o e n hb hx=>?_,I.base.free,fun b o e hx=>?_,I.base.tups,I.base.frzs,I.base.tbls⟩,⟨_,hn',fun j y v' e1 e2 e3=>?_⟩,fun y c e=>?_,I.free,I.freeC,fun p hp=>?_,tracked ⟨oL,hoL,I.free⟩ hs,by simpa using I.len⟩ ⟨_,hs,.inl rfl⟩
  ·exact(hs.2 b (Nat.ne_of_lt (Nat.lt_of_lt_of_le (Heap.lt_size e) I.ok.above))).trans (I.base.keep b o e n hb hx)
  ·obtain⟨sl,e1⟩:=I.base.slot b o e n hb hx
   exact⟨sl,(hs.2 b (Nat.ne_of_lt (Nat.lt_of_lt_of_le (Heap.lt_size e) I.ok.above))).trans e1⟩
  ·obtain⟨o',e1⟩:=I.base.there b o e hx
   exact⟨o',(hs.2 b (Nat.ne_of_lt (Nat.lt_of_lt_of_le (Heap.lt_size e) I.ok.above))).trans e1⟩
  ·by_cases hj:j=i
   ·subst hj
    rw[hi] at e1;cases e1
    rw[List.getElem?_set_self hiσ] at e2
    cases e2
    exact⟨u,r,.inl ⟨hk,by simp⟩⟩
   ·rw[List.getElem?_set_ne (Ne.symm hj)] at e2
    obtain⟨u',r',q⟩:=hl j y v' e1 e2 e3
    refine⟨u',r',?_⟩
    rcases q with⟨k,e⟩ | ⟨k,c,e,z⟩
    ·refine .inl ⟨k,?_⟩
     have:y≠x:=fun e=>hj (nodup_ix hN e1 (e ▸ hi))
     simp[this,e]
    ·exact .inr ⟨k,c,e,z.sameBut hs (cne y c e)⟩
  ·obtain⟨w',z⟩:=I.cell y c e
   exact⟨w',z.sameBut hs (cne y c e)⟩
  ·obtain⟨e,n,ne,nf,d⟩:=I.pin p hp
   exact⟨(hs.2 p.1 ne).trans e,n,ne,nf,d⟩
 ·have hfn:X.fn x=true:=by
   rcases hf with z | z
   ·exact z
   ·rw[z] at hk;cases hk
  obtain⟨c,hc⟩:=I.ok.has x (.inl hk)
  obtain⟨w',z⟩:=I.cell x c hc
  refine wpAny_storeName_cell I.ok.kind hk hc z (fun h' hc' hs=>?_)
  obtain⟨oc,hoc,hocd⟩:=id z
  refine h { s with heap:=h' } ⟨I.ok,I.os,I.bare,⟨fun b o e n hb hx=>?_,fun b o e n hb hx=>?_,I.base.free,fun b o e hx=>?_,I.base.tups,I.base.frzs,I.base.tbls⟩,⟨m,hn.sameBut hs (Ne.symm (cne x c hc)),fun j y v' e1 e2 e3=>?_⟩,fun y c' e=>?_,I.free,I.freeC,fun p hp=>?_,tracked ⟨oc,hoc,I.freeC x c hc⟩ hs,by simpa using I.len⟩ ⟨c,hs,.inr hc⟩
  ·exact(hs.2 b (Nat.ne_of_lt (Nat.lt_of_lt_of_le (Heap.lt_size e) (I.ok.cab x c hfn hc)))).trans (I.base.keep b o e n hb hx)
  ·obtain⟨sl,e1⟩:=I.base.slot b o e n hb hx
   exact⟨sl,(hs.2 b (Nat.ne_of_lt (Nat.lt_of_lt_of_le (Heap.lt_size e) (I.ok.cab x c hfn hc)))).trans e1⟩
  ·obtain⟨o',e1⟩:=I.base.there b o e hx
   exact⟨o',(hs.2 b (Nat.ne_of_lt (Nat.lt_of_lt_of_le (Heap.lt_size e) (I.ok.cab x c hfn hc)))).trans e1⟩
  ·by_cases hj:j=i
   ·subst hj
    rw[hi] at e1;cases e1
    rw[List.getElem?_set_self hiσ] at e2
    cases e2
    exact⟨u,r,.inr ⟨.inl hk,c,hc,hc'⟩⟩
   ·rw[List.getElem?_set_ne (Ne.symm hj)] at e2
    obtain⟨u',r',q⟩:=hl j y v' e1 e2 e3
    refine⟨u',r',?_⟩
    rcases q with q | ⟨k,c',e,z'⟩
    ·exact .inl q
    ·refine .inr ⟨k,c',e,z'.sameBut hs ?_⟩
     rintro rfl
     exact hj (nodup_ix hN e1 (I.ok.inj _ _ _ e hc ▸ hi))
  ·by_cases hcc:c'=c
   ·subst hcc;exact⟨_,hc'⟩
   ·obtain⟨w2,z2⟩:=I.cell y c' e
    exact⟨w2,z2.sameBut hs hcc⟩
  ·obtain⟨e,n,ne,nf,d⟩:=I.pin p hp
   refine⟨(hs.2 p.1 ?_).trans e,n,ne,nf,d⟩
   intro q
   rw[q,hoc] at e
   have q':oc=p.2:=Option.some.inj e
   exact d w' (by rw[← q'];exact hocd)
theorem store_ok {M:Model}{A:Around}{E:Value→Shared→Prop}{i:Nat}{x:Str}{v:V}{u:Value}{Q:Unit→Shared→Prop}(I:Inv X pins σ H s) (hN:X.N.Nodup) (hi:X.N[i]?=some x) (hx:Loc X.env.scope x) (r:RelV v u)
  (h:∀ s',Inv X pins (σ.set i (some v)) H s'→Q () s') (hf:X.fn x=true∨X.env.scope.names.lookup x=some .local:=by first | exact .inl rfl | exact .inr rfl | assumption):wpAny M A (storeName X.env x u) Q E s :=
 wL I hN hi hx r (fun s' I' _=>h s' I') hf
theorem Inv.call' {s':Shared}{ch:List Addr}(I:Inv X pins σ H s) (ho:s'.os=s.os) (u:Un (frs X.stack) ch H H' s.heap s'.heap) (hok:HOk X.prog X.w H' s'.heap) (hg:AllBare s'.gens)
  (hch:∀ b∈ch,(b∈X.ex∨X.s₀.heap.objs.size≤b)∧b≠X.env.locals∧(∀ x c,X.env.cells.lookup x=some c→c≠b)∧∀ p∈X.pn++pins,p.1≠b):Inv X pins σ H' s':=by
 obtain⟨h',g',d',t',o'⟩:=s'
 have e:o'=s.os:=ho
 subst e
 exact I.call (g':=g') (t':=t') (d':=d') u hok hg hch
end
abbrev XK:=Value→Option Addr→Hp→Prop
abbrev St:=List (Option V)
abbrev VK:=V→Hp→Prop
abbrev TE:=St→Hp→VK→Prop
abbrev TT:=St→Hp→(Bool→Hp→Prop)→Prop
abbrev TA:=St→Hp→(List V→Hp→Prop)→Prop
structure Ends where
 nx:St→Hp→Prop
 rt:VK
 bk:St→Hp→Prop:=fun _ _=>False
 ct:St→Hp→Prop:=fun _ _=>False
abbrev TS:=Ends→St→Hp→Prop
def EP (X:Cx) (pins:List (Addr×Obj)) (σ:St) (Q:VK) (u:Value) (s':Shared):Prop:=∃ v H',Inv X pins σ H' s'∧RelV v u∧Q v H'
def TP (X:Cx) (pins:List (Addr×Obj)) (σ:St) (Q:Bool→Hp→Prop) (b:Bool) (s':Shared):Prop:=∃ H',Inv X pins σ H' s'∧Q b H'
def AP (X:Cx) (pins:List (Addr×Obj)) (σ:St) (Q:List V→Hp→Prop) (us:List Value) (s':Shared):Prop:=∃ vs H',Inv X pins σ H' s'∧Vals vs us∧Q vs H'
def SP (X:Cx) (pins:List (Addr×Obj)) (D:Ends) (f:Flow) (s':Shared):Prop :=
 match f with
 |.next=>∃ σ' H',Inv X pins σ' H' s'∧D.nx σ' H'
 |.brk=>∃ σ' H',Inv X pins σ' H' s'∧D.bk σ' H'
 |.cont=>∃ σ' H',Inv X pins σ' H' s'∧D.ct σ' H'
 |.ret u=>∃ v σ' H',Inv X pins σ' H' s'∧RelV v u∧D.rt v H'
def PE (X:Cx) (e:Expr) (t:TE):Prop :=
 ∀ (pins:List (Addr×Obj)) (s:Shared) (σ:St) (H:Hp) (Q:VK),Inv X pins σ H s→t σ H Q→wpAny (model X.prog X.w) X.A (eval e X.env) (EP X pins σ Q) X.xe s
def PT (X:Cx) (e:Expr) (t:TT):Prop :=
 ∀ (pins:List (Addr×Obj)) (s:Shared) (σ:St) (H:Hp) (Q:Bool→Hp→Prop),Inv X pins σ H s→t σ H Q→wpAny (model X.prog X.w) X.A (isTrue e X.env (eval e X.env)) (TP X pins σ Q) X.xe s
def PW (X:Cx) (e:Expr) (t:TT):Prop :=
 ∀ (whole:Sem Value) (pins:List (Addr×Obj)) (s:Shared) (σ:St) (H:Hp) (Q:Bool→Hp→Prop),Inv X pins σ H s→t σ H Q→wpAny (model X.prog X.w) X.A (isTrue e X.env whole) (TP X pins σ Q) X.xe s
theorem PW.pt {X:Cx}{e:Expr}{t:TT}(h:PW X e t):PT X e t:=h _
def PA (X:Cx) (es:List Expr) (t:TA):Prop :=
 ∀ (pos:Pos) (pins:List (Addr×Obj)) (s:Shared) (σ:St) (H:Hp) (Q:List V→Hp→Prop),Inv X pins σ H s→t σ H Q→wpAny (model X.prog X.w) X.A (spliced (backTo pos (starEach es X.env))) (AP X pins σ Q) X.xe s
def PS (X:Cx) (st:Stmt) (t:TS):Prop :=
 ∀ (pins:List (Addr×Obj)) (s:Shared) (σ:St) (H:Hp) (D:Ends),Inv X pins σ H s→t D σ H→wpAny (model X.prog X.w) X.A (exec st X.env) (SP X pins D) X.xe s
def PSs (X:Cx) (st:List Stmt) (t:TS):Prop :=
 ∀ (pins:List (Addr×Obj)) (s:Shared) (σ:St) (H:Hp) (D:Ends),Inv X pins σ H s→t D σ H→wpAny (model X.prog X.w) X.A (execs st X.env) (SP X pins D) X.xe s
theorem thn {α:Type}{t:Sem α}{Q Q':α→Shared→Prop}{M:Model}{A:Around}{E:Value→Shared→Prop}{s:Shared}(h:wpAny M A t Q E s) (hQ:∀ a s,Q a s→Q' a s):wpAny M A t Q' E s:=wpAny_mono h hQ fun _ _ x=>x
section
variable {X:Cx}
theorem bin {a b:Expr}{ta tb:TE}(ha:PE X a ta) (hb:PE X b tb){pins:List (Addr×Obj)}{s:Shared}{σ:St}{H:Hp}{R:V→V→Hp→Prop}(I:Inv X pins σ H s) (h:ta σ H fun x H1=>tb σ H1 fun y H2=>R x y H2)
  {α:Type}{Q:α→Shared→Prop}{f:Value→Value→Sem α}
  (hf:∀ v u s2 x y H2,Inv X pins σ H2 s2→RelV x v→RelV y u→R x y H2→wpAny (model X.prog X.w) X.A (f v u) Q X.xe s2) :
  wpAny (model X.prog X.w) X.A (eval a X.env) (fun v s₁=>wpAny (model X.prog X.w) X.A (eval b X.env) (fun u s₂=>wpAny (model X.prog X.w) X.A (f v u) Q X.xe s₂) X.xe s₁) X.xe s:=by
 refine thn (ha pins s σ H _ I h) fun v s1 hq0=>?_
 obtain⟨x,H1,I1,r1,q1⟩:=hq0
 refine thn (hb pins s1 σ H1 _ I1 q1) fun u s2 hq0=>?_
 obtain⟨y,H2,I2,r2,q2⟩:=hq0
 exact hf v u s2 x y H2 I2 r1 r2 q2
def zyM (i:Nat):TE:=fun σ H Q=>∃ v,σ[i]?=some (some v)∧Q v H
def tC (v:V):TE:=fun _ H Q=>Q v H
theorem znU {i:Nat}{x:Str}{pos:Pos}(hN:X.N[i]?=some x) (hv:Vis X.env.scope x) (hd:(x == ("__debug__" : Str))=false:=by decide) (hcd:(x == ("__classdict__" : Str))=false:=by decide):PE X (.Name x pos) (zyM i):=by
 intro pins s σ H Q I h
 obtain⟨v,e,h⟩:=h
 obtain⟨m,hn,hl⟩:=I.loc
 obtain⟨u,r,l⟩:=hl i x v hN e hv
 have fin:EP X pins σ Q u s:=⟨v,H,I,r,h⟩
 rcases l with⟨hk,hm⟩ | ⟨hk,c,hc,hcell⟩
 ·exact wpAny_Name (wpAny_loadName_local I.ok.kind hk hn hm fin) hd
 ·rcases hk with hk | hk
  ·exact wpAny_Name (wpAny_loadName_cell I.ok.kind hk hc hcell fin) hd
  ·exact wpAny_Name (wpAny_loadName_free I.ok.kind hk hc hcell fin hcd) hd
theorem w_pe_int {i j pos}:Bx (PE X (.Constant (.int i) j pos) (tC (.int i))):=by
 exact⟨fun _ _ _ H _ I h=>wpAny_Constant_int ⟨.int i,H,I.tok _,⟨_,rfl⟩,h⟩⟩
theorem zn {b j pos}:Bx (PE X (.Constant (.bool b) j pos) (tC (.bl b))):=by
 exact⟨fun _ _ _ H _ I h=>Constant_bool ⟨.bl b,H,I,rfl,h⟩⟩
theorem yv {j pos}:Bx (PE X (.Constant .none j pos) (tC .non)):=by
 exact⟨fun _ _ _ H _ I h=>Constant_none ⟨.non,H,I,rfl,h⟩⟩
theorem w_pe_str {x j pos}:Bx (PE X (.Constant (.str x) j pos) (tC (.str x))):=by
 exact⟨fun _ _ _ H _ I h=>Calls.Constant_str ⟨.str x,H,I.tok _,⟨_,rfl⟩,h⟩⟩
def Gl (X:Cx) (x:Str):Prop:=X.env.kindOf x=some .globalImplicit
theorem ld_glob {E:Value→Shared→Prop}{pins:List (Addr×Obj)}{s:Shared}{σ:St}{H:Hp}{x:Str}{u:Value}{pos:Pos}{Q:Value→Shared→Prop}(I:Inv X pins σ H s) (hg:Gl X x) (hm:X.mg x=some u) (h:Q u s)
  (hd:(x == ("__debug__" : Str))=false:=by decide):wpAny (model X.prog X.w) X.A (eval (.Name x pos) X.env) Q E s :=
 Calls.Name_function_global I.ok.kind hg (Calls.loadGlobal_global (by rw[I.ok.glob];exact I.mod.glob.keeps I.bk) hm h) hd
theorem ld_blt {E:Value→Shared→Prop}{pins:List (Addr×Obj)}{s:Shared}{σ:St}{H:Hp}{x:Str}{u:Value}{pos:Pos}{Q:Value→Shared→Prop}(I:Inv X pins σ H s) (hg:Gl X x) (hm:X.mg x=none) (hv:bootBuiltins x=some u) (h:Q u s)
  (hn:x ≠ "__name__" := by decide) (hd:(x == ("__debug__" : Str))=false:=by decide):wpAny (model X.prog X.w) X.A (eval (.Name x pos) X.env) Q E s:=by
 obtain⟨mb,h1,h2⟩:=I.mod.blt
 exact Calls.Name_function_global I.ok.kind hg (Calls.loadGlobal_builtin (by rw[I.ok.glob];exact I.mod.glob.keeps I.bk) hm (by rw[I.ok.blt];exact h1.keeps I.bk) ((h2 x hn).trans hv) h) hd
theorem ZM {x:Str}{v:V}{u:Value}{pos:Pos}(hg:Gl X x) (hm:X.mg x=some u) (r:RelV v u) (hd:(x == ("__debug__" : Str))=false:=by decide):PE X (.Name x pos) (tC v) :=
 fun _ _ _ H _ I h=>ld_glob I hg hm ⟨v,H,I,r,h⟩ hd
theorem UC {x:Str}{v:V}{u:Value}{pos:Pos}(hg:Gl X x) (hm:X.mg x=none) (hv:bootBuiltins x=some u) (r:RelV v u) (hn:x ≠ "__name__" := by decide) (hd:(x == ("__debug__" : Str))=false:=by decide):PE X (.Name x pos) (tC v) :=
 fun _ _ _ H _ I h=>ld_blt I hg hm hv ⟨v,H,I,r,h⟩ hn hd
variable {a b:Expr}{ta tb:TE}{pos:Pos}
def PC (X:Cx) (op:CmpOp) (a b:Expr) (t:TE):Prop :=
 ∀ (pins:List (Addr×Obj)) (s:Shared) (σ:St) (H:Hp) (Q:VK),Inv X pins σ H s→t σ H Q →
  wpAny (model X.prog X.w) X.A (eval a X.env) (fun v s₁=>wpAny (model X.prog X.w) X.A (eval b X.env) (fun u s₂=>wpAny (model X.prog X.w) X.A (compareOp op v u) (EP X pins σ Q) X.xe s₂) X.xe s₁) X.xe s
def tB (t:TE):TT:=fun σ H Q=>t σ H fun x H1=>∃ c,x=.bl c∧Q c H1
theorem vY {op:CmpOp}{t:TE}(h:Bx (PC X op a b t)) (h1:behindInMarks op b=false:=by first | exact nobehind _ (by decide) (by decide) | rfl):Bx (PE X (.Compare a [op] [b] pos) t):=by
 have h:=h.of
 exact⟨fun pins s σ H Q I hw=>wpAny_Compare1 (h pins s σ H Q I hw) h1⟩
theorem zV {op:CmpOp}{t:TE}(h:Bx (PC X op a b t)) (h1:behindInMarks op b=false:=by first | exact nobehind _ (by decide) (by decide) | rfl):Bx (PT X (.Compare a [op] [b] pos) (tB t)):=by
 have h:=h.of
 refine⟨?_⟩
 intro pins s σ H Q I hw
 refine wpAny_isTrue_Compare1 (thn (h pins s σ H _ I hw) fun v s1 h1=>thn h1 fun u s2 h2=>thn h2 fun c s3 hq0=>?_) h1
 obtain⟨x,H1,I1,r1,q1⟩:=hq0
 obtain⟨d,rfl,q⟩:=q1
 cases r1
 exact wpAny_truthy_bool ⟨H1,I1,q⟩
theorem zo {e:Expr}{t:TE}(h:Bx (PE X e t)) (he:∀ whole,isTrue e X.env whole=(do let v ← whole;standAt e.pos;holding [v] (truthy v)):=by intro _;rfl):Bx (PT X e (tB t)):=by
 have h:=h.of
 refine⟨?_⟩
 intro pins s σ H Q I hw
 refine isTrue_plain (thn (h pins s σ H _ I hw) fun v s1 hq0=>?_) (he _)
 obtain⟨x,H1,I1,r1,q1⟩:=hq0
 obtain⟨d,rfl,q⟩:=q1
 cases r1
 exact wpAny_truthy_bool ⟨H1,I1,q⟩
variable {tA tB':TT}{rest:List Expr}
def zF0 (t u:TT):TT:=fun σ H Q=>t σ H fun c H1=>if c=true then u σ H1 Q else Q false H1
def tOr (t u:TT):TT:=fun σ H Q=>t σ H fun c H1=>if c=true then Q true H1 else u σ H1 Q
def zFV (t:TT):TT:=fun σ H Q=>t σ H fun c H1=>Q (!c) H1
theorem u6 (ha:Bx (PT X a tA)):Bx (PW X (.BoolOp .And [a] pos) tA):=by
 have ha:=ha.of
 refine⟨?_⟩
 intro wh pins s σ H Q I h
 refine isTrue_and (thn (ha pins s σ H Q I h) fun c s1 e=>?_)
 cases c with
 |true=>exact isTrue_and_nil e
 |false=>exact e
theorem zD (ha:Bx (PT X a tA)):Bx (PW X (.BoolOp .Or [a] pos) tA):=by
 have ha:=ha.of
 refine⟨?_⟩
 intro wh pins s σ H Q I h
 refine isTrue_or (thn (ha pins s σ H Q I h) fun c s1 e=>?_)
 cases c with
 |false=>exact isTrue_or_nil e
 |true=>exact e
theorem Y1 (ha:Bx (PT X a tA)) (hb:Bx (PW X (.BoolOp .And (b::rest) pos) tB')):Bx (PW X (.BoolOp .And (a::b::rest) pos) (zF0 tA tB')):=by
 have ha:=ha.of
 have hb:=hb.of
 refine⟨?_⟩
 intro wh pins s σ H Q I h
 refine isTrue_and (thn (ha pins s σ H _ I h) fun c s1 hq0=>?_)
 obtain⟨H1,I1,q1⟩:=hq0
 cases c with
 |true=>exact hb wh pins s1 σ H1 Q I1 q1
 |false=>exact⟨H1,I1,q1⟩
theorem w_pw_or (ha:Bx (PT X a tA)) (hb:Bx (PW X (.BoolOp .Or (b::rest) pos) tB')):Bx (PW X (.BoolOp .Or (a::b::rest) pos) (tOr tA tB')):=by
 have ha:=ha.of
 have hb:=hb.of
 refine⟨?_⟩
 intro wh pins s σ H Q I h
 refine isTrue_or (thn (ha pins s σ H _ I h) fun c s1 hq0=>?_)
 obtain⟨H1,I1,q1⟩:=hq0
 cases c with
 |true=>exact⟨H1,I1,q1⟩
 |false=>exact hb wh pins s1 σ H1 Q I1 q1
theorem zy (ha:Bx (PT X a tA)):Bx (PT X (.UnaryOp .Not a pos) (zFV tA)):=by
 have ha:=ha.of
 refine⟨?_⟩
 intro pins s σ H Q I h
 exact isTrue_not (ha pins s σ H (fun c H1=>Q (!c) H1) I h)
def tAndV (ta tb:TE):TE:=fun σ H Q=>ta σ H fun x H1=>∃ c,x=.bl c∧if c=true then tb σ H1 Q else Q (.bl false) H1
def zrN (ta:TE):TE:=fun σ H Q=>ta σ H fun x H1=>∃ c,x=.bl c∧Q (.bl (!c)) H1
theorem yj {op}{t:TE}(h:Bx (PE X a t)):Bx (PE X (.BoolOp op [a] pos) t):=by
 have h:=h.of
 exact⟨fun pins s σ H Q I hw=>BoolOp_one (h pins s σ H Q I hw)⟩
theorem zW (ha:Bx (PE X a ta)) (hb:Bx (PE X (.BoolOp .And (b::rest) pos) tb)):Bx (PE X (.BoolOp .And (a::b::rest) pos) (tAndV ta tb)):=by
 have ha:=ha.of
 have hb:=hb.of
 refine⟨?_⟩
 intro pins s σ H Q I h
 refine BoolOp_and (thn (ha pins s σ H _ I h) fun v s1 hq0=>?_)
 obtain⟨x,H1,I1,r1,q1⟩:=hq0
 obtain⟨c,rfl,q1⟩:=q1
 cases r1
 refine wpAny_truthy_bool ?_
 cases c with
 |true=>exact hb pins s1 σ H1 Q I1 q1
 |false=>exact⟨.bl false,H1,I1,rfl,q1⟩
theorem Y5 (ha:Bx (PE X a ta)):Bx (PE X (.UnaryOp .Not a pos) (zrN ta)):=by
 have ha:=ha.of
 refine⟨?_⟩
 intro pins s σ H Q I h
 refine UnaryOp_ (thn (ha pins s σ H _ I h) fun v s1 hq0=>?_)
 obtain⟨x,H1,I1,r1,q1⟩:=hq0
 obtain⟨c,rfl,q1⟩:=q1
 cases r1
 exact not_of (wpAny_truthy_bool ⟨.bl (!c),H1,I1,rfl,q1⟩)
def tIf (t:TT) (ta tb:TE):TE:=fun σ H Q=>t σ H fun c H1=>if c=true then ta σ H1 Q else tb σ H1 Q
theorem xW {c:Expr}(hc:Bx (PT X c tA)) (ha:Bx (PE X a ta)) (hb:Bx (PE X b tb)):Bx (PE X (.IfExp c a b pos) (tIf tA ta tb)):=by
 have hc:=hc.of
 have ha:=ha.of
 have hb:=hb.of
 refine⟨?_⟩
 intro pins s σ H Q I h
 refine wpAny_IfExp (thn (hc pins s σ H _ I h) fun d s1 hq0=>?_)
 obtain⟨H1,I1,q1⟩:=hq0
 cases d with
 |true=>exact ha pins s1 σ H1 Q I1 q1
 |false=>exact hb pins s1 σ H1 Q I1 q1
end
def SqL (K:PySem.W.Frag) (H:Hp) (a:Addr) (xs:List V):Prop :=
 Rd H a (.lst xs) ∨
  ∃ (o:Obj) (its:Array Value) (n:Nat),K.lookup a=some o∧o.cls=.type "list" ∧ o.dict=none∧o.data=.seq its n∧its.size≤sizeLine∧Vals xs its.toList
def SqT (K:PySem.W.Frag) (H:Hp) (a:Addr) (xs:List V):Prop :=
 Rd H a (.tup xs) ∨
  ∃ (o:Obj) (its:Array Value) (n:Nat),K.lookup a=some o∧o.cls=.type "tuple" ∧ o.data=.seq its n∧its.size≤sizeLine∧Vals xs its.toList
def zHp:Value→Option V
 |.none=>some .non
 |.bool b=>some (.bl b)
 |.int i _=>some (.int i)
 |.str x _=>some (.str x)
 |.bytes b _=>some (.byt b)
 |.float b _=>some (.flt b)
 |.ref a=>some (.ref a)
 |.type n=>some (.ty n)
 |_=>none
theorem RelV.abs {x:V}{u:Value}(r:RelV x u):zHp u=some x:=by
 cases x with
 |non=>cases r;rfl
 |bl _=>cases r;rfl
 |int _=>obtain⟨t,rfl⟩:=r;rfl
 |str _=>obtain⟨t,rfl⟩:=r;rfl
 |byt _=>obtain⟨t,rfl⟩:=r;rfl
 |flt _=>obtain⟨t,rfl⟩:=r;rfl
 |ref _=>cases r;rfl
 |ty _=>cases r;rfl
theorem RelV.inj {x y:V}{u:Value}(r:RelV x u) (q:RelV y u):x=y:=Option.some.inj (r.abs.symm.trans q.abs)
theorem Vals.inj:∀ {xs ys:List V}{us:List Value},Vals xs us→Vals ys us→xs=ys
 |_,_,_,.nil,.nil=>rfl
 |_,_,_,.cons r t,.cons r' t'=>by rw[r.inj r',Vals.inj t t']
section
variable {X:Cx}{pins:List (Addr×Obj)}{σ:St}{H:Hp}{s:Shared}{a:Addr}{xs ys:List V}
theorem SqL.of {K:PySem.W.Frag}(h:H a=some (.lst xs)):SqL K H a xs:=.inl (.inl h)
theorem SqT.of {K:PySem.W.Frag}(h:H a=some (.tup xs)):SqT K H a xs:=.inl (.inl h)
theorem Inv.list (I:Inv X pins σ H s) (h:SqL X.K H a xs):∃ its:List Value,Vals xs its∧PlainL s.heap a its.toArray∧xs.length≤sizeLine:=by
 rcases h with h | ⟨o,its,n,hk,hc,hd,hs,hz,r⟩
 ·obtain⟨z,its,n,r,e⟩:=h.ok I.hok
  exact⟨its,r,⟨_,n,e,rfl,rfl,rfl⟩,z⟩
 ·refine⟨its.toList,r,⟨o,n,I.kIn a o hk,hc,hd,by simpa using hs⟩,?_⟩
  have e:=r.length
  simp only[Array.length_toList] at e
  omega
theorem Inv.tuple (I:Inv X pins σ H s) (h:SqT X.K H a xs):∃ its:List Value,Vals xs its∧IsTup s.heap a its.toArray∧xs.length≤sizeLine:=by
 rcases h with h | ⟨o,its,n,hk,hc,hs,hz,r⟩
 ·obtain⟨z,its,r,p⟩:=h.ok I.hok
  exact⟨its,r,p,z⟩
 ·refine⟨its.toList,r,⟨o,I.kIn a o hk,hc,n,by simpa using hs⟩,?_⟩
  have e:=r.length
  simp only[Array.length_toList] at e
  omega
theorem Inv.list_inj (I:Inv X pins σ H s) (h:SqL X.K H a xs) (h':SqL X.K H a ys):xs=ys:=by
 obtain⟨its,r,⟨o,n,e,_,_,d⟩,_⟩:=I.list h
 obtain⟨its',r',⟨o',n',e',_,_,d'⟩,_⟩:=I.list h'
 rw[e] at e';cases e'
 rw[d] at d'
 injection d' with d1 _
 have:its=its':=by simpa using congrArg Array.toList d1
 subst this
 exact r.inj r'
theorem Inv.tuple_inj (I:Inv X pins σ H s) (h:SqT X.K H a xs) (h':SqT X.K H a ys):xs=ys:=by
 obtain⟨its,r,⟨o,e,_,n,d⟩,_⟩:=I.tuple h
 obtain⟨its',r',⟨o',e',_,n',d'⟩,_⟩:=I.tuple h'
 rw[e] at e';cases e'
 rw[d] at d'
 injection d' with d1 _
 have:its=its':=by simpa using congrArg Array.toList d1
 subst this
 exact r.inj r'
end
abbrev Cx.wish (X:Cx) (E:Value→Shared→Prop):Cx:={ X with xe:=E }
abbrev Cx.nox (X:Cx):Cx:=X.wish fun _ _=>False
theorem Cx.Ok.wish {X:Cx}(ok:X.Ok) (E:Value→Shared→Prop):(X.wish E).Ok :=
 ⟨ok.mod,ok.kind,ok.glob,ok.blt,ok.above,ok.inj,ok.has,ok.cab,ok.hd,ok.frames,ok.stk,ok.exf,ok.bs,ok.bsz,ok.noex,ok.exfs,ok.funs,ok.frf⟩
theorem Cx.Ok.unwish {X:Cx}{E:Value→Shared→Prop}(ok:(X.wish E).Ok):X.Ok :=
 ⟨ok.mod,ok.kind,ok.glob,ok.blt,ok.above,ok.inj,ok.has,ok.cab,ok.hd,ok.frames,ok.stk,ok.exf,ok.bs,ok.bsz,ok.noex,ok.exfs,ok.funs,ok.frf⟩
section
variable {X:Cx}{pins:List (Addr×Obj)}{σ:St}{H:Hp}{s:Shared}{E:Value→Shared→Prop}
theorem Inv.wish (I:Inv X pins σ H s) (E:Value→Shared→Prop):Inv (X.wish E) pins σ H s:=⟨I.ok.wish E,I.os,I.bare,I.base,I.loc,I.cell,I.free,I.freeC,I.pin,I.hok,I.len⟩
theorem Inv.unwish (I:Inv (X.wish E) pins σ H s):Inv X pins σ H s:=⟨I.ok.unwish,I.os,I.bare,I.base,I.loc,I.cell,I.free,I.freeC,I.pin,I.hok,I.len⟩
theorem SP.unwish {D:Ends}{f:Flow}{s':Shared}(h:SP (X.wish E) pins D f s'):SP X pins D f s':=by
 cases f with
 |next=>obtain⟨σ',H',I,q⟩:=h;exact⟨σ',H',I.unwish,q⟩
 |brk=>obtain⟨σ',H',I,q⟩:=h;exact⟨σ',H',I.unwish,q⟩
 |cont=>obtain⟨σ',H',I,q⟩:=h;exact⟨σ',H',I.unwish,q⟩
 |ret u=>obtain⟨v,σ',H',I,r,q⟩:=h;exact⟨v,σ',H',I.unwish,r,q⟩
theorem PSs.nox {st:List Stmt}{t:TS}(h:PSs X.nox st t):PSs X st t:=fun pins s σ H D I hw =>
 wpAny_mono (h pins s σ H D (I.wish _) hw) (fun _ _ q=>q.unwish) fun _ _ z=>False.elim z
end
section
variable {X:Cx}{st:Stmt}{rest:List Stmt}{t u:TS}{e:Expr}{te:TE}{pos:Pos}
def zrP:TS:=fun D σ H=>D.nx σ H
def zrL (t u:TS):TS:=fun D σ H=>t { D with nx:=u D } σ H
theorem zg  : Bx (PSs X [] zrP):=by
 exact⟨fun _ _ σ H _ I h=>wpAny_execs_nil ⟨σ,H,I,h⟩⟩
theorem w_pss_cons (h1:Bx (PS X st t)) (h2:Bx (PSs X rest u)):Bx (PSs X (st::rest) (zrL t u)):=by
 have h1:=h1.of
 have h2:=h2.of
 refine⟨?_⟩
 intro pins s σ H D I h
 refine wpAny_execs_cons (thn (h1 pins s σ H { D with nx:=u D } I h) fun f s1 q=>?_)
 cases f with
 |next =>
  obtain⟨σ',H',I',q⟩:=q
  exact h2 pins s1 σ' H' D I' q
 |ret v=>exact q
 |brk=>exact q
 |cont=>exact q
theorem w_pss_one (h1:Bx (PS X st t)):Bx (PSs X [st] t):=by
 have h1:=h1.of
 refine⟨?_⟩
 intro pins s σ H D I h
 refine wpAny_execs_cons (thn (h1 pins s σ H D I h) fun f s1 q=>?_)
 cases f with
 |next=>exact wpAny_execs_nil q
 |ret v=>exact q
 |brk=>exact q
 |cont=>exact q
theorem Inv.quiet {pins:List (Addr×Obj)}{σ:St}{H:Hp}{s:Shared}(I:Inv X pins σ H s):interactive X.env=false:=by simp[interactive,I.ok.kind]
def zbq (te:TE):TS:=fun D σ H=>te σ H fun _ H1=>D.nx σ H1
theorem w_ps_expr (he:Bx (PE X e te)) (hs:swapsWith e none pos.line X.env=pure false:=by rfl):Bx (PS X (.Expr e pos) (zbq te)):=by
 have he:=he.of
 refine⟨?_⟩
 intro pins s σ H D I h
 exact wpAny_Expr_any (thn (he pins s σ H _ I h) fun v s1 ⟨x,H1,I1,r1,q1⟩=>⟨σ,H1,I1,q1⟩) I.quiet hs
def zFU (te:TE):TS:=fun D σ H=>te σ H D.rt
theorem w_ps_ret (he:Bx (PE X e te)):Bx (PS X (.Return (some e) pos) (zFU te)):=by
 have he:=he.of
 refine⟨?_⟩
 intro pins s σ H D I h
 exact wpAny_Return_some (thn (he pins s σ H _ I h) fun v s1 ⟨x,H1,I1,r1,q1⟩=>⟨x,σ,H1,I1,r1,q1⟩)
def zyN (c:TT) (t u:TS):TS:=fun D σ H=>c σ H fun b H1=>if b=true then t D σ H1 else u D σ H1
theorem w_ps_if {c:Expr}{a b:List Stmt}{tc:TT}(hc:Bx (PT X c tc)) (ha:Bx (PSs X a t)) (hb:Bx (PSs X b u)):Bx (PS X (.If c a b pos) (zyN tc t u)):=by
 have hc:=hc.of
 have ha:=ha.of
 have hb:=hb.of
 refine⟨?_⟩
 intro pins s σ H D I h
 refine wpAny_If (thn (hc pins s σ H _ I h) fun d s1 hq0=>?_)
 obtain⟨H1,I1,q1⟩:=hq0
 cases d with
 |true=>exact ha pins s1 σ H1 D I1 q1
 |false=>exact hb pins s1 σ H1 D I1 q1
def zbn:TS:=fun _ _ _=>False
theorem zK  : Bx (PS X st zbn):=by
 exact⟨fun _ _ _ _ _ _ h=>h.elim⟩
end
abbrev TG:=V→St→Hp→(St→Hp→Prop)→Prop
abbrev TGs:=List V→St→Hp→(St→Hp→Prop)→Prop
def PG (X:Cx) (target:Expr) (t:TG):Prop :=
 ∀ (pins:List (Addr×Obj)) (s:Shared) (σ:St) (H:Hp) (v:V) (u:Value) (Q:St→Hp→Prop),Inv X pins σ H s→RelV v u→t v σ H Q →
  wpAny (model X.prog X.w) X.A (assign target X.env u) (fun _ s'=>∃ σ' H',Inv X pins σ' H' s'∧Q σ' H') X.xe s
def PGs (X:Cx) (ts:List Expr) (t:TGs):Prop :=
 ∀ (pins:List (Addr×Obj)) (s:Shared) (σ:St) (H:Hp) (vs:List V) (us:List Value) (Q:St→Hp→Prop),Inv X pins σ H s→Vals vs us→t vs σ H Q →
  wpAny (model X.prog X.w) X.A (assignInOrder ((assignEach ts X.env).map (·.2)) us) (fun _ s'=>∃ σ' H',Inv X pins σ' H' s'∧Q σ' H') X.xe s
abbrev zrG:=V→V→V→Hp→(Hp→Prop)→Prop
def zyJ (X:Cx) (t:zrG):Prop :=
 ∀ (pins:List (Addr×Obj)) (s:Shared) (σ:St) (H:Hp) (o i v:V) (ov iv u:Value) (Q:Hp→Prop),Inv X pins σ H s→RelV o ov→RelV i iv→RelV v u→t o i v H Q →
  wpAny (model X.prog X.w) X.A (setItem ov iv u) (fun _ s'=>∃ H',Inv X pins σ H' s'∧Q H') X.xe s
section
variable {X:Cx}{pos:Pos}
def Yr (i:Nat):TG:=fun v σ H Q=>Q (σ.set i (some v)) H
theorem zr {i:Nat}{x:Str}(hN:X.N.Nodup) (hi:X.N[i]?=some x) (hx:Loc X.env.scope x) (hf:X.fn x=true∨X.env.scope.names.lookup x=some .local:=by first | exact .inl rfl | exact .inr rfl | assumption):Bx (PG X (.Name x pos) (Yr i)):=by
 refine⟨?_⟩
 intro pins s σ H v u Q I r h
 exact wpAny_assign_Name (store_ok I hN hi hx r (fun s' I'=>⟨_,H,I',h⟩) hf)
def gNil:TGs:=fun vs σ H Q=>vs=[]∧Q σ H
def zyD (t:TG) (u:TGs):TGs:=fun vs σ H Q=>∃ v r,vs=v::r∧t v σ H fun σ' H'=>u r σ' H' Q
theorem yz  : Bx (PGs X [] gNil):=by
 refine⟨?_⟩
 intro pins s σ H vs us Q I r h
 obtain⟨e,h⟩:=h
 subst e
 cases r
 exact assignInOrder_nil ⟨σ,H,I,h⟩
theorem zH {e:Expr}{es:List Expr}{t:TG}{u:TGs}(h1:Bx (PG X e t)) (h2:Bx (PGs X es u)) (hs:(assignEach (e::es) X.env).map (·.2)=assign e X.env::(assignEach es X.env).map (·.2):=by rfl):Bx (PGs X (e::es) (zyD t u)):=by
 have h1:=h1.of
 have h2:=h2.of
 refine⟨?_⟩
 intro pins s σ H vs us Q I r h
 obtain⟨v,vr,e1,h⟩:=h
 subst e1
 cases r with
 |cons r rr =>
  rw[hs]
  refine assignInOrder_cons (thn (h1 pins s σ H _ _ _ I r h) fun _ s1 hq0=>?_)
  obtain⟨σ1,H1,I1,q1⟩:=hq0
  exact h2 pins s1 σ1 H1 _ _ Q I1 rr q1
def zHn (K:PySem.W.Frag) (n:Nat) (t:TGs):TG:=fun v σ H Q=>∃ a xs,v=.ref a∧SqT K H a xs∧xs.length=n∧t xs σ H Q
theorem yT {es:List Expr}{k:Nat}{t:TGs}{n:Nat}(hc:X.calm=true) (h:Bx (PGs X es t)) (hn:(assignEach es X.env).length=n:=by rfl) (hst:(assignEach es X.env).findIdx? (·.1)=none:=by rfl):Bx (PG X (.Tuple es k pos) (zHn X.K n t)):=by
 have h:=h.of
 refine⟨?_⟩
 intro pins s σ H v u Q I r hw
 obtain⟨a,xs,e1,hq,hl,hw⟩:=hw
 subst e1
 cases r
 obtain⟨its,rv,ht,hz⟩:=I.tuple hq
 refine assign_Tuple_tuple (I.ok.hd hc) ht (by simp[hn,← hl,rv.length]) hst fun h' hx=>?_
 have I1:Inv X pins σ H { s with heap:=h' }:=I.kept (t':=s.toks) fun b o e=>hx b o (Nat.ne_of_lt (Heap.lt_size e)) e
 exact h pins _ σ H xs _ Q I1 (by simpa using rv) hw
def zFM (to ti:TE) (t:zrG):TG:=fun v σ H Q=>to σ H fun o H1=>ti σ H1 fun i H2=>t o i v H2 fun H3=>Q σ H3
theorem znT {o i:Expr}{to ti:TE}{t:zrG}(ho:PE X o to) (hi:PE X i ti) (hs:zyJ X t)
  (ha:∀ v,assign (.Subscript o i pos) X.env v=(do
   let ov ← holding [v] (eval o X.env)
   let iv ← holding [v,ov] (eval i X.env)
   standAt pos
   holding [v,ov,iv] (setItem ov iv v)
   release [v,ov,iv] []):=by intro _;rfl):PG X (.Subscript o i pos) (zFM to ti t):=by
 intro pins s σ H v u Q I r h
 rw[ha]
 refine wpAny_bind (wpAny_holding (thn (ho pins s σ H _ I h) fun ov s1 hq0=>?_))
 obtain⟨x,H1,I1,r1,q1⟩:=hq0
 refine wpAny_bind (wpAny_holding (thn (hi pins s1 σ H1 _ I1 q1) fun iv s2 hq0=>?_))
 obtain⟨y,H2,I2,r2,q2⟩:=hq0
 refine wpAny_bind (wpAny_standAt (wpAny_bind (wpAny_holding (thn (hs pins s2 σ H2 x y v ov iv u _ I2 r1 r2 r q2) fun _ s3 hq0=>?_))))
 obtain⟨H3,I3,q3⟩:=hq0
 exact wpAny_release ⟨σ,H3,I3,q3⟩
def zrV (te:TE) (g:TG):TS:=fun D σ H=>te σ H fun x H1=>g x σ H1 D.nx
theorem vW {tg e:Expr}{te:TE}{g:TG}(he:Bx (PE X e te)) (hg:Bx (PG X tg g)) (hs:swapsWithSole [tg] e pos.line X.env=pure false:=by rfl) (hw:swappedStores [tg] e X.env=pure none:=by rfl) (h1:(assignEach [tg] X.env).map (·.2)=[assign tg X.env]:=by rfl):Bx (PS X (.Assign [tg] e pos) (zrV te g)):=by
 have he:=he.of
 have hg:=hg.of
 refine⟨?_⟩
 intro pins s σ H D I h
 refine wpAny_Assign_stores (thn (he pins s σ H _ I h) fun v s1 hq0=>?_) hs hw
 obtain⟨x,H1,I1,r1,q1⟩:=hq0
 rw[h1]
 exact thn (hg pins s1 σ H1 x v _ I1 r1 q1) fun _ s2 q=>q
theorem zl {i:Nat}{x:Str}{e:Expr}{te:TE}{pos':Pos}(hN:X.N.Nodup) (hi:X.N[i]?=some x) (hx:Loc X.env.scope x) (he:Bx (PE X e te)) (hs:swapsWith e (some (.Name x pos')) pos.line X.env=pure false:=by rfl) (hf:X.fn x=true∨X.env.scope.names.lookup x=some .local:=by first | exact .inl rfl | exact .inr rfl | assumption):Bx (PS X (.Assign [.Name x pos'] e pos) (zrV te (Yr i))):=by
 have he:=he.of
 refine⟨?_⟩
 intro pins s σ H D I h
 refine wpAny_Assign_Name (thn (he pins s σ H _ I h) fun v s1 hq0=>?_) hs
 obtain⟨y,H1,I1,r1,q1⟩:=hq0
 exact store_ok I1 hN hi hx r1 (fun s2 I2=>⟨_,H1,I2,q1⟩) hf
def zbl (c:TT) (tb:TS):TS:=fun D σ H=>∃ W:Nat→St→Hp→Prop,(∃ m,W m σ H)∧∀ m σ H,W m σ H →
 c σ H fun b H1=>if b=true then ∃ N:St→Hp→Prop,(∀ σ' H',N σ' H'→∃ m',m'<m∧W m' σ' H')∧tb { D with nx:=N,ct:=N,bk:=D.nx } σ H1 else D.nx σ H1
theorem uw {c:Expr}{body:List Stmt}{tc:TT}{tb:TS}(hp:PassesOwn (model X.prog X.w) X.A X.env X.xe) (hc:Bx (PT X c tc)) (hb:Bx (PSs X body tb)):Bx (PS X (.While c body [] pos) (zbl tc tb)):=by
 have hc:=hc.of
 have hb:=hb.of
 refine⟨?_⟩
 intro pins s σ H D I h
 obtain⟨W,⟨m0,w0⟩,turn⟩:=h
 refine wpAny_While (codeAny_whileLoop (fun n s'=>∃ σ' H',Inv X pins σ' H' s'∧W n σ' H') ?_ m0 ⟨σ,H,I,w0⟩)
 rintro n s1 ⟨σ1,H1,I1,w1⟩
 refine wpAny_passesOwn hp (thn (hc pins s1 σ1 H1 _ I1 (turn n σ1 H1 w1)) fun b s2 hq0=>?_)
 obtain⟨H2,I2,q2⟩:=hq0
 cases b with
 |true =>
  obtain⟨N,hN,q2⟩:=q2
  rw[if_pos rfl]
  refine wpAny_passesOwn hp (thn (hb pins s2 σ1 H2 _ I2 q2) fun f s3 q3=>?_)
  cases f with
  |next =>
   obtain⟨σ3,H3,I3,n3⟩:=q3
   obtain⟨m',hm,w3⟩:=hN σ3 H3 n3
   exact⟨m',hm,σ3,H3,I3,w3⟩
  |cont =>
   obtain⟨σ3,H3,I3,n3⟩:=q3
   obtain⟨m',hm,w3⟩:=hN σ3 H3 n3
   exact⟨m',hm,σ3,H3,I3,w3⟩
  |brk=>exact q3
  |ret v=>exact q3
 |false =>
  rw[if_neg Bool.false_ne_true]
  exact wpAny_execs_nil ⟨σ1,H2,I2,q2⟩
end
structure It where
 go:Nat→Hp→Prop
 yld:Nat→Hp→V→Hp→Prop
 stop:Nat→Hp→Prop
def FpOk (X:Cx) (pins:List (Addr×Obj)) (H:Hp) (b:Addr):Prop :=
 H b=none∧b≠X.env.locals∧b∉X.fs∧(b∈X.ex∨X.s₀.heap.objs.size≤b)∧(∀ x c,X.env.cells.lookup x=some c→c≠b)∧∀ p∈X.pn++pins,p.1≠b
theorem Inv.fpOk {X:Cx}{pins:List (Addr×Obj)}{σ:St}{H H':Hp}{s:Shared}{b:Addr}(I:Inv X pins σ H s) (hb:s.heap.objs.size≤b) (hn:H' b=none):FpOk X pins H' b:=by
 refine⟨hn,Nat.ne_of_gt (Nat.lt_of_lt_of_le I.lt hb),I.nofs hb,.inr (Nat.le_trans I.sz hb),fun x c e z=>?_,fun p hp z=>?_⟩
 ·obtain⟨v,q⟩:=I.cell x c e
  exact absurd (Nat.lt_of_lt_of_le q.lt (by rw[z];exact hb)) (Nat.lt_irrefl _)
 ·exact absurd (Nat.lt_of_lt_of_le (Heap.lt_size (I.pin p hp).1) (by rw[z];exact hb)) (Nat.lt_irrefl _)
structure Turn (P:Program) (w:World) (K:PySem.W.Frag) (tg:Expr) (J:It) (fp:List Addr) (it:Addr) (tn:Nat→Heap→Prop):Prop where
 mem:it∈fp
 obj:∀ i h,tn i h→∀ b∈fp,∃ o,h.get? b=some o∧∀ v,o.data≠.cell v
 keep:∀ i h h',tn i h→(∀ b∈fp,∀ o,h.get? b=some o→h'.get? b=some o)→tn i h'
 item:∀ (X:Cx),X.prog=P→X.w=w→X.K=K→X.calm=true→∀ (i:Nat) (pins:List (Addr×Obj)) (s:Shared) (σ:St) (H:Hp) (E:Value→Shared→Prop),Inv X pins σ H s→(∀ b∈fp,FpOk X pins H b)→tn i s.heap→J.go i H →
  wpAny (model P w) X.A (pyNext (.ref it)) (fun r s1=>∃ u,r=some u ∧
   wpAny (model P w) X.A (letOwnedTupleGo tg (.ref it) u) (fun _ s2=>∃ x H',Inv X pins σ H' s2∧RelV x u∧J.yld i H x H'∧tn (i+1) s2.heap∧∀ b∈fp,H' b=none) E s1) E s
 done:∀ (X:Cx),X.prog=P→X.w=w→X.K=K→X.calm=true→∀ (i:Nat) (pins:List (Addr×Obj)) (s:Shared) (σ:St) (H:Hp) (E:Value→Shared→Prop),Inv X pins σ H s→(∀ b∈fp,FpOk X pins H b)→tn i s.heap→J.stop i H →
  wpAny (model P w) X.A (pyNext (.ref it)) (fun r s1=>r=none∧Inv X pins σ H s1) E s
 self:∀ (A:Around) (i:Nat) (s:Shared) (Q:Value→Shared→Prop) (E:Value→Shared→Prop),tn i s.heap→Q (.ref it) s→wpAny (model P w) A (pyIter (.ref it)) Q E s
abbrev TI:=St→Hp→(It→Hp→Prop)→Prop
def PIE (X:Cx) (pins:List (Addr×Obj)) (σ:St) (tg:Expr) (R:It→Hp→Prop) (itv:Value) (s2:Shared):Prop :=
 ∃ (it:Addr) (fp:List Addr) (tn:Nat→Heap→Prop) (J:It) (H':Hp),itv=.ref it∧Inv X pins σ H' s2∧Turn X.prog X.w X.K tg J fp it tn∧tn 0 s2.heap∧(∀ b∈fp,FpOk X pins H' b)∧R J H'
def PI (X:Cx) (tg iter:Expr) (wi:TI):Prop :=
 ∀ (pins:List (Addr×Obj)) (s:Shared) (σ:St) (H:Hp) (R:It→Hp→Prop),Inv X pins σ H s→wi σ H R →
  wpAny (model X.prog X.w) X.A (eval iter X.env) (fun v s1=>wpAny (model X.prog X.w) X.A (pyIter v) (PIE X pins σ tg R) X.xe s1) X.xe s
theorem zaI {M:Model}{A:Around}{E:Value→Shared→Prop}{s:Shared}{tg:Expr}{it:Addr}{u:Value}{o:Obj}{n:String}{vs:Array Value}{Q:Unit→Shared→Prop}(ho:s.heap.get? it=some o) (hc:o.cls=.type n) (hd:o.data=.fields vs)
  (hn:["enumerate", "zip", "dict_itemiterator", "dict_reverseitemiterator", "odict_iterator", "itertools.zip_longest", "itertools.pairwise"].contains n=false) (hQ:Q () s):wpAny M A (letOwnedTupleGo tg (.ref it) u) Q E s:=by
 unfold letOwnedTupleGo
 cases tg<;>first
  |exact wpAny_pure hQ
  |(cases u<;>first
    |exact wpAny_pure hQ
    |(refine wpAny_bind (wpAny_load ho ?_)
      rw[hc,hd]
      show wpAny M A (if (["enumerate", "zip", "dict_itemiterator", "dict_reverseitemiterator", "odict_iterator", "itertools.zip_longest", "itertools.pairwise"].contains n&&vs[0]? == some (rawInt _))=true then _ else _) Q E s
      rw[if_neg (by intro h;rw[hn,Bool.false_and] at h;cases h)]
      exact wpAny_pure hQ))
def Itl (K:PySem.W.Frag) (a:Addr):It :=
 ⟨fun i H=>∃ xs x,SqL K H a xs∧xs[i]?=some x,fun i H x H'=>H'=H∧∀ xs,SqL K H a xs→xs[i]?=some x,fun i H=>∃ xs,SqL K H a xs∧xs.length≤i⟩
def Itt (K:PySem.W.Frag) (a:Addr):It :=
 ⟨fun i H=>∃ xs x,SqT K H a xs∧xs[i]?=some x,fun i H x H'=>H'=H∧∀ xs,SqT K H a xs→xs[i]?=some x,fun i H=>∃ xs,SqT K H a xs∧xs.length≤i⟩
def Itr (lo:Int) (n:Nat):It:=⟨fun i _=>i<n,fun i H x H'=>H'=H∧x=.int (lo+i),fun i _=>n≤i⟩
theorem Zg {P:Program}{w:World}{K:PySem.W.Frag}{tg:Expr} (a it:Addr):Turn P w K tg (Itl K a) [it] it (fun i h=>h.IsListIter it a i) where
 mem:=by simp
 obj:=fun i h st b hb=>by
  have e:b=it:=by simpa using hb
  subst e
  obtain⟨o,e,c,d⟩:=st
  exact⟨o,e,fun v z=>by rw[d] at z;cases z⟩
 keep:=fun i h h' st k=>st.at fun o e=>k it (by simp) o e
 item:=by
  intro X hP hw hK hc i pins s σ H E I hf st hg
  subst hP hw hK
  obtain⟨xs,x,hq,hx⟩:=hg
  obtain⟨its,rv,p,hz⟩:=I.list hq
  obtain⟨u,hu,ru⟩:=rv.get hx
  obtain⟨f0,f1,f2,f3,f4,f5⟩:=hf it (by simp)
  refine wpAny_pyNext_list_item st p.isList (x:=u) (by simpa using hu) fun h' st' sb=>?_
  have I1:Inv X pins σ H { s with heap:=h' }:=I.turned (t':=s.toks) (fun b o hb e=>(sb.2 b hb).trans e) f0 f1 f3 f4 f5
  obtain⟨o,e,c,d⟩:=id st'
  exact⟨u,rfl,zaI (s:={ s with heap:=h' }) e c d (by decide) ⟨x,H,I1,ru,⟨rfl,fun ys hy=>by rw[I.list_inj hy hq];exact hx⟩,st',fun b hb=>(hf b hb).1⟩⟩
 done:=by
  intro X hP hw hK hc i pins s σ H E I hf st hg
  subst hP hw hK
  obtain⟨xs,hq,hx⟩:=hg
  obtain⟨its,rv,p,hz⟩:=I.list hq
  obtain⟨f0,f1,f2,f3,f4,f5⟩:=hf it (by simp)
  have hl:=rv.length
  exact wpAny_pyNext_list_end (I.ok.hd hc) st p.isList (by simp;omega) fun h' eb=>⟨rfl,I.turned (t':=s.toks) (fun b o hb e=>eb b o hb e) f0 f1 f3 f4 f5⟩
 self:=fun _ _ _ _ _ st h=>wpAny_pyIter_listiter st h
theorem uB {P:Program}{w:World}{K:PySem.W.Frag}{tg:Expr} (a it:Addr):Turn P w K tg (Itt K a) [it] it (fun i h=>h.IsTupleIter it a i) where
 mem:=by simp
 obj:=fun i h st b hb=>by
  have e:b=it:=by simpa using hb
  subst e
  obtain⟨o,e,c,d⟩:=st
  exact⟨o,e,fun v z=>by rw[d] at z;cases z⟩
 keep:=fun i h h' st k=>st.at fun o e=>k it (by simp) o e
 item:=by
  intro X hP hw hK hc i pins s σ H E I hf st hg
  subst hP hw hK
  obtain⟨xs,x,hq,hx⟩:=hg
  obtain⟨its,rv,p,hz⟩:=I.tuple hq
  obtain⟨u,hu,ru⟩:=rv.get hx
  obtain⟨f0,f1,f2,f3,f4,f5⟩:=hf it (by simp)
  refine wpAny_pyNext_tuple_item st (show s.heap.IsTuple a its.toArray from p) (x:=u) (by simpa using hu) fun h' st' sb=>?_
  have I1:Inv X pins σ H { s with heap:=h' }:=I.turned (t':=s.toks) (fun b o hb e=>(sb.2 b hb).trans e) f0 f1 f3 f4 f5
  obtain⟨o,e,c,d⟩:=id st'
  exact⟨u,rfl,zaI (s:={ s with heap:=h' }) e c d (by decide) ⟨x,H,I1,ru,⟨rfl,fun ys hy=>by rw[I.tuple_inj hy hq];exact hx⟩,st',fun b hb=>(hf b hb).1⟩⟩
 done:=by
  intro X hP hw hK hc i pins s σ H E I hf st hg
  subst hP hw hK
  obtain⟨xs,hq,hx⟩:=hg
  obtain⟨its,rv,p,hz⟩:=I.tuple hq
  obtain⟨f0,f1,f2,f3,f4,f5⟩:=hf it (by simp)
  have hl:=rv.length
  exact wpAny_pyNext_tuple_end (I.ok.hd hc) st (show s.heap.IsTuple a its.toArray from p) (by simp;omega) fun h' eb=>⟨rfl,I.turned (t':=s.toks) (fun b o hb e=>eb b o hb e) f0 f1 f3 f4 f5⟩
 self:=fun _ _ _ _ _ st h=>wpAny_pyIter_tupleiter st h
theorem uC {P:Program}{w:World}{K:PySem.W.Frag}{tg:Expr}(it:Addr) (lo:Int) (n:Nat):Turn P w K tg (Itr lo n) [it] it (fun i h=>IsRangeIter h it (lo+(i:Nat)*1) ((n:Int)-(i:Nat)) 1) where
 mem:=by simp
 obj:=fun i h st b hb=>by
  have e:b=it:=by simpa using hb
  subst e
  exact⟨_,st,fun v z=>by
   have z':Data.fields _=Data.cell v:=z
   cases z'⟩
 keep:=fun i h h' st k=>k it (by simp) _ st
 item:=by
  intro X hP hw hK hc i pins s σ H E I hf st hg
  subst hP hw hK
  obtain⟨f0,f1,f2,f3,f4,f5⟩:=hf it (by simp)
  have W:=Walks.range (prog:=X.prog) (w:=X.w) (I.ok.hd hc) it lo 1 n
  refine W.item i s _ _ hg st fun v h' tk hv st' kk=>?_
  obtain⟨t,rfl⟩:=hv
  have I1:Inv X pins σ H { s with heap:=h',toks:=tk }:=I.turned (fun b o hb e=>kk b o (by simpa using hb) e) f0 f1 f3 f4 f5
  refine⟨_,rfl,zaI (s:={ s with heap:=h',toks:=tk }) (n := "range_iterator") st' rfl rfl (by decide) ⟨.int (lo+i),H,I1,⟨t,?_⟩,⟨rfl,rfl⟩,st',fun b hb=>(hf b hb).1⟩⟩
  rw[Int.mul_one]
 done:=by
  intro X hP hw hK hc i pins s σ H E I hf st hg
  subst hP hw hK
  obtain⟨f0,f1,f2,f3,f4,f5⟩:=hf it (by simp)
  exact wpAny_pyNext_range_end (I.ok.hd hc) st (by have:n≤i:=hg;omega) fun h' eb=>⟨rfl,I.turned (t':=s.toks) (fun b o hb e=>eb b o hb e) f0 f1 f3 f4 f5⟩
 self:=fun _ _ _ _ _ st h=>wpAny_pyIter_rangeiter st h
section
variable {X:Cx}{tg:Expr}
def zyA (K:PySem.W.Frag) (tl:TE):TI:=fun σ H R=>tl σ H fun x H1=>∃ a,x=.ref a∧(∃ xs,SqL K H1 a xs)∧R (Itl K a) H1
def zHj (K:PySem.W.Frag) (tl:TE):TI:=fun σ H R=>tl σ H fun x H1=>∃ a,x=.ref a∧(∃ xs,SqT K H1 a xs)∧R (Itt K a) H1
theorem zC {l:Expr}{tl:TE}(hl:Bx (PE X l tl)):Bx (PI X tg l (zyA X.K tl)):=by
 have hl:=hl.of
 refine⟨?_⟩
 intro pins s σ H R I h
 refine thn (hl pins s σ H _ I h) fun v s1 hq0=>?_
 obtain⟨x,H1,I1,r1,q1⟩:=hq0
 obtain⟨a,e,⟨xs,hq⟩,q⟩:=q1
 subst e
 cases r1
 obtain⟨its,rv,p,hz⟩:=I1.list hq
 refine wpAny_pyIter_list p.isList ?_
 refine⟨s1.heap.objs.size,[s1.heap.objs.size],_,_,H1,rfl,I1.kept (t':=s1.toks) fun b o e=>Heap.get?_push_of_some _ e,Zg a _,⟨_,Heap.get?_push_size _ rfl,rfl,rfl⟩,fun b hb=>?_,q⟩
 have e:b=s1.heap.objs.size:=by simpa using hb
 subst e
 exact I1.fpOk (Nat.le_refl _) (I1.hok.fresh (Nat.le_refl _))
theorem Y3 {l:Expr}{tl:TE}(hl:Bx (PE X l tl)):Bx (PI X tg l (zHj X.K tl)):=by
 have hl:=hl.of
 refine⟨?_⟩
 intro pins s σ H R I h
 refine thn (hl pins s σ H _ I h) fun v s1 hq0=>?_
 obtain⟨x,H1,I1,r1,q1⟩:=hq0
 obtain⟨a,e,⟨xs,hq⟩,q⟩:=q1
 subst e
 cases r1
 obtain⟨its,rv,p,hz⟩:=I1.tuple hq
 refine wpAny_pyIter_tuple (show s1.heap.IsTuple a its.toArray from p) ?_
 refine⟨s1.heap.objs.size,[s1.heap.objs.size],_,_,H1,rfl,I1.kept (t':=s1.toks) fun b o e=>Heap.get?_push_of_some _ e,uB a _,⟨_,Heap.get?_push_size _ rfl,rfl,rfl⟩,fun b hb=>?_,q⟩
 have e:b=s1.heap.objs.size:=by simpa using hb
 subst e
 exact I1.fpOk (Nat.le_refl _) (I1.hok.fresh (Nat.le_refl _))
theorem Xf {pins:List (Addr×Obj)}{σ:St}{H:Hp}{s:Shared}{R:It→Hp→Prop}{E:Value→Shared→Prop}{lo hi:Int}{t u v:Tok}{tk:Nat}(I:Inv X pins σ H s) (h1 : -(2 ^ 62)≤lo) (h2:lo<2 ^ 62) (h3 : -(2 ^ 62)≤hi) (h4:hi<2 ^ 62)
  (q:R (Itr lo (hi-lo).toNat) H):wpAny (model X.prog X.w) X.A (pyIter (.ref s.heap.objs.size)) (PIE X pins σ tg R) E { s with heap:=s.heap.push { cls:=.type "range",data:=.fields #[.int lo t,.int hi u,.int 1 v] },toks:=tk }:=by
 refine wpAny_pyIter_range (IsRange.new ..) (small_one h1 h2 h3 h4) ?_
 have I1:Inv X pins σ H { s with heap:=s.heap.push { cls:=.type "range",data:=.fields #[.int lo t,.int hi u,.int 1 v] },toks:=tk }:=I.kept fun b o e=>Heap.get?_push_of_some _ e
 refine⟨(s.heap.push { cls:=.type "range",data:=.fields #[.int lo t,.int hi u,.int 1 v] }).objs.size,[(s.heap.push { cls:=.type "range",data:=.fields #[.int lo t,.int hi u,.int 1 v] }).objs.size],_,_,H,rfl,
  I1.kept (t':=tk) fun b o e=>Heap.get?_push_of_some _ e,uC _ lo (hi-lo).toNat,?_,fun b hb=>?_,q⟩
 ·have e1:lo+((0:Nat):Int)*1=lo:=by simp
  have e2:(((hi-lo).toNat:Nat):Int)-((0:Nat):Int)=Builtin.Range.rangeSize lo hi 1:=by rw[rangeSize_one];split<;>omega
  show IsRangeIter _ _ (lo+((0:Nat):Int)*1) ((((hi-lo).toNat:Nat):Int)-((0:Nat):Int)) 1
  rw[e1,e2]
  exact Heap.get?_push_size _ rfl
 ·have e:b=(s.heap.push { cls:=.type "range",data:=.fields #[.int lo t,.int hi u,.int 1 v] }).objs.size:=by simpa using hb
  subst e
  exact I1.fpOk (Nat.le_refl _) (I1.hok.fresh (Nat.le_refl _))
def zyz (ta:TA):TI:=fun σ H R=>ta σ H fun vs H1=>∃ j:Int,vs=[.int j]∧-(2 ^ 62)≤j∧j<2 ^ 62∧R (Itr 0 j.toNat) H1
theorem vn {a:Expr}{ta:TA}{p pos:Pos}(hg:Gl X "range") (hm:X.mg "range" = none) (ha:Bx (PA X [a] ta)) (hs:starEach [a] X.env=[(false,eval a X.env)]:=by rfl):Bx (PI X tg (.Call (.Name "range" p) [a] [] pos) (zyz ta)):=by
 have ha:=ha.of
 refine⟨?_⟩
 intro pins s σ H R I h
 refine Call_ (ld_blt I hg hm boot_range (PyProof.Rows.callWith_type1 (thn (ha pos pins s σ H _ I h) fun us s1 hq0=>?_) hs rfl))
 obtain⟨vs,H1,I1,r1,q1⟩:=hq0
 obtain⟨j,e,q1,q2,q⟩:=q1
 subst e
 cases r1 with
 |cons r rr =>
  cases rr
  obtain⟨t,rfl⟩:=r
  exact call_range_1 (Xf I1 (by omega) (by omega) q1 q2 (by simpa using q))
def zFX (wi:TI) (g:TG) (tb:TS):TS:=fun D σ H=>wi σ H fun J H1=>∃ W:Nat→Nat→St→Hp→Prop,(∃ m,W 0 m σ H1)∧∀ i m σ H,W i m σ H →
 (J.stop i H∧D.nx σ H)∨(J.go i H∧∃ N:St→Hp→Prop,(∀ σ' H',N σ' H'→∃ m',m'<m∧W (i+1) m' σ' H')∧∀ x H',J.yld i H x H'→g x σ H' fun σ2 H2=>tb { D with nx:=N,ct:=N,bk:=D.nx } σ2 H2)
def wO (fp:List Addr) (h:Heap):List (Addr×Obj):=fp.filterMap fun b=>(h.get? b).map fun o=>(b,o)
theorem yK {fp:List Addr}{h:Heap}{b:Addr}{o:Obj}(hb:b∈fp) (e:h.get? b=some o):(b,o)∈wO fp h:=List.mem_filterMap.mpr ⟨b,hb,by rw[e];rfl⟩
theorem ZU {fp:List Addr}{h:Heap}{p:Addr×Obj}(hp:p∈wO fp h):p.1∈fp∧h.get? p.1=some p.2:=by
 obtain⟨b,hb,e⟩:=List.mem_filterMap.mp hp
 cases q:h.get? b with
 |none=>rw[q] at e;cases e
 |some o =>
  rw[q] at e
  have e':(b,o)=p:=Option.some.inj e
  subst e'
  exact⟨hb,q⟩
theorem Inv.pinned {pins:List (Addr×Obj)}{σ:St}{H:Hp}{s:Shared}{fp:List Addr}(I:Inv X pins σ H s) (hf:∀ b∈fp,FpOk X pins H b) (ho:∀ b∈fp,∃ o,s.heap.get? b=some o∧∀ v,o.data≠.cell v):Inv X (pins++wO fp s.heap) σ H s :=
 I.pins_of fun p hp=>(List.mem_append.mp hp).elim (fun z=>I.pin p (List.mem_append_right _ z)) fun z=>by
  obtain⟨hb,e⟩:=ZU z
  obtain⟨f0,f1,f2,_⟩:=hf p.1 hb
  obtain⟨o,e',d⟩:=ho p.1 hb
  rw[e] at e';cases e'
  exact⟨e,f0,f1,f2,d⟩
theorem Inv.unpinned {pins pl:List (Addr×Obj)}{σ:St}{H:Hp}{s:Shared}(I:Inv X (pins++pl) σ H s):Inv X pins σ H s:=I.pins_of fun p hp=>I.pin p (List.mem_append_right _ (List.mem_append_left _ hp))
theorem zO {iter:Expr}{body:List Stmt}{wi:TI}{g:TG}{tb:TS}{pos:Pos}(hp:PassesOwn (model X.prog X.w) X.A X.env X.xe) (hc:X.calm=true) (hi:Bx (PI X tg iter wi)) (hg:Bx (PG X tg g)) (hb:Bx (PSs X body tb)) (hs:∀ x,foldedSetIterable iter X.env x=pure x:=by intro _;rfl):Bx (PS X (.For tg iter body [] pos) (zFX wi g tb)):=by
 have hi:=hi.of
 have hg:=hg.of
 have hb:=hb.of
 refine⟨?_⟩
 intro pins s σ H D I h
 refine wpAny_For (thn (hi pins s σ H _ I h) fun v s1 h1=>thn h1 fun itv s2 h2=>?_) hs
 obtain⟨it,fp,tn,J,H2,e,I2,T,st2,f2,W,⟨m0,w0⟩,turn⟩:=h2
 subst e
 -- what stays true of the iterator's objects through the loop
 have stat:∀ {H':Hp},(∀ b∈fp,H' b=none)→∀ b∈fp,FpOk X pins H' b:=fun hn b hb=>⟨hn b hb,(f2 b hb).2⟩
 refine codeAny_forLoop_any (fun n s'=>∃ i σ' H',Inv X pins σ' H' s'∧tn i s'.heap∧(∀ b∈fp,H' b=none)∧W i n σ' H') ?_ m0 ⟨0,σ,H2,I2,st2,fun b hb=>(f2 b hb).1,w0⟩
 rintro n s3 ⟨i,σ3,H3,I3,st3,fr3,w3⟩
 rcases turn i n σ3 H3 w3 with⟨stop,qn⟩ | ⟨go,N,hN,step⟩
 ·refine wpAny_passesOwn hp (thn (T.done X rfl rfl rfl hc i pins s3 σ3 H3 X.xe I3 (stat fr3) st3 stop) fun r s4 ⟨hr,I4⟩=>?_)
  subst hr
  exact wpAny_execs_nil ⟨σ3,H3,I4,qn⟩
 ·refine wpAny_passesOwn hp (thn (T.item X rfl rfl rfl hc i pins s3 σ3 H3 X.xe I3 (stat fr3) st3 go) fun r s4 ⟨u,hr,h4⟩=>?_)
  subst hr
  refine wpAny_passesOwn hp (thn h4 fun _ s5 hq0=>?_)
  obtain⟨x,H5,I5,r5,y5,st5,fr5⟩:=hq0
  have I5':=I5.pinned (stat fr5) (T.obj _ _ st5)
  refine wpAny_passesOwn hp (thn (hg _ s5 σ3 H5 x u _ I5' r5 (step x H5 y5)) fun _ s6 hq0=>?_)
  obtain⟨σ6,H6,I6,q6⟩:=hq0
  refine wpAny_passesOwn hp (thn (hb _ s6 σ6 H6 _ I6 q6) fun f s7 q7=>?_)
  have again:∀ {σ7:St}{H7:Hp},Inv X (pins++wO fp s5.heap) σ7 H7 s7→N σ7 H7→∃ m,m<n∧∃ i σ' H',Inv X pins σ' H' s7∧tn i s7.heap∧(∀ b∈fp,H' b=none)∧W i m σ' H':=fun {σ7 H7} I7 n7=>by
   obtain⟨m',hm,w7⟩:=hN σ7 H7 n7
   refine⟨m',hm,i+1,σ7,H7,I7.unpinned,T.keep _ _ _ st5 fun b hb o e=>(I7.pin (b,o) (List.mem_append_right _ (List.mem_append_right _ (yK hb e)))).1,fun b hb=>?_,w7⟩
   obtain⟨o,e,d⟩:=T.obj _ _ st5 b hb
   exact(I7.pin (b,o) (List.mem_append_right _ (List.mem_append_right _ (yK hb e)))).2.1
  cases f with
  |next=>obtain⟨σ7,H7,I7,n7⟩:=q7;exact again I7 n7
  |cont=>obtain⟨σ7,H7,I7,n7⟩:=q7;exact again I7 n7
  |brk=>obtain⟨σ7,H7,I7,q7⟩:=q7;exact⟨σ7,H7,I7.unpinned,q7⟩
  |ret v=>obtain⟨x7,σ7,H7,I7,r7,q7⟩:=q7;exact⟨x7,σ7,H7,I7.unpinned,r7,q7⟩
end
theorem zX {K:PySem.W.Frag}{a:Addr}{xs:List V}{g:TG}{tb:TS}{D:Ends}{σ:St}{H:Hp}(Pv:Nat→St→Hp→Prop) (h0:Pv 0 σ H) (hl:∀ i σ H,i≤xs.length→Pv i σ H→SqL K H a xs)
  (hs:∀ i x σ H,xs[i]?=some x→Pv i σ H→g x σ H fun σ2 H2=>tb { D with nx:=Pv (i+1),ct:=Pv (i+1),bk:=D.nx } σ2 H2) (hd:∀ σ H,Pv xs.length σ H→D.nx σ H) :
  ∃ W:Nat→Nat→St→Hp→Prop,(∃ m,W 0 m σ H)∧∀ i m σ H,W i m σ H →
   ((Itl K a).stop i H∧D.nx σ H)∨((Itl K a).go i H∧∃ N:St→Hp→Prop,(∀ σ' H',N σ' H'→∃ m',m'<m∧W (i+1) m' σ' H')∧∀ x H',(Itl K a).yld i H x H'→g x σ H' fun σ2 H2=>tb { D with nx:=N,ct:=N,bk:=D.nx } σ2 H2):=by
 refine⟨fun i m σ H=>m=xs.length-i∧i≤xs.length∧Pv i σ H,⟨xs.length,by simp,Nat.zero_le _,h0⟩,?_⟩
 rintro i m σ H ⟨rfl,hi,p⟩
 have q:=hl i σ H hi p
 by_cases hlt:i<xs.length
 ·refine .inr ⟨⟨xs,xs[i],q,by simp[hlt]⟩,Pv (i+1),fun σ' H' p'=>⟨xs.length-(i+1),by omega,rfl,hlt,p'⟩,fun x H' y=>?_⟩
  obtain⟨e,y⟩:=y
  subst e
  exact hs i x σ _ (y xs q) p
 ·have e:i=xs.length:=by omega
  subst e
  exact .inl ⟨⟨xs,q,Nat.le_refl _⟩,hd σ H p⟩
theorem Ys {lo:Int}{n:Nat}{g:TG}{tb:TS}{D:Ends}{σ:St}{H:Hp}(Pv:Nat→St→Hp→Prop) (h0:Pv 0 σ H)
  (hs:∀ i σ H,i<n→Pv i σ H→g (.int (lo+i)) σ H fun σ2 H2=>tb { D with nx:=Pv (i+1),ct:=Pv (i+1),bk:=D.nx } σ2 H2) (hd:∀ σ H,Pv n σ H→D.nx σ H) :
  ∃ W:Nat→Nat→St→Hp→Prop,(∃ m,W 0 m σ H)∧∀ i m σ H,W i m σ H →
   ((Itr lo n).stop i H∧D.nx σ H)∨((Itr lo n).go i H∧∃ N:St→Hp→Prop,(∀ σ' H',N σ' H'→∃ m',m'<m∧W (i+1) m' σ' H')∧∀ x H',(Itr lo n).yld i H x H'→g x σ H' fun σ2 H2=>tb { D with nx:=N,ct:=N,bk:=D.nx } σ2 H2):=by
 refine⟨fun i m σ H=>m=n-i∧i≤n∧Pv i σ H,⟨n,by simp,Nat.zero_le _,h0⟩,?_⟩
 rintro i m σ H ⟨rfl,hi,p⟩
 by_cases hlt:i<n
 ·refine .inr ⟨hlt,Pv (i+1),fun σ' H' p'=>⟨n-(i+1),by omega,rfl,hlt,p'⟩,fun x H' y=>?_⟩
  obtain⟨e,y⟩:=y
  subst e y
  exact hs i σ _ hlt p
 ·have e:i=n:=by omega
  subst e
  exact .inl ⟨Nat.le_refl _,hd σ H p⟩
abbrev R2:=V→V→Hp→VK→Prop
def OpR (X:Cx) (f:Value→Value→Sem Value) (r:R2):Prop :=
 ∀ (pins:List (Addr×Obj)) (s:Shared) (σ:St) (H:Hp) (x y:V) (v u:Value) (Q:VK),Inv X pins σ H s→RelV x v→RelV y u→r x y H Q →
  wpAny (model X.prog X.w) X.A (f v u) (EP X pins σ Q) X.xe s
def UnR (X:Cx) (f:Value→Sem Value) (r:V→Hp→VK→Prop):Prop :=
 ∀ (pins:List (Addr×Obj)) (s:Shared) (σ:St) (H:Hp) (x:V) (v:Value) (Q:VK),Inv X pins σ H s→RelV x v→r x H Q →
  wpAny (model X.prog X.w) X.A (f v) (EP X pins σ Q) X.xe s
def yu (X:Cx) (f:Value) (r:List V→Hp→VK→Prop):Prop :=
 ∀ (pins:List (Addr×Obj)) (s:Shared) (σ:St) (H:Hp) (xs:List V) (us:List Value) (Q:VK),Inv X pins σ H s→Vals xs us→r xs H Q →
  wpAny (model X.prog X.w) X.A (call f us) (EP X pins σ Q) X.xe s
def tOp (r:R2) (ta tb:TE):TE:=fun σ H Q=>ta σ H fun x H1=>tb σ H1 fun y H2=>r x y H2 Q
def tUn (r:V→Hp→VK→Prop) (ta:TE):TE:=fun σ H Q=>ta σ H fun x H1=>r x H1 Q
def rI (C:Int→Int→Prop) (g:Int→Int→V):R2:=fun x y H Q=>∃ i j,x=.int i∧y=.int j∧C i j∧Q (g i j) H
def rI0 (g:Int→Int→V):R2:=fun x y H Q=>∃ i j,x=.int i∧y=.int j∧Q (g i j) H
def rU (g:Int→V):V→Hp→VK→Prop:=fun x H Q=>∃ i,x=.int i∧Q (g i) H
section
variable {X:Cx}{a b c:Expr}{ta tb tc:TE}{pos:Pos}
theorem binT (ha:PE X a ta) (hb:PE X b tb){pins:List (Addr×Obj)}{s:Shared}{σ:St}{H:Hp}{R:V→V→Hp→Prop}(I:Inv X pins σ H s)
  (h:ta σ H fun x H1=>tb σ H1 fun y H2=>R x y H2){Q:Value→Shared→Prop}{f:Value→Value→Sem Value}
  (hf:∀ v u s2 x y H2,Inv X pins σ H2 s2→RelV x v→RelV y u→R x y H2→wpAny (model X.prog X.w) X.A (f v u) Q X.xe s2) :
  wpAny (model X.prog X.w) X.A (eval a X.env) (fun v s₁=>wpAny (model X.prog X.w) X.A (eval b X.env) (fun u s₂=>wpAny (model X.prog X.w) X.A (f v u) Q X.xe s₂) X.xe s₁) X.xe s:=by
 refine thn (ha pins s σ H _ I h) fun v s1 hq0=>?_
 obtain⟨x,H1,I1,r1,q1⟩:=hq0
 refine thn (hb pins s1 σ H1 _ I1 q1) fun u s2 hq0=>?_
 obtain⟨y,H2,I2,r2,q2⟩:=hq0
 exact hf v u s2 x y H2 I2 r1 r2 q2
theorem zj {op:Operator}{r:R2}(ho:OpR X (binaryOp op) r) (ha:Bx (PE X a ta)) (hb:Bx (PE X b tb)):Bx (PE X (.BinOp a op b pos) (tOp r ta tb)):=by
 have ha:=ha.of
 have hb:=hb.of
 refine⟨?_⟩
 intro pins s σ H Q I h
 exact wpAny_BinOp (binT ha hb I h fun v u s2 x y H2 I2 rx ry q=>ho pins s2 σ H2 x y v u Q I2 rx ry q)
theorem vo {op:UnaryOp}{r:V→Hp→VK→Prop}(ho:UnR X (unaryOp op) r) (ha:Bx (PE X a ta)):Bx (PE X (.UnaryOp op a pos) (tUn r ta)):=by
 have ha:=ha.of
 refine⟨?_⟩
 intro pins s σ H Q I h
 exact UnaryOp_ (thn (ha pins s σ H _ I h) fun v s1 ⟨x,H1,I1,r1,q1⟩=>ho pins s1 σ H1 x v Q I1 r1 q1)
theorem opI {f:Value→Value→Sem Value}{C:Int→Int→Prop}{g:Int→Int→Int}
  (rule:∀ (i j:Int) (t u:Tok) (s:Shared) (Q:Value→Shared→Prop) (E:Value→Shared→Prop),C i j→Q (.int (g i j) s.toks) { s with toks:=s.toks+1 }→wpAny (model X.prog X.w) X.A (f (.int i t) (.int j u)) Q E s) :
  OpR X f (rI C fun i j=>.int (g i j)):=by
 intro pins s σ H x y v u Q I rx ry h
 obtain⟨i,j,rfl,rfl,hc,q⟩:=h
 obtain⟨t,rfl⟩:=rx
 obtain⟨t',rfl⟩:=ry
 exact rule i j t t' s _ _ hc ⟨.int (g i j),H,I.tok _,⟨_,rfl⟩,q⟩
theorem zDP {f:Value→Value→Sem Value}{g:Int→Int→Int}
  (rule:∀ (i j:Int) (t u:Tok) (s:Shared) (Q:Value→Shared→Prop) (E:Value→Shared→Prop),Q (.int (g i j) s.toks) { s with toks:=s.toks+1 }→wpAny (model X.prog X.w) X.A (f (.int i t) (.int j u)) Q E s) :
  OpR X f (rI0 fun i j=>.int (g i j)):=by
 intro pins s σ H x y v u Q I rx ry h
 obtain⟨i,j,rfl,rfl,q⟩:=h
 obtain⟨t,rfl⟩:=rx
 obtain⟨t',rfl⟩:=ry
 exact rule i j t t' s _ _ ⟨.int (g i j),H,I.tok _,⟨_,rfl⟩,q⟩
theorem zpA {f:Value→Value→Sem Value}{g:Int→Int→Bool}
  (rule:∀ (i j:Int) (t u:Tok) (s:Shared) (Q:Value→Shared→Prop) (E:Value→Shared→Prop),Q (.bool (g i j)) s→wpAny (model X.prog X.w) X.A (f (.int i t) (.int j u)) Q E s) :
  OpR X f (rI0 fun i j=>.bl (g i j)):=by
 intro pins s σ H x y v u Q I rx ry h
 obtain⟨i,j,rfl,rfl,q⟩:=h
 obtain⟨t,rfl⟩:=rx
 obtain⟨t',rfl⟩:=ry
 exact rule i j t t' s _ _ ⟨.bl (g i j),H,I,rfl,q⟩
def CPow (i j:Int):Prop:=0≤j∧j≤1000000∧i.natAbs<2 ^ 64
def CMul (i j:Int):Prop:=(-(2 ^ 64)<i∧i<2 ^ 64)∨(-(2 ^ 64)<j∧j<2 ^ 64)
theorem CMul.ok {i j:Int}(h:CMul i j):IntMulOk i j:=by
 rcases h with⟨h1,h2⟩ | ⟨h1,h2⟩
 ·exact .of_left (intBits_le_64 h1 h2)
 ·exact .of_right (intBits_le_64 h1 h2)
theorem yC:OpR X (binaryOp .Add) (rI0 fun i j=>.int (i+j)):=zDP fun _ _ _ _ _ _ _ q=>add_int q
theorem yp:OpR X (binaryOp .Sub) (rI0 fun i j=>.int (i-j)):=zDP fun _ _ _ _ _ _ _ q=>sub_int q
theorem xA:OpR X (binaryOp .Mult) (rI CMul fun i j=>.int (i*j)):=opI fun _ _ _ _ _ _ _ hc q=>mul_int q hc.ok
theorem xB:OpR X (binaryOp .Mod) (rI (fun _ j=>0<j) fun i j=>.int (i%j)):=opI fun i j _ _ _ _ _ hc q=>by
 have h1:(0:Int)<j:=hc
 exact mod_int' (by omega) (by rw[Int.fmod_eq_emod_of_nonneg i (by omega)];exact q)
theorem xz:OpR X (binaryOp .Pow) (rI CPow fun i j=>.int (i ^ j.toNat)):=opI fun _ _ _ _ _ _ _ hc q=>pow_int_small hc.1 hc.2.1 hc.2.2 q
theorem unI {f:Value→Sem Value}{g:Int→Int}
  (rule:∀ (i:Int) (t:Tok) (s:Shared) (Q:Value→Shared→Prop) (E:Value→Shared→Prop),Q (.int (g i) s.toks) { s with toks:=s.toks+1 }→wpAny (model X.prog X.w) X.A (f (.int i t)) Q E s) :
  UnR X f (rU fun i=>.int (g i)):=by
 intro pins s σ H x v Q I rx h
 obtain⟨i,rfl,q⟩:=h
 obtain⟨t,rfl⟩:=rx
 exact rule i t s _ _ ⟨.int (g i),H,I.tok _,⟨_,rfl⟩,q⟩
theorem Zf:UnR X (unaryOp .USub) (rU fun i=>.int (-i)):=unI fun _ _ _ _ _ q=>neg_int q
end
def zDI:V→V→Bool
 |.non,.non=>true | .non,.int _=>true | .int _,.non=>true | .non,.bl _=>true | .bl _,.non=>true | .non,.str _=>true | .str _,.non=>true
 |.int _,.int _=>true | .bl _,.bl _=>true | .str _,.str _=>true | .byt _,.byt _=>true
 |.int _,.str _=>true | .str _,.int _=>true | .bl _,.str _=>true | .str _,.bl _=>true
 |_,_=>false
def rEq:R2:=fun x y H Q=>zDI x y=true∧Q (.bl (decide (x=y))) H
def rNe:R2:=fun x y H Q=>zDI x y=true∧Q (.bl (!decide (x=y))) H
theorem Yv {i j:Int}:decide (V.int i=V.int j)=(i == j):=by
 rw[Bool.eq_iff_iff]
 simp
theorem Vl {i j:Bool}:decide (V.bl i=V.bl j)=(i == j):=by
 rw[Bool.eq_iff_iff]
 simp
theorem Yu {i j:Str}:decide (V.str i=V.str j)=(i == j):=by
 rw[Bool.eq_iff_iff]
 simp
theorem Yw {i j:Array UInt8}:decide (V.byt i=V.byt j)=(i.toList == j.toList):=by
 rw[Bool.eq_iff_iff]
 cases i
 cases j
 simp
section
variable {X:Cx}{a b c:Expr}{ta tb tc:TE}{pos:Pos}
theorem zA {pins:List (Addr×Obj)}{σ:St}{H:Hp}{s:Shared}{Q:VK}{k k':Bool}(I:Inv X pins σ H s) (q:Q (.bl k) H) (e:k=k'):EP X pins σ Q (.bool k') s:=by
 subst e
 exact⟨.bl k,H,I,rfl,q⟩
theorem yh:OpR X (compareOp .Eq) rEq:=by
 intro pins s σ H x y v u Q I rx ry h
 obtain⟨hs,q⟩:=h
 cases x with
 |non =>
  cases rx
  cases y with
  |non=>cases ry;exact PySem.EqNone.eq_none_none (zA I q (by simp))
  |bl j=>cases ry;exact PySem.EqNone.eq_none_bool (zA I q (by simp))
  |int j=>obtain⟨t',rfl⟩:=ry;exact PySem.EqNone.eq_none_int (zA I q (by simp))
  |str j=>obtain⟨t',rfl⟩:=ry;exact PySem.EqNone.eq_none_str (zA I q (by simp))
  |_=>exact absurd (show false=true from hs) Bool.false_ne_true
 |bl i =>
  cases rx
  cases y with
  |non=>cases ry;exact PySem.EqNone.eq_bool_none (zA I q (by simp))
  |bl j=>cases ry;exact eq_bool (zA I q Vl)
  |str j=>obtain⟨t',rfl⟩:=ry;exact PySem.EqMixed.eq_bool_str (zA I q (by simp))
  |_=>exact absurd (show false=true from hs) Bool.false_ne_true
 |int i =>
  obtain⟨t,rfl⟩:=rx
  cases y with
  |non=>cases ry;exact PySem.EqNone.eq_int_none (zA I q (by simp))
  |int j=>obtain⟨t',rfl⟩:=ry;exact eq_int (zA I q Yv)
  |str j=>obtain⟨t',rfl⟩:=ry;exact PySem.EqMixed.eq_int_str (zA I q (by simp))
  |_=>exact absurd (show false=true from hs) Bool.false_ne_true
 |str i =>
  obtain⟨t,rfl⟩:=rx
  cases y with
  |non=>cases ry;exact PySem.EqNone.eq_str_none (zA I q (by simp))
  |bl j=>cases ry;exact PySem.EqMixed.eq_str_bool (zA I q (by simp))
  |int j=>obtain⟨t',rfl⟩:=ry;exact PySem.EqMixed.eq_str_int (zA I q (by simp))
  |str j=>obtain⟨t',rfl⟩:=ry;exact eq_str (zA I q Yu)
  |_=>exact absurd (show false=true from hs) Bool.false_ne_true
 |byt i =>
  obtain⟨t,rfl⟩:=rx
  cases y with
  |byt j=>obtain⟨t',rfl⟩:=ry;exact PySem.W.eq_bytes (zA I q Yw)
  |_=>exact absurd (show false=true from hs) Bool.false_ne_true
 |_=>cases y<;>exact absurd (show false=true from hs) Bool.false_ne_true
theorem op_ne:OpR X (compareOp .NotEq) rNe:=by
 intro pins s σ H x y v u Q I rx ry h
 obtain⟨hs,q⟩:=h
 cases x with
 |non =>
  cases rx
  cases y with
  |non=>cases ry;exact PySem.EqNone.ne_none_none (zA I q (by simp))
  |bl j=>cases ry;exact PySem.EqNone.ne_none_bool (zA I q (by simp))
  |int j=>obtain⟨t',rfl⟩:=ry;exact PySem.EqNone.ne_none_int (zA I q (by simp))
  |str j=>obtain⟨t',rfl⟩:=ry;exact PySem.EqNone.ne_none_str (zA I q (by simp))
  |_=>exact absurd (show false=true from hs) Bool.false_ne_true
 |bl i =>
  cases rx
  cases y with
  |non=>cases ry;exact PySem.EqNone.ne_bool_none (zA I q (by simp))
  |bl j=>cases ry;exact ne_bool (zA I q (congrArg not Vl))
  |str j=>obtain⟨t',rfl⟩:=ry;exact PySem.EqMixed.ne_bool_str (zA I q (by simp))
  |_=>exact absurd (show false=true from hs) Bool.false_ne_true
 |int i =>
  obtain⟨t,rfl⟩:=rx
  cases y with
  |non=>cases ry;exact PySem.EqNone.ne_int_none (zA I q (by simp))
  |int j=>obtain⟨t',rfl⟩:=ry;exact ne_int (zA I q (congrArg not Yv))
  |str j=>obtain⟨t',rfl⟩:=ry;exact PySem.EqMixed.ne_int_str (zA I q (by simp))
  |_=>exact absurd (show false=true from hs) Bool.false_ne_true
 |str i =>
  obtain⟨t,rfl⟩:=rx
  cases y with
  |non=>cases ry;exact PySem.EqNone.ne_str_none (zA I q (by simp))
  |bl j=>cases ry;exact PySem.EqMixed.ne_str_bool (zA I q (by simp))
  |int j=>obtain⟨t',rfl⟩:=ry;exact PySem.EqMixed.ne_str_int (zA I q (by simp))
  |str j=>obtain⟨t',rfl⟩:=ry;exact ne_str (zA I q (congrArg not Yu))
  |_=>exact absurd (show false=true from hs) Bool.false_ne_true
 |byt i =>
  obtain⟨t,rfl⟩:=rx
  cases y with
  |byt j=>obtain⟨t',rfl⟩:=ry;exact PySem.W.ne_bytes (zA I q (congrArg not Yw))
  |_=>exact absurd (show false=true from hs) Bool.false_ne_true
 |_=>cases y<;>exact absurd (show false=true from hs) Bool.false_ne_true
theorem Xl:OpR X (compareOp .Lt) (rI0 fun i j=>.bl (decide (i<j))):=zpA fun _ _ _ _ _ _ _ q=>lt_int q
theorem UE:OpR X (compareOp .LtE) (rI0 fun i j=>.bl (decide (i≤j))):=zpA fun _ _ _ _ _ _ _ q=>le_int q
theorem uD:OpR X (compareOp .Gt) (rI0 fun i j=>.bl (decide (j<i))):=zpA fun _ _ _ _ _ _ _ q=>gt_int q
theorem Xm:OpR X (compareOp .GtE) (rI0 fun i j=>.bl (decide (j≤i))):=zpA fun _ _ _ _ _ _ _ q=>ge_int q
theorem znV:OpR X (compareOp .Is) (fun x y H Q=>y=.non∧Q (.bl (decide (x=.non))) H):=by
 intro pins s σ H x y v u Q I rx ry h
 obtain⟨rfl,q⟩:=h
 cases ry
 refine is_none_gen (zA I q ?_)
 cases x<;>first
  |(cases rx;rfl)
  |(obtain⟨t,rfl⟩:=rx;rfl)
theorem UD:OpR X (compareOp .IsNot) (fun x y H Q=>y=.non∧Q (.bl (!decide (x=.non))) H):=by
 intro pins s σ H x y v u Q I rx ry h
 obtain⟨rfl,q⟩:=h
 cases ry
 refine isnot_none_gen (zA I q ?_)
 cases x<;>first
  |(cases rx;rfl)
  |(obtain⟨t,rfl⟩:=rx;rfl)
theorem zq (b:Expr){op:CmpOp}(h:op≠.In:=by decide) (h2:op≠.NotIn:=by decide):behindInMarks op b=false:=by
 have e1:(op == CmpOp.In)=false:=by cases op<;>first | rfl | exact absurd rfl h
 have e2:(op == CmpOp.NotIn)=false:=by cases op<;>first | rfl | exact absurd rfl h2
 cases b<;>simp[behindInMarks,e1,e2]
theorem zP {op:CmpOp}{r:R2}(ho:OpR X (compareOp op) r) (ha:Bx (PE X a ta)) (hb:Bx (PE X b tb)) (hm:behindInMarks op b=false):Bx (PE X (.Compare a [op] [b] pos) (tOp r ta tb)):=by
 have ha:=ha.of
 have hb:=hb.of
 refine⟨?_⟩
 intro pins s σ H Q I h
 exact wpAny_Compare1 (binT ha hb I h fun v u s2 x y H2 I2 rx ry q=>ho pins s2 σ H2 x y v u Q I2 rx ry q) hm
def zrJ (t:TE):TT:=fun σ H Q=>t σ H fun x H'=>∃ k,x=.bl k∧Q k H'
theorem w_pt_cmpR {op:CmpOp}{r:R2}(ho:OpR X (compareOp op) r) (ha:Bx (PE X a ta)) (hb:Bx (PE X b tb)) (hm:behindInMarks op b=false):Bx (PT X (.Compare a [op] [b] pos) (zrJ (tOp r ta tb))):=by
 have ha:=ha.of
 have hb:=hb.of
 refine⟨?_⟩
 intro pins s σ H Q I h
 refine wpAny_isTrue_Compare1 (thn (ha pins s σ H _ I h) fun v s1 ⟨x,H1,I1,r1,q1⟩=>thn (hb pins s1 σ H1 _ I1 q1) fun u s2 ⟨y,H2,I2,r2,q2⟩ =>
  thn (ho pins s2 σ H2 x y v u _ I2 r1 r2 q2) fun c s3 ⟨z,H3,I3,r3,k,e,q3⟩=>?_) hm
 subst e
 cases r3
 exact wpAny_truthy_bool ⟨H3,I3,q3⟩
theorem uh:(sizeLine:Nat)<2 ^ 63:=by rw[sizeLine_eq];decide
theorem wI {x:V}{us:List Value}(r:Vals [x] us):∃ u,us=[u]∧RelV x u:=by
 cases r with
 |cons r1 r2=>cases r2;exact⟨_,rfl,r1⟩
theorem zbi {x y:V}{us:List Value}(r:Vals [x,y] us):∃ u w',us=[u,w']∧RelV x u∧RelV y w':=by
 cases r with
 |cons r1 r2 =>
  cases r2 with
  |cons r3 r4=>cases r4;exact⟨_,_,rfl,r1,r3⟩
theorem XY:yu X (.builtin "abs") (fun xs H Q=>∃ i,xs=[.int i]∧Q (.int (if i<0 then -i else i)) H):=by
 intro pins s σ H xs us Q I r h
 obtain⟨i,rfl,q⟩:=h
 obtain⟨u,rfl,t,rfl⟩:=wI r
 exact call_abs_int fun u tk=>⟨.int (if i<0 then -i else i),H,I.tok _,⟨_,rfl⟩,q⟩
theorem YF (hc:X.calm=true):yu X (.builtin "max") (fun xs H Q=>∃ i j,xs=[.int i,.int j]∧Q (.int (if j>i then j else i)) H):=by
 intro pins s σ H xs us Q I r h
 obtain⟨i,j,rfl,q⟩:=h
 obtain⟨u,w',rfl,⟨t,rfl⟩,⟨t',rfl⟩⟩:=zbi r
 refine max_two_ints (I.ok.hd hc) fun h' tk k=>⟨_,H,I.kept k,?_,q⟩
 by_cases hj:j>i
 ·rw[if_pos hj,if_pos hj];exact⟨_,rfl⟩
 ·rw[if_neg hj,if_neg hj];exact⟨_,rfl⟩
theorem YD (hc:X.calm=true):yu X (.builtin "min") (fun xs H Q=>∃ i j,xs=[.int i,.int j]∧Q (.int (if j<i then j else i)) H):=by
 intro pins s σ H xs us Q I r h
 obtain⟨i,j,rfl,q⟩:=h
 obtain⟨u,w',rfl,⟨t,rfl⟩,⟨t',rfl⟩⟩:=zbi r
 refine min_two_ints (I.ok.hd hc) fun h' tk k=>⟨_,H,I.kept k,?_,q⟩
 by_cases hj:j<i
 ·rw[if_pos hj,if_pos hj];exact⟨_,rfl⟩
 ·rw[if_neg hj,if_neg hj];exact⟨_,rfl⟩
theorem vc:yu X (.type "int") (fun xs H Q=>(∃ i,xs=[.int i]∧Q (.int i) H)∨∃ k,xs=[.bl k]∧Q (.int (if k then 1 else 0)) H):=by
 intro pins s σ H xs us Q I r h
 rcases h with⟨i,rfl,q⟩ | ⟨k,rfl,q⟩
 ·obtain⟨u,rfl,t,rfl⟩:=wI r
  exact call_int_int ⟨.int i,H,I,⟨_,rfl⟩,q⟩
 ·obtain⟨u,rfl,r1⟩:=wI r
  cases r1
  exact call_int_bool ⟨.int (if k then 1 else 0),H,I.tok _,⟨_,rfl⟩,q⟩
theorem xf:yu X (.type "str") (fun xs H Q=>∃ i,xs=[.int i]∧i.natAbs.log2<1920∧Q (.str (toString i)) H):=by
 intro pins s σ H xs us Q I r h
 obtain⟨i,rfl,hz,q⟩:=h
 obtain⟨u,rfl,t,rfl⟩:=wI r
 exact PySem.P.str_of_int hz ⟨.str _,H,I.tok _,⟨_,rfl⟩,q⟩
end
structure ObjM (h:Heap) (x dx C:Addr) (mA:Str→Option Value):Prop where
 obj:h.get? x=some (PySem.W.instObj C dx)
 ns:h.Ns1 dx mA
 ne:dx≠x
theorem Yb {h:Heap}{dx:Addr}{mA:Str→Option Value}(n:h.Ns1 dx mA):∃ od,h.get? dx=some od∧∀ name,PySem.W.lookIn name od=some (mA name):=by
 obtain⟨o,es,ep,ho,hd,hk,_,hm⟩:=n
 refine⟨o,ho,fun name=>?_⟩
 have e:=hm name
 unfold nsFind findBy at e
 rw[← Array.find?_toList] at e
 unfold PySem.W.lookIn
 rw[hd]
 dsimp only
 split
 ·rename_i y q
  rw[q] at e
  exact congrArg some e
 ·rename_i q
  rw[q] at e
  have a:es.toList.any (·.refKey)=false:=by
   rw[List.any_eq_false]
   intro y hy
   obtain⟨z,t,hkey⟩:=hk y (Array.mem_toList_iff.mp hy)
   simp[DictEntry.refKey,hkey]
  have a':¬ es.toList.any (·.refKey)=true:=by rw[a];exact Bool.false_ne_true
  rw[if_neg a']
  exact congrArg some e
theorem ObjM.look {h:Heap}{x dx C:Addr}{mA:Str→Option Value}(I:ObjM h x dx C mA):∃ od,PySem.W.InstAt h x (PySem.W.instObj C dx) C (some od)∧∀ name,PySem.W.lookIn name od=some (mA name) :=
 let ⟨od,ho,hl⟩:=Yb I.ns
 ⟨od,⟨I.obj,rfl,rfl,ho⟩,hl⟩
section
variable {prog:Program}{w:World}{A:Around}{E:Value→Shared→Prop}{s:Shared}{K:PySem.W.Frag}{x dx C f:Addr}{mA:Str→Option Value}{name:Str}{v:Value}
theorem zaJ {expr:Bool}{Q:Value→Shared→Prop}(X:K.In s.heap) (I:ObjM s.heap x dx C mA) (hg:PySem.W.plainGet K C name=true) (hh:PySem.W.hasDictIn K C=true)
  (ha:PySem.W.findIn K (.ref C) name=some none) (hv:mA name=some v) (hv':PySem.W.handedIn v=true) (h:Q v { s with toks:=s.toks+1 }) :
  wpAny (model prog w) A (getAttr (.ref x) name expr) Q E s:=by
 obtain⟨od,J,hl⟩:=I.look
 exact PySem.W.get_value X J (PySem.W.plainGet_of hg).1 (PySem.W.findObj_own hh ha rfl (by rw[hl,hv])) hv' h
theorem XQ {pl:Sem Bool}{Q:Value×List Value→Shared→Prop}(X:K.In s.heap) (I:ObjM s.heap x dx C mA) (hg:PySem.W.plainGet K C name=true)
  (hf:PySem.W.findIn K (.ref C) name=some (some (.ref f))) (ht:PySem.W.isFn K (.ref f)=true) (hv:mA name=none) (h:Q (.ref f,[.ref x]) s) :
  wpAny (model prog w) A (getMethod (.ref x) name pl) Q E s:=by
 obtain⟨od,J,hl⟩:=I.look
 exact PySem.W.method_fn X J (PySem.W.plainGet_of hg).1 (PySem.W.plainGet_of hg).2 hf (beq_iff_eq.mp ht) (by show(PySem.W.lookIn name od).map (·.isSome)=some false;rw[hl,hv];rfl) h
theorem Uq {ns:List Str}{Q:Unit→Shared→Prop}(X:K.In s.heap) (I:ObjM s.heap x dx C mA)
  (hs:PySem.W.findIn K (.ref C) "__setattr__" = some (some (.builtin "object.__setattr__"))) (hp:PySem.W.plainOver K C=true) (ht:PySem.W.takerIn K C name=some none) (hh:PySem.W.hasDictIn K C=true)
  (hw:PySem.Within mA ns) (hsz:ns.length≤sizeLine)
  (h:∀ h',ObjM h' x dx C (fun y=>if y=name then some v else mA y)→Heap.SameBut dx s.heap h'→Q () { s with heap:=h',toks:=s.toks+2 }) :
  wpAny (model prog w) A (setAttr (.ref x) name v) Q E s:=by
 obtain⟨od,J,hl⟩:=I.look
 refine PySem.W.set_plain X J hs (PySem.W.osa_open (s:={ s with toks:=s.toks+1 }) (r:=none) X J hp ht fun b=>?_)
 obtain⟨cd,hc,hd'⟩:=PySem.W.any_some hh
 have hx:s.heap.get? x=some ⟨.ref C,some dx,.plain,#[]⟩:=I.obj
 refine wpAny_bind (wpAny_pure (wpAny_bind (wpAny_bind (wpAny_loadPart hx (wpAny_bind (PySem.W.Looks.here (s:={ s with toks:=s.toks+1 }) (PySem.W.looks_clsIn X hc) ?_))))))
 rw[hd']
 refine wpAny_pure (a:=some dx) (wpAny_bind (wpAny_pure (wpAny_bind ?_)))
 refine wpAny_nsSet1 (s:={ s with toks:=s.toks+1 }) I.ns fun h' hn2 hs2=>?_
 obtain⟨oD,esD,epD,hoD,hdD,hcD⟩:=hn2.count (PySem.Within.cons name v hw)
 refine wpAny_bind (wpAny_lookBehind hoD (by rw[hdD];exact pastItsLine_dict (Nat.le_trans hcD (by rw[List.length_cons];omega))) ?_)
 exact wpAny_pure (h _ ⟨(hs2.2 _ (Ne.symm I.ne)).trans I.obj,hn2,I.ne⟩ hs2)
theorem Xz {R:Result→Shared→Prop}{vs:List Value}{kw:List (Str×Value)}(X:K.In s.heap) (hm:PySem.W.makesIn K C=true)
  (hi:PySem.W.findIn K (.ref C) "__init__" = some (some (.ref f))) (hf:PySem.W.typeIn K (.ref f)=some (.type "function"))
  (h:codeAny (model prog w) (A.under (.builtin "type.__call__" ⟨.ref C::vs,kw⟩)) (.call (.ref f) ⟨.ref (s.heap.objs.size+1)::vs,kw⟩) (PySem.W.InitBack (s.heap.objs.size+1) R)
   { s with heap:=(s.heap.push PySem.W.emptyDict).push (PySem.W.instObj C s.heap.objs.size) }) :
  codeAny (model prog w) A (.call (.ref C) ⟨vs,kw⟩) R s:=by
 obtain⟨hh,g,d,t,os⟩:=s
 exact PySem.W.make_core (PySem.W.makes_of X hm) (PySem.W.looks_findIn X hi) (fun self=>PySem.W.bind_fn X self hf) (.inl rfl) h
end
def wC (f:Str) (v:V):List (Str×V)→List (Str×V)
 |[]=>[(f,v)]
 |(g,x)::r=>if g=f then(g,v)::r else(g,x)::wC f v r
theorem xE (f g:Str) (v:V):∀ fs:List (Str×V),(wC f v fs).lookup g=if g=f then some v else fs.lookup g
 |[]=>by
  show List.lookup g [(f,v)]=_
  by_cases h:g=f
  ·have hb:(g == f)=true:=beq_iff_eq.mpr h
   simp only[List.lookup,hb,if_pos h]
  ·have hb:(g == f)=false:=beq_eq_false_iff_ne.mpr h
   simp only[List.lookup,hb,if_neg h]
 |(k,x)::r=>by
  have ih:=xE f g v r
  rw[show wC f v ((k,x)::r)=(if k=f then(k,v)::r else(k,x)::wC f v r) from rfl]
  by_cases hk:k=f
  ·rw[if_pos hk]
   by_cases h:g=k
   ·have hb:(g == k)=true:=beq_iff_eq.mpr h
    simp only[List.lookup,hb,if_pos (h.trans hk)]
   ·have hb:(g == k)=false:=beq_eq_false_iff_ne.mpr h
    simp only[List.lookup,hb,if_neg (fun e:g=f=>h (e.trans hk.symm))]
  ·rw[if_neg hk]
   by_cases h:g=k
   ·have hb:(g == k)=true:=beq_iff_eq.mpr h
    simp only[List.lookup,hb,if_neg (fun e:g=f=>hk (h.symm.trans e))]
   ·have hb:(g == k)=false:=beq_eq_false_iff_ne.mpr h
    simp only[List.lookup,hb]
    exact ih
theorem xH (f:Str) (v:V):∀ fs:List (Str×V),f∈(wC f v fs).map (·.1)∧∀ g,g∈fs.map (·.1)→g∈(wC f v fs).map (·.1)
 |[]=>⟨by simp[wC],fun g h=>by simp at h⟩
 |(k,x)::r=>by
  obtain⟨i1,i2⟩:=xH f v r
  rw[show wC f v ((k,x)::r)=(if k=f then(k,v)::r else(k,x)::wC f v r) from rfl]
  by_cases hk:k=f
  ·rw[if_pos hk]
   subst hk
   exact⟨by simp,fun g h=>by simpa using h⟩
  ·rw[if_neg hk]
   refine⟨?_,fun g h=>?_⟩
   ·rw[List.map_cons]
    exact List.mem_cons_of_mem _ i1
   ·rw[List.map_cons] at h ⊢
    rcases List.mem_cons.mp h with e | e
    ·exact List.mem_cons.mpr (.inl e)
    ·exact List.mem_cons_of_mem _ (i2 g e)
theorem xF (f:Str) (v:V):∀ fs:List (Str×V),(wC f v fs).length≤fs.length+1
 |[]=>by simp[wC]
 |(k,x)::r=>by
  have ih:=xF f v r
  rw[show wC f v ((k,x)::r)=(if k=f then(k,v)::r else(k,x)::wC f v r) from rfl]
  by_cases hk:k=f
  ·rw[if_pos hk,List.length_cons,List.length_cons];omega
  ·rw[if_neg hk,List.length_cons,List.length_cons];omega
theorem RelO.some_of {v:V}{o:Option Value}(r:RelO (some v) o):∃ u,o=some u∧RelV v u:=by
 cases o with
 |none=>exact(show False from r).elim
 |some u=>exact⟨u,rfl,r⟩
theorem RelO.none_of {o:Option Value}(r:RelO none o):o=none:=by
 cases o with
 |none=>rfl
 |some u=>exact(show False from r).elim
theorem Yo {v:V}{u:Value}(r:RelV v u):PySem.W.handedIn u=true:=by
 cases v with
 |non=>cases (show u=Value.none from r);rfl
 |bl b=>cases (show u=Value.bool b from r);rfl
 |int i=>obtain⟨t,e⟩:=(show ∃ t,u=Value.int i t from r);cases e;rfl
 |str x=>obtain⟨t,e⟩:=(show ∃ t,u=Value.str x t from r);cases e;rfl
 |byt b=>obtain⟨t,e⟩:=(show ∃ t,u=Value.bytes b t from r);cases e;rfl
 |flt b=>obtain⟨t,e⟩:=(show ∃ t,u=Value.float b t from r);cases e;rfl
 |ref a=>cases (show u=Value.ref a from r);rfl
 |ty n=>cases (show u=Value.type n from r);rfl
section
variable {P:Program}{w:World}{H H':Hp}{h h':Heap}{a C dx:Addr}{fs fs':List (Str×V)}
theorem wy (hok:HOk P w H h) (e:H a=some (.ins C dx fs)):∃ mA,ObjM h a dx C mA∧(∀ f,RelO (fs.lookup f) (mA f))∧PySem.Within mA (fs.map (·.1))∧fs.length≤1000∧H dx=some (.own a):=by
 obtain⟨d,z,ne,ob,mA,n,r,q⟩:=(show ObjOk P w H h a (.ins C dx fs) from hok a _ e)
 exact⟨mA,⟨ob,n,ne⟩,r,q,z,d⟩
end
structure Cls (K:PySem.W.Frag) (C:Addr):Prop where
 pg:PySem.W.plainGet K C Str.empty=true
 hd:PySem.W.hasDictIn K C=true
 po:PySem.W.plainOver K C=true
 sa:PySem.W.findIn K (.ref C) "__setattr__" = some (some (.builtin "object.__setattr__"))
theorem Cls.get {K:PySem.W.Frag}{C:Addr}(c:Cls K C) (f:Str):PySem.W.plainGet K C f=true:=c.pg
def NoAttr (K:PySem.W.Frag) (C:Addr) (f:Str):Prop:=PySem.W.findIn K (.ref C) f=some none
theorem NoAttr.taker {K:PySem.W.Frag}{C:Addr}{f:Str}(n:NoAttr K C f):PySem.W.takerIn K C f=some none:=by
 unfold PySem.W.takerIn
 rw[show PySem.W.findIn K (.ref C) f=some none from n]
 rfl
structure Meth (K:PySem.W.Frag) (C:Addr) (m:Str) (f:Addr):Prop where
 at_:PySem.W.findIn K (.ref C) m=some (some (.ref f))
 fn:PySem.W.isFn K (.ref f)=true
 kp:PySem.W.keepIn K (.ref f)=true
section
variable {X:Cx}{pins:List (Addr×Obj)}{σ:St}{H:Hp}{s:Shared}{a C dx:Addr}{fs:List (Str×V)}{f:Str}{v:V}{A:Around}{E:Value→Shared→Prop}
theorem wa {b:Bool}{Q:Value→Shared→Prop}(I:Inv X pins σ H s) (e:H a=some (.ins C dx fs)) (c:Cls X.K C) (n:NoAttr X.K C f) (l:fs.lookup f=some v)
  (h:∀ u s',Inv X pins σ H s'→RelV v u→Q u s'):wpAny (model X.prog X.w) A (getAttr (.ref a) f b) Q E s:=by
 obtain⟨mA,O,r,_,_,_⟩:=wy I.hok e
 obtain⟨u,hu,ru⟩:=RelO.some_of (v:=v) (o:=mA f) (by rw[← l];exact r f)
 exact zaJ I.kIn O (c.get f) c.hd n hu (Yo ru) (h u _ (I.tok _) ru)
theorem yr {m:Str}{g:Addr}{pl:Sem Bool}{Q:Value×List Value→Shared→Prop}(I:Inv X pins σ H s) (e:H a=some (.ins C dx fs)) (c:Cls X.K C) (k:Meth X.K C m g) (l:fs.lookup m=none)
  (h:Q (.ref g,[.ref a]) s):wpAny (model X.prog X.w) A (getMethod (.ref a) m pl) Q E s:=by
 obtain⟨mA,O,r,_,_,_⟩:=wy I.hok e
 have hn:mA m=none:=RelO.none_of (by rw[← l];exact r m)
 exact XQ I.kIn O (c.get m) k.at_ k.fn hn h
theorem xY {y:V}{u:Value}{Q:Unit→Shared→Prop}(I:Inv X pins σ H s) (e:H a=some (.ins C dx fs)) (c:Cls X.K C) (n:NoAttr X.K C f) (hl:fs.length<1000) (ry:RelV y u)
  (h:∀ s',Inv X pins σ (upd H a (.ins C dx (wC f y fs))) s'→Q () s'):wpAny (model X.prog X.w) A (setAttr (.ref a) f u) Q E s:=by
 obtain⟨mA,O,r,wi,_,ho⟩:=wy I.hok e
 have hz:(fs.map (·.1)).length≤sizeLine:=by rw[List.length_map,sizeLine_eq];omega
 refine Uq I.kIn O c.sa c.po n.taker c.hd wi hz fun h' O' sb=>h _ ?_
 have hd:∃ o,h'.get? dx=some o:=let ⟨o,_,_,e',_⟩:=O'.ns;⟨o,e'⟩
 refine I.write (x:=a) (e:=dx) (by rw[e];exact True.intro) (.inr ho) (fun b q hb z=>(sb.2 b hb).trans z) hd ?_
 refine⟨by rw[ze O.ne];exact ho,?_,O.ne,O'.obj,_,O'.ns,fun g=>?_,fun g hg=>?_⟩
 ·have:=xF f y fs;omega
 ·show RelO ((wC f y fs).lookup g) (if g=f then some u else mA g)
  rw[xE]
  by_cases q:g=f
  ·rw[if_pos q,if_pos q];exact ry
  ·rw[if_neg q,if_neg q];exact r g
 ·by_cases q:g=f
  ·rw[q];exact(xH f y fs).1
  ·refine(xH f y fs).2 g (wi g fun z=>hg ?_)
   show(if g=f then some u else mA g)=none
   rw[if_neg q];exact z
theorem Inv.made (I:Inv X pins σ H s):Inv X pins σ (upd (upd H s.heap.objs.size (.own (s.heap.objs.size+1))) (s.heap.objs.size+1) (.ins C s.heap.objs.size []))
  { s with heap:=(s.heap.push PySem.W.emptyDict).push (PySem.W.instObj C s.heap.objs.size) }:=by
 have e1:(s.heap.push PySem.W.emptyDict).get? s.heap.objs.size=some PySem.W.emptyDict:=Heap.get?_push_size s.heap rfl
 have e2:((s.heap.push PySem.W.emptyDict).push (PySem.W.instObj C s.heap.objs.size)).get? (s.heap.objs.size+1)=some (PySem.W.instObj C s.heap.objs.size):=by
  have:=Heap.get?_push_size (s.heap.push PySem.W.emptyDict) (o:=PySem.W.instObj C s.heap.objs.size) rfl
  rwa [Heap.size_push] at this
 have e3:(s.heap.push PySem.W.emptyDict).Ns s.heap.objs.size (fun _=>none):=⟨PySem.W.emptyDict,#[],_,e1,rfl,(fun e he=>absurd he (by simp)),fun _=>rfl⟩
 have I1:=I.laid (a:=s.heap.objs.size) (o:=.own (s.heap.objs.size+1)) (h':=s.heap.push PySem.W.emptyDict) (t':=s.toks) (fun b u q=>Heap.get?_push_of_some _ q) (Nat.le_refl _) ⟨_,e1⟩
 refine I1.laid (a:=s.heap.objs.size+1) (o:=.ins C s.heap.objs.size []) (t':=s.toks) (fun b u q=>Heap.get?_push_of_some _ q) (Nat.le_of_eq (Heap.size_push _ _)) ?_
 have ne:s.heap.objs.size≠s.heap.objs.size+1:=Nat.ne_of_lt (Nat.lt_succ_self _)
 refine⟨by rw[ze ne,upd_same],Nat.zero_le _,ne,e2,fun _=>none,(Heap.Ns1.of_empty e3).at fun o q=>Heap.get?_push_of_some _ q,fun _=>True.intro,fun y hy=>absurd rfl hy⟩
theorem attr_of {prog:Program}{w:World}{env:Env}{e:Expr}{f:Str}{pos:Pos}{s:Shared}{Q:Value→Shared→Prop}(hb:attributeBase e f env (eval e env)=eval e env)
  (h:wpAny (model prog w) A (eval e env) (fun o s₁=>wpAny (model prog w) A (getAttr o f true) Q E s₁) E s):wpAny (model prog w) A (eval (.Attribute e f pos) env) Q E s :=
 Attribute_any_ h (by rw[arm_eval_Attribute,hb])
end
def zFY (K:PySem.W.Frag) (ta:TE) (f:Str):TE:=fun σ H Q=>ta σ H fun x H1=>∃ a C dx fs v,x=.ref a∧H1 a=some (.ins C dx fs)∧Cls K C∧NoAttr K C f∧fs.lookup f=some v∧Q v H1
def zGN (K:PySem.W.Frag) (ta tv:TE) (f:Str):TS:=fun D σ H=>tv σ H fun y H1=>ta σ H1 fun x H2=>∃ a C dx fs,x=.ref a∧H2 a=some (.ins C dx fs)∧Cls K C∧NoAttr K C f∧fs.length<1000 ∧
 D.nx σ (upd H2 a (.ins C dx (wC f y fs)))
def zFO (X:Cx) (op:Operator) (rd:V→V→Hp→VK→Prop):Prop :=
 ∀ (pins:List (Addr×Obj)) (s:Shared) (σ:St) (H:Hp) (x y:V) (u v:Value) (Q:VK),Inv X pins σ H s→RelV x u→RelV y v→rd x y H Q→wpAny (model X.prog X.w) X.A (inplaceOp op u v) (EP X pins σ Q) X.xe s
def Us (K:PySem.W.Frag) (ta tv:TE) (rd:V→V→Hp→VK→Prop) (f:Str):TS:=fun D σ H=>ta σ H fun x H1=>∃ a C dx fs v,x=.ref a∧H1 a=some (.ins C dx fs)∧Cls K C∧NoAttr K C f∧fs.lookup f=some v ∧
 tv σ H1 fun y H2=>rd v y H2 fun z H3=>∃ dx' fs',H3 a=some (.ins C dx' fs')∧fs'.length<1000∧D.nx σ (upd H3 a (.ins C dx' (wC f z fs')))
section
variable {X:Cx}{o e value:Expr}{f:Str}{pos pos' tpos:Pos}{ta tv:TE}
theorem zd (he:Bx (PE X e ta)) (hb:attributeBase e f X.env (eval e X.env)=eval e X.env):Bx (PE X (.Attribute e f pos) (zFY X.K ta f)):=by
 have he:=he.of
 refine⟨?_⟩
 intro pins s σ H Q I h
 refine attr_of hb (thn (he pins s σ H _ I h) fun u s1 hq0=>?_)
 obtain⟨x,H1,I1,rx,a,C,dx,fs,v,ex,ea,c,n,l,q⟩:=hq0
 subst ex
 obtain rfl:u=Value.ref a:=rx
 exact wa I1 ea c n l fun u' s2 I2 ru=>⟨v,H1,I2,ru,q⟩
theorem w_ps_fld (ha:Bx (PE X o ta)) (hv:Bx (PE X value tv)) (hs:swapsWith value (some (.Attribute o f pos')) pos.line X.env=pure false):Bx (PS X (.Assign [.Attribute o f pos'] value pos) (zGN X.K ta tv f)):=by
 have ha:=ha.of
 have hv:=hv.of
 refine⟨?_⟩
 intro pins s σ H D I h
 refine plainObj_wpAny_Assign_Attribute (thn (hv pins s σ H _ I h) fun u s1 ⟨y,H1,I1,ry,q⟩=>thn (ha pins s1 σ H1 _ I1 q) fun ov s2 hq0=>?_) hs
 obtain⟨x,H2,I2,rx,a,C,dx,fs,ex,ea,c,n,l,q2⟩:=hq0
 subst ex
 obtain rfl:ov=Value.ref a:=rx
 exact xY I2 ea c n l ry fun s3 I3=>⟨σ,_,I3,q2⟩
theorem vk {op:Operator}{rd:V→V→Hp→VK→Prop}(ha:Bx (PE X o ta)) (hv:Bx (PE X value tv)) (hop:zFO X op rd):Bx (PS X (.AugAssign (.Attribute o f tpos) op value pos) (Us X.K ta tv rd f)):=by
 have ha:=ha.of
 have hv:=hv.of
 refine⟨?_⟩
 intro pins s σ H D I h
 refine wpAny_AugAssign_AttributeAny (thn (ha pins s σ H _ I h) fun ov s1 hq0=>?_)
 obtain⟨x,H1,I1,rx,a,C,dx,fs,v,ex,ea,c,n,l,q⟩:=hq0
 subst ex
 obtain rfl:ov=Value.ref a:=rx
 refine wa I1 ea c n l fun u s2 I2 ru=>thn (hv pins s2 σ H1 _ I2 q) fun w3 s3 ⟨y,H2,I3,ry,q3⟩=>thn (hop pins s3 σ H2 v y u w3 _ I3 ru ry q3) fun w4 s4 hq0=>?_
 obtain⟨z,H3,I4,rz,dx',fs',ea',l',q4⟩:=hq0
 exact xY I4 ea' c n l' rz fun s5 I5=>⟨σ,_,I5,q4⟩
def zGU:V→V→Hp→VK→Prop:=fun x y H Q=>∃ i j,x=.int i∧y=.int j∧Q (.int (i+j)) H
theorem zpl:zFO X .Add zGU:=by
 rintro pins s σ H x y u v Q I rx ry ⟨i,j,rfl,rfl,q⟩
 obtain⟨t,rfl⟩:=(show ∃ t,u=Value.int i t from rx)
 obtain⟨t',rfl⟩:=(show ∃ t',v=Value.int j t' from ry)
 exact PyProof.Rows.iadd_int ⟨.int (i+j),H,I.tok _,⟨_,rfl⟩,q⟩
theorem zaD {pl:Sem Bool}{m:Str}{apos:Pos}{args:List Expr}{pins:List (Addr×Obj)}{s:Shared}{σ:St}{H:Hp}{Q:Value→Shared→Prop}{te:TE}(he:PE X e te) (I:Inv X pins σ H s)
  (h:te σ H fun x H1=>∃ a C dx fs g,x=.ref a∧H1 a=some (.ins C dx fs)∧Cls X.K C∧Meth X.K C m g∧fs.lookup m=none ∧
   ∀ s1,Inv X pins σ H1 s1→wpAny (model X.prog X.w) X.A (callWith pos (.ref g) [.ref a] (backTo pos (starEach args X.env)) (backToKw pos (keywordEach [] X.env))) Q X.xe s1)
  (ht:eval (.Call (.Attribute e m apos) args [] pos) X.env=(do
   let ov ← eval e X.env
   standAt apos.atName
   let (f,first) ← holding [ov] (getMethod ov m pl)
   callWith pos f first (backTo pos (starEach args X.env)) (backToKw pos (keywordEach [] X.env)))) :
  wpAny (model X.prog X.w) X.A (eval (.Call (.Attribute e m apos) args [] pos) X.env) Q X.xe s:=by
 refine PySem.W.methodCall_KW (pl:=pl) (thn (he pins s σ H _ I h) fun u s1 hq0=>?_) ht
 obtain⟨x,H1,I1,rx,a,C,dx,fs,g,ex,ea,c,k,l,q⟩:=hq0
 subst ex
 obtain rfl:u=Value.ref a:=rx
 exact yr I1 ea c k l (q s1 I1)
end
section
variable {X:Cx}{pins:List (Addr×Obj)}{σ:St}{H:Hp}{s:Shared}{A:Around}{E:Value→Shared→Prop}{Q:Value→Shared→Prop}{c:Value}{b:Bool}
inductive TyOf (K:PySem.W.Frag) (H:Hp):V→Value→Prop where
 |non:TyOf K H .non (.type "NoneType")
 |bl (x:Bool):TyOf K H (.bl x) (.type "bool")
 |int (i:Int):TyOf K H (.int i) (.type "int")
 |str (x:Str):TyOf K H (.str x) (.type "str")
 |flt (x:UInt64):TyOf K H (.flt x) (.type "float")
 |lst {a:Addr}{xs:List V}(e:H a=some (.lst xs)):TyOf K H (.ref a) (.type "list")
 |frz {a:Addr}{o:Obj}{xs:List V}(e:H a=some (.frz o (.lst xs))):TyOf K H (.ref a) (.type "list")
 |tup {a:Addr}{xs:List V}(e:H a=some (.tup xs)):TyOf K H (.ref a) (.type "tuple")
 |dK {a:Addr}{kvs:List (Key×V)}(e:H a=some (.dK kvs)):TyOf K H (.ref a) (.type "dict")
 |dT {a:Addr}{kvs:List (List Key×V)}(e:H a=some (.dT kvs)):TyOf K H (.ref a) (.type "dict")
 |ins {a C dx:Addr}{fs:List (Str×V)}(e:H a=some (.ins C dx fs)) (cl:Cls K C) (ha:PySem.W.findIn K (.ref C) "__class__" = some (some (.builtin "object.__class__")))
   (hn:PySem.W.specialIn K (.builtin "object.__class__") "__get__" = some (some (.builtin "getset_descriptor.__get__"))) (htk:PySem.W.takesIn K (.builtin "object.__class__")=some true)
   (hm:PySem.W.mroIn K C (.type "object")=some true):TyOf K H (.ref a) (.ref C)
theorem Yk {x:V}{u t:Value}(I:Inv X pins σ H s) (rx:RelV x u) (ty:TyOf X.K H x t) (e:PySem.W.kitOne X.K t c=some b) (h:∀ tk,Q (.bool b) { s with toks:=tk }) :
  wpAny (model X.prog X.w) A (call (.builtin "isinstance") [u,c]) Q E s:=by
 cases ty with
 |non=>cases (show u=Value.none from rx);exact PySem.W.kia_one PySem.W.kitx_none I.kIn True.intro e (fun z=>nomatch z) h
 |bl y=>cases (show u=Value.bool y from rx);exact PySem.W.kia_one PySem.W.kitx_bool I.kIn True.intro e (fun z=>nomatch z) h
 |int i=>obtain⟨t,q⟩:=(show ∃ t,u=Value.int i t from rx);cases q;exact PySem.W.kia_one PySem.W.kitx_int I.kIn True.intro e (fun z=>nomatch z) h
 |str y=>obtain⟨t,q⟩:=(show ∃ t,u=Value.str y t from rx);cases q;exact PySem.W.kia_one PySem.W.kitx_str I.kIn True.intro e (fun z=>nomatch z) h
 |flt y=>obtain⟨t,q⟩:=(show ∃ t,u=Value.float y t from rx);cases q;exact PySem.W.kia_one PySem.W.kitx_float I.kIn True.intro e (fun z=>nomatch z) h
 | @lst a xs ea =>
  cases (show u=Value.ref a from rx)
  obtain⟨_,_,n,_,h1⟩:=(show ObjOk X.prog X.w H s.heap a (.lst xs) from I.hok a _ ea)
  exact PySem.W.kia_one PySem.W.kitx_list I.kIn ⟨_,h1,rfl⟩ e (fun z=>nomatch z) h
 | @frz a ob xs ea =>
  cases (show u=Value.ref a from rx)
  obtain⟨_,_,_,n,_,h1⟩:=(show ObjOk X.prog X.w H s.heap a (.frz ob (.lst xs)) from I.hok a _ ea)
  exact PySem.W.kia_one PySem.W.kitx_list I.kIn ⟨_,h1,rfl⟩ e (fun z=>nomatch z) h
 | @tup a xs ea =>
  cases (show u=Value.ref a from rx)
  obtain⟨_,_,_,p⟩:=(show ObjOk X.prog X.w H s.heap a (.tup xs) from I.hok a _ ea)
  obtain⟨o,h1,h2,_⟩:=p
  exact PySem.W.kia_one PySem.W.kitx_tuple I.kIn ⟨o,h1,h2⟩ e (fun z=>nomatch z) h
 | @dK a kvs ea =>
  cases (show u=Value.ref a from rx)
  obtain⟨_,_,vs,_,p⟩:=(show ObjOk X.prog X.w H s.heap a (.dK kvs) from I.hok a _ ea)
  obtain⟨o,es,ep,h1,h2,_⟩:=p
  exact PySem.W.kia_one PySem.W.kitx_dict I.kIn ⟨o,h1,h2.1⟩ e (fun z=>nomatch z) h
 | @dT a kvs ea =>
  cases (show u=Value.ref a from rx)
  obtain⟨_,_,xs,_,o,es,ep,h1,h2,_⟩:=(show ObjOk X.prog X.w H s.heap a (.dT kvs) from I.hok a _ ea)
  exact PySem.W.kia_one PySem.W.kitx_dict I.kIn ⟨o,h1,h2.1⟩ e (fun z=>nomatch z) h
 | @ins a C dx fs ea cl ha hn htk hm =>
  cases (show u=Value.ref a from rx)
  obtain⟨mA,O,_⟩:=wy I.hok ea
  obtain⟨od,J,_⟩:=O.look
  exact PySem.W.kia_one (PySem.W.kitx_own (cl.get _) cl.hd ha hn htk hm) I.kIn J e (fun z=>nomatch z) h
end
structure Room (k:Nat) (A:Around):Prop where
 hd:A.handled=none
 dp:A.depth+3*k+5<recursionLimit
 un:A.units+16*k+200<cLine
theorem Room.mono {j k:Nat}{A:Around}(r:Room k A) (h:j≤k):Room j A:=⟨r.hd,by have:=r.dp;omega,by have:=r.un;omega⟩
theorem Room.m{j k:Nat}{A:Around}(r:Room k A)(h:j≤k:=by omega):Room j A:=r.mono h
theorem Room.deeper {k:Nat}{A:Around}(r:Room (k+1) A) (env:Env):Room k (A.deeper env) :=
 ⟨r.hd,by have:=r.dp;show A.depth+1+3*k+5<_;omega,by have:=r.un;show A.units+3+16*k+200<_;omega⟩
theorem uJ {A:Around}{C:Addr}{us:List Value}{kw:List (Str×Value)}:(A.under (.builtin "type.__call__" ⟨.ref C::us,kw⟩)).depth=A.depth+1:=by
 first | rfl | simp[Around.under,Code.weight,Code.isCreation,Code.isGuard,Code.isCaller,Code.frames,Code.isFrame,guardIds]
theorem uI {A:Around}{C:Addr}{us:List Value}{kw:List (Str×Value)}:(A.under (.builtin "type.__call__" ⟨.ref C::us,kw⟩)).units=A.units+1:=by
 first | rfl | simp[Around.under,Code.cUnits,Code.frames,Code.isFrame]
theorem Room.make {k:Nat}{A:Around}(r:Room (k+1) A) (C:Addr) (us:List Value) (kw:List (Str×Value)):Room k (A.under (.builtin "type.__call__" ⟨.ref C::us,kw⟩)) :=
 ⟨r.hd,by have:=r.dp;rw[uJ];omega,by have:=r.un;rw[uI];omega⟩
theorem Room.depth {k:Nat}{A:Around}(r:Room k A):A.depth<recursionLimit:=by have:=r.dp;omega
theorem Room.units {k:Nat}{A:Around}(r:Room k A):A.units+64<cLine:=by have:=r.un;omega
def zrO:TA:=fun _ H Q=>Q [] H
def wK (ta:TE) (tr:TA):TA:=fun σ H Q=>ta σ H fun x H1=>tr σ H1 fun xs H2=>Q (x::xs) H2
section
variable {X:Cx}{e:Expr}{es:List Expr}{te:TE}{t:TA}{pos:Pos}
theorem w_pa_nil  : Bx (PA X [] zrO):=by
 exact⟨fun _ _ _ _ H Q I h=>Calls.spliced_nil ⟨[],H,I,.nil,h⟩⟩
theorem yO (ha:PE X e te) (hr:PA X es t) (hs:starEach (e::es) X.env=(false,eval e X.env)::starEach es X.env:=by rfl):PA X (e::es) (wK te t):=by
 intro pos pins s σ H Q I h
 rw[hs]
 show wpAny _ _ (spliced ((false,eval e X.env)::backTo pos (starEach es X.env))) _ _ s
 refine Calls.spliced_cons (thn (ha pins s σ H _ I h) fun u s1 hq0=>?_)
 obtain⟨x,H1,I1,r1,q1⟩:=hq0
 exact thn (hr pos pins s1 σ H1 _ I1 q1) fun us s2 ⟨xs,H2,I2,r2,q2⟩=>⟨x::xs,H2,I2,.cons r1 r2,q2⟩
def zFQ (t:TA):TE:=fun σ H Q=>t σ H fun xs H1=>xs.length≤sizeLine∧∀ p,H1 p=none→Q (.ref p) (upd H1 p (.tup xs))
def zFW (t:TA):TE:=fun σ H Q=>t σ H fun xs H1=>xs.length≤sizeLine∧∀ p,H1 p=none→Q (.ref p) (upd H1 p (.lst xs))
theorem zx {x1}(h:Bx (PA X es t)):Bx (PE X (.Tuple es x1 pos) (zFQ t)):=by
 have h:=h.of
 refine⟨?_⟩
 intro pins s σ H Q I hq
 refine wpAny_Tuple_spliced (thn (h pos pins s σ H _ I hq) fun us s1 ⟨xs,H1,I1,r,z,q⟩=>⟨by rw[← r.length];exact z,?_⟩)
 have hf:H1 s1.heap.objs.size=none:=I1.hok.fresh (Nat.le_refl _)
 refine⟨.ref s1.heap.objs.size,upd H1 s1.heap.objs.size (.tup xs),I1.laid (t':=s1.toks) (fun b u e=>Heap.get?_push_of_some _ e) (Nat.le_refl _) ?_,rfl,q _ hf⟩
 exact⟨z,us,r,⟨_,Heap.get?_push_size _ rfl,rfl,_,rfl⟩⟩
theorem zh (h:Bx (PA X es t)):Bx (PE X (.List es pos) (zFW t)):=by
 have h:=h.of
 refine⟨?_⟩
 intro pins s σ H Q I hq
 refine wpAny_List_spliced (thn (h pos pins s σ H _ I hq) fun us s1 ⟨xs,H1,I1,r,z,q⟩=>⟨by rw[← r.length];exact z,?_⟩)
 have hf:H1 s1.heap.objs.size=none:=I1.hok.fresh (Nat.le_refl _)
 refine⟨.ref s1.heap.objs.size,upd H1 s1.heap.objs.size (.lst xs),I1.laid (t':=s1.toks) (fun b u e=>Heap.get?_push_of_some _ e) (Nat.le_refl _) ?_,rfl,q _ hf⟩
 exact⟨z,us,0,r,Heap.get?_push_size _ rfl⟩
end
abbrev Sp:=List V→Hp→VK→XK→Prop
abbrev CXT:=List Env→Hp→Shared→XK→Value→Shared→Prop
structure Env0 (P:Program) (w:World) (K:PySem.W.Frag) (mg:Str→Option Value) (base:Heap) (A:Around) (outer:List Env) (s:Shared) (H:Hp):Prop where
 frames:A.frames=some outer
 mod:Mod K mg base
 bs:∀ b o,base.get? b=some o→s.heap.get? b=some o∧H b=none
 bsz:base.objs.size≤s.heap.objs.size
 funs:s.heap.FunFrames base outer
 frf:∀ b∈frs outer,H b=none
 hok:HOk P w H s.heap
 bare:AllBare s.gens
def CE (outer:List Env) (P:Program) (w:World) (H:Hp) (s:Shared) (Q:VK) (u:Value) (s':Shared):Prop :=
 ∃ v H',s'.os=s.os∧AllBare s'.gens∧Un (frs outer) [] H H' s.heap s'.heap∧HOk P w H' s'.heap∧RelV v u∧Q v H'
def CR (CX:CXT) (outer:List Env) (P:Program) (w:World) (H:Hp) (s:Shared) (Q:VK) (E:XK) (r:Result) (s':Shared):Prop :=
 match r with
 |.ok (.ret u)=>CE outer P w H s Q u s'
 |.ok _=>False
 |.error e=>CX outer H s E e s'
structure FnOk (P:Program) (w:World) (K:PySem.W.Frag) (mg:Str→Option Value) (base:Heap) (CX:CXT) (k:Nat) (f:Addr) (fd:FuncData) (ps:List Str) (sp:Sp):Prop where
 len:∀ vs H Q E,sp vs H Q E→vs.length=ps.length
 run:∀ (A:Around) (outer:List Env) (s:Shared) (H:Hp) (args:Args) (us:List Value) (vs:List V) (Q:VK) (E:XK),Room k A→Env0 P w K mg base A outer s H→BindsTo s fd args (ps.zip us)→Vals vs us→sp vs H Q E →
  codeAny (model P w) A (.call (.ref f) args) (CR CX outer P w H s Q E) s
theorem Env0.make {P:Program}{w:World}{K:PySem.W.Frag}{mg:Str→Option Value}{base:Heap}{A:Around}{outer:List Env}{s:Shared}{H:Hp}(e:Env0 P w K mg base A outer s H) (C:Addr) (us:List Value) (kw:List (Str×Value)) :
  Env0 P w K mg base (A.under (.builtin "type.__call__" ⟨.ref C::us,kw⟩)) outer s H:=⟨by first | exact e.frames | (simpa[Around.under,Code.envs,Code.isFrame,pushEnvs] using e.frames),e.mod,e.bs,e.bsz,e.funs,e.frf,e.hok,e.bare⟩
section
variable {X:Cx}{pins:List (Addr×Obj)}{σ:St}{H:Hp}{s s':Shared}
theorem Inv.env0 (I:Inv X pins σ H s):Env0 X.prog X.w X.K X.mg X.base X.A X.stack s H :=
 ⟨I.ok.frames,I.ok.mod,I.bs,Nat.le_trans I.ok.bsz I.sz,I.stack,I.stkFree,I.hok,I.bare⟩
theorem Inv.after {Q:VK}{u:Value}(I:Inv X pins σ H s) (h:CE X.stack X.prog X.w H s Q u s'):EP X pins σ Q u s':=by
 obtain⟨v,H',os,bare,un,hok,r,q⟩:=h
 obtain⟨hh,g,d,t,os'⟩:=s'
 obtain rfl:os'=s.os:=os
 exact⟨v,H',I.call (h':=hh) (g':=g) (d':=d) (t':=t) (ch:=[]) un hok bare (fun b z=>absurd z (by simp)),r,q⟩
end
def zbw (sp:Sp) (dvs:List V) (E:XK) (t:TA):TE:=fun σ H Q=>t σ H fun vs H1=>sp (vs++dvs) H1 Q E
def zbo (C:Addr) (m:Str) (sp:Sp) (dvs:List V) (E:XK) (ta:TE) (t:TA):TE:=fun σ H Q=>ta σ H fun x H1=>∃ a dx fs,x=.ref a∧H1 a=some (.ins C dx fs)∧fs.lookup m=none ∧
 t σ H1 fun vs H2=>sp (x::(vs++dvs)) H2 Q E
def zbp (C:Addr) (sp:Sp) (dvs:List V) (E:XK) (t:TA):TE:=fun σ H Q=>t σ H fun vs H1=>∀ x dx,H1 x=none→H1 dx=none→dx≠x →
 sp (.ref x::(vs++dvs)) (upd (upd H1 dx (.own x)) x (.ins C dx [])) (fun v H2=>v=.non∧Q (.ref x) H2) E
def Binds (K:PySem.W.Frag) (fd:FuncData) (ps:List Str) (ds:List Value):Prop :=
 ∀ (s:Shared) (us:List Value),K.In s.heap→(us++ds).length=ps.length→BindsTo s fd ⟨us,[]⟩ (ps.zip (us++ds))
theorem Binds.all {K:PySem.W.Frag}{fd:FuncData}{ps:List Str}(h:∀ us:List Value,us.length=ps.length→bindArgs fd ⟨us,[]⟩=pure (ps.zip us)):Binds K fd ps []:=fun s us _ hl=>by
 rw[List.append_nil] at hl ⊢
 exact .of_eq (h us hl)
def xM (CX:CXT) (X:Cx) (E:XK):Prop:=∀ (pins:List (Addr×Obj)) (σ:St) (H:Hp) (s:Shared) (e:Value) (s':Shared),Inv X pins σ H s→CX X.stack H s E e s'→X.xe e s'
section
variable {X:Cx}{CX:CXT}{k:Nat}{f C:Addr}{fd:FuncData}{ps:List Str}{sp:Sp}{dvs:List V}{ds:List Value}{E:XK}{x m:Str}{p pos apos:Pos}{e o:Expr}{es:List Expr}{ta:TE}{t:TA}
theorem uc {pins:List (Addr×Obj)}{σ:St}{H:Hp}{s:Shared}{Q:VK}{us:List Value}{vs:List V}(F:FnOk X.prog X.w X.K X.mg X.base CX k f fd ps sp) (hr:Room k X.A) (hb:Binds X.K fd ps ds) (hd:Vals dvs ds) (hx:xM CX X E)
  (I:Inv X pins σ H s) (r:Vals vs us) (h:sp (vs++dvs) H Q E):wpAny (model X.prog X.w) X.A (call (.ref f) us) (EP X pins σ Q) X.xe s:=by
 have r2:Vals (vs++dvs) (us++ds):=r.append hd
 have hl:(us++ds).length=ps.length:=by rw[← r2.length];exact F.len _ _ _ _ h
 refine wpAny_call (codeAny_mono (F.run X.A X.stack s H ⟨us,[]⟩ (us++ds) (vs++dvs) Q E hr I.env0 (hb s us I.kIn hl) r2 h) fun r s' hq=>?_)
 cases r with
 |error e=>exact hx pins σ H s e s' I hq
 |ok fl =>
  cases fl with
  |ret u=>exact I.after hq
  |next=>exact False.elim hq
  |brk=>exact False.elim hq
  |cont=>exact False.elim hq
theorem UB (F:FnOk X.prog X.w X.K X.mg X.base CX k f fd ps sp) (hr:Room k X.A) (hg:Gl X x) (hm:X.mg x=some (.ref f)) (hk:PySem.W.keepIn X.K (.ref f)=true) (hb:Binds X.K fd ps ds) (hd:Vals dvs ds) (hx:xM CX X E)
  (ha:PA X (e::es) t) (hdb:(x == ("__debug__" : Str))=false:=by decide) (he:starEach (e::es) X.env=(false,eval e X.env)::starEach es X.env:=by rfl) (hpl:(backTo pos (starEach es X.env)).any (·.1)=false:=by rfl) :
  PE X (.Call (.Name x p) (e::es) [] pos) (zbw sp dvs E t):=by
 intro pins s σ H Q I h
 refine wpAny_Call_Name_kw (ld_glob I hg hm ?_ hdb)
 refine PySem.W.callWith_K (h₀:=X.base) I.ok.mod.kin hk (thn (ha pos pins s σ H _ I h) fun us s1 ⟨vs,H1,I1,r,q⟩=>⟨I1.kIn,?_⟩) he hpl
 exact uc F hr hb hd hx I1 r q
theorem Uz {pl:Sem Bool}(he:PE X o ta) (c:Cls X.K C) (hm:Meth X.K C m f) (F:FnOk X.prog X.w X.K X.mg X.base CX k f fd ps sp) (hr:Room k X.A) (hb:Binds X.K fd ps ds) (hd:Vals dvs ds) (hx:xM CX X E) (ha:PA X (e::es) t)
  (hst:starEach (e::es) X.env=(false,eval e X.env)::starEach es X.env:=by rfl) (hpl:(backTo pos (starEach es X.env)).any (·.1)=false:=by rfl)
  (ht:eval (.Call (.Attribute o m apos) (e::es) [] pos) X.env=(do
   let ov ← eval o X.env
   standAt apos.atName
   let (f,first) ← holding [ov] (getMethod ov m pl)
   callWith pos f first (backTo pos (starEach (e::es) X.env)) (backToKw pos (keywordEach [] X.env))):=by rfl) :
  PE X (.Call (.Attribute o m apos) (e::es) [] pos) (zbo C m sp dvs E ta t):=by
 intro pins s σ H Q I h
 refine PySem.W.methodCall_KW (pl:=pl) (thn (he pins s σ H _ I h) fun u s1 hq0=>?_) ht
 obtain⟨x,H1,I1,rx,a,dx,fs,ex,ea,l,q⟩:=hq0
 subst ex
 obtain rfl:u=Value.ref a:=rx
 refine yr I1 ea c hm l ?_
 refine PySem.W.callWith_K (first:=[.ref a]) (h₀:=X.base) I.ok.mod.kin hm.kp (thn (ha pos pins s1 σ H1 _ I1 q) fun us s2 ⟨vs,H2,I2,r,q2⟩=>⟨I2.kIn,?_⟩) hst hpl
 exact uc (us:=.ref a::us) (vs:=.ref a::vs) F hr hb hd hx I2 (.cons rfl r) q2
structure Mk (K:PySem.W.Frag) (C f:Addr):Prop where
 makes:PySem.W.makesIn K C=true
 init:PySem.W.findIn K (.ref C) "__init__" = some (some (.ref f))
 fn:PySem.W.isFn K (.ref f)=true
 kp:PySem.W.keepIn K (.ref C)=true
theorem Xe {pins:List (Addr×Obj)}{σ:St}{H:Hp}{s:Shared}{Q:VK}{us:List Value}{vs:List V}(M:Mk X.K C f) (F:FnOk X.prog X.w X.K X.mg X.base CX k f fd ps sp) (hr:Room (k+1) X.A) (hb:Binds X.K fd ps ds) (hd:Vals dvs ds)
  (hx:xM CX X E) (I:Inv X pins σ H s) (r:Vals vs us)
  (h:∀ x dx,H x=none→H dx=none→dx≠x→sp (.ref x::(vs++dvs)) (upd (upd H dx (.own x)) x (.ins C dx [])) (fun v H2=>v=.non∧Q (.ref x) H2) E) :
  wpAny (model X.prog X.w) X.A (call (.ref C) us) (EP X pins σ Q) X.xe s:=by
 have hq:=h (s.heap.objs.size+1) s.heap.objs.size (I.hok.fresh (Nat.le_succ _)) (I.hok.fresh (Nat.le_refl _)) (Nat.ne_of_lt (Nat.lt_succ_self _))
 have I2:=Inv.made (C:=C) I
 have r2:Vals (V.ref (s.heap.objs.size+1)::(vs++dvs)) (Value.ref (s.heap.objs.size+1)::(us++ds)):=.cons rfl (r.append hd)
 have hl:(Value.ref (s.heap.objs.size+1)::us++ds).length=ps.length:=by
  have e:=r2.length
  rw[F.len _ _ _ _ hq] at e
  exact e.symm
 refine wpAny_call (Xz (f:=f) I.kIn M.makes M.init (beq_iff_eq.mp M.fn) (codeAny_mono (F.run _ X.stack _ _ ⟨Value.ref (s.heap.objs.size+1)::us,[]⟩ (Value.ref (s.heap.objs.size+1)::(us++ds)) _ _ E (hr.make C us [])
  (I2.env0.make C us []) (hb _ (Value.ref (s.heap.objs.size+1)::us) I2.kIn hl) r2 hq) fun r s' hq'=>?_))
 cases r with
 |error e=>exact hx pins σ _ _ e s' I2 hq'
 |ok fl =>
  cases fl with
  |ret u =>
   obtain⟨v,H',I3,rv,ev,q3⟩:=I2.after hq'
   subst ev
   exact⟨rv,⟨V.ref (s.heap.objs.size+1),H',I3,rfl,q3⟩⟩
  |next=>exact False.elim hq'
  |brk=>exact False.elim hq'
  |cont=>exact False.elim hq'
theorem UA (M:Mk X.K C f) (F:FnOk X.prog X.w X.K X.mg X.base CX k f fd ps sp) (hr:Room (k+1) X.A) (hg:Gl X x) (hm:X.mg x=some (.ref C)) (hb:Binds X.K fd ps ds) (hd:Vals dvs ds) (hx:xM CX X E)
  (ha:PA X (e::es) t) (hdb:(x == ("__debug__" : Str))=false:=by decide) (he:starEach (e::es) X.env=(false,eval e X.env)::starEach es X.env:=by rfl) (hpl:(backTo pos (starEach es X.env)).any (·.1)=false:=by rfl) :
  PE X (.Call (.Name x p) (e::es) [] pos) (zbp C sp dvs E t):=by
 intro pins s σ H Q I h
 refine wpAny_Call_Name_kw (ld_glob I hg hm ?_ hdb)
 refine PySem.W.callWith_K (h₀:=X.base) I.ok.mod.kin M.kp (thn (ha pos pins s σ H _ I h) fun us s1 ⟨vs,H1,I1,r,q⟩=>⟨I1.kIn,?_⟩) he hpl
 exact Xe M F hr hb hd hx I1 r q
end
structure FnScope (N P:List Str) (sc:Scope):Prop where
 kind:sc.kind=.function
 co:sc.isCoroutine=false
 gen:sc.isGenerator=false
 nd:N.Nodup
 pre:N.take P.length=P
 par:∀ x∈P,sc.names.lookup x=some .local∨sc.names.lookup x=some .cell
 nofree:∀ y∈sc.names,y.2≠.free
theorem vd {kindOf:Str→Option NameKind}{x:Str}:∀ {binds:List (Str×Value)}{m:Str→Option Value},(∀ v,(x,v)∉binds)→bindL kindOf binds m x=m x
 |[],_,_=>rfl
 |(n,v)::r,m,h=>by
  unfold bindL
  rw[vd fun w hw=>h w (List.mem_cons_of_mem _ hw)]
  split
  ·have:x≠n:=by rintro rfl;exact h v List.mem_cons_self
   simp[this]
  ·rfl
theorem bindC_out {kindOf:Str→Option NameKind}{x:Str}:∀ {binds:List (Str×Value)}{m:Str→Option Value},(∀ v,(x,v)∉binds)→bindC kindOf binds m x=m x
 |[],_,_=>rfl
 |(n,v)::r,m,h=>by
  unfold bindC
  rw[bindC_out fun w hw=>h w (List.mem_cons_of_mem _ hw)]
  split
  ·rfl
  ·have:x≠n:=by rintro rfl;exact h v List.mem_cons_self
   simp[this]
theorem bindL_get {kindOf:Str→Option NameKind}{x:Str}{v:Value}:∀ {P:List Str}{vs:List Value}{i:Nat}{m:Str→Option Value},P.Nodup→P[i]?=some x→vs[i]?=some v→kindOf x=some .local →
  bindL kindOf (P.zip vs) m x=some v
 |[],_,_,_,_,h,_,_=>by simp at h
 |_::_,[],_,_,_,_,h,_=>by simp at h
 |p::P,w::vs,0,m,nd,h1,h2,hk=>by
  simp at h1 h2;subst h1;subst h2
  show bindL kindOf ((p,w)::P.zip vs) m p=_
  unfold bindL
  rw[vd fun v hv=>(List.nodup_cons.mp nd).1 (List.of_mem_zip hv).1,if_pos hk]
  simp
 |p::P,w::vs,i+1,m,nd,h1,h2,hk=>by
  show bindL kindOf ((p,w)::P.zip vs) m x=_
  unfold bindL
  exact bindL_get (i:=i) (List.nodup_cons.mp nd).2 (by simpa using h1) (by simpa using h2) hk
theorem ve {kindOf:Str→Option NameKind}{x:Str}{v:Value}:∀ {P:List Str}{vs:List Value}{i:Nat}{m:Str→Option Value},P.Nodup→P[i]?=some x→vs[i]?=some v→kindOf x≠some .local →
  bindC kindOf (P.zip vs) m x=some v
 |[],_,_,_,_,h,_,_=>by simp at h
 |_::_,[],_,_,_,_,h,_=>by simp at h
 |p::P,w::vs,0,m,nd,h1,h2,hk=>by
  simp at h1 h2;subst h1;subst h2
  show bindC kindOf ((p,w)::P.zip vs) m p=_
  unfold bindC
  rw[bindC_out fun v hv=>(List.nodup_cons.mp nd).1 (List.of_mem_zip hv).1,if_neg hk]
  simp
 |p::P,w::vs,i+1,m,nd,h1,h2,hk=>by
  show bindC kindOf ((p,w)::P.zip vs) m x=_
  unfold bindC
  exact ve (i:=i) (List.nodup_cons.mp nd).2 (by simpa using h1) (by simpa using h2) hk
def start (N:List Str) (vs:List V):St:=vs.map some++List.replicate (N.length-vs.length) none
def vj (CX:CXT) (P:Program) (w:World) (K:PySem.W.Frag) (mg:Str→Option Value) (base:Heap) (N:List Str) (qual:Str) (scope:Scope) (f:Addr) (cd:Value) (A:Around) (outer:List Env) (s:Shared) (H:Hp) (E:XK):Cx where
 prog:=P
 w:=w
 K:=K
 mg:=mg
 base:=base
 A:=A.deeper (envOfC qual scope s.heap.objs.size f cd)
 N:=N
 s₀:=s
 H₀:=H
 env:=envOfC qual scope s.heap.objs.size f cd
 outer:=outer
 stack:=envOfC qual scope s.heap.objs.size f cd::outer
 ex:=[]
 calm:=true
 fn:=fun _=>true
 pn:=[]
 xe:=fun e s'=>wpAny (model P w) (A.deeper (envOfC qual scope s.heap.objs.size f cd)) (leaving (envOfC qual scope s.heap.objs.size f cd) e) (fun _ s''=>CX outer H s E e s'') (fun e' s''=>CX outer H s E e' s'') s'
theorem ut {sc:Scope}{n:Nat}{x:Str}(h:sc.names.lookup x=some .cell):∃ c,(cellsFrom n sc.names []).lookup x=some c:=by
 have q:=PySem.W.cellsFrom_some sc.names n [] (.inl h)
 exact Option.isSome_iff_exists.mp q
theorem Ym {CX:CXT}{P:Program}{w:World}{K:PySem.W.Frag}{mg:Str→Option Value}{base:Heap}{N ps:List Str}{qual:Str}{scope:Scope}{f:Addr}{cd:Value}{A:Around}{outer:List Env}{s s1:Shared}{H:Hp}{E:XK}{us:List Value}{vs:List V}
  (S:FnScope N ps scope) (hd:A.handled=none) (e0:Env0 P w K mg base A outer s H) (hl:vs.length=ps.length) (r:Vals vs us)
  (x:InCallC s s.heap.objs.size (bindL (envOfC qual scope s.heap.objs.size f cd).kindOf (ps.zip us) fun _=>none) (cellsFrom (s.heap.objs.size+1) scope.names []) (bindC (envOfC qual scope s.heap.objs.size f cd).kindOf (ps.zip us) fun _=>none) s1) :
  Inv (vj CX P w K mg base N qual scope f cd A outer s H E) [] (start N vs) H s1:=by
 have hpl:ps.length≤N.length:=by have:=congrArg List.length S.pre;rw[List.length_take] at this;omega
 obtain⟨h1,tk,rfl,hk⟩:=x.done
 have noA:∀ b:Addr,b∉(vj CX P w K mg base N qual scope f cd A outer s H E).ex:=fun b z=>absurd (show b∈([]:List Addr) from z) (by simp)
 refine⟨⟨e0.mod,S.kind,rfl,rfl,Nat.le_refl _,fun y z c h1 h2=>?_,fun y hy=>?_,fun y c _ h=>?_,fun _=>hd,Around.frames_deeper e0.frames,.inr ⟨rfl,rfl⟩,fun b z=>absurd z (noA b),e0.bs,e0.bsz,fun b _ _=>noA b,fun b z=>absurd z (noA b),e0.funs,e0.frf⟩,
  rfl,e0.bare,Un.kept hk,⟨_,x.toInCall.ns,fun i y v h1 h2 h3=>?_⟩,fun y c h=>⟨_,x.cell y c h⟩,e0.hok.fresh (Nat.le_refl _),fun y c h=>?_,fun p hp=>absurd (show p∈([]:List (Addr×Obj)) from hp) (by simp),e0.hok.kept hk,?_⟩
 ·exact name_of_addr x.apart (PySem.mem_of_lookup h1) (PySem.mem_of_lookup h2)
 ·have hy:scope.names.lookup y=some .cell∨scope.names.lookup y=some .free:=hy
  rcases hy with hy | hy
  ·exact ut hy
  ·exact absurd rfl (S.nofree _ (PySem.mem_of_lookup hy))
 ·exact Nat.le_of_lt (x.above y c (PySem.mem_of_lookup h))
 ·have hi:i<vs.length:=by
   unfold start at h2
   by_cases hi:i<vs.length
   ·exact hi
   ·rw[List.getElem?_append_right (by simpa using hi)] at h2
    rw[List.getElem?_replicate] at h2
    split at h2<;>cases h2
  have ha:vs[i]?=some v:=by
   unfold start at h2
   rw[List.getElem?_append_left (by simpa using hi),List.getElem?_map] at h2
   cases e:vs[i]? with
   |none=>rw[e] at h2;cases h2
   |some a=>rw[e] at h2;cases h2;rfl
  obtain⟨u,hu,rv⟩:=r.get ha
  have hp:ps[i]?=some y:=by
   rw[← S.pre,List.getElem?_take_of_lt (by omega)];exact h1
  have ndP:ps.Nodup:=by rw[← S.pre];exact S.nd.sublist (List.take_sublist _ _)
  refine⟨u,rv,?_⟩
  rcases S.par y (List.mem_of_getElem? hp) with k | k
  ·exact .inl ⟨k,bindL_get ndP hp hu k⟩
  ·obtain⟨c,e⟩:=ut (n:=s.heap.objs.size+1) k
   refine .inr ⟨.inl k,c,e,?_⟩
   have q:=x.cell y c e
   rw[ve ndP hp hu (by show scope.names.lookup y≠_;rw[k];decide)] at q
   exact q
 ·exact e0.hok.fresh (Nat.le_of_lt (x.above y c (PySem.mem_of_lookup h)))
 ·unfold start
  show _=N.length
  rw[List.length_append,List.length_map,List.length_replicate]
  omega
theorem zpn {CX:CXT}{P:Program}{w:World}{K:PySem.W.Frag}{mg:Str→Option Value}{base:Heap}{k:Nat}{f:Addr}{name qual:Str}{params:Arguments}{body:List Stmt}{scope:Scope}{dV kV doc pm cdv ct oc:Value}{an od:Option Addr}
  {osl:Array (Option Value)}{N ps:List Str}{sp:Sp}(lk:K.lookup f=some ⟨oc,od,.func (PySem.W.fnOf name qual params body scope dV kV doc pm an cdv ct),osl⟩) (hcd:PySem.W.codeIn K cdv qual=true) (S:FnScope N ps scope)
  (len:∀ vs H Q E,sp vs H Q E→vs.length=ps.length)
  (hbody:∀ (A:Around) (outer:List Env) (s:Shared) (H:Hp) (vs:List V) (Q:VK) (E:XK),Room k (A.deeper (envOfC qual scope s.heap.objs.size f cdv))→sp vs H Q E →
   ∃ t,PSs (vj CX P w K mg base N qual scope f cdv A outer s H E) body t∧t { nx:=fun _ H'=>Q .non H',rt:=Q } (start N vs) H) :
  FnOk P w K mg base CX (k+1) f (PySem.W.fnOf name qual params body scope dV kV doc pm an cdv ct) ps sp:=by
 refine⟨len,fun A outer s H args us vs Q E hr e0 hb r hsp=>?_⟩
 have hl:=len _ _ _ _ hsp
 have KX:K.In s.heap:=e0.mod.kin.keeps fun b o e=>(e0.bs b o e).1
 have lim:s.heap.NoLimit:=e0.mod.nolimit.keeps fun b o e=>(e0.bs b o e).1
 have hkind:∀ y∈ps.zip us,scope.names.lookup y.1=some .local∨(scope.names.lookup y.1=some .cell∧((cellsFrom (s.heap.objs.size+1) scope.names []).lookup y.1).isSome=true):=fun⟨n,v⟩ hy=>by
  rcases S.par n (List.of_mem_zip hy).1 with q | q
  ·exact .inl q
  ·exact .inr ⟨q,PySem.W.cellsFrom_some _ _ _ (.inl q)⟩
 refine codeAny_call_function hr.depth (KX _ _ lk) rfl S.co S.gen rfl (PySem.W.codeRec_of KX hcd) (hb _ _ _ _ ?_)
 refine wpAny_newFunctionEnv_cells S.kind hkind fun env he s1 x=>?_
 subst he
 refine⟨lim.keeps x.toInCall.keep,codeAny_func ?_⟩
 obtain⟨t,ht,hq⟩:=hbody A outer s H vs Q E (hr.deeper _) hsp
 have I:Inv (vj CX P w K mg base N qual scope f cdv A outer s H E) [] (start N vs) H s1:=Ym S hr.hd e0 hl r x
 refine wpAny_mono (ht [] s1 (start N vs) H _ I hq) (fun fl s' hs=>?_) fun e s' hs=>hs
 have fin:∀ {σ':St}{H':Hp}{v:V}{u:Value},Inv (vj CX P w K mg base N qual scope f cdv A outer s H E) [] σ' H' s'→RelV v u→Q v H'→CE outer P w H s Q u s' :=
  fun {σ' H' v u} J rv q=>⟨v,H',J.os,J.bare,J.base,J.hok,rv,q⟩
 cases fl with
 |ret u =>
  obtain⟨v,σ',H',J,rv,q⟩:=hs
  exact fin J rv q
 |next =>
  obtain⟨σ',H',J,q⟩:=hs
  exact fin (v:=V.non) (u:=Value.none) J rfl q
 |brk =>
  obtain⟨_,_,_,q⟩:=hs
  exact False.elim q
 |cont =>
  obtain⟨_,_,_,q⟩:=hs
  exact False.elim q
section
variable {X:Cx}{x:Str}{p pos:Pos}{e:Expr}{es:List Expr}{t:TA}{id T:String}{r:List V→Hp→VK→Prop}
def tCB (r:List V→Hp→VK→Prop) (t:TA):TE:=fun σ H Q=>t σ H fun vs H1=>r vs H1 Q
theorem w_pe_callB (hc:yu X (.builtin id) r) (hg:Gl X x) (hm:X.mg x=none) (hv:bootBuiltins x=some (.builtin id)) (ha:Bx (PA X (e::es) t)) (hn:x ≠ "__name__" := by decide) (hdb:(x == ("__debug__" : Str))=false:=by decide) (he:starEach (e::es) X.env=(false,eval e X.env)::starEach es X.env:=by rfl) (hpl:(backTo pos (starEach es X.env)).any (·.1)=false:=by rfl):Bx (PE X (.Call (.Name x p) (e::es) [] pos) (tCB r t)):=by
 have ha:=ha.of
 refine⟨?_⟩
 intro pins s σ H Q I h
 refine wpAny_Call_Name_kw (ld_blt I hg hm hv ?_ hn hdb)
 exact PyProof.Rows.callWith_builtin1 (thn (ha pos pins s σ H _ I h) fun us s1 ⟨vs,H1,I1,r1,q1⟩=>hc pins s1 σ H1 vs us Q I1 r1 q1) he hpl
theorem zz (hc:yu X (.type T) r) (hg:Gl X x) (hm:X.mg x=none) (hv:bootBuiltins x=some (.type T)) (ha:Bx (PA X (e::es) t)) (hn:x ≠ "__name__" := by decide) (hdb:(x == ("__debug__" : Str))=false:=by decide) (he:starEach (e::es) X.env=(false,eval e X.env)::starEach es X.env:=by rfl) (hpl:(backTo pos (starEach es X.env)).any (·.1)=false:=by rfl):Bx (PE X (.Call (.Name x p) (e::es) [] pos) (tCB r t)):=by
 have ha:=ha.of
 refine⟨?_⟩
 intro pins s σ H Q I h
 refine wpAny_Call_Name_kw (ld_blt I hg hm hv ?_ hn hdb)
 exact PyProof.Rows.callWith_type1 (thn (ha pos pins s σ H _ I h) fun us s1 ⟨vs,H1,I1,r1,q1⟩=>hc pins s1 σ H1 vs us Q I1 r1 q1) he hpl
end
end L2
namespace HT
open PySem PyProof.Rows
section
variable {prog:Program}{w:World}{A:Around}{E:Value→Shared→Prop}{s:Shared}
def sIx (n d:Nat):Option Int→Nat
 |none=>d
 |some v=>if v<0 then(v+(n:Int)).toNat else min v.toNat n
end
end HT
namespace L2
open PySem PySem.Spec PyProof.Rows
abbrev TO:=St→Hp→(Option Int→Hp→Prop)→Prop
def PO (X:Cx) (e:Option Expr) (t:TO):Prop :=
 ∀ (pins:List (Addr×Obj)) (s:Shared) (σ:St) (H:Hp) (Q:Option Int→Hp→Prop),Inv X pins σ H s→t σ H Q →
  wpAny (model X.prog X.w) X.A (evalPart e X.env) (fun u s'=>∃ o H',Inv X pins σ H' s'∧IsPart u o∧Q o H') X.xe s
def Vr:TO:=fun _ H Q=>Q none H
def zrM (t:TE):TO:=fun σ H Q=>t σ H fun x H1=>∃ i,x=.int i∧Q (some i) H1
section
variable {X:Cx}{e:Expr}{te:TE}{lo hi:Option Expr}{tl th:TO}{pos p2:Pos}
theorem Za  : Bx (PO X none Vr):=by
 refine⟨?_⟩
 intro pins s σ H Q I h
 rw[evalPart_none]
 exact wpAny_pure ⟨none,H,I,.none,h⟩
theorem w_po_some (h:Bx (PE X e te)):Bx (PO X (some e) (zrM te)):=by
 have h:=h.of
 refine⟨?_⟩
 intro pins s σ H Q I hw
 rw[evalPart_some]
 refine thn (h pins s σ H _ I hw) fun u s1 hq0=>?_
 obtain⟨x,H1,I1,r1,q1⟩:=hq0
 obtain⟨i,rfl,q⟩:=q1
 obtain⟨t,rfl⟩:=r1
 exact⟨some i,H1,I1,.int i t,q⟩
def SlR (X:Cx) (r:V→Option Int→Option Int→Hp→VK→Prop):Prop :=
 ∀ (pins:List (Addr×Obj)) (s:Shared) (σ:St) (H:Hp) (x:V) (v vl vu:Value) (lo hi:Option Int) (sl:Addr) (Q:VK),Inv X pins σ H s→RelV x v→s.heap.IsSliceOf sl vl vu .none→IsPart vl lo→IsPart vu hi→r x lo hi H Q →
  ∃ T id,typeLookup (.type T) "__getitem__" = pure (some (.builtin id))∧s.TypeIs v T∧wpAny (model X.prog X.w) X.A (getItem v (.ref sl)) (EP X pins σ Q) X.xe s
def tSl (r:V→Option Int→Option Int→Hp→VK→Prop) (te:TE) (tl th:TO):TE:=fun σ H Q=>te σ H fun x H1=>tl σ H1 fun l H2=>th σ H2 fun u H3=>r x l u H3 Q
theorem uy {r:V→Option Int→Option Int→Hp→VK→Prop}(hr:SlR X r) (he:Bx (PE X e te)) (hl:Bx (PO X lo tl)) (hu:Bx (PO X hi th)):Bx (PE X (.Subscript e (.Slice lo hi none p2) pos) (tSl r te tl th)):=by
 have he:=he.of
 have hl:=hl.of
 have hu:=hu.of
 refine⟨?_⟩
 intro pins s σ H Q I h
 refine Subscript_ (thn (he pins s σ H _ I h) fun v s1 hq0=>?_)
 obtain⟨x,H1,I1,r1,q1⟩:=hq0
 refine wpAny_Slice (thn (hl pins s1 σ H1 _ I1 q1) fun vl s2 ⟨l,H2,I2,pl,q2⟩=>thn (hu pins s2 σ H2 _ I2 q2) fun vu s3 hq0=>?_)
 obtain⟨u,H3,I3,pu,q3⟩:=hq0
 rw[evalPart_none]
 refine wpAny_pure ?_
 have I4:Inv X pins σ H3 { s3 with heap:=s3.heap.push { cls:=.type "slice",data:=.fields #[vl,vu,.none] } }:=I3.kept (t':=s3.toks) fun b ob q=>Heap.get?_push_of_some _ q
 obtain⟨T,id,hT,ht,hg⟩:=hr pins { s3 with heap:=s3.heap.push { cls:=.type "slice",data:=.fields #[vl,vu,.none] } } σ H3 x v vl vu l u s3.heap.objs.size Q I4 r1 (Heap.IsSliceOf.new ..) pl pu q3
 show wpAny (model X.prog X.w) X.A (subscriptTail e (.Slice lo hi none p2) v (.ref s3.heap.objs.size)) (EP X pins σ Q) X.xe { s3 with heap:=s3.heap.push { cls:=.type "slice",data:=.fields #[vl,vu,.none] } }
 exact tail_any (ops:=[.ref s3.heap.objs.size,v]) ht hT hg (by with_unfolding_all rfl)
def zbb (xs:List V) (lo hi:Option Int):List V:=(xs.drop (HT.sIx xs.length 0 lo)).take (HT.sIx xs.length xs.length hi-HT.sIx xs.length 0 lo)
theorem vP (xs:List V) (lo hi:Option Int):(zbb xs lo hi).length≤xs.length:=by
 unfold zbb
 rw[List.length_take,List.length_drop]
 omega
end
def ixN (n:Nat) (i:Int):Option Nat:=if 0≤i then(if i<n then some i.toNat else none) else if -(n:Int)≤i then some (i+n).toNat else none
def atI {α:Type}(xs:List α) (i:Int):Option α:=(ixN xs.length i).bind fun j=>xs[j]?
theorem Yh {n:Nat}{i:Int}{j:Nat}(h:ixN n i=some j):seqIndex? i n=some j∧j<n∧-(n:Int)≤i∧i<n:=by
 unfold ixN at h
 by_cases h0:0≤i
 ·rw[if_pos h0] at h
  by_cases h1:i<n
  ·rw[if_pos h1] at h
   have e:i.toNat=j:=Option.some.inj h
   exact⟨by rw[seqIndex_of h0 h1,e],by omega,by omega,h1⟩
  ·rw[if_neg h1] at h;cases h
 ·rw[if_neg h0] at h
  by_cases h1 : -(n:Int)≤i
  ·rw[if_pos h1] at h
   have e:(i+n).toNat=j:=Option.some.inj h
   exact⟨by rw[seqIndex_neg (by omega) h1,e],by omega,h1,by omega⟩
  ·rw[if_neg h1] at h;cases h
theorem YO {α:Type}{xs:List α}{i:Int}{v:α}(h:atI xs i=some v):∃ j,seqIndex? i xs.length=some j∧xs[j]?=some v∧j<xs.length∧-(xs.length:Int)≤i∧i<xs.length:=by
 unfold atI at h
 cases e:ixN xs.length i with
 |none=>rw[e] at h;cases h
 |some j =>
  rw[e] at h
  obtain⟨h1,h2,h3,h4⟩:=Yh e
  exact⟨j,h1,h,h2,h3,h4⟩
theorem zaN {α:Type}{xs:List α}{j:Nat}{v:α}(h:xs[j]?=some v):atI xs (j:Int)=some v:=by
 have hj:j<xs.length:=(List.getElem?_eq_some_iff.mp h).1
 have e:ixN xs.length (j:Int)=some j:=by
  unfold ixN
  rw[if_pos (by omega),if_pos (by omega)];simp
 unfold atI;rw[e];exact h
def zaO (b:Expr):Prop:=∀ o i,subscripted b false o i=operate [o,i] (getItem o i)
def IxR (X:Cx) (r:R2):Prop :=
 ∀ (value slice:Expr) (pins:List (Addr×Obj)) (s:Shared) (σ:St) (H:Hp) (x y:V) (v u:Value) (Q:VK),Inv X pins σ H s→RelV x v→RelV y u→r x y H Q →
  subscripted slice false v u=operate [v,u] (getItem v u)→wpAny (model X.prog X.w) X.A (subscriptTail value slice v u) (EP X pins σ Q) X.xe s
def MtR (X:Cx) (id:String) (r:V→List V→Hp→VK→Prop):Prop :=
 ∀ (pins:List (Addr×Obj)) (s:Shared) (σ:St) (H:Hp) (x:V) (xs:List V) (v:Value) (us:List Value) (Q:VK),Inv X pins σ H s→RelV x v→Vals xs us→r x xs H Q →
  wpAny (model X.prog X.w) X.A (call (.builtin id) (v::us)) (EP X pins σ Q) X.xe s
section
variable {X:Cx}{a b:Expr}{ta tb:TE}{pos:Pos}
theorem w_pe_ix {r:R2}(hr:IxR X r) (ha:Bx (PE X a ta)) (hb:Bx (PE X b tb)) (hs:zaO b):Bx (PE X (.Subscript a b pos) (tOp r ta tb)):=by
 have ha:=ha.of
 have hb:=hb.of
 refine⟨?_⟩
 intro pins s σ H Q I h
 exact Subscript_ (binT ha hb I h fun v u s2 x y H2 I2 rx ry q=>hr a b pins s2 σ H2 x y v u Q I2 rx ry q (hs _ _))
def zGQ (K:PySem.W.Frag):R2:=fun x y H Q=>∃ p xs i v,x=.ref p∧y=.int i∧SqL K H p xs∧atI xs i=some v∧Q v H
def zGP (K:PySem.W.Frag):R2:=fun x y H Q=>∃ p xs i v,x=.ref p∧y=.int i∧SqT K H p xs∧atI xs i=some v∧Q v H
theorem zI:IxR X (zGQ X.K):=by
 intro value slice pins s σ H x y v u Q I rx ry h hs
 obtain⟨p,xs,i,z,rfl,rfl,hq,he,q⟩:=h
 cases rx
 obtain⟨t,rfl⟩:=ry
 obtain⟨its,r,pl,hz⟩:=I.list hq
 obtain⟨j,h1,h2,h3,h4,h5⟩:=YO he
 obtain⟨w,ew,rw'⟩:=r.get h2
 have hl:=r.length
 have hn:=uh
 have fin:EP X pins σ Q w s:=⟨z,H,I,rw',q⟩
 by_cases h0:0≤i
 ·have hj:i.toNat=j:=by
   rw[seqIndex_of h0 h5] at h1
   exact Option.some.inj h1
  exact item_listR pl.isList h0 (by omega) (by rw[hj];simpa using ew) fin hs
 ·have hj:(i+(its.toArray.size:Int)).toNat=j:=by
   rw[seqIndex_neg (by omega) h4] at h1
   rw[List.size_toArray,← hl]
   exact Option.some.inj h1
  exact subscriptTail_builtinR (x:=w) pl.isList.typeIs slot_list_getitem.lookup
   (wpAny_getItem_list_neg (Q:=fun r s'=>r=w∧EP X pins σ Q r s') pl.isList (by omega) (by rw[List.size_toArray]<;>omega) (by omega) (by rw[hj];simpa using ew) ⟨rfl,fin⟩) hs
theorem ix_tup:IxR X (zGP X.K):=by
 intro value slice pins s σ H x y v u Q I rx ry h hs
 obtain⟨p,xs,i,z,rfl,rfl,hq,he,q⟩:=h
 cases rx
 obtain⟨t,rfl⟩:=ry
 obtain⟨its,r,pl,hz⟩:=I.tuple hq
 obtain⟨j,h1,h2,h3,h4,h5⟩:=YO he
 obtain⟨w,ew,rw'⟩:=r.get h2
 have hl:=r.length
 have hn:=uh
 have fin:EP X pins σ Q w s:=⟨z,H,I,rw',q⟩
 exact subscriptTail_builtinR (x:=w) pl.typeIs slot_tuple_getitem.lookup
  (getItem_tuple (j:=j) (Q:=fun r s'=>r=w∧EP X pins σ Q r s') pl (by omega) (by omega) (by rw[List.size_toArray,← hl];exact h1) (by simpa using ew) ⟨rfl,fin⟩) hs
theorem uH (its:List Value) (n j:Nat) (u:Value):Obj.mapSeq (·.setIfInBounds j u) { cls:=.type "list",data:=.seq its.toArray n }={ cls:=.type "list",data:=.seq (its.set j u).toArray n }:=by
 simp[Obj.mapSeq]
theorem Inv.lst {pins:List (Addr×Obj)}{σ:St}{H:Hp}{s:Shared}{p:Addr}{xs:List V}(I:Inv X pins σ H s) (h:H p=some (.lst xs)) :
  ∃ (its:List Value) (n:Nat),Vals xs its∧s.heap.get? p=some { cls:=.type "list",data:=.seq its.toArray n }∧xs.length≤sizeLine:=by
 obtain⟨z,its,n,r,e⟩:=I.hok p _ h
 exact⟨its,n,r,e,z⟩
theorem Inv.lstUpd {pins:List (Addr×Obj)}{σ:St}{H:Hp}{s:Shared}{p:Addr}{xs ys:List V}{its its':List Value}{n n':Nat}{f:Obj→Obj}(I:Inv X pins σ H s) (h:H p=some (.lst xs))
  (ho:s.heap.get? p=some { cls:=.type "list",data:=.seq its.toArray n }) (hf:f { cls:=.type "list",data:=.seq its.toArray n }={ cls:=.type "list",data:=.seq its'.toArray n' }) (r:Vals ys its') (hz:ys.length≤sizeLine) (t:Nat) :
  Inv X pins σ (upd H p (.lst ys)) { s with heap:=s.heap.update p f,toks:=t }:=by
 have e:(s.heap.update p f).get? p=some { cls:=.type "list",data:=.seq its'.toArray n' }:=by
  rw[Heap.get?_update_self f ho (by rw[hf]<;>rfl),hf]
 refine I.write (x:=p) (e:=p) (by rw[h];trivial) (.inl rfl) (fun b u hb q=>(Heap.get?_update_other _ _ (Ne.symm hb)).trans q) ⟨_,e⟩ ?_
 exact⟨hz,its',n',r,e⟩
def zts:V→V→V→Hp→(Hp→Prop)→Prop:=fun o i v H Q=>∃ p xs k j,o=.ref p∧i=.int k∧H p=some (.lst xs)∧ixN xs.length k=some j∧Q (upd H p (.lst (xs.set j v)))
theorem ub:zyJ X zts:=by
 intro pins s σ H o i v ov iv u Q I ro ri rv h
 obtain⟨p,xs,k,j,rfl,rfl,hp,hj,q⟩:=h
 cases ro
 obtain⟨t,rfl⟩:=ri
 obtain⟨its,n,r,ho,hz⟩:=I.lst hp
 obtain⟨h1,h2,h3,h4⟩:=Yh hj
 have hl:=r.length
 have hn:=uh
 have I':Inv X pins σ (upd H p (.lst (xs.set j v))) { s with heap:=s.heap.update p (Obj.mapSeq (·.setIfInBounds j u)) } :=
  I.lstUpd hp ho (uH its n j u) (r.set rv j) (by rw[List.length_set];exact hz) s.toks
 by_cases h0:0≤k
 ·have hk:k.toNat=j:=by
   rw[seqIndex_of h0 h4] at h1
   exact Option.some.inj h1
  exact PySem.W.ki_setAt ho h0 (by omega) (by rw[List.size_toArray,← hl];exact h4) (by rw[hk];exact⟨_,I',q⟩)
 ·have hk:(k+(its.toArray.size:Int)).toNat=j:=by
   rw[seqIndex_neg (by omega) h3] at h1
   rw[List.size_toArray,← hl]
   exact Option.some.inj h1
  exact PySem.W.ki_setBack ho (by omega) (by rw[List.size_toArray,← hl];exact h3) (by omega) (by rw[hk];exact⟨_,I',q⟩)
theorem wM (lo hi:Option Int) (n:Nat):(sliceBounds lo hi none n).1=((HT.sIx n 0 lo:Nat):Int)∧(sliceBounds lo hi none n).2.1=((HT.sIx n n hi:Nat):Int)∧(sliceBounds lo hi none n).2.2=1:=by
 refine⟨?_,?_,rfl⟩
 ·cases lo with
  |none=>simp[sliceBounds,HT.sIx]
  |some i =>
   simp only[sliceBounds,HT.sIx,Option.getD_none,show(1:Int)>0 by decide,if_true]
   by_cases h:i<0
   ·simp only[h,if_true]<;>omega
   ·simp only[h,if_false]<;>omega
 ·cases hi with
  |none=>simp[sliceBounds,HT.sIx]
  |some i =>
   simp only[sliceBounds,HT.sIx,Option.getD_none,show(1:Int)>0 by decide,if_true]
   by_cases h:i<0
   ·simp only[h,if_true]<;>omega
   ·simp only[h,if_false]<;>omega
theorem wg (its:List Value) (lo hi:Option Int):slicePick its.toArray lo hi none=((its.drop (HT.sIx its.length 0 lo)).take (HT.sIx its.length its.length hi-HT.sIx its.length 0 lo)).toArray:=by
 obtain⟨h1,h2,h3⟩:=wM lo hi its.toArray.size
 unfold slicePick
 rw[h1,h2,h3]
 simp only[sliceRange_one,pick_run,List.size_toArray]<;>rfl
def zGO (K:PySem.W.Frag):V→Option Int→Option Int→Hp→VK→Prop:=fun x lo hi H Q=>∃ a xs,x=.ref a∧SqL K H a xs∧∀ p,H p=none→Q (.ref p) (upd H p (.lst (zbb xs lo hi)))
theorem Um:SlR X (zGO X.K):=by
 intro pins s σ H x v vl vu lo hi sl Q I rx hs pl pu h
 obtain⟨a,xs,rfl,hx,q⟩:=h
 cases rx
 obtain⟨its,r,ht,hz⟩:=I.list hx
 have hlen:=r.length
 refine⟨"list",_,slot_list_getitem.lookup,ht.isList.typeIs,?_⟩
 refine wpAny_getItem_list_slice ht.isList hs pl pu .none (by simp) ?_ (by rw[List.size_toArray]<;>omega)
 rw[wg,← hlen]
 refine⟨.ref s.heap.objs.size,_,I.laid (t':=s.toks) (o:=.lst (zbb xs lo hi)) (fun b ob q=>Heap.get?_push_of_some _ q) (Nat.le_refl _) ?_,rfl,q _ (I.hok.fresh (Nat.le_refl _))⟩
 exact⟨Nat.le_trans (vP xs lo hi) hz,_,0,(r.drop (HT.sIx xs.length 0 lo)).take (HT.sIx xs.length xs.length hi-HT.sIx xs.length 0 lo),Heap.get?_push_size _ rfl⟩
def xa:V→Bool
 |.non=>true
 |.bl _=>true
 |.int _=>true
 |.str _=>true
 |_=>false
def eqV:V→V→Bool
 |.non,.non=>true
 |.bl a,.bl b=>a == b
 |.bl a,.int b=>(if a then 1 else 0) == b
 |.int a,.bl b=>a == (if b then 1 else 0)
 |.int a,.int b=>a == b
 |.str a,.str b=>a == b
 |_,_=>false
theorem eqAt_V {A:Around}{s:Shared}{y x:V}{u v:Value}(ry:RelV y u) (rx:RelV x v) (fy:xa y=true) (fx:xa x=true):SeqAt.EqAt A s u v (eqV y x):=by
 cases y with
 |non =>
  cases ry
  cases x with
  |non=>cases rx;exact SeqAt.EqAt.same _
  |bl b=>cases rx;exact SeqAt.EqAt.none_bool b
  |int b=>obtain⟨t,rfl⟩:=rx;exact SeqAt.EqAt.none_int b t
  |str b=>obtain⟨t,rfl⟩:=rx;exact SeqAt.EqAt.none_str b t
  |_=>exact absurd (show false=true from fx) Bool.false_ne_true
 |bl a =>
  cases ry
  cases x with
  |non=>cases rx;exact SeqAt.EqAt.bool_none a
  |bl b=>cases rx;exact SeqAt.EqAt.bool_bool a b
  |int b=>obtain⟨t,rfl⟩:=rx;exact SeqAt.EqAt.bool_int a b t
  |str b=>obtain⟨t,rfl⟩:=rx;exact SeqAt.EqAt.bool_str a b t
  |_=>exact absurd (show false=true from fx) Bool.false_ne_true
 |int a =>
  obtain⟨t',rfl⟩:=ry
  cases x with
  |non=>cases rx;exact SeqAt.EqAt.int_none a t'
  |bl b=>cases rx;exact SeqAt.EqAt.int_bool a t' b
  |int b=>obtain⟨t,rfl⟩:=rx;exact SeqAt.EqAt.int_int a t' b t
  |str b=>obtain⟨t,rfl⟩:=rx;exact SeqAt.EqAt.int_str a t' b t
  |_=>exact absurd (show false=true from fx) Bool.false_ne_true
 |str a =>
  obtain⟨t',rfl⟩:=ry
  cases x with
  |non=>cases rx;exact SeqAt.EqAt.str_none a t'
  |bl b=>cases rx;exact SeqAt.EqAt.str_bool a t' b
  |int b=>obtain⟨t,rfl⟩:=rx;exact SeqAt.EqAt.str_int a t' b t
  |str b=>obtain⟨t,rfl⟩:=rx;exact SeqAt.EqAt.str_str a t' b t
  |_=>exact absurd (show false=true from fx) Bool.false_ne_true
 |_=>exact absurd (show false=true from fy) Bool.false_ne_true
def eqU (x:V) (u:Value):Bool:=match u with
 |.none=>eqV .non x
 |.bool b=>eqV (.bl b) x
 |.int i _=>eqV (.int i) x
 |.str z _=>eqV (.str z) x
 |_=>false
theorem Vk {x y:V}{u:Value}(r:RelV y u) (f:xa y=true):eqU x u=eqV y x:=by
 cases y with
 |non=>cases r;rfl
 |bl b=>cases r;rfl
 |int i=>obtain⟨t,rfl⟩:=r;rfl
 |str z=>obtain⟨t,rfl⟩:=r;rfl
 |_=>exact absurd (show false=true from f) Bool.false_ne_true
theorem vU {x:V}:∀ {xs:List V}{us:List Value},Vals xs us→xs.all xa=true→us.any (eqU x)=xs.any fun y=>eqV y x
 |_,_,.nil,_=>rfl
 |y::xs,u::us,.cons r t,f=>by
  rw[List.all_cons,Bool.and_eq_true] at f
  rw[List.any_cons,List.any_cons,Vk r f.1,vU t f.2]
theorem wu {A:Around}{s:Shared}{x:V}{v:Value}(rx:RelV x v) (fx:xa x=true):∀ {xs:List V}{us:List Value},Vals xs us→xs.all xa=true→∀ u∈us,SeqAt.EqAt A s u v (eqU x u)
 |_,_,.nil,_=>fun u hu=>by cases hu
 |y::xs,u::us,.cons r t,f=>fun u' hu=>by
  rw[List.all_cons,Bool.and_eq_true] at f
  rcases List.mem_cons.mp hu with rfl | hu
  ·rw[Vk r f.1];exact eqAt_V r rx f.1 fx
  ·exact wu rx fx t f.2 u' hu
def inV (x:V) (xs:List V):Bool:=xs.any fun y=>eqV y x
def rIn (K:PySem.W.Frag) (neg:Bool):R2:=fun x y H Q=>∃ p xs,y=.ref p∧(SqL K H p xs∨SqT K H p xs)∧xa x=true∧xs.all xa=true∧Q (.bl (if neg then !inV x xs else inV x xs)) H
theorem ZN:OpR X (compareOp .In) (rIn X.K false):=by
 intro pins s σ H x y v u Q I rx ry h
 obtain⟨p,xs,rfl,hq,fx,fs,q⟩:=h
 cases ry
 rcases hq with hq | hq
 ·obtain⟨its,r,pl,hz⟩:=I.list hq
  refine SeqAt.in_listAt (eqU x) pl.isList (fun w hw=>wu rx fx r fs w (by simpa using hw)) ⟨.bl _,H,I,rfl,?_⟩
  rw[show its.toArray.any (eqU x)=its.any (eqU x) by simp,vU r fs]
  exact q
 ·obtain⟨its,r,pl,hz⟩:=I.tuple hq
  refine SeqAt.in_tupleAt (eqU x) pl (fun w hw=>wu rx fx r fs w (by simpa using hw)) ⟨.bl _,H,I,rfl,?_⟩
  rw[show its.toArray.any (eqU x)=its.any (eqU x) by simp,vU r fs]
  exact q
theorem zw:yu X (.builtin "len") (fun xs H Q=>∃ p ys,xs=[.ref p]∧(SqL X.K H p ys∨SqT X.K H p ys)∧Q (.int ys.length) H):=by
 intro pins s σ H xs us Q I r h
 obtain⟨p,ys,rfl,hq,q⟩:=h
 obtain⟨u,rfl,rx⟩:=wI r
 cases rx
 have hn:=uh
 rcases hq with hq | hq
 ·obtain⟨its,r',pl,hz⟩:=I.list hq
  have hlen:=r'.length
  exact Calls.call_len_list pl.isList (by simp only[List.size_toArray]<;>omega) ⟨.int ys.length,H,I.tok _,⟨s.toks+1,by rw[List.size_toArray,hlen]⟩,q⟩
 ·obtain⟨its,r',pl,hz⟩:=I.tuple hq
  have hlen:=r'.length
  exact len_tuple pl (by simp only[List.size_toArray]<;>omega) ⟨.int ys.length,H,I.tok _,⟨s.toks+1,by rw[List.size_toArray,hlen]⟩,q⟩
theorem yk:yu X (.type "list") (fun xs H Q=>∃ p ys,xs=[.ref p]∧(SqL X.K H p ys∨SqT X.K H p ys)∧∀ l,H l=none→Q (.ref l) (upd H l (.lst ys))):=by
 intro pins s σ H xs us Q I r h
 obtain⟨p,ys,rfl,hq,q⟩:=h
 obtain⟨u,rfl,rx⟩:=wI r
 cases rx
 have fin:∀ (its:List Value),Vals ys its→ys.length≤sizeLine→∀ (h':Heap) (c':Nat),(∀ b o',s.heap.get? b=some o'→h'.get? b=some o') →
   h'.get? s.heap.objs.size=some { cls:=.type "list",dict:=none,data:=.seq its.toArray c',slots:=#[] }→EP X pins σ Q (.ref s.heap.objs.size) { s with heap:=h' }:=fun its r' hz h' c' kp e =>
  ⟨.ref s.heap.objs.size,_,I.laid (t':=s.toks) kp (Nat.le_refl _) (show ObjOk X.prog X.w _ h' _ (.lst ys) from⟨hz,its,c',r',e⟩),rfl,q _ (I.hok.fresh (Nat.le_refl _))⟩
 rcases hq with hq | hq
 ·obtain⟨its,r',pl,hz⟩:=I.list hq
  have hlen:=r'.length
  obtain⟨o,ho,hc,n,hd⟩:=pl.isList
  exact call_list_seq p (.inl rfl) ho hc hd (fun h' c' kp e=>fin its r' hz h' c' kp e) (by simp only[List.size_toArray]<;>omega)
 ·obtain⟨its,r',pl,hz⟩:=I.tuple hq
  have hlen:=r'.length
  obtain⟨o,ho,hc,n,hd⟩:=pl
  exact call_list_seq p (.inr rfl) ho hc hd (fun h' c' kp e=>fin its r' hz h' c' kp e) (by simp only[List.size_toArray]<;>omega)
theorem wA:yu X (.type "tuple") (fun xs H Q=>∃ p ys,xs=[.ref p]∧((SqL X.K H p ys∧∀ l,H l=none→Q (.ref l) (upd H l (.tup ys)))∨(SqT X.K H p ys∧Q (.ref p) H))):=by
 intro pins s σ H xs us Q I r h
 obtain⟨p,ys,rfl,h⟩:=h
 obtain⟨u,rfl,rx⟩:=wI r
 cases rx
 rcases h with⟨hq,q⟩ | ⟨hq,q⟩
 ·obtain⟨its,r',pl,hz⟩:=I.list hq
  have hlen:=r'.length
  refine call_tuple_list pl.isList (fun h' kp=>?_) (by simp only[List.size_toArray]<;>omega)
  have I1:Inv X pins σ H { s with heap:=h' }:=I.kept (t':=s.toks) kp
  have I2:Inv X pins σ (upd H h'.objs.size (.tup ys)) { s with heap:=h'.push { cls:=.type "tuple",data:=.seq its.toArray } } :=
   I1.laid (t':=s.toks) (fun b o e=>Heap.get?_push_of_some _ e) (Nat.le_refl _) (show ObjOk X.prog X.w _ _ _ (.tup ys) from⟨hz,its,r',IsTup.new _ _⟩)
  exact⟨.ref h'.objs.size,_,I2,rfl,q _ (I1.hok.fresh (Nat.le_refl _))⟩
 ·obtain⟨its,r',pl,hz⟩:=I.tuple hq
  exact call_tuple_same pl ⟨.ref p,H,I,rfl,q⟩
def tyV (K:PySem.W.Frag) (T:String) (x:V) (H:Hp):Prop:=match x with
 |.str _=>T = "str"
 |.int _=>T = "int"
 |.ref p=>(T = "list" ∧ ∃ xs,SqL K H p xs)∨(T = "tuple" ∧ ∃ o,K.lookup p=some o∧o.cls=.type "tuple" ∧ o.dict=none) ∨
   (T = "dict" ∧ ((∃ kvs,H p=some (.dK kvs))∨∃ kvs,H p=some (.dT kvs)))∨(T = "set" ∧ ∃ S n,H p=some (.set S n))
 |_=>False
theorem zbj {pins:List (Addr×Obj)}{σ:St}{H:Hp}{s:Shared}{T:String}{x:V}{v:Value}(I:Inv X pins σ H s) (r:RelV x v) (ty:tyV X.K T x H) :
  s.TypeIs v T∧∀ a,v=.ref a→∃ ob,s.heap.get? a=some ob∧ob.dict=none:=by
 cases x with
 |str z =>
  obtain⟨t,rfl⟩:=r
  cases (show T = "str" from ty)
  exact⟨typeIs_str s z t,fun _ e=>nomatch e⟩
 |int i =>
  obtain⟨t,rfl⟩:=r
  cases (show T = "int" from ty)
  exact⟨typeIs_int s i t,fun _ e=>nomatch e⟩
 |ref p =>
  cases r
  rcases ty with⟨rfl,xs,hq⟩ | ⟨rfl,o,hk,hc,hd⟩ | ⟨rfl,hk⟩ | ⟨rfl,S,n,hk⟩
  ·obtain⟨its,_,pl,_⟩:=I.list hq
   refine⟨pl.isList.typeIs,fun a e=>?_⟩
   cases e
   obtain⟨o,n,e,c,hd,_⟩:=pl
   exact⟨o,e,hd⟩
  ·refine⟨⟨o,I.kIn p o hk,hc⟩,fun a e=>?_⟩
   cases e
   exact⟨o,I.kIn _ o hk,hd⟩
  ·have z:∃ o,s.heap.get? p=some o∧o.ExactDict:=by
    rcases hk with⟨kvs,hk⟩ | ⟨kvs,hk⟩
    ·obtain⟨_,_,_,_,o,_,_,e,ex,_⟩:=I.hok p _ hk
     exact⟨o,e,ex⟩
    ·obtain⟨_,_,_,_,o,_,_,e,ex,_⟩:=I.hok p _ hk
     exact⟨o,e,ex⟩
   obtain⟨o,e,ex⟩:=z
   refine⟨⟨o,e,ex.1⟩,fun a e2=>?_⟩
   cases e2
   exact⟨o,e,ex.2.1⟩
  ·obtain⟨o,_,_,_,e,ex,_⟩:=I.hok p _ hk
   refine⟨⟨o,e,ex.1⟩,fun a e2=>?_⟩
   cases e2
   exact⟨o,e,ex.2.1⟩
 |_=>exact False.elim ty
def tBM (K:PySem.W.Frag) (T:String) (r:V→List V→Hp→VK→Prop) (to:TE) (t:TA):TE:=fun σ H Q=>to σ H fun x H1=>tyV K T x H1∧t σ H1 fun xs H2=>r x xs H2 Q
variable {o e:Expr}{es:List Expr}{to:TE}{t:TA}{name:Str}{apos cpos:Pos}{T id:String}{r:V→List V→Hp→VK→Prop}
theorem ztx (pa:PlainAttrs T) (slot:Slot T name id) (hty:typeOf (.builtin id)=pure (.type "method_descriptor")) (hm:MtR X id r) (ho:PE X o to) (ha:PA X (e::es) t)
  (hbase:attributeBase o name X.env (eval o X.env)=eval o X.env:=by rfl)
  (hfew:((backTo cpos (starEach (e::es) X.env)).all (fun x=>!x.1)&&(backToKw cpos (keywordEach [] X.env)).all (fun x=>x.1.isSome)
   && decide ((e::es).length+([]:List Keyword).length+(if ([]:List Keyword).isEmpty then 0 else 1)<30))=true:=by rfl)
  (hline:(apos.endLine == cpos.line)=true:=by rfl) (hs:starEach (e::es) X.env=(false,eval e X.env)::starEach es X.env:=by rfl) (hplain:(backTo cpos (starEach es X.env)).any (·.1)=false:=by rfl) :
  PE X (.Call (.Attribute o name apos) (e::es) [] cpos) (tBM X.K T r to t):=by
 intro pins s σ H Q I h
 refine wpAny_Call_method_late hbase hfew hline rfl (thn (ho pins s σ H _ I h) fun v s1 hq0=>?_)
 obtain⟨x,H1,I1,r1,ty,q1⟩:=hq0
 obtain⟨h1,h2⟩:=zbj I1 r1 ty
 refine⟨T,id,pa,slot,hty,h1,h2,?_⟩
 have hA:=ha cpos pins s1 σ H1 _ I1 q1
 rw[hs] at hA ⊢
 refine Calls.callWith_builtin (by show(false||(backTo cpos (starEach es X.env)).any (·.1))=false;rw[hplain]<;>rfl) (Calls.evalArgs_plain ?_)
 exact thn hA fun us s2 ⟨vs,H2,I2,r2,q2⟩=>hm pins s2 σ H2 x vs v us Q I2 r1 r2 q2
end
def MtM (X:Cx) (id:String) (r:V→List V→Hp→VK→Prop):Prop :=
 ∀ (pins:List (Addr×Obj)) (s:Shared) (σ:St) (H:Hp) (x:V) (xs:List V) (v:Value) (us:List Value) (Q:VK),Inv X pins σ H s→RelV x v→Vals xs us→r x xs H Q →
  wpAny (model X.prog X.w) X.A (call (.builtin id) (v::us)) (EP X pins σ Q) X.xe s
theorem Vals.one:∀ {x:V}{us:List Value},Vals [x] us→∃ u,us=[u]∧RelV x u
 |_,_,.cons r .nil=>⟨_,rfl,r⟩
theorem Vals.two:∀ {x y:V}{us:List Value},Vals [x,y] us→∃ u v,us=[u,v]∧RelV x u∧RelV y v
 |_,_,_,.cons r (.cons q .nil)=>⟨_,_,rfl,r,q⟩
theorem Vals.reverse {xs:List V}{us:List Value}(h:Vals xs us):Vals xs.reverse us.reverse:=by
 induction h with
 |nil=>exact .nil
 |cons r t ih=>rw[List.reverse_cons,List.reverse_cons];exact Vals.append ih (.cons r .nil)
section
variable {X:Cx}{pins:List (Addr×Obj)}{σ:St}{H:Hp}{s:Shared}{l b:Addr}{xs ys zs:List V}
theorem Inv.lset {its its':List Value}{n:Nat}{f:Array Value→Array Value}{t':Nat}(I:Inv X pins σ H s) (hH:H l=some (.lst xs))
  (e:s.heap.get? l=some { cls:=.type "list",data:=.seq its.toArray n }) (hf:f its.toArray=its'.toArray) (hv:Vals ys its') (hz:ys.length≤sizeLine) :
  Inv X pins σ (upd H l (.lst ys)) { s with heap:=s.heap.update l (Obj.mapSeq f),toks:=t' }:=by
 have q:=PySem.IsL.update e f
 rw[hf] at q
 refine I.write (x:=l) (e:=l) (by rw[hH];exact trivial) (.inl rfl) (fun b' u hb hu=>(Heap.get?_update_other s.heap (Obj.mapSeq f) (Ne.symm hb)).trans hu) ⟨_,q⟩ ?_
 exact⟨hz,its',_,hv,q⟩
theorem Inv.lnew {its:List Value}{t':Nat}(I:Inv X pins σ H s) (hv:Vals ys its) (hz:ys.length≤sizeLine) :
  Inv X pins σ (upd H s.heap.objs.size (.lst ys)) { s with heap:=s.heap.push { cls:=.type "list",data:=.seq its.toArray },toks:=t' } :=
 I.laid (fun _ _ q=>Heap.get?_push_of_some _ q) (Nat.le_refl _) ⟨hz,its,0,hv,Heap.get?_push_size _ rfl⟩
theorem Inv.fresh (I:Inv X pins σ H s):H s.heap.objs.size=none:=I.hok.fresh (Nat.le_refl _)
theorem Inv.lstM (I:Inv X pins σ H s) (hH:H l=some (.lst xs)):xs.length≤sizeLine∧∃ (its:List Value) (n:Nat),Vals xs its∧xs.length=its.length∧s.heap.get? l=some { cls:=.type "list",data:=.seq its.toArray n }:=by
 obtain⟨z,its,n,r,e⟩:=I.hok l _ hH
 exact⟨z,its,n,r,r.length,e⟩
theorem Xv {n:Nat}(h:n≤sizeLine):Builtin.List.listTooLong n=false:=by
 unfold Builtin.List.listTooLong
 exact decide_eq_false (by omega)
end
section
variable {X:Cx}
def Uv:V→List V→Hp→VK→Prop:=fun x vs H Q=>∃ l xs y,x=.ref l∧vs=[y]∧H l=some (.lst xs)∧xs.length<sizeLine∧Q .non (upd H l (.lst (xs++[y])))
theorem yf:MtM X "list.append" Uv:=by
 intro pins s σ H x vs v us Q I rx rv h
 obtain⟨l,xs,y,rfl,rfl,hH,hz,q⟩:=h
 cases rx
 obtain⟨u,rfl,ru⟩:=rv.one
 obtain⟨z,its,n,r,hl,e⟩:=I.lstM hH
 refine call_meets F.slot_list_append ⟨_,e,rfl⟩ F.entry_list_append (F.args_list_append_2 _ _) (PySem.list_append l its.toArray n u (by rw[List.size_toArray];omega)) ⟨e,?_⟩
 refine⟨.non,_,I.lset (its':=its++[u]) hH e (by simp) (r.append (.cons ru .nil)) ?_,rfl,q⟩
 rw[List.length_append,List.length_singleton]
 omega
def Uu:V→List V→Hp→VK→Prop:=fun x vs H Q=>∃ l b xs zs,x=.ref l∧vs=[.ref b]∧H l=some (.lst xs)∧H b=some (.lst zs)∧xs.length+zs.length≤sizeLine∧Q .non (upd H l (.lst (xs++zs)))
theorem yD:MtM X "list.extend" Uu:=by
 intro pins s σ H x vs v us Q I rx rv h
 obtain⟨l,b,xs,zs,rfl,rfl,hH,hB,hz,q⟩:=h
 cases rx
 obtain⟨u,rfl,ru⟩:=rv.one
 cases ru
 obtain⟨z,its,n,r,hl,e⟩:=I.lstM hH
 obtain⟨z2,its2,n2,r2,hl2,e2⟩:=I.lstM hB
 have hsz:its.toArray.size+its2.toArray.size≤sizeLine:=by rw[List.size_toArray,List.size_toArray];omega
 have hlong:¬ (!its.toArray.isEmpty&&Builtin.List.listTooLong (its.toArray.size+its2.toArray.size))=true:=by
  rw[Xv hsz,Bool.and_false]
  exact Bool.false_ne_true
 refine call_meets F.slot_list_extend ⟨_,e,rfl⟩ F.entry_list_extend (F.args_list_extend_2 _ _)
  (AutoSeq1.list_extend_list_list_0 l its.toArray n b its2.toArray n2 hlong (by rw[List.size_toArray];omega) (by omega)) ⟨e,e2,?_⟩
 refine⟨.non,_,I.lset (its':=its++its2) hH e (by simp) (r.append r2) ?_,rfl,q⟩
 rw[List.length_append]
 omega
def zGT:R2:=fun x y H Q=>∃ l b xs zs,x=.ref l∧y=.ref b∧H l=some (.lst xs)∧H b=some (.lst zs)∧xs.length+zs.length≤sizeLine∧∀ p,H p=none→Q (.ref p) (upd H p (.lst (xs++zs)))
theorem yq:OpR X (binaryOp .Add) zGT:=by
 intro pins s σ H x y v u Q I rx ry h
 obtain⟨l,b,xs,zs,rfl,rfl,hH,hB,hz,q⟩:=h
 cases rx
 cases ry
 obtain⟨z,its,n,r,hl,e⟩:=I.lstM hH
 obtain⟨z2,its2,n2,r2,hl2,e2⟩:=I.lstM hB
 refine PySem.P.add_list e e2 ?_ (by rw[List.size_toArray,List.size_toArray];omega)
 have ea:its.toArray++its2.toArray=(its++its2).toArray:=by simp
 rw[ea]
 exact⟨.ref _,_,I.lnew (t':=s.toks) (r.append r2) (by rw[List.length_append];omega),rfl,q _ I.fresh⟩
end
section
variable {κ:Type} [DecidableEq κ]
def yL (kvs:List (κ×V)) (k:κ):Option V:=(kvs.find? fun kv=>decide (kv.1=k)).map (·.2)
def putK (kvs:List (κ×V)) (k:κ) (v:V):List (κ×V) :=
 if (kvs.any fun kv=>decide (kv.1=k))=true then kvs.map (fun kv=>if kv.1=k then(kv.1,v) else kv) else kvs++[(k,v)]
def uM (kvs:List (κ×V)) (k:κ):List (κ×V):=kvs.filter fun kv=>decide (kv.1≠k)
theorem yH {p:κ×V}{r:List (κ×V)}{k:κ}(e:p.1=k):yL (p::r) k=some p.2:=by simp[yL,List.find?_cons,e]
theorem yJ {p:κ×V}{r:List (κ×V)}{k:κ}(e:¬ p.1=k):yL (p::r) k=yL r k:=by simp[yL,List.find?_cons,e]
theorem xj (k:κ):∀ kvs:List (κ×V),(kvs.any fun kv=>decide (kv.1=k))=(yL kvs k).isSome
 |[]=>rfl
 |p::r=>by
  rw[List.any_cons]
  by_cases e:p.1=k
  ·simp only[yH e,decide_eq_true e,Bool.true_or,Option.isSome_some]
  ·rw[yJ e,decide_eq_false e,Bool.false_or];exact xj k r
theorem yP (kvs:List (κ×V)) (k:κ) (v:V):(putK kvs k v).length≤kvs.length+1:=by
 unfold putK
 split
 ·rw[List.length_map];omega
 ·rw[List.length_append,List.length_cons,List.length_nil];omega
theorem RelO.isSome_eq {o:Option V}{u:Option Value}(r:RelO o u):o.isSome=u.isSome:=by
 cases o with
 |none=>cases u with
  |none=>rfl
  |some _=>exact(show False from r).elim
 |some _=>cases u with
  |none=>exact(show False from r).elim
  |some _=>rfl
theorem RelO.getD {o:Option V}{u:Option Value}{d:V}{d':Value}(r:RelO o u) (rd:RelV d d'):RelV (o.getD d) (u.getD d'):=by
 cases o with
 |none=>cases u with
  |none=>exact rd
  |some _=>exact(show False from r).elim
 |some _=>cases u with
  |none=>exact(show False from r).elim
  |some _=>exact r
theorem KV.val {kvs:List (κ×V)}{vs:List (κ×Value)}(r:KV kvs vs) (k:κ):RelO (yL kvs k) (valueAt vs k):=by
 unfold KV at r
 induction r with
 |nil=>exact True.intro
 | @cons p q ps qs h t ih =>
  obtain⟨h1,h2⟩:=h
  by_cases e:p.1=k
  ·have e':q.1=k:=h1.symm.trans e
   have b:valueAt (q::qs) k=some q.2:=by simp[valueAt,List.find?_cons,e']
   rw[yH e,b];exact h2
  ·have e':¬ q.1=k:=fun z=>e (h1.trans z)
   have b:valueAt (q::qs) k=valueAt qs k:=by simp[valueAt,List.find?_cons,e']
   rw[yJ e,b];exact ih
theorem KV.any {kvs:List (κ×V)}{vs:List (κ×Value)}(r:KV kvs vs) (k:κ):(kvs.any fun kv=>decide (kv.1=k))=vs.any fun kv=>decide (kv.1=k):=by
 unfold KV at r
 induction r with
 |nil=>rfl
 |cons h t ih=>rw[List.any_cons,List.any_cons,ih,h.1]
theorem KV.repl {kvs:List (κ×V)}{vs:List (κ×Value)}(r:KV kvs vs) (k:κ){y:V}{u:Value}(ry:RelV y u) :
  KV (kvs.map fun kv=>if kv.1=k then(kv.1,y) else kv) (vs.map fun kv=>if kv.1=k then(kv.1,u) else kv):=by
 unfold KV at r ⊢
 induction r with
 |nil=>exact .nil
 | @cons p q ps qs h t ih =>
  rw[List.map_cons,List.map_cons]
  refine .cons ?_ ih
  obtain⟨h1,h2⟩:=h
  by_cases e:p.1=k
  ·rw[if_pos e,if_pos (h1.symm.trans e)];exact⟨h1,ry⟩
  ·rw[if_neg e,if_neg (fun z=>e (h1.trans z))];exact⟨h1,h2⟩
theorem KV.put {kvs:List (κ×V)}{vs:List (κ×Value)}(r:KV kvs vs) (k:κ){y:V}{u:Value}(ry:RelV y u):KV (putK kvs k y) (stored vs k u):=by
 unfold putK stored
 rw[r.any k]
 by_cases e:(vs.any fun kv=>decide (kv.1=k))=true
 ·rw[if_pos e,if_pos e];exact r.repl k ry
 ·rw[if_neg e,if_neg e];exact Paired.snoc r ⟨rfl,ry⟩
theorem KV.drop {kvs:List (κ×V)}{vs:List (κ×Value)}(r:KV kvs vs) (k:κ):KV (uM kvs k) (without vs k):=by
 unfold KV at r ⊢
 unfold uM without
 induction r with
 |nil=>exact .nil
 | @cons p q ps qs h t ih =>
  obtain⟨h1,h2⟩:=h
  rw[List.filter_cons,List.filter_cons]
  by_cases e:p.1=k
  ·have a:¬ decide (p.1≠k)=true:=by simp[e]
   have b:¬ decide (q.1≠k)=true:=by simp[h1.symm.trans e]
   rw[if_neg a,if_neg b];exact ih
  ·have e':¬ q.1=k:=fun z=>e (h1.trans z)
   have a:decide (p.1≠k)=true:=by simp[e]
   have b:decide (q.1≠k)=true:=by simp[e']
   rw[if_pos a,if_pos b];exact .cons ⟨h1,h2⟩ ih
theorem KV.keys {kvs:List (κ×V)}{vs:List (κ×Value)}(r:KV kvs vs):kvs.map (·.1)=vs.map (·.1):=by
 unfold KV at r
 induction r with
 |nil=>rfl
 |cons h t ih=>rw[List.map_cons,List.map_cons,ih,h.1]
theorem KV.length {kvs:List (κ×V)}{vs:List (κ×Value)}(r:KV kvs vs):kvs.length=vs.length:=Paired.length r
theorem uo (kvs:List (κ×V)) (k:κ):(uM kvs k).length≤kvs.length:=List.length_filter_le _ _
end
theorem xI {P:Program}{w:World}{k:Key}{u:Value}(r:RelV (kV k) u):(zu P w).is k u=true:=by
 cases k with
 |inl i=>obtain⟨t,e⟩:=(show ∃ t,u=Value.int i t from r);subst e;exact vD P w i t
 |inr x=>obtain⟨t,e⟩:=(show ∃ t,u=Value.str x t from r);subst e;exact vC P w x t
theorem wY {P:Program}{w:World}:∀ {ks:List Key}{us:List Value},Vals (ks.map kV) us→ItemsAre (zu P w) ks us
 |[],_,r=>by rw[List.map_nil] at r;cases r;exact .nil
 |k::ks,_,r=>by
  rw[List.map_cons] at r
  cases r with
  |cons h t=>exact .cons (xI h) (wY t)
abbrev KT (H:Hp):List (List Key×V)→List (List Key×Addr×Value)→Prop:=Paired fun p q=>p.1=q.1∧H q.2.1=some (.tup (p.1.map kV))∧RelV p.2 q.2.2
theorem KT.val {H:Hp}{kvs:List (List Key×V)}{xs:List (List Key×Addr×Value)}(r:KT H kvs xs) (k:List Key):RelO (yL kvs k) ((atKey xs k).map (·.2)):=by
 induction r with
 |nil=>exact True.intro
 | @cons p q ps qs h t ih =>
  obtain⟨h1,_,h2⟩:=h
  by_cases e:p.1=k
  ·have e':q.1=k:=h1.symm.trans e
   have b:atKey (q::qs) k=some q.2:=by simp[atKey,List.find?_cons,e']
   rw[yH e,b];exact h2
  ·have e':¬ q.1=k:=fun z=>e (h1.trans z)
   have b:atKey (q::qs) k=atKey qs k:=by simp[atKey,List.find?_cons,e']
   rw[yJ e,b];exact ih
theorem KT.repl {H:Hp}{kvs:List (List Key×V)}{xs:List (List Key×Addr×Value)}(r:KT H kvs xs) (k:List Key){y:V}{u:Value}(ry:RelV y u) :
  KT H (kvs.map fun kv=>if kv.1=k then(kv.1,y) else kv) (xs.map (putAt k u)):=by
 induction r with
 |nil=>exact .nil
 | @cons p q ps qs h t ih =>
  rw[List.map_cons,List.map_cons]
  refine .cons ?_ ih
  obtain⟨h1,h2,h3⟩:=h
  unfold putAt
  by_cases e:p.1=k
  ·rw[if_pos e,if_pos (h1.symm.trans e)];exact⟨h1,h2,ry⟩
  ·rw[if_neg e,if_neg (fun z=>e (h1.trans z))];exact⟨h1,h2,h3⟩
theorem KT.put {H:Hp}{kvs:List (List Key×V)}{xs:List (List Key×Addr×Value)}(r:KT H kvs xs) (k:List Key){b:Addr}{y:V}{u:Value}(hb:H b=some (.tup (k.map kV))) (ry:RelV y u) :
  KT H (putK kvs k y) (storedH xs k b u):=by
 have e:(kvs.any fun kv=>decide (kv.1=k))=(atKey xs k).isSome:=by
  rw[xj,(r.val k).isSome_eq,Option.isSome_map]
 unfold putK storedH
 rw[e]
 by_cases q:(atKey xs k).isSome=true
 ·rw[if_pos q,if_pos q];exact r.repl k ry
 ·rw[if_neg q,if_neg q];exact Paired.snoc r ⟨rfl,hb,ry⟩
theorem KT.keeps {H H':Hp}{kvs:List (List Key×V)}{xs:List (List Key×Addr×Value)}(r:KT H kvs xs) (ht:∀ b ys,H b=some (.tup ys)→H' b=some (.tup ys)):KT H' kvs xs :=
 Paired.mapP r fun _ _ z=>⟨z.1,ht _ _ z.2.1,z.2.2⟩
section
variable {P:Program}{w:World}{H:Hp}{h:Heap}{a:Addr}
theorem znL {u:HO}(ok:HOk P w H h) (e:Rd H a u):ObjOk P w H h a u:=e.ok ok
theorem w8 {kvs:List (Key×V)}(ok:HOk P w H h) (e:Rd H a (.dK kvs)):kvs.length≤sizeLine∧(a == sysModules)=false∧∃ vs,KV kvs vs∧h.DictOf (zu P w) a vs :=
 show ObjOk P w H h a (.dK kvs) from znL ok e
theorem xS {kvs:List (Key×V)}(ok:HOk P w H h) (e:H a=some (.dK kvs)):kvs.length≤sizeLine∧(a == sysModules)=false∧∃ vs,KV kvs vs∧h.DictOf (zu P w) a vs:=w8 ok (.inl e)
theorem x9 {ks:List Key}(ok:HOk P w H h) (e:H a=some (.tup (ks.map kV))):(tupleKind (zu P w)).is h ks a:=by
 obtain⟨_,its,r,o,h1,h2,n,h3⟩:=(show ObjOk P w H h a (.tup (ks.map kV)) from ok a _ e)
 exact⟨o,its.toArray,n,h1,h2,h3,by simpa using wY r⟩
theorem vL {kvs:List (List Key×V)}(ok:HOk P w H h) (e:Rd H a (.dT kvs)):kvs.length≤sizeLine∧(a == sysModules)=false ∧
  ∃ xs,KT H kvs xs∧h.DictOfH (tupleKind (zu P w)) a xs:=by
 obtain⟨z,y,xs,r,o,es,ep,h1,h2,h3,h4,h5⟩:=(show ObjOk P w H h a (.dT kvs) from znL ok e)
 refine⟨z,y,xs,r,o,es,ep,h1,h2,h3,h4,fun x hx=>?_,h5⟩
 have all:∀ {l:List (List Key×V)}{m:List (List Key×Addr×Value)},KT H l m→∀ x∈m,(tupleKind (zu P w)).is h x.1 x.2.1:=by
  intro l m q
  induction q with
  |nil=>intro x hx;exact nomatch hx
  | @cons p q ps qs hq t ih =>
   intro x hx
   rcases List.mem_cons.mp hx with e | hx
   ·subst e
    exact x9 ok (by rw[← hq.1];exact hq.2.1)
   ·exact ih x hx
 exact all r x hx
theorem zyE {kvs:List (List Key×V)}(ok:HOk P w H h) (e:H a=some (.dT kvs)):kvs.length≤sizeLine∧(a == sysModules)=false ∧
  ∃ xs,KT H kvs xs∧h.DictOfH (tupleKind (zu P w)) a xs:=vL ok (.inl e)
end
def DGet (H:Hp) (a:Addr) (y:V) (r:Option V):Prop :=
 (∃ kvs k,Rd H a (.dK kvs)∧y=kV k∧r=yL kvs k)∨∃ kvs k b,Rd H a (.dT kvs)∧y=.ref b∧H b=some (.tup (k.map kV))∧r=yL kvs k
def DPut (H:Hp) (a:Addr) (y v:V) (H':Hp):Prop :=
 (∃ kvs k,H a=some (.dK kvs)∧y=kV k∧kvs.length<sizeLine∧H'=upd H a (.dK (putK kvs k v))) ∨
 ∃ kvs k b,H a=some (.dT kvs)∧y=.ref b∧H b=some (.tup (k.map kV))∧kvs.length<sizeLine∧H'=upd H a (.dT (putK kvs k v))
theorem DGet.k {H:Hp}{a:Addr}{kvs:List (Key×V)}{k:Key}(e:H a=some (.dK kvs)):DGet H a (kV k) (yL kvs k):=.inl ⟨kvs,k,.inl e,rfl,rfl⟩
theorem DPut.k {H:Hp}{a:Addr}{kvs:List (Key×V)}{k:Key}{v:V}(e:H a=some (.dK kvs)) (hl:kvs.length<sizeLine):DPut H a (kV k) v (upd H a (.dK (putK kvs k v))):=.inl ⟨kvs,k,e,rfl,hl,rfl⟩
section
variable {X:Cx}{pins:List (Addr×Obj)}{σ:St}{H:Hp}{s:Shared}{a:Addr}{y v:V}{u r:Value}{o:Option V}{A:Around}{E:Value→Shared→Prop}
theorem Inv.big (I:Inv X pins σ H s):sysModules<s.heap.objs.size:=by
 have h:mainGlobals<s.heap.objs.size:=(I.mod.glob.keeps I.bk).lt
 exact Nat.lt_trans (by decide) h
theorem Yy {Q:Value→Shared→Prop}(hu:A.units+1<cLine) (I:Inv X pins σ H s) (g:DGet H a y (some v)) (ry:RelV y u) (h:∀ w' s',Inv X pins σ H s'→RelV v w'→Q w' s') :
  wpAny (model X.prog X.w) A (getItem (.ref a) u) Q E s:=by
 rcases g with⟨kvs,k,e,ey,l⟩ | ⟨kvs,k,b,e,ey,eb,l⟩
 ·subst ey
  obtain⟨z,hd,vs,rel,dd⟩:=w8 I.hok e
  obtain⟨w',hw,rw'⟩:=RelO.some_of (v:=v) (o:=valueAt vs k) (by rw[l];exact rel.val k)
  exact wpAny_getItem_of (xI ry) dd.mapOf hw (h w' _ (I.tok _) rw')
 ·subst ey
  cases (show u=Value.ref b from ry)
  obtain⟨z,hd,xs,rel,dd⟩:=vL I.hok e
  obtain⟨w',hw,rw'⟩:=RelO.some_of (v:=v) (o:=(atKey xs k).map (·.2)) (by rw[l];exact rel.val k)
  obtain⟨p,hp,hp2⟩:=Option.map_eq_some_iff.mp hw
  refine wpAny_getItem_heap (tupleKind_room_in1 hu) (x9 I.hok eb) dd hp ?_
  rw[hp2]
  exact h w' _ (I.tok _) rw'
theorem zHo {Q:Value→Shared→Prop}(hu:A.units+1<cLine) (I:Inv X pins σ H s) (g:DGet H a y o) (ry:RelV y u) (h:∀ s',Inv X pins σ H s'→Q (.bool o.isSome) s') :
  wpAny (model X.prog X.w) A (compareOp .In u (.ref a)) Q E s:=by
 rcases g with⟨kvs,k,e,ey,l⟩ | ⟨kvs,k,b,e,ey,eb,l⟩
 ·subst ey
  obtain⟨z,hd,vs,rel,dd⟩:=w8 I.hok e
  refine wpAny_in_of (xI ry) hd dd.mapOf ?_
  rw[← (rel.val k).isSome_eq,← l]
  exact h _ (I.tok _)
 ·subst ey
  cases (show u=Value.ref b from ry)
  obtain⟨z,hd,xs,rel,dd⟩:=vL I.hok e
  refine wpAny_in_heap (tupleKind_room_in1 hu) (x9 I.hok eb) hd dd ?_
  have q:=(rel.val k).isSome_eq
  rw[Option.isSome_map] at q
  rw[← q,← l]
  exact h _ (I.tok _)
theorem zaL {Q:Value→Shared→Prop}(hu:A.units+1<cLine) (I:Inv X pins σ H s) (g:DGet H a y o) (ry:RelV y u) (h:∀ s',Inv X pins σ H s'→Q (.bool (!o.isSome)) s') :
  wpAny (model X.prog X.w) A (compareOp .NotIn u (.ref a)) Q E s:=by
 rcases g with⟨kvs,k,e,ey,l⟩ | ⟨kvs,k,b,e,ey,eb,l⟩
 ·subst ey
  obtain⟨z,hd,vs,rel,dd⟩:=w8 I.hok e
  refine wpAny_notIn_of (xI ry) hd dd.mapOf ?_
  rw[← (rel.val k).isSome_eq,← l]
  exact h _ (I.tok _)
 ·subst ey
  cases (show u=Value.ref b from ry)
  obtain⟨z,hd,xs,rel,dd⟩:=vL I.hok e
  refine wpAny_notIn_heap (tupleKind_room_in1 hu) (x9 I.hok eb) hd dd ?_
  have q:=(rel.val k).isSome_eq
  rw[Option.isSome_map] at q
  rw[← q,← l]
  exact h _ (I.tok _)
theorem xb {h':Heap}{t':Nat}{ob:HO}(I:Inv X pins σ H s) (mu:Mut (H a)) (hs:Heap.SameBut a s.heap h') (he:∃ q,h'.get? a=some q) (new:ObjOk X.prog X.w (upd H a ob) h' a ob) :
  Inv X pins σ (upd H a ob) { s with heap:=h',toks:=t' } :=
 I.write (x:=a) (e:=a) mu (.inl rfl) (fun b q hb z=>(hs.2 b hb).trans z) he new
theorem wb {P:Program}{w:World}{H':Hp}{h':Heap}{kvs:List (Key×V)}{vs:List (Key×Value)}(z:kvs.length≤sizeLine) (hd:(a == sysModules)=false) (rel:KV kvs vs) (dd:h'.DictOf (zu P w) a vs) :
  ObjOk P w H' h' a (.dK kvs):=⟨z,hd,vs,rel,dd⟩
theorem Yx {H':Hp}{Q:Unit→Shared→Prop}(hu:A.units+1<cLine) (I:Inv X pins σ H s) (g:DPut H a y v H') (ry:RelV y u) (rv:RelV v r) (h:∀ s',Inv X pins σ H' s'→Q () s') :
  wpAny (model X.prog X.w) A (setItem (.ref a) u r) Q E s:=by
 rcases g with⟨kvs,k,e,ey,l,eH⟩ | ⟨kvs,k,b,e,ey,eb,l,eH⟩
 ·subst ey eH
  obtain⟨z,hd,vs,rel,dd⟩:=xS I.hok e
  have hz:vs.length≤sizeLine:=by rw[← rel.length];exact z
  have hl:(putK kvs k v).length≤sizeLine:=by have:=yP kvs k v;omega
  refine wpAny_setItem_pairs (hsz:=hz) (xI ry) dd fun h' dd' hs=>h _ ?_
  have he:∃ q,h'.get? a=some q:=let ⟨q,_,_,hq,_⟩:=dd';⟨q,hq⟩
  exact xb I (by rw[e];exact True.intro) hs he (wb hl hd (rel.put k rv) dd')
 ·subst ey eH
  cases (show u=Value.ref b from ry)
  obtain⟨z,hd,xs,rel,dd⟩:=zyE I.hok e
  have hz:xs.length≤sizeLine:=by rw[← Paired.length rel];exact z
  have hl:(putK kvs k v).length≤sizeLine:=by have:=yP kvs k v;omega
  refine wpAny_setItem_heap (hsz:=hz) (tupleKind_room_in1 hu) (x9 I.hok eb) dd fun h' dd' hs=>h _ ?_
  obtain⟨q,es,ep,hq,h2,h3,h4,_,h5⟩:=dd'
  refine xb I (by rw[e];exact True.intro) hs ⟨q,hq⟩ ⟨hl,hd,_,(rel.put k eb rv).keeps fun c ys ec=>?_,q,es,ep,hq,h2,h3,h4,h5⟩
  rw[ze (zyw ec e (fun z=>nomatch z))]
  exact ec
end
section
variable {X:Cx}{pins:List (Addr×Obj)}{σ:St}{H:Hp}{s:Shared}{a:Addr}{kvs:List (Key×V)}{k:Key}{u:Value}{A:Around}{E:Value→Shared→Prop}
theorem zpr {Q:Unit→Shared→Prop}(I:Inv X pins σ H s) (e:H a=some (.dK kvs)) (ry:RelV (kV k) u) (l:(yL kvs k).isSome=true) (h:∀ s',Inv X pins σ (upd H a (.dK (uM kvs k))) s'→Q () s') :
  wpAny (model X.prog X.w) A (delItem (.ref a) u) Q E s:=by
 obtain⟨z,hd,vs,rel,dd⟩:=xS I.hok e
 refine wpAny_delItem_slot dd.typeIs (by decide) PySem.F.slot_dict_delitem
  (call_meetsIn PySem.F.slot_dict_delitem dd.typeIs PySem.F.entry_dict_delitem (PySem.F.args_dict_delitem_2 _ _) (meets_dict_delitem_pairs (zu X.prog X.w) a (xI ry)) ⟨vs,dd,by rw[← rel.length];exact z,by rw[← (rel.val k).isSome_eq];exact l,fun h' dd' hs=>h _ ?_⟩)
 have he:∃ q,h'.get? a=some q:=let ⟨q,_,_,hq,_⟩:=dd';⟨q,hq⟩
 exact xb I (by rw[e];exact True.intro) hs he (wb (Nat.le_trans (uo kvs k) z) hd (rel.drop k) dd')
theorem zyF {v:V}{more:List Value}{Q:Value→Shared→Prop}(I:Inv X pins σ H s) (e:H a=some (.dK kvs)) (ry:RelV (kV k) u) (l:yL kvs k=some v) (hm:more=[]∨∃ x,more=[x])
  (h:∀ w' s',Inv X pins σ (upd H a (.dK (uM kvs k))) s'→RelV v w'→Q w' s'):wpAny (model X.prog X.w) A (call (.builtin "dict.pop") (.ref a::u::more)) Q E s:=by
 obtain⟨z,hd,vs,rel,dd⟩:=xS I.hok e
 obtain⟨w',hw,rw'⟩:=RelO.some_of (v:=v) (o:=valueAt vs k) (by rw[← l];exact rel.val k)
 have hp:(keyPart u).isSome=true:=by
  cases k with
  |inl i=>obtain⟨t,q⟩:=(show ∃ t,u=Value.int i t from ry);subst q;rfl
  |inr x=>obtain⟨t,q⟩:=(show ∃ t,u=Value.str x t from ry);subst q;rfl
 have ha:argsOk "dict.pop" ⟨.ref a::u::more,[]⟩:=by
  rcases hm with q | ⟨x,q⟩
  ·subst q;exact PySem.F.args_dict_pop_2 _ _
  ·subst q;exact PySem.F.args_dict_pop_3 _ _ _
 refine call_meetsIn PySem.F.slot_dict_pop dd.typeIs PySem.F.entry_dict_pop ha (meets_dict_pop_there (zu X.prog X.w) a (xI ry) more hm hp)
  ⟨vs,w',dd,by rw[← rel.length];exact z,hw,fun h' dd' hs=>h w' _ ?_ rw'⟩
 have he:∃ q,h'.get? a=some q:=let ⟨q,_,_,hq,_⟩:=dd';⟨q,hq⟩
 exact xb I (by rw[e];exact True.intro) hs he (wb (Nat.le_trans (uo kvs k) z) hd (rel.drop k) dd')
theorem zpp {r:Value}{Q:Value→Shared→Prop}(I:Inv X pins σ H s) (e:H a=some (.dK kvs)) (ry:RelV (kV k) u) (l:yL kvs k=none) (h:∀ s',Inv X pins σ H s'→Q r s') :
  wpAny (model X.prog X.w) A (call (.builtin "dict.pop") [.ref a,u,r]) Q E s:=by
 obtain⟨z,hd,vs,rel,dd⟩:=xS I.hok e
 have hn:valueAt vs k=none:=RelO.none_of (by rw[← l];exact rel.val k)
 have hp:(keyPart u).isSome=true:=by
  cases k with
  |inl i=>obtain⟨t,q⟩:=(show ∃ t,u=Value.int i t from ry);subst q;rfl
  |inr x=>obtain⟨t,q⟩:=(show ∃ t,u=Value.str x t from ry);subst q;rfl
 exact call_meetsIn PySem.F.slot_dict_pop dd.typeIs PySem.F.entry_dict_pop (PySem.F.args_dict_pop_3 _ _ _) (meets_dict_pop_default (zu X.prog X.w) a (xI ry) hd hp r) ⟨vs,dd,hn,h _ (I.tok _)⟩
theorem zyG {Q:Value→Shared→Prop}(I:Inv X pins σ H s) (e:Rd H a (.dK kvs)) (h:∀ t s',Inv X pins σ H s'→Q (.int kvs.length t) s'):wpAny (model X.prog X.w) A (call (.builtin "len") [.ref a]) Q E s:=by
 obtain⟨z,hd,vs,rel,dd⟩:=w8 I.hok e
 refine call_len_dict hd dd (by rw[← rel.length];rw[sizeLine_eq] at z;omega) ?_
 rw[← rel.length]
 exact h _ _ (I.tok _)
end
def zFN (i:Expr):Prop:=∀ ov iv,subscripted i false ov iv=operate [ov,iv] (getItem ov iv)
theorem subD_of {prog:Program}{w:World}{A:Around}{E:Value→Shared→Prop}{s:Shared}{env:Env}{value slice:Expr}{pos:Pos}{T id:String}{Q:Value→Shared→Prop}
  (hl:typeLookup (.type T) "__getitem__" = pure (some (.builtin id))) (hs:zFN slice)
  (h:wpAny (model prog w) A (eval value env) (fun o s₁=>wpAny (model prog w) A (eval slice env) (fun i s₂=>s₂.TypeIs o T∧wpAny (model prog w) A (getItem o i) Q E s₂) E s₁) E s) :
  wpAny (model prog w) A (eval (.Subscript value slice pos) env) Q E s:=by
 refine Subscript_ (wpAny_mono h (fun o s₁ h₁=>wpAny_mono h₁ (fun i s₂ h₂=>?_) fun _ _ x=>x) fun _ _ x=>x)
 obtain⟨hT,h₂⟩:=h₂
 unfold subscriptTail
 refine wpAny_bind ?_
 rw[getitemInPython_of_ne hT.not_modules]
 refine wpAny_bind (wpAny_specialOf hT hl ?_)
 have fin:wpAny (model prog w) A (subscripted slice false o i) (fun r s₃=>wpAny (model prog w) A (letTemporaryGo value o r >>= fun _=>pure r) Q E s₃) E s₂:=by
  rw[hs o i]
  exact wpAny_operating (wpAny_mono h₂ (fun r s₃ h₃=>wpAny_bind (wpAny_letTemporaryGo (wpAny_pure h₃))) fun _ _ x=>x)
 first
  |exact wpAny_pure (wpAny_bind fin)
  |exact wpAny_bind (wpAny_pure (wpAny_bind fin))
  |exact wpAny_bind fin
theorem vN {X:Cx}{pins:List (Addr×Obj)}{σ:St}{H:Hp}{s:Shared}{a:Addr}{y:V}{o:Option V}(I:Inv X pins σ H s) (g:DGet H a y o):s.TypeIs (.ref a) "dict" := by
 rcases g with⟨kvs,k,e,_,_⟩ | ⟨kvs,k,b,e,_,_,_⟩
 ·obtain⟨_,_,vs,_,dd⟩:=w8 I.hok e
  exact dd.typeIs
 ·obtain⟨_,_,xs,_,dd⟩:=vL I.hok e
  exact dd.typeIs
def zrU (td ty:TE):TE:=fun σ H Q=>td σ H fun x H1=>ty σ H1 fun y H2=>∃ a v,x=.ref a∧DGet H2 a y (some v)∧Q v H2
def zFZ (ty td:TE):TE:=fun σ H Q=>ty σ H fun y H1=>td σ H1 fun x H2=>∃ a o,x=.ref a∧DGet H2 a y o∧Q (.bl o.isSome) H2
def Vs (ty td:TE):TE:=fun σ H Q=>ty σ H fun y H1=>td σ H1 fun x H2=>∃ a o,x=.ref a∧DGet H2 a y o∧Q (.bl (!o.isSome)) H2
def ztq (td ty tv:TE):TS:=fun D σ H=>tv σ H fun v H1=>td σ H1 fun x H2=>ty σ H2 fun y H3=>∃ a H4,x=.ref a∧DPut H3 a y v H4∧D.nx σ H4
section
variable {X:Cx}{o i e value:Expr}{pos pos' tpos:Pos}{td ty tv:TE}
theorem w_pe_dget (hu:X.A.units+1<cLine) (ho:Bx (PE X o td)) (hi:Bx (PE X i ty)) (hs:zFN i):Bx (PE X (.Subscript o i pos) (zrU td ty)):=by
 have ho:=ho.of
 have hi:=hi.of
 refine⟨?_⟩
 intro pins s σ H Q I h
 refine subD_of PySem.F.slot_dict_getitem.lookup hs (thn (ho pins s σ H _ I h) fun u s1 ⟨x,H1,I1,rx,q1⟩=>thn (hi pins s1 σ H1 _ I1 q1) fun iv s2 hq0=>?_)
 obtain⟨y,H2,I2,ry,a,v,ex,g,q2⟩:=hq0
 subst ex
 obtain rfl:u=Value.ref a:=rx
 exact⟨vN I2 g,Yy hu I2 g ry fun w' s3 I3 rw'=>⟨v,H2,I3,rw',q2⟩⟩
theorem yG (hu:X.A.units+1<cLine) (hi:Bx (PE X i ty)) (ho:Bx (PE X o td)):Bx (PC X .In i o (zFZ ty td)):=by
 have hi:=hi.of
 have ho:=ho.of
 refine⟨?_⟩
 intro pins s σ H Q I h
 refine thn (hi pins s σ H _ I h) fun iv s1 ⟨y,H1,I1,ry,q1⟩=>thn (ho pins s1 σ H1 _ I1 q1) fun u s2 hq0=>?_
 obtain⟨x,H2,I2,rx,a,ov,ex,g,q2⟩:=hq0
 subst ex
 obtain rfl:u=Value.ref a:=rx
 exact zHo hu I2 g ry fun s3 I3=>⟨.bl ov.isSome,H2,I3,rfl,q2⟩
theorem yc (hu:X.A.units+1<cLine) (hi:Bx (PE X i ty)) (ho:Bx (PE X o td)):Bx (PC X .NotIn i o (Vs ty td)):=by
 have hi:=hi.of
 have ho:=ho.of
 refine⟨?_⟩
 intro pins s σ H Q I h
 refine thn (hi pins s σ H _ I h) fun iv s1 ⟨y,H1,I1,ry,q1⟩=>thn (ho pins s1 σ H1 _ I1 q1) fun u s2 hq0=>?_
 obtain⟨x,H2,I2,rx,a,ov,ex,g,q2⟩:=hq0
 subst ex
 obtain rfl:u=Value.ref a:=rx
 exact zaL hu I2 g ry fun s3 I3=>⟨.bl (!ov.isSome),H2,I3,rfl,q2⟩
theorem w_ps_dput (hu:X.A.units+1<cLine) (ho:Bx (PE X o td)) (hi:Bx (PE X i ty)) (hv:Bx (PE X value tv)) (hs:swapsWith value (some (.Subscript o i pos')) pos.line X.env=pure false):Bx (PS X (.Assign [.Subscript o i pos'] value pos) (ztq td ty tv)):=by
 have ho:=ho.of
 have hi:=hi.of
 have hv:=hv.of
 refine⟨?_⟩
 intro pins s σ H D I h
 refine wpAny_Assign_Subscript (thn (hv pins s σ H _ I h) fun r s1 ⟨v,H1,I1,rv,q1⟩=>thn (ho pins s1 σ H1 _ I1 q1) fun u s2 ⟨x,H2,I2,rx,q2⟩=>thn (hi pins s2 σ H2 _ I2 q2) fun iv s3 hq0=>?_) hs
 obtain⟨y,H3,I3,ry,a,H4,ex,g,q3⟩:=hq0
 subst ex
 obtain rfl:u=Value.ref a:=rx
 exact Yx hu I3 g ry rv fun s4 I4=>⟨σ,H4,I4,q3⟩
end
theorem uq {P:Program}{w:World}{H:Hp}(h:Heap) (hb:sysModules<h.objs.size):ObjOk P w H (h.push { cls:=.type "dict",data:=.dict #[] }) h.objs.size (.dK []) :=
 ⟨Nat.zero_le _,beq_eq_false_iff_ne.mpr (Ne.symm (Nat.ne_of_lt hb)),[],.nil,Heap.DictOf.new h⟩
theorem XU {P:Program}{w:World}{H:Hp}(h:Heap) (hb:sysModules<h.objs.size):ObjOk P w H (h.push { cls:=.type "dict",data:=.dict #[] }) h.objs.size (.dT []) :=
 ⟨Nat.zero_le _,beq_eq_false_iff_ne.mpr (Ne.symm (Nat.ne_of_lt hb)),[],.nil,_,#[],0,Heap.get?_push_size _ rfl,⟨rfl,rfl,rfl⟩,rfl,rfl,List.nodup_nil⟩
def zbt:TE:=fun _ H Q=>∀ p,H p=none→Q (.ref p) (upd H p (.dK []))
def zbs:TE:=fun _ H Q=>∀ p,H p=none→Q (.ref p) (upd H p (.dT []))
section
variable {X:Cx}{pos:Pos}
theorem w_pe_dnewK  : Bx (PE X (.Dict [] [] pos) zbt):=by
 exact⟨fun pins s σ H Q I h =>
  wpAny_Dict_empty ⟨.ref s.heap.objs.size,_,I.laid (a:=s.heap.objs.size) (o:=.dK []) (t':=s.toks) (fun _ _ q=>Heap.get?_push_of_some _ q) (Nat.le_refl _) (uq s.heap I.big),rfl,h _ (I.hok.fresh (Nat.le_refl _))⟩⟩
theorem uA  : Bx (PE X (.Dict [] [] pos) zbs):=by
 exact⟨fun pins s σ H Q I h =>
  wpAny_Dict_empty ⟨.ref s.heap.objs.size,_,I.laid (a:=s.heap.objs.size) (o:=.dT []) (t':=s.toks) (fun _ _ q=>Heap.get?_push_of_some _ q) (Nat.le_refl _) (XU s.heap I.big),rfl,h _ (I.hok.fresh (Nat.le_refl _))⟩⟩
end
def Zi:List (TE×TE)→St→Hp→(List (V×V)→Hp→Prop)→Prop
 |[],_,H,Q=>Q [] H
 |(tk,tv)::r,σ,H,Q=>tk σ H fun x H1=>tv σ H1 fun y H2=>Zi r σ H2 fun ps H3=>Q ((x,y)::ps) H3
abbrev VV:List (V×V)→List (Value×Value)→Prop:=Paired fun p q=>RelV p.1 q.1∧RelV p.2 q.2
def PPs (X:Cx) (pos:Pos) (keys:List (Option Expr)) (values:List Expr) (trs:List (TE×TE)):Prop :=
 ∀ (pins:List (Addr×Obj)) (s:Shared) (σ:St) (H:Hp) (Q:List (V×V)→Hp→Prop),Inv X pins σ H s→Zi trs σ H Q →
  wpAny (model X.prog X.w) X.A (evalPairs (pairTrees keys values X.env pos)) (fun vs s'=>∃ ps H',Inv X pins σ H' s'∧VV ps vs∧Q ps H') X.xe s
theorem zZ {X:Cx}{pos:Pos}:Bx (PPs X pos [] [] []):=by
 exact⟨fun pins s σ H Q I h=>pairTrees_nil_walk ⟨[],H,I,.nil,h⟩⟩
theorem w_pps_cons {X:Cx}{pos:Pos}{k v:Expr}{ks:List (Option Expr)}{vs:List Expr}{tk tv:TE}{trs:List (TE×TE)}(hk:Bx (PE X k tk)) (hv:Bx (PE X v tv)) (hr:Bx (PPs X pos ks vs trs)):Bx (PPs X pos (some k::ks) (v::vs) ((tk,tv)::trs)):=by
 have hk:=hk.of
 have hv:=hv.of
 have hr:=hr.of
 exact⟨fun pins s σ H Q I h =>
  pairTrees_cons_walk (thn (hk pins s σ H _ I h) fun u s1 ⟨x,H1,I1,rx,q1⟩=>thn (hv pins s1 σ H1 _ I1 q1) fun w2 s2 ⟨y,H2,I2,ry,q2⟩ =>
   thn (hr pins s2 σ H2 _ I2 q2) fun ws s3 ⟨ps,H3,I3,rel,q3⟩=>⟨(x,y)::ps,H3,I3,.cons ⟨rx,ry⟩ rel,q3⟩)⟩
def mergeK (kvs more:List (Key×V)):List (Key×V):=more.foldl (fun acc kv=>putK acc kv.1 kv.2) kvs
theorem KV.merge:∀ {more:List (Key×V)}{rs:List (Key×Value)}{kvs:List (Key×V)}{vs:List (Key×Value)},KV more rs→KV kvs vs→KV (mergeK kvs more) (merged vs rs):=by
 intro more rs kvs vs r
 unfold KV at r
 induction r generalizing kvs vs with
 |nil=>intro q;exact q
 | @cons p q ps qs h t ih =>
  intro r0
  have e:KV (putK kvs p.1 p.2) (stored vs q.1 q.2):=by
   have:=r0.put p.1 h.2
   rw[← h.1];exact this
  exact ih e
theorem yW:∀ (more kvs:List (Key×V)),(mergeK kvs more).length≤kvs.length+more.length
 |[],kvs=>by show kvs.length≤kvs.length+0;omega
 |p::r,kvs=>by
  have h1:=yW r (putK kvs p.1 p.2)
  have h2:=yP kvs p.1 p.2
  show(mergeK (putK kvs p.1 p.2) r).length≤_
  rw[List.length_cons];omega
theorem wc {P:Program}{w:World}:∀ {kvs:List (Key×V)}{ws:List (Value×Value)},VV (kvs.map fun kv=>(kV kv.1,kv.2)) ws→∃ rs,Carries (zu P w) ws rs∧KV kvs rs
 |[],_,r=>by rw[List.map_nil] at r;cases r;exact⟨[],True.intro,.nil⟩
 |p::kvs,_,r=>by
  rw[List.map_cons] at r
  cases r with
  | @cons a b as bs h t =>
   obtain⟨rs,c,q⟩:=wc (P:=P) (w:=w) t
   obtain⟨b1,b2⟩:=b
   exact⟨(p.1,b2)::rs,⟨xI h.1,rfl,c⟩,.cons ⟨rfl,h.2⟩ q⟩
def zrS (trs:List (TE×TE)):TE:=fun σ H Q=>∀ p,H p=none→Zi trs σ (upd H p (.dK [])) fun ps H2=>H2 p=some (.dK [])∧∃ kvs:List (Key×V),ps=kvs.map (fun kv=>(kV kv.1,kv.2))∧kvs.length≤15∧Q (.ref p) (upd H2 p (.dK (mergeK [] kvs)))
theorem w_pe_disp {X:Cx}{pos:Pos}{keys:List (Option Expr)}{values:List Expr}{trs:List (TE×TE)}(h:Bx (PPs X pos keys values trs)) (hall:keys.all (·.isSome)=true) (hl:keys.length=values.length) (h0:keys≠[]) (h15:keys.length≤15):Bx (PE X (.Dict keys values pos) (zrS trs)):=by
 have h:=h.of
 refine⟨?_⟩
 intro pins s σ H Q I q
 have hn:=I.hok.fresh (Nat.le_refl s.heap.objs.size)
 have I1:=I.laid (a:=s.heap.objs.size) (o:=.dK []) (h':=s.heap.push { cls:=.type "dict",data:=.dict #[] }) (t':=s.toks) (fun _ _ q=>Heap.get?_push_of_some _ q) (Nat.le_refl _) (uq s.heap I.big)
 refine wpAny_Dict_walk (knd:=zu X.prog X.w) hall hl h0 h15 (thn (h pins _ σ _ _ I1 (q _ hn)) fun ws s2 hq0=>?_)
 obtain⟨ps,H2,I2,rel,e,kvs,ep,lk,q2⟩:=hq0
 subst ep
 obtain⟨rs,c,rk⟩:=wc (P:=X.prog) (w:=X.w) rel
 obtain⟨z,hd,vs0,r0,dd⟩:=xS I2.hok e
 cases r0
 refine⟨rs,c,dd,fun h' dd' hs=>⟨.ref s.heap.objs.size,_,?_,rfl,q2⟩⟩
 have hz:(mergeK [] kvs).length≤sizeLine:=by
  have h1:=yW kvs []
  rw[List.length_nil] at h1
  rw[sizeLine_eq];omega
 have he:∃ q,h'.get? s.heap.objs.size=some q:=let ⟨q,_,_,hq,_⟩:=dd';⟨q,hq⟩
 exact xb I2 (by rw[e];exact True.intro) hs he (wb hz hd (rk.merge .nil) dd')
structure M1 (X:Cx) (o:Expr) (m:Str) (apos:Pos) (e:Expr) (cpos:Pos):Prop where
 base:attributeBase o m X.env (eval o X.env)=eval o X.env
 few:((backTo cpos (starEach [e] X.env)).all (fun x=>!x.1)&&(backToKw cpos (keywordEach [] X.env)).all (fun x=>x.1.isSome)
  && decide (([e]:List Expr).length+([]:List Keyword).length+(if ([]:List Keyword).isEmpty then 0 else 1)<30))=true
 line:(apos.endLine == cpos.line)=true
 trees:backTo cpos (starEach [e] X.env)=[(false,eval e X.env)]
structure M2 (X:Cx) (o:Expr) (m:Str) (apos:Pos) (e f:Expr) (cpos:Pos):Prop where
 base:attributeBase o m X.env (eval o X.env)=eval o X.env
 few:((backTo cpos (starEach [e,f] X.env)).all (fun x=>!x.1)&&(backToKw cpos (keywordEach [] X.env)).all (fun x=>x.1.isSome)
  && decide (([e,f]:List Expr).length+([]:List Keyword).length+(if ([]:List Keyword).isEmpty then 0 else 1)<30))=true
 line:(apos.endLine == cpos.line)=true
 trees:backTo cpos (starEach [e,f] X.env)=[(false,eval e X.env),(false,eval f X.env)]
def IsD (H:Hp) (a:Addr):Prop:=(∃ kvs,Rd H a (.dK kvs))∨∃ kvs,Rd H a (.dT kvs)
theorem wZ {X:Cx}{pins:List (Addr×Obj)}{σ:St}{H:Hp}{s:Shared}{a:Addr}(I:Inv X pins σ H s) (d:IsD H a) :
  s.TypeIs (.ref a) "dict" ∧ (∀ b,Value.ref a=.ref b→∃ ob,s.heap.get? b=some ob∧ob.dict=none)∧(a == sysModules)=false:=by
 rcases d with⟨kvs,e⟩ | ⟨kvs,e⟩
 ·obtain⟨_,hd,vs,_,dd⟩:=w8 I.hok e
  refine⟨dd.typeIs,fun b q=>?_,hd⟩
  cases q
  obtain⟨ob,_,_,h1,h2,_⟩:=dd
  exact⟨ob,h1,h2.2.1⟩
 ·obtain⟨_,hd,xs,_,dd⟩:=vL I.hok e
  refine⟨dd.typeIs,fun b q=>?_,hd⟩
  cases q
  obtain⟨ob,_,_,h1,h2,_⟩:=dd
  exact⟨ob,h1,h2.2.1⟩
section
variable {X:Cx}{pins:List (Addr×Obj)}{σ:St}{H:Hp}{s:Shared}{a:Addr}{y d:V}{u r:Value}{o:Option V}{A:Around}{E:Value→Shared→Prop}
theorem zpq {Q:Value→Shared→Prop}(hu:A.units+1<cLine) (I:Inv X pins σ H s) (g:DGet H a y o) (ry:RelV y u) (rd:RelV d r) (h:∀ w' s',Inv X pins σ H s'→RelV (o.getD d) w'→Q w' s') :
  wpAny (model X.prog X.w) A (call (.builtin "dict.get") [.ref a,u,r]) Q E s:=by
 rcases g with⟨kvs,k,e,ey,l⟩ | ⟨kvs,k,b,e,ey,eb,l⟩
 ·subst ey
  obtain⟨z,hd,vs,rel,dd⟩:=w8 I.hok e
  refine call_meetsIn PySem.F.slot_dict_get dd.typeIs PySem.F.entry_dict_get (PySem.F.args_dict_get_3 _ _ _) (meets_dict_get_default (zu X.prog X.w) a (xI ry) hd r) ⟨_,dd.mapOf,h _ _ (I.tok _) ?_⟩
  rw[l]
  exact(rel.val k).getD rd
 ·subst ey
  cases (show u=Value.ref b from ry)
  obtain⟨z,hd,xs,rel,dd⟩:=vL I.hok e
  refine call_meetsIn PySem.F.slot_dict_get dd.typeIs PySem.F.entry_dict_get (PySem.F.args_dict_get_3 _ _ _) (meetsH_dict_get_default (tupleKind (zu X.prog X.w)) a b hd r) ⟨tupleKind_room_in1 hu,k,xs,x9 I.hok eb,dd,h _ _ (I.tok _) ?_⟩
  rw[l]
  exact(rel.val k).getD rd
end
def zbu (td ty tx:TE):TE:=fun σ H Q=>td σ H fun x H1=>∃ a,x=.ref a∧IsD H1 a∧ty σ H1 fun y H2=>tx σ H2 fun z H3=>∃ o,DGet H3 a y o∧Q (o.getD z) H3
def zbr (td ty tx:TE):TE:=fun σ H Q=>td σ H fun x H1=>∃ a,x=.ref a∧IsD H1 a∧ty σ H1 fun y H2=>tx σ H2 fun z H3=>∃ kvs k,H3 a=some (.dK kvs)∧y=kV k ∧
 (∀ v,yL kvs k=some v→Q v (upd H3 a (.dK (uM kvs k))))∧(yL kvs k=none→Q z H3)
section
variable {X:Cx}{o e f:Expr}{apos cpos:Pos}{td ty tx:TE}
theorem xX (hu:X.A.units+1<cLine) (ho:Bx (PE X o td)) (he:Bx (PE X e ty)) (hf:Bx (PE X f tx)) (m:M2 X o "get" apos e f cpos):Bx (PE X (.Call (.Attribute o "get" apos) [e,f] [] cpos) (zbu td ty tx)):=by
 have ho:=ho.of
 have he:=he.of
 have hf:=hf.of
 refine⟨?_⟩
 intro pins s σ H Q I h
 refine wpAny_Call_method m.base m.few m.line PySem.F.plainAttrs_dict PySem.F.slot_dict_get PySem.F.type_dict_get (thn (ho pins s σ H _ I h) fun u s1 hq0=>?_)
 obtain⟨x,H1,I1,rx,a,ex,d,q1⟩:=hq0
 subst ex
 obtain rfl:u=Value.ref a:=rx
 obtain⟨t1,t2,_⟩:=wZ I1 d
 refine⟨t1,t2,?_⟩
 rw[m.trees]
 refine Calls.callWith_builtin rfl (Calls.evalArgs_plain (Calls.spliced_cons (thn (he pins s1 σ H1 _ I1 q1) fun iv s2 ⟨y,H2,I2,ry,q2⟩ =>
  Calls.spliced_cons (thn (hf pins s2 σ H2 _ I2 q2) fun fv s3 ⟨z,H3,I3,rz,ov,g,q3⟩=>Calls.spliced_nil ?_))))
 exact zpq hu I3 g ry rz fun w' s4 I4 rw'=>⟨_,H3,I4,rw',q3⟩
theorem uz (ho:Bx (PE X o td)) (he:Bx (PE X e ty)) (hf:Bx (PE X f tx)) (m:M2 X o "pop" apos e f cpos):Bx (PE X (.Call (.Attribute o "pop" apos) [e,f] [] cpos) (zbr td ty tx)):=by
 have ho:=ho.of
 have he:=he.of
 have hf:=hf.of
 refine⟨?_⟩
 intro pins s σ H Q I h
 refine wpAny_Call_method m.base m.few m.line PySem.F.plainAttrs_dict PySem.F.slot_dict_pop PySem.F.type_dict_pop (thn (ho pins s σ H _ I h) fun u s1 hq0=>?_)
 obtain⟨x,H1,I1,rx,a,ex,d,q1⟩:=hq0
 subst ex
 obtain rfl:u=Value.ref a:=rx
 obtain⟨t1,t2,_⟩:=wZ I1 d
 refine⟨t1,t2,?_⟩
 rw[m.trees]
 refine Calls.callWith_builtin rfl (Calls.evalArgs_plain (Calls.spliced_cons (thn (he pins s1 σ H1 _ I1 q1) fun iv s2 ⟨y,H2,I2,ry,q2⟩ =>
  Calls.spliced_cons (thn (hf pins s2 σ H2 _ I2 q2) fun fv s3 ⟨z,H3,I3,rz,kvs,k,ea,ey,q3,q4⟩=>Calls.spliced_nil ?_))))
 subst ey
 cases l:yL kvs k with
 |some v=>exact zyF I3 ea ry l (.inr ⟨fv,rfl⟩) fun w' s4 I4 rw'=>⟨v,_,I4,rw',q3 v l⟩
 |none=>exact zpp I3 ea ry l fun s4 I4=>⟨z,H3,I4,rz,q4 l⟩
end
end L2
namespace Att
open PySem PySem.W PySem.Calls PyProof.Rows
theorem xJ {P:Params}{h:Heap}:∀ (ns:LI) (vs:List Value),WellAll P h vs (ns.map WData.int)→IntsAre vs ns:=by
 intro ns
 induction ns with
 |nil =>
  intro vs w
  rw[List.map_nil] at w
  cases w
  exact .nil
 |cons n ns ih =>
  intro vs w
  rw[List.map_cons] at w
  cases w with
  |cons a b =>
   cases a
   exact .cons _ _ (ih _ b)
theorem ZG {l:OpenLaw}{n:Nat}(hn:l.most=some n){P:Params}{h:Heap}{args:List WData}{vals:List Value}
  (hpre:l.row.toRowW.claim.pre args=true) (hwl:WellAll P h vals args) :
  ∃ a vs ns,vals=[Value.ref a]∧args=[WData.list (ns.map WData.int)]∧h.get? a=some { cls:=.type "list",data:=.seq vs.toArray }∧IntsAre vs ns∧ns.length≤n:=by
 have hsh:WShape.hasAll [] args [.list .int]=true:=(pre_splitW hpre).1
 have hc:l.pre.holds [] { args:=args }=true:=(pre_splitW hpre).2
 obtain⟨d,r,rfl,h1,h2⟩:=hasAllW_cons hsh
 obtain rfl:=hasAllW_nil h2
 obtain⟨xs,rfl,h3⟩:=hasW_list h1
 obtain⟨ns,rfl⟩:=items_int h3
 have hlen:ns.length≤n:=by
  unfold OpenLaw.pre at hc
  have h4:(WTm.not (.lt (.lit (.int (n:Int))) (.len (.arg 0)))).holds [] { args:=[.list (ns.map .int)] }=true:=by
   have h4:=(holds_andW hc).1
   rw[hn] at h4
   exact h4
  have h5:=condW_of h4 (w_not (w_lt w_lit (w_len_list (w_arg rfl))))
  rw[List.length_map] at h5
  refine Nat.le_of_not_lt fun q=>?_
  have q':(n:Int)<((ns.length:Nat):Int):=by omega
  first
   |(rw[decide_eq_true q'] at h5;exact absurd h5 (by decide))
   |(simp at h5;omega)
 cases hwl with
 |cons w1 w2 =>
  cases w2
  cases w1 with
  |list ho hall=>exact⟨_,_,ns,rfl,rfl,ho,xJ ns _ hall,hlen⟩
theorem ZJ (l:OpenLaw) (args:List WData):l.row.toRowW.claim.post args (.bool true) args=true :=
 postW_of (r:=l.row.toRowW) (X:=(true == true))
  (show WShape.has [] (.bool true) .bool=true by first | rfl | decide | simp[WShape.has,WShape.arms,WShape.armsAll])
  (show(WTm.eq .res (.lit (.bool true))).value [] { args:=args,res:=some (.bool true),after:=args }=some (.bool (true == true)) from w_eq_bool (w_res rfl) w_lit) rfl
theorem attach_call {l:OpenLaw}{n:Nat}{q:Program}{loose:List Str}{XP:(Str→Option Value)→Heap→Prop}{YP:World→Heap→Prop}{d:DefRec}
  (hn:l.most=some n) (hdf:d.params.defaults=[])
  (call:∀ (w:World) (s₀ s₁:Shared) (mg mb:Str→Option Value) (fa:Addr) (o:Obj) (pm cd doc:Value) (a:Addr) (vs:List Value) (ns:LI),
   Ground q loose [] XP w s₀ mg mb s₁.heap→YP w s₁.heap →
   s₁.heap.get? fa=some o→o.data=.func (docDef d.name d.params d.body d.scope pm cd doc)→s₁.heap.CodeRec cd d.name→mg d.name=some (.ref fa) →
   s₁.heap.get? a=some { cls:=.type "list",data:=.seq vs.toArray }→IntsAre vs ns→ns.length≤n→s₁.gens = #[] →
   codeAny (model l.prog w) callerA (.call (.ref fa) ⟨[.ref a],[]⟩) (fun r s'=>r=.ok (.ret (.bool true))∧OldK s₁.heap s'.heap∧s'.os=s₁.os∧AllBare s'.gens) s₁) :
  WalkO q loose XP YP l.row.toRowW d [] (fun f vs=>PySem.call f vs):=by
 intro w s₀ s₁ mg mb G Y fa o pm cd doc dV kV ho hd hcd hD hmg hg args vals as hpre hlay hrd hwl hlo
 obtain rfl:dV=.none:=Dflts.none hD hdf
 obtain rfl:kV=.none:=Dflts.noKw hD
 obtain⟨a,vs,ns,rfl,rfl,hobj,hints,hlen⟩:=ZG hn hpre hwl
 refine enter_call (codeAny_mono (call w s₀ s₁ mg mb fa o pm cd doc a vs ns G Y ho (fd_plain hd) hcd hmg hobj hints hlen hg) fun r s' hq=>?_)
 obtain⟨rfl,h2,h3,h4⟩:=hq
 exact⟨.inl ⟨.bool true,.bool true,[],rfl,fun _=>rfl,.bool true,ZJ l _,fun _=>⟨List.Pairwise.nil,fun _ hm=>(nomatch hm)⟩⟩,h2,h3,h4⟩
end Att
namespace L2
open PySem PySem.Spec PyProof.Rows
theorem wH:∀ {vs:List Value}{ns:LI},IntsAre vs ns→Vals (ns.map V.int) vs
 |_,_,.nil=>.nil
 |_,_,.cons n t h=>.cons ⟨t,rfl⟩ (wH h)
def zpx (H:Hp):Prop:=∀ b,H b=none∨∃ o xs,H b=some (.frz o (.lst xs))
theorem XB {P:Program}{w:World}{K:PySem.W.Frag}{mg mb:Str→Option Value}{CX:CXT}{k:Nat}{fa a:Addr}{fd:FuncData}{x:Str}{sp:Sp}{s₁:Shared}{vs:List Value}{ns:LI}
  (KX:K.In s₁.heap) (hns:s₁.heap.Ns mainGlobals mg) (hb:s₁.heap.Ns builtinsNs mb) (hbb:∀ x:Str,x ≠ "__name__" → mb x=bootBuiltins x) (hlim:s₁.heap.NoLimit) (hg:s₁.gens = #[])
  (ha:s₁.heap.get? a=some { cls:=.type "list",data:=.seq vs.toArray }) (hi:IntsAre vs ns) (hl:ns.length≤sizeLine) (hr:Room k callerA)
  (F:∀ base:Heap,K.In base→base.Ns mainGlobals mg→FnOk P w K mg base CX k fa fd [x] sp) (hbind:∀ (s:Shared) (u:Value),BindsTo s fd ⟨[u],[]⟩ [(x,u)])
  (hsp:∀ H:Hp,zpx H→SqL K H a (ns.map V.int)→sp [.ref a] H (fun v _=>v=.bl true) fun _ _ _=>False)
  (hCX:∀ H e s',CX [] H s₁ (fun _ _ _=>False) e s'→False) :
  codeAny (model P w) callerA (.call (.ref fa) ⟨[.ref a],[]⟩) (fun r s'=>r=.ok (.ret (.bool true))∧OldK s₁.heap s'.heap∧s'.os=s₁.os∧AllBare s'.gens) s₁:=by
 have rv:=wH hi
 have lenV:=hi.length
 -- from an abstract heap in which nothing but the script may be tracked
 have core:∀ H:Hp,zpx H→SqL K H a (ns.map V.int)→HOk P w H s₁.heap→(∀ b,H b≠none→b=a)→(H a≠none→K.lookup a=none) →
   codeAny (model P w) callerA (.call (.ref fa) ⟨[.ref a],[]⟩) (fun r s'=>r=.ok (.ret (.bool true))∧OldK s₁.heap s'.heap∧s'.os=s₁.os∧AllBare s'.gens) s₁:=by
  intro H hO hS hok hA hK
  have base_of:∀ {b:Addr}{o:Obj},s₁.heap.get? b=some o→H b=none→(XN s₁.heap H).get? b=some o:=fun e n=>XM e n
  have noA:∀ {b:Addr}{o:Obj}{es:Array DictEntry}{ep:Nat},s₁.heap.get? b=some o→o.data=.dict es ep→H b=none:=fun {b o es ep} e d=>by
   cases q:H b with
   |none=>rfl
   |some u =>
    have e':b=a:=hA b (by rw[q];simp)
    subst e'
    rw[ha] at e;cases e
    have d':Data.seq vs.toArray _=Data.dict es ep:=d
    cases d'
  have nsK:∀ {b:Addr}{m:Str→Option Value},s₁.heap.Ns b m→(XN s₁.heap H).Ns b m:=fun {b m} ⟨o,es,ep,e,d,r⟩=>⟨o,es,ep,base_of e (noA e d),d,r⟩
  have hKb:K.In (XN s₁.heap H):=fun b o e=>base_of (KX b o e) (by
   cases q:H b with
   |none=>rfl
   |some u =>
    have e':b=a:=hA b (by rw[q];simp)
    subst e'
    rw[hK (by rw[q];simp)] at e;cases e)
  have hM:Mod K mg (XN s₁.heap H):=⟨hKb,nsK hns,⟨mb,nsK hb,hbb⟩,let ⟨mc,h1,h2⟩:=hlim;⟨mc,nsK h1,h2⟩⟩
  have e0:Env0 P w K mg (XN s₁.heap H) callerA [] s₁ H:=⟨rfl,hM,fun b o e=>UM e,Nat.le_of_eq (Yn _ _),trivial,fun b hb=>absurd (show b∈([]:List Addr) from hb) (by simp),hok,.of_eq hg⟩
  refine codeAny_mono ((F _ hKb (nsK hns)).run callerA [] s₁ H ⟨[.ref a],[]⟩ [.ref a] [.ref a] _ _ hr e0 (hbind s₁ (.ref a)) (.cons rfl .nil) (hsp H hO hS)) fun r s' h=>?_
  cases r with
  |error e=>exact(hCX H e s' h).elim
  |ok fl =>
   cases fl with
   |next=>exact False.elim h
   |brk=>exact False.elim h
   |cont=>exact False.elim h
   |ret u =>
    obtain⟨v,H',os,bare,un,hok',r',q⟩:=h
    have q':v=.bl true:=q
    subst q'
    obtain rfl:u=Value.bool true:=r'
    refine⟨rfl,OldK.of_keep fun b o e=>?_,os,bare⟩
    cases q:H b with
    |none=>exact un.keep b o e q (by intro z;exact absurd (show b∈([]:List Addr) from z) (by simp)) (by simp)
    |some u =>
     rcases hO b with z | ⟨ob,xs,z⟩
     ·rw[q] at z;cases z
     ·have z2:=un.frzs b ob _ z
      obtain⟨e1,_⟩:=hok b _ z
      obtain⟨e2,_⟩:=hok' b _ z2
      rw[e] at e1;cases e1
      exact e2
 cases hk:K.lookup a with
 |some o =>
  -- the script is one of the module's own objects
  have e:=KX a o hk
  rw[ha] at e
  cases e
  refine core (fun _=>none) (fun _=>.inl rfl) (.inr ⟨_,vs.toArray,_,hk,rfl,rfl,rfl,by rw[List.size_toArray,lenV];exact hl,by simpa using rv⟩) (fun b u z=>by have z':(none:Option HO)=some u:=z;cases z') (fun b z=>absurd rfl z) fun z=>absurd rfl z
 |none =>
  refine core (fun b=>if b=a then some (.frz { cls:=.type "list",data:=.seq vs.toArray } (.lst (ns.map V.int))) else none) (fun b=>?_) (.inl (.inr ⟨{ cls:=.type "list",data:=.seq vs.toArray },if_pos rfl⟩)) (fun b u z=>?_) (fun b z=>?_) fun _=>hk
  ·by_cases hb:b=a
   ·exact .inr ⟨_,_,if_pos hb⟩
   ·exact .inl (if_neg hb)
  ·by_cases hb:b=a
   ·have z':=(if_pos hb).symm.trans z
    cases z'
    subst hb
    exact⟨ha,by rw[List.length_map];exact hl,vs,_,rv,ha⟩
   ·have z':=(if_neg hb).symm.trans z
    cases z'
  ·by_cases hb:b=a
   ·exact hb
   ·exact absurd (if_neg hb) z
abbrev KOf {K:PySem.W.Frag}{h:Heap}(_:K.In h):PySem.W.Frag:=K
theorem Vn {l:PySem.W.OpenLaw}{n k:Nat}{q:Program}{loose:List Str}{XP:(Str→Option Value)→Heap→Prop}{YP:World→Heap→Prop}{d:DefRec}{K:Params→PySem.W.Frag}{CX:World→CXT}{sp:World→Sp}{x:Str}
  (hn:l.most=some n) (hn2:n≤sizeLine) (hdf:d.params.defaults=[]) (hr:Room k callerA)
  (hY:∀ (w:World) (h:Heap),YP w h→(K w.params).In h)
  (F:∀ (w:World) (mg:Str→Option Value) (fa:Addr) (h:Heap),(K w.params).In h→h.Ns mainGlobals mg→mg d.name=some (.ref fa) →
   ∃ fd:FuncData,(∀ (s:Shared) (u:Value),BindsTo s fd ⟨[u],[]⟩ [(x,u)]) ∧
    ∀ base:Heap,(K w.params).In base→base.Ns mainGlobals mg→FnOk l.prog w (K w.params) mg base (CX w) k fa fd [x] (sp w))
  (hsp:∀ (w:World) (H:Hp) (a:Addr) (ns:LI),ns.length≤n→zpx H→SqL (K w.params) H a (ns.map V.int)→sp w [.ref a] H (fun v _=>v=.bl true) fun _ _ _=>False)
  (hCX:∀ (w:World) (H:Hp) (s:Shared) (e:Value) (s':Shared),CX w [] H s (fun _ _ _=>False) e s'→False) :
  PySem.W.WalkO q loose XP YP l.row.toRowW d [] (fun f vs=>PySem.call f vs):=by
 refine Att.attach_call hn hdf fun w s₀ s₁ mg mb fa o pm cd doc a vs ns G Y ho hd hcd hmg hobj hints hlen hg=>?_
 have KX:=hY w _ Y
 obtain⟨fd,hb,hF⟩:=F w mg fa _ KX G.T.g hmg
 exact XB KX G.T.g G.T.b G.T.builtins G.T.nolimit hg hobj hints (Nat.le_trans hlen hn2) hr hF hb (fun H hO hS=>hsp w H a ns hlen hO hS) fun H e s'=>hCX w H s₁ e s'
theorem walk_ofK {l:PySem.W.OpenLaw}{n k:Nat}{q:Program}{loose:List Str}{XP:(Str→Option Value)→Heap→Prop}{YP:World→Heap→Prop}{d:DefRec}{K:Params→PySem.W.Frag}{CX:CXT}{sp:PySem.W.Frag→Sp}{x:Str}
  (hn:l.most=some n) (hn2:n≤sizeLine) (hdf:d.params.defaults=[]) (hr:Room k callerA)
  (hY:∀ (w:World) (h:Heap),YP w h→(K w.params).In h)
  (F:∀ (w:World) (mg:Str→Option Value) (fa:Addr) (h:Heap),(K w.params).In h→h.Ns mainGlobals mg→mg d.name=some (.ref fa) →
   ∃ fd:FuncData,(∀ (s:Shared) (u:Value),BindsTo s fd ⟨[u],[]⟩ [(x,u)]) ∧
    ∀ base:Heap,(K w.params).In base→base.Ns mainGlobals mg→FnOk l.prog w (K w.params) mg base CX k fa fd [x] (sp (K w.params)))
  (hsp:∀ (K:PySem.W.Frag) (H:Hp) (a:Addr) (ns:LI),ns.length≤n→zpx H→SqL K H a (ns.map V.int)→sp K [.ref a] H (fun v _=>v=.bl true) fun _ _ _=>False)
  (hCX:∀ (H:Hp) (s:Shared) (e:Value) (s':Shared),CX [] H s (fun _ _ _=>False) e s'→False) :
  PySem.W.WalkO q loose XP YP l.row.toRowW d [] (fun f vs=>PySem.call f vs) :=
 Vn (K:=K) (CX:=fun _=>CX) (sp:=fun w=>sp (K w.params)) hn hn2 hdf hr hY F (fun w H a ns h1 h2 h3=>hsp (K w.params) H a ns h1 h2 h3) fun _ H s e s'=>hCX H s e s'
def inClass (s:Stmt) (j:Nat):Stmt:=match s with
 |.ClassDef _ _ _ body _ _ _ _ _ _ _=>body.getD j (.Pass ⟨0,0,0,0⟩)
 |_=>.Pass ⟨0,0,0,0⟩
def defArgs (s:Stmt):Arguments:=match s with
 |.FunctionDef _ a _ _ _ _ _ _ _ _=>a
 |_=>{ posonlyargs:=[],args:=[],vararg:=none,kwonlyargs:=[],kw_defaults:=[],kwarg:=none,defaults:=[] }
def defBody (s:Stmt):List Stmt:=match s with
 |.FunctionDef _ _ b _ _ _ _ _ _ _=>b
 |_=>[]
def defScope (s:Stmt):Scope:=match s with
 |.FunctionDef _ _ _ _ _ _ sc _ _ _=>sc
 |_=>{ kind:=.function,names:=[],isGenerator:=false,isCoroutine:=false }
abbrev CX0:CXT:=fun _ _ _ _ _ _=>False
abbrev E0:XK:=fun _ _ _=>False
theorem Xk {X:Cx}:xM CX0 X E0:=fun _ _ _ _ _ _ _ h=>h.elim
structure Fun (K:PySem.W.Frag) (x qual:Str) (st:Stmt) (f:Addr) (fd:FuncData):Prop where
 ex:∃ (oc:Value) (od:Option Addr) (kV doc pm:Value) (an:Option Addr) (cdv ct:Value) (osl:Array (Option Value)),
  fd=PySem.W.fnOf x qual (defArgs st) (defBody st) (defScope st) .none kV doc pm an cdv ct∧K.lookup f=some ⟨oc,od,.func fd,osl⟩∧PySem.W.codeIn K cdv qual=true
 kp:PySem.W.keepIn K (.ref f)=true
section
variable {P:Program}{w:World}{K:PySem.W.Frag}{mg:Str→Option Value}{base:Heap}
theorem Fun.ok {x qual:Str}{st:Stmt}{f:Addr}{fd:FuncData}{N ps:List Str}{k:Nat}{sp:Sp}(F:Fun K x qual st f fd) (S:FnScope N ps (defScope st)) (len:∀ vs H Q E,sp vs H Q E→vs.length=ps.length)
  (hbody:∀ (cdv:Value) (A:Around) (outer:List Env) (s:Shared) (H:Hp) (vs:List V) (Q:VK) (E:XK),Room k (A.deeper (envOfC qual (defScope st) s.heap.objs.size f cdv))→sp vs H Q E →
   ∃ t,PSs (vj CX0 P w K mg base N qual (defScope st) f cdv A outer s H E).nox (defBody st) t∧t { nx:=fun _ H'=>Q .non H',rt:=Q } (start N vs) H):FnOk P w K mg base CX0 (k+1) f fd ps sp:=by
 obtain⟨oc,od,kV,doc,pm,an,cdv,ct,osl,rfl,lk,hcd⟩:=F.ex
 refine zpn lk hcd S len fun A outer s H vs Q E hr hsp=>?_
 obtain⟨t,h,q⟩:=hbody cdv A outer s H vs Q E hr hsp
 exact⟨t,h.nox,q⟩
theorem Fun.binds {x qual:Str}{st:Stmt}{f:Addr}{fd:FuncData}{ps:List Str}(F:Fun K x qual st f fd)
  (h:∀ (kV doc pm:Value) (an:Option Addr) (cdv ct:Value) (us:List Value),us.length=ps.length→bindArgs (PySem.W.fnOf x qual (defArgs st) (defBody st) (defScope st) .none kV doc pm an cdv ct) ⟨us,[]⟩=pure (ps.zip us)):Binds K fd ps []:=by
 obtain⟨oc,od,kV,doc,pm,an,cdv,ct,osl,rfl,lk,hcd⟩:=F.ex
 exact .all (h kV doc pm an cdv ct)
theorem fun_mk {x qual:Str}{st:Stmt}{f:Addr}{oc:Value}{od an:Option Addr}{osl:Array (Option Value)}{kV doc pm cdv ct:Value}(l:K.lookup f=some ⟨oc,od,.func (PySem.W.fnOf x qual (defArgs st) (defBody st) (defScope st) .none kV doc pm an cdv ct),osl⟩)
  (c:PySem.W.codeIn K cdv qual=true) (k:PySem.W.keepIn K (.ref f)=true):Fun K x qual st f (PySem.W.fnOf x qual (defArgs st) (defBody st) (defScope st) .none kV doc pm an cdv ct):=⟨⟨oc,od,kV,doc,pm,an,cdv,ct,osl,rfl,l,c⟩,k⟩
end
theorem yi {A:Around}{k:Nat}(hr:Room k A):A.units+1<cLine:=Nat.lt_of_le_of_lt (Nat.add_le_add_left (by decide:1≤64) _) hr.units
theorem zB {n:Nat}(h:n≤1000):n<sizeLine:=Nat.lt_of_le_of_lt h (by decide)
section
variable {X:Cx}
theorem w_pv (i:Nat){x:Str}{pos:Pos}(hN:X.N[i]?=some x:=by rfl) (hv:Vis X.env.scope x:=by first | exact Or.inl rfl | exact Or.inr (Or.inl rfl) | exact Or.inr (Or.inr rfl)) (hd:(x == ("__debug__" : Str))=false:=by decide) (hcd:(x == ("__classdict__" : Str))=false:=by decide):Bx (PE X (.Name x pos) (zyM i)):=by
 exact⟨znU hN hv hd hcd⟩
theorem YG:yu X (.builtin "len") (fun xs H Q=>∃ a kvs,xs=[V.ref a]∧H a=some (.dK kvs)∧Q (.int kvs.length) H):=by
 intro pins s σ H xs us Q I r h
 obtain⟨a,kvs,rfl,ha,q⟩:=h
 obtain⟨u,rfl,ru⟩:=wI r
 cases ru
 exact zyG I (.inl ha) fun t s' I'=>⟨.int kvs.length,H,I',⟨t,rfl⟩,q⟩
end
theorem vi {A B:Prop}(h:B):if false=true then A else B:=by
 rw[if_neg Bool.false_ne_true]
 exact h
theorem Yi {A B:Prop}(h:A):if true=true then A else B:=by
 rw[if_pos rfl]
 exact h
theorem ui {c A B:Prop} [Decidable c] (h1:c→A) (h2:¬ c→B):if c then A else B:=by
 by_cases h:c
 ·rw[if_pos h]
  exact h1 h
 ·rw[if_neg h]
  exact h2 h
def Same (H H':Hp):Prop:=∀ b o,H b=some o→H' b=some o
theorem Same.refl (H:Hp):Same H H:=fun _ _ h=>h
theorem Same.trans {H H1 H2:Hp}(a:Same H H1) (b:Same H1 H2):Same H H2:=fun c o h=>b c o (a c o h)
theorem Same.free {H H':Hp}(e:Same H H'){l:Addr}(h:H' l=Option.none):H l=Option.none:=by
 cases q:H l with
 |none=>rfl
 |some o =>
  rw[e l o q] at h
  cases h
end L2
set_option maxHeartbeats 4000000
namespace L2
open PySem PySem.Spec PyProof.Rows
def zrK (t u:TS):TS:=fun D σ H=>∃ M:St→Hp→Prop,t { D with nx:=M } σ H∧∀ σ' H',M σ' H'→u D σ' H'
theorem xt {X:Cx}{st:Stmt}{rest:List Stmt}{t u:TS}(h1:Bx (PS X st t)) (h2:Bx (PSs X rest u)):Bx (PSs X (st::rest) (zrK t u)):=by
 have h1:=h1.of
 have h2:=h2.of
 refine⟨?_⟩
 intro pins s σ H D I h
 obtain⟨M,h,hM⟩:=h
 refine wpAny_execs_cons (thn (h1 pins s σ H { D with nx:=M } I h) fun f s1 q=>?_)
 cases f with
 |next =>
  obtain⟨σ',H',I',q⟩:=q
  exact h2 pins s1 σ' H' D I' (hM σ' H' q)
 |brk=>exact q
 |cont=>exact q
 |ret u=>exact q
theorem iteB {c:Bool}{A B:Prop}(hc:c=true) (h:A):if c=true then A else B:=by rw[if_pos hc];exact h
theorem zG {c:Bool}{A B:Prop}(hc:c=false) (h:B):if c=true then A else B:=by rw[hc];exact vi h
def PTs (X:Cx) (ifs:List Expr) (t:TT):Prop :=
 ∀ (pins:List (Addr×Obj)) (s:Shared) (σ:St) (H:Hp) (Q:Bool→Hp→Prop),Inv X pins σ H s→t σ H Q →
  wpAny (model X.prog X.w) X.A (forIn ifs true fun c r=>if r=true then do let ok ← isTrue c X.env (eval c X.env);pure (ForInStep.yield ok) else pure (ForInStep.yield r)) (TP X pins σ Q) X.xe s
def zrI:TT:=fun _ H Q=>Q true H
theorem zY {X:Cx}:Bx (PTs X [] zrI):=by
 exact⟨fun _ _ _ H _ I h=>wpAny_tests_nil ⟨H,I,h⟩⟩
theorem u7 {X:Cx}{c:Expr}{t:TT}(h:Bx (PT X c t)):Bx (PTs X [c] t):=by
 have h:=h.of
 exact⟨fun pins s σ H Q I hw=>wpAny_tests_one (h pins s σ H Q I hw)⟩
section
variable {prog:Program}{w:World}{A:Around}{R:Result→Shared→Prop}{s:Shared}
abbrev NoE:Value→Shared→Prop:=fun _ _=>False
theorem ztM {α:Type}{m:Sem α}{Q:α→Shared→Prop}{E:Value→Shared→Prop}{s:Shared}(h:wpAny (model prog w) A m Q NoE s):wpAny (model prog w) A m Q E s :=
 wpAny_mono h (fun _ _ q=>q) fun _ _ z=>z.elim
def YT (prog:Program) (w:World) (A:Around) (env:Env) (tg:Expr) (ifs:List Expr) (elt:Expr) (it acc:Value) (again:Shared→Prop) (v:Value) (s1:Shared):Prop :=
 wpAny (model prog w) A (letOwnedTupleGo tg it v) (fun _ s2=>wpAny (model prog w) A (assign tg env v) (fun _ s3 =>
  wpAny (model prog w) A (forIn ifs true fun c r=>if r=true then do let ok ← isTrue c env (eval c env);pure (ForInStep.yield ok) else pure (ForInStep.yield r)) (fun ok s4 =>
   if ok=true then wpAny (model prog w) A (eval elt env) (fun x s5=>wpAny (model prog w) A (call (.builtin "list.append") [acc,x]) (fun _ s6=>again s6) NoE s5) NoE s4
   else again s4) NoE s3) NoE s2) NoE s1
theorem uP {elt tg iter:Expr}{ifs:List Expr}{scope:Scope}{pos:Pos}{it acc:Value}{env:Env}(J:Nat→Shared→Prop)
  (turn:∀ n s,J n s→wpAny (model prog w) A (pyNext it) (fun r s1=>match r with
   |none=>R (.ok .next) s1
   |some v=>YT prog w A env tg ifs elt it acc (fun s6=>∃ m,m<n∧J m s6) v s1) NoE s)
  (n:Nat) (h:J n s):codeAny (model prog w) A (.compLoop (.ListComp elt [⟨tg,iter,ifs,0⟩] scope pos) 0 it acc env) R s:=by
 refine codeAny_loop rfl J (fun n s hJ=>?_) n h
 show wpAny _ A ((compTurn (.ListComp elt [⟨tg,iter,ifs,0⟩] scope pos) 0 it acc env).onRaise (fun x=>do noteFrame x env;theTreesLotGoes x)) _ _ s
 refine wpAny_noted (ztM ?_)
 rw[compTurn_list]
 refine wpAny_bind (wpAny_standAt (wpAny_bind (thn (turn n s hJ) fun r s1 h1=>?_)))
 cases r with
 |none=>exact wpAny_pure h1
 |some v =>
  refine wpAny_bind (thn h1 fun _ s2 h2=>wpAny_bind (thn h2 fun _ s3 h3=>wpAny_bind (thn h3 fun ok s4 h4=>?_)))
  cases ok with
  |false=>exact wpAny_pure ⟨rfl,h4⟩
  |true=>exact wpAny_bind (wpAny_bind (thn h4 fun x s5 h5=>wpAny_bind (thn h5 fun _ s6 h6=>wpAny_pure (wpAny_pure ⟨rfl,h6⟩))))
end
theorem vQ {env:Env}:∀ (names:List (Str×NameKind)) (acc:List (Str×Addr)),(∀ y∈names,y.2=.free→∃ c,env.cells.lookup y.1=some c)→(∀ x c,acc.lookup x=some c→env.cells.lookup x=some c) →
  ∃ cl,(forIn names acc (fun(y:Str×NameKind) (cs:List (Str×Addr))=>(if (y.2 == NameKind.free)=true then(do let c ← cellOf env y.1;pure (ForInStep.yield ((y.1,c)::cs))) else pure (ForInStep.yield cs):Sem (ForInStep (List (Str×Addr))))))=(pure cl:Sem (List (Str×Addr))) ∧
   (∀ x c,cl.lookup x=some c→env.cells.lookup x=some c)∧(∀ x,(acc.lookup x).isSome=true→(cl.lookup x).isSome=true)∧(∀ y∈names,y.2=.free→(cl.lookup y.1).isSome=true)
 |[],acc,_,h2=>⟨acc,rfl,h2,fun _ h=>h,fun y hy=>by cases hy⟩
 |(n,k)::r,acc,h1,h2=>by
  have h1':∀ y∈r,y.2=.free→∃ c,env.cells.lookup y.1=some c:=fun y hy=>h1 y (List.mem_cons_of_mem _ hy)
  by_cases hk:k=.free
  ·subst hk
   obtain⟨c,hc⟩:=h1 (n,.free) List.mem_cons_self rfl
   have h2':∀ x c',(((n,c)::acc:List (Str×Addr)).lookup x)=some c'→env.cells.lookup x=some c':=fun x c' e=>by
    rw[List.lookup_cons] at e
    by_cases hx:(x == n)=true
    ·rw[hx] at e
     cases e
     rw[beq_iff_eq.mp hx]
     exact hc
    ·rw[Bool.not_eq_true] at hx
     rw[hx] at e
     exact h2 x c' e
   obtain⟨cl,e,p1,p2,p3⟩:=vQ r ((n,c)::acc) h1' h2'
   refine⟨cl,?_,p1,fun x hx=>p2 x ?_,fun y hy hf=>?_⟩
   ·rw[List.forIn_cons]
    have q:cellOf env n=pure c:=by unfold cellOf;rw[hc]
    simp only[beq_self_eq_true,if_true,q,pure_bind]
    exact e
   ·rw[List.lookup_cons]
    cases q:x == n with
    |true=>rfl
    |false=>exact hx
   ·rcases List.mem_cons.mp hy with rfl | hy
    ·exact p2 n (by rw[List.lookup_cons,beq_self_eq_true];rfl)
    ·exact p3 y hy hf
  ·obtain⟨cl,e,p1,p2,p3⟩:=vQ r acc h1' h2
   have hb:(k == NameKind.free)=false:=by simpa using hk
   refine⟨cl,?_,p1,p2,fun y hy hf=>?_⟩
   ·rw[List.forIn_cons]
    simp only[hb,Bool.false_eq_true,if_false,pure_bind]
    exact e
   ·rcases List.mem_cons.mp hy with rfl | hy
    ·exact absurd hf hk
    ·exact p3 y hy hf
structure Clos (env:Env) (scope:Scope) (cl:List (Str×Addr)):Prop where
 eq:closureFor scope env=pure cl
 sub:∀ x c,cl.lookup x=some c→env.cells.lookup x=some c
 all:∀ y∈scope.names,y.2=.free→(cl.lookup y.1).isSome=true
theorem YB {env:Env}{scope:Scope}(h:∀ y∈scope.names,y.2=.free→∃ c,env.cells.lookup y.1=some c):∃ cl,Clos env scope cl:=by
 obtain⟨cl,e,p1,p2,p3⟩:=vQ (env:=env) scope.names [] h (fun x c z=>by simp at z)
 refine⟨cl,⟨?_,p1,p3⟩⟩
 have q:closureFor scope env=(forIn scope.names [] (fun(y:Str×NameKind) (cs:List (Str×Addr))=>(if (y.2 == NameKind.free)=true then(do let c ← cellOf env y.1;pure (ForInStep.yield ((y.1,c)::cs))) else pure (ForInStep.yield cs):Sem (ForInStep (List (Str×Addr))))) >>= fun s=>pure s):=rfl
 rw[q,e,pure_bind]
abbrev yM (X:Cx) (scope:Scope) (N':List Str) (cl:List (Str×Addr)) (C:Addr) (s₀:Shared) (H₀:Hp) (fp:List Addr):Cx :=
 { X with N:=N',s₀:=s₀,H₀:=H₀,env:=compEnvC scope cl C X.env,outer:=X.stack,ex:=fp,fn:=fun _=>false,pn:=[],xe:=NoE }
structure Blk where
 cl:List (Str×Addr)
 C:Addr
 s₀:Shared
 H₀:Hp
 fp:List Addr
abbrev cxB (X:Cx) (scope:Scope) (N':List Str) (b:Blk):Cx:=yM X scope N' b.cl b.C b.s₀ b.H₀ b.fp
def Yl:Option NameKind→Bool
 |some .cell=>true
 |some .free=>true
 |_=>false
theorem xq {k:Option NameKind}(h:Yl k=true):k=some .cell∨k=some .free:=by
 cases k with
 |none=>cases h
 |some k=>cases k<;>first | exact .inl rfl | exact .inr rfl | cases h
def XW (N:List Str) (kd kd':Str→Option NameKind) (N':List Str) (t:Nat):List Nat→Nat→Bool
 |[],k=>N'.length == t+k
 |j::r,k=>(match N[j]?,N'[t+k]? with
  |some x,some y=>(x == y)&&Yl (kd x)&&Yl (kd' x)
  |_,_=>false)&&XW N kd kd' N' t r (k+1)
theorem vb {N:List Str}{kd kd':Str→Option NameKind}{N':List Str}{t:Nat}:∀ {caps:List Nat}{k:Nat},XW N kd kd' N' t caps k=true→N'.length=t+k+caps.length
 |[],k,h=>by
  have:=beq_iff_eq.mp h
  simpa using this
 |j::r,k,h=>by
  have:=vb (Bool.and_eq_true_iff.mp h).2
  rw[List.length_cons]
  omega
theorem uu {N:List Str}{kd kd':Str→Option NameKind}{N':List Str}{t:Nat}:∀ {caps:List Nat}{k i j:Nat},XW N kd kd' N' t caps k=true→caps[i]?=some j →
  ∃ x,N[j]?=some x∧N'[t+k+i]?=some x∧Yl (kd x)=true∧Yl (kd' x)=true
 |[],_,_,_,_,e=>by simp at e
 |j::r,k,0,j',h,e=>by
  simp at e
  subst e
  have h1:=(Bool.and_eq_true_iff.mp h).1
  cases q:N[j]? with
  |none=>rw[q] at h1;cases h1
  |some x =>
   cases q':N'[t+k]? with
   |none=>rw[q,q'] at h1;cases h1
   |some y =>
    rw[q,q'] at h1
    obtain⟨h2,h3⟩:=Bool.and_eq_true_iff.mp h1
    obtain⟨h4,h5⟩:=Bool.and_eq_true_iff.mp h2
    obtain rfl:x=y:=beq_iff_eq.mp h4
    exact⟨x,rfl,rfl,h5,h3⟩
 |j::r,k,i+1,j',h,e=>by
  obtain⟨x,a,b,c,d⟩:=uu (i:=i) (Bool.and_eq_true_iff.mp h).2 (by simpa using e)
  refine⟨x,a,?_,c,d⟩
  have q:t+(k+1)+i=t+k+(i+1):=by omega
  rw[← q]
  exact b
structure CompOk (X:Cx) (scope:Scope) (N':List Str) (t:Nat) (caps:List Nat):Prop where
 kind:scope.kind=.function
 shape:(scope.names.all fun y=>(y.2 == .local&&scope.names.lookup y.1 == some .local)||(y.2 == .free&&Yl (X.env.kindOf y.1))||(y.2 == .globalImplicit))=true
 cap:XW X.N X.env.kindOf (compEnvC scope [] 0 X.env).kindOf N' t caps 0=true
theorem CompOk.at {X:Cx}{scope:Scope}{N':List Str}{t:Nat}{caps:List Nat}(S:CompOk X scope N' t caps){y:Str×NameKind}(hy:y∈scope.names) :
  y.2≠.cell∧(y.2=.local→scope.names.lookup y.1=some .local)∧(y.2=.free→Yl (X.env.kindOf y.1)=true):=by
 have h:=List.all_eq_true.mp S.shape y hy
 obtain⟨n,k⟩:=y
 cases k<;>simp at h<;>simp[h]
def zpt (t:Nat) (caps:List Nat) (σ:St):St:=List.replicate t none++caps.map fun j=>(σ[j]?).join
theorem y0 {scope:Scope}{env:Env}{x:Str}:∀ {names:List (Str×NameKind)},(∀ y∈names,y.2≠.cell)→Yl ((names.map fun(y:Str×NameKind)=>if (y.2 == NameKind.free&&env.scope.kind == .function&&env.kindOf y.1 == some .cell)=true then(y.1,NameKind.cell) else(y.1,y.2)).lookup x)=true →
  (x,NameKind.free)∈names
 |[],_,h=>by simp[Yl] at h
 |(n,k)::r,hn,h=>by
  have hr:∀ y∈r,y.2≠.cell:=fun y hy=>hn y (List.mem_cons_of_mem _ hy)
  have hk:k≠.cell:=hn (n,k) List.mem_cons_self
  rw[List.map_cons] at h
  by_cases hx:(x == n)=true
  ·obtain rfl:x=n:=beq_iff_eq.mp hx
   have q:k=.free:=by
    by_cases hf:k=.free
    ·exact hf
    ·exfalso
     have hb:(k == NameKind.free)=false:=by simpa using hf
     simp only[hb,Bool.false_and,Bool.false_eq_true,if_false,List.lookup_cons,beq_self_eq_true] at h
     cases k<;>simp[Yl] at h hk hf
   subst q
   exact List.mem_cons_self
  ·rw[Bool.not_eq_true] at hx
   refine List.mem_cons_of_mem _ (y0 (scope:=scope) (env:=env) hr ?_)
   by_cases hc:(k == NameKind.free&&env.scope.kind == .function&&env.kindOf n == some .cell)=true
   ·simp only[hc,if_true,List.lookup_cons,hx] at h
    exact h
   ·rw[Bool.not_eq_true] at hc
    simp only[hc,Bool.false_eq_true,if_false,List.lookup_cons,hx] at h
    exact h
def YU (J:It) (g:TG) (tc:TT) (te:TE) (Q:VK) (D:Addr) (τ0:St) (H0:Hp):Prop :=
 ∃ W:Nat→Nat→List V→St→Hp→Prop,(∃ m,W 0 m [] τ0 H0)∧∀ i m ys τ H,W i m ys τ H →
  (J.stop i H∧Q (.ref D) H)∨(J.go i H∧∃ N:List V→St→Hp→Prop,(∀ zs τ' H',N zs τ' H'→∃ m',m'<m∧W (i+1) m' zs τ' H')∧∀ x H3,J.yld i H x H3→g x τ H3 fun τ2 H4=>tc τ2 H4 fun b H5 =>
   if b=true then te τ2 H5 fun y H6=>H6 D=some (.lst ys)∧ys.length<sizeLine∧N (ys++[y]) τ2 (upd H6 D (.lst (ys++[y]))) else N ys τ2 H5)
def zbv (wi:TI) (g:Blk→TG) (tc:Blk→TT) (te:Blk→TE) (t:Nat) (caps:List Nat):TE:=fun σ H Q =>
 wi σ H fun J H1=>∀ D,H1 D=none→∀ b:Blk,YU J (g b) (tc b) (te b) Q D (zpt t caps σ) (upd H1 D (.lst []))
theorem Yz {J:It}{g:TG}{tc:TT}{te:TE}{Q:VK}{D:Addr}{τ0:St}{H0:Hp}(n:Nat) (Pv:Nat→List V→St→Hp→Prop) (h0:Pv 0 [] τ0 H0)
  (hst:∀ zs τ H,Pv n zs τ H→J.stop n H∧Q (.ref D) H)
  (hgo:∀ i zs τ H,i<n→Pv i zs τ H→J.go i H∧∀ x H3,J.yld i H x H3→g x τ H3 fun τ2 H4=>tc τ2 H4 fun b H5 =>
   if b=true then te τ2 H5 fun y H6=>H6 D=some (.lst zs)∧zs.length<sizeLine∧Pv (i+1) (zs++[y]) τ2 (upd H6 D (.lst (zs++[y]))) else Pv (i+1) zs τ2 H5):YU J g tc te Q D τ0 H0:=by
 refine⟨fun i m zs τ H=>m=n-i∧i≤n∧Pv i zs τ H,⟨n,by simp,Nat.zero_le _,h0⟩,?_⟩
 rintro i m zs τ H ⟨rfl,hi,p⟩
 by_cases hlt:i<n
 ·obtain⟨go,step⟩:=hgo i zs τ H hlt p
  exact .inr ⟨go,Pv (i+1),fun zs' τ' H' p'=>⟨n-(i+1),by omega,rfl,hlt,p'⟩,step⟩
 ·have e:i=n:=by omega
  subst e
  exact .inl (hst zs τ H p)
theorem yF {K:PySem.W.Frag}{a:Addr}{xs:List V}{g:TG}{tc:TT}{te:TE}{Q:VK}{D:Addr}{τ0:St}{H0:Hp}(Pv:Nat→List V→St→Hp→Prop) (h0:Pv 0 [] τ0 H0) (hl:∀ i zs τ H,Pv i zs τ H→SqL K H a xs)
  (hs:∀ i x zs τ H,xs[i]?=some x→Pv i zs τ H→g x τ H fun τ2 H4=>tc τ2 H4 fun b H5 =>
   if b=true then te τ2 H5 fun y H6=>H6 D=some (.lst zs)∧zs.length<sizeLine∧Pv (i+1) (zs++[y]) τ2 (upd H6 D (.lst (zs++[y]))) else Pv (i+1) zs τ2 H5)
  (hd:∀ zs τ H,Pv xs.length zs τ H→Q (.ref D) H):YU (Itl K a) g tc te Q D τ0 H0 :=
 Yz xs.length Pv h0 (fun zs τ H p=>⟨⟨xs,hl _ _ _ _ p,Nat.le_refl _⟩,hd zs τ H p⟩) fun i zs τ H hi p=>⟨⟨xs,xs[i],hl _ _ _ _ p,by simp[hi]⟩,fun x H3 y=>by
  obtain⟨e,y⟩:=y
  subst e
  exact hs i x zs τ _ (y xs (hl _ _ _ _ p)) p⟩
section
variable {X:Cx}{tg iter elt:Expr}{ifs:List Expr}{scope:Scope}{pos:Pos}{N':List Str}{t:Nat}{caps:List Nat}{g:Blk→TG}{tc:Blk→TT}{te:Blk→TE}{wi:TI}
theorem FpOk.heap {pins:List (Addr×Obj)}{H H':Hp}{b:Addr}(f:FpOk X pins H b) (h:H' b=none):FpOk X pins H' b:=⟨h,f.2⟩
theorem va {cl:List (Str×Addr)}{J:It}{fp:List Addr}{it:Addr}{tn:Nat→Heap→Prop}{pins:List (Addr×Obj)}{σ:St}{H2:Hp}{s2:Shared}{Q:VK}{E:Value→Shared→Prop}
  (hc:X.calm=true) (S:CompOk X scope N' t caps) (L:Clos X.env scope cl)
  (hg:∀ b,PG (cxB X scope N' b) tg (g b)) (ht:∀ b,PTs (cxB X scope N' b) ifs (tc b)) (he:∀ b,PE (cxB X scope N' b) elt (te b))
  (I2:Inv X pins σ H2 s2) (T:Turn X.prog X.w X.K tg J fp it tn) (st2:tn 0 s2.heap) (f2:∀ b∈fp,FpOk X pins H2 b)
  (R:∀ D,H2 D=none→∀ b,YU J (g b) (tc b) (te b) Q D (zpt t caps σ) (upd H2 D (.lst []))) :
  wpAny (model X.prog X.w) X.A (newList []) (fun acc s3=>wpAny (model X.prog X.w) X.A (newFunctionEnv scope X.env.globals cl [] X.env.qual none .none (some X.env)) (fun cenv s4 =>
   codeAny (model X.prog X.w) X.A (.compStart (.ListComp elt [⟨tg,iter,ifs,0⟩] scope pos) 0 (.ref it) acc { cenv with scope:=relabel scope X.env })
    (fun r s'=>∃ (D:Addr) (H':Hp) (m:Str→Option Value),acc=.ref D∧r=.ok .next∧Inv X pins σ H' s'∧s'.heap.Ns cenv.locals m∧FpOk X pins H' cenv.locals∧Q (.ref D) H') s4) E s3) E s2:=by
 refine wpAny_newObj_type ?_
 have I3:Inv X pins σ (upd H2 s2.heap.objs.size (.lst [])) { s2 with heap:=s2.heap.push { cls:=.type "list",data:=.seq ([]:List Value).toArray } }:=I2.lnew (t':=s2.toks) .nil (Nat.zero_le _)
 have hD:H2 s2.heap.objs.size=none:=I2.fresh
 have R:=R _ hD
 generalize hs3:({ s2 with heap:=s2.heap.push { cls:=.type "list",data:=.seq ([]:List Value).toArray } }:Shared)=s3 at I3 ⊢
 generalize hH3:upd H2 s2.heap.objs.size (.lst [])=H3 at I3 R
 generalize hDD:s2.heap.objs.size=D at R ⊢
 have k3:∀ b o,s2.heap.get? b=some o→s3.heap.get? b=some o:=fun b o e=>by rw[← hs3];exact Heap.get?_push_of_some _ e
 have st3:tn 0 s3.heap:=T.keep 0 _ _ st2 fun b _ o e=>k3 b o e
 have fpn:∀ b∈fp,H3 b=none:=fun b hb=>by
  obtain⟨o,e,_⟩:=T.obj 0 _ st2 b hb
  rw[← hH3,ze (Nat.ne_of_lt (Heap.lt_size e))]
  exact(f2 b hb).1
 have f3:∀ b∈fp,FpOk X pins H3 b:=fun b hb=>(f2 b hb).heap (fpn b hb)
 refine wpAny_newFunctionEnv (fun y hy=>(S.at hy).1) (by intro y hy;simp at hy) (fun h4 hns hsb=>?_) S.kind
 generalize hC:s3.heap.objs.size=C at hns hsb ⊢
 have k4:∀ b o,s3.heap.get? b=some o→h4.get? b=some o:=fun b o e=>hsb.extBut b o (by rw[← hC];exact Nat.ne_of_lt (Heap.lt_size e)) (Heap.get?_push_of_some _ e)
 have cellsub:∀ x c,(yM X scope N' cl C s3 H3 fp).env.cells.lookup x=some c→X.env.cells.lookup x=some c:=L.sub
 have hnc:∀ y∈scope.names,y.2≠.cell:=fun y hy=>(S.at hy).1
 have fC:∀ {H':Hp},H' C=none→FpOk X pins H' C:=fun h=>by rw[← hC] at h ⊢;exact I3.fpOk (Nat.le_refl _) h
 have I4:Inv (yM X scope N' cl C s3 H3 fp) [] (zpt t caps σ) H3 { s3 with heap:=h4,toks:=s3.toks+([]:List (Str×Value)).length }:=by
  refine⟨⟨I3.ok.mod,S.kind,I3.ok.glob,I3.ok.blt,Nat.le_of_eq hC,fun x y c h1 h2=>I3.ok.inj x y c (L.sub _ _ h1) (L.sub _ _ h2),fun x hx=>?_,fun x c h _=>absurd (show false=true from h) Bool.false_ne_true,I3.ok.hd,I3.ok.frames,.inl rfl,fun b hb=>⟨?_,fun x c e=>(f3 b hb).2.2.2.2.1 x c (L.sub x c e)⟩,
    I3.bs,Nat.le_trans I3.ok.bsz I3.sz,fun b o e hb=>?_,fun b hb z=>?_,I3.stack,I3.stkFree⟩,
   rfl,I3.bare,Un.kept k4,⟨_,hns,fun i x v e1 e2 e3=>?_⟩,fun x c e=>?_,(by rw[← hC];exact I3.fresh),fun x c e=>I3.freeC x c (L.sub x c e),fun p hp=>?_,I3.hok.kept k4,?_⟩
  ·have hx':Yl ((relabel scope X.env).names.lookup x)=true:=by
    rcases hx with q | q
    ·rw[show(relabel scope X.env).names.lookup x=some .cell from q];rfl
    ·rw[show(relabel scope X.env).names.lookup x=some .free from q];rfl
   exact Option.isSome_iff_exists.mp (L.all _ (y0 (scope:=scope) hnc hx') rfl)
  ·obtain⟨o,e,_⟩:=T.obj 0 _ st3 b hb
   rw[← hC]
   exact Nat.ne_of_lt (Heap.lt_size e)
  ·rcases(f3 b hb).2.2.2.1 with z | z
   ·exact I3.ok.noex b o e z
   ·exact absurd (Nat.lt_of_lt_of_le (Nat.lt_of_lt_of_le (Heap.lt_size e) I3.ok.bsz) z) (Nat.lt_irrefl _)
  ·rcases List.mem_cons.mp (I3.stkSub b z) with q | q
   ·exact(f3 b hb).2.1 q
   ·exact(f3 b hb).2.2.1 q
  ·-- a name that was taken over
   unfold zpt at e2
   by_cases hi:i<t
   ·rw[List.getElem?_append_left (by simpa using hi),List.getElem?_replicate] at e2
    simp[hi] at e2
   ·rw[List.getElem?_append_right (by simpa using hi),List.length_replicate,List.getElem?_map] at e2
    cases q:caps[i-t]? with
    |none=>rw[q] at e2;simp at e2
    |some j =>
     rw[q] at e2
     obtain⟨y,c1,c2,c3,c4⟩:=uu S.cap q
     have ei:t+0+(i-t)=i:=by omega
     rw[ei] at c2
     have exy:x=y:=Option.some.inj ((show N'[i]?=some x from e1).symm.trans c2)
     subst exy
     have e2':σ[j]?=some (some v):=by
      have e2:(σ[j]?).join=some v:=Option.some.inj e2
      cases r:σ[j]? with
      |none=>rw[r] at e2;cases e2
      |some z =>
       rw[r] at e2
       have e2:z=some v:=e2
       rw[e2]
     obtain⟨m,hn,hl⟩:=I3.loc
     have cf:=xq c3
     obtain⟨u,ru,lk⟩:=hl j x v c1 e2' (.inr (by
      rcases cf with z | z
      ·exact .inl z
      ·exact .inr z))
     refine⟨u,ru,.inr ⟨xq c4,?_⟩⟩
     rcases lk with⟨z,_⟩ | ⟨_,c,ec,zc⟩
     ·rcases cf with w | w<;>(rw[z] at w;cases w)
     ·have hfree:=y0 (scope:=scope) (env:=X.env) (x:=x) hnc c4
      obtain⟨c',ec'⟩:=Option.isSome_iff_exists.mp (L.all _ hfree rfl)
      have:=L.sub _ _ ec'
      rw[show X.env.cells.lookup x=some c from ec] at this
      cases this
      obtain⟨o,ho,hd⟩:=zc
      exact⟨c,ec',o,k4 _ _ ho,hd⟩
  ·obtain⟨v,o,ho,hd⟩:=I3.cell x c (L.sub x c e)
   exact⟨v,o,k4 _ _ ho,hd⟩
  ·exact absurd (show p∈([]:List (Addr×Obj)) from hp) (by simp)
  ·unfold zpt
   rw[List.length_append,List.length_replicate,List.length_map,vb S.cap]
   omega
 obtain⟨W,⟨m0,w0⟩,turn⟩:=R ⟨cl,C,s3,H3,fp⟩
 -- back to the frame outside
 have back:∀ {τ:St}{H':Hp}{s':Shared},Inv (yM X scope N' cl C s3 H3 fp) [] τ H' s'→Inv X pins σ H' s':=fun {τ H' s'} J=>by
  refine I3.call' (ch:=fp) (J.os.trans ?_) J.base J.hok J.bare fun b hb=>⟨(f3 b hb).2.2.2.1,(f3 b hb).2.1,(f3 b hb).2.2.2.2.1,(f3 b hb).2.2.2.2.2⟩
  rfl
 have stat:∀ {H':Hp},(∀ b∈fp,H' b=none)→∀ b∈fp,FpOk (yM X scope N' cl C s3 H3 fp) [] H' b:=fun {H'} hn b hb=>by
  refine⟨hn b hb,(I4.ok.exf b hb).1,I4.ok.exfs b hb,.inl hb,(I4.ok.exf b hb).2,fun p hp=>?_⟩
  exact absurd (show p∈([]:List (Addr×Obj)) from hp) (by simp)
 have loop:codeAny (model X.prog X.w) X.A (.compLoop (.ListComp elt [⟨tg,iter,ifs,0⟩] scope pos) 0 (.ref it) (.ref D) (compEnvC scope cl C X.env))
   (fun r s'=>∃ (D':Addr) (H':Hp) (m:Str→Option Value),Value.ref D=.ref D'∧r=.ok .next∧Inv X pins σ H' s'∧s'.heap.Ns C m∧FpOk X pins H' C∧Q (.ref D') H') { s3 with heap:=h4,toks:=s3.toks+([]:List (Str×Value)).length }:=by
  refine uP (fun n s'=>∃ i ys τ H',Inv (yM X scope N' cl C s3 H3 fp) [] τ H' s'∧tn i s'.heap∧(∀ b∈fp,H' b=none)∧W i n ys τ H') ?_ m0 ⟨0,[],_,H3,I4,T.keep 0 _ _ st3 fun b _ o e=>k4 b o e,fpn,w0⟩
  rintro n s5 ⟨i,ys,τ,H5,I5,st5,fr5,w5⟩
  rcases turn i n ys τ H5 w5 with⟨stop,q⟩ | ⟨go,N,hN,step⟩
  ·refine thn (T.done (yM X scope N' cl C s3 H3 fp) rfl rfl rfl hc i [] s5 τ H5 NoE I5 (stat fr5) st5 stop) fun r s6 ⟨hr,I6⟩=>?_
   subst hr
   obtain⟨m,hm,_⟩:=id I6.loc
   exact⟨D,H5,m,rfl,rfl,back I6,hm,fC I6.free,q⟩
  ·refine thn (T.item (yM X scope N' cl C s3 H3 fp) rfl rfl rfl hc i [] s5 τ H5 NoE I5 (stat fr5) st5 go) fun r s6 ⟨u,hr,h6⟩=>?_
   subst hr
   refine thn h6 fun _ s7 hq0=>?_
   obtain⟨x,H7,I7,r7,y7,st7,fr7⟩:=hq0
   have I7':=I7.pinned (stat fr7) (T.obj _ _ st7)
   have again:∀ {τ9:St}{H9:Hp}{s9:Shared}{ys9:List V}{m':Nat},Inv (yM X scope N' cl C s3 H3 fp) ([]++wO fp s7.heap) τ9 H9 s9→m'<n→W (i+1) m' ys9 τ9 H9 →
     ∃ m,m<n∧∃ i ys τ H',Inv (yM X scope N' cl C s3 H3 fp) [] τ H' s9∧tn i s9.heap∧(∀ b∈fp,H' b=none)∧W i m ys τ H':=fun {τ9 H9 s9 ys9 m'} I9 hm w9=>by
    refine⟨m',hm,i+1,ys9,τ9,H9,I9.unpinned,T.keep _ _ _ st7 fun b hb o e=>(I9.pin (b,o) (List.mem_append_right _ (List.mem_append_right _ (yK hb e)))).1,fun b hb=>?_,w9⟩
    obtain⟨o,e,_⟩:=T.obj _ _ st7 b hb
    exact(I9.pin (b,o) (List.mem_append_right _ (List.mem_append_right _ (yK hb e)))).2.1
   refine thn (hg ⟨cl,C,s3,H3,fp⟩ _ s7 τ H7 x u _ I7' r7 (step x H7 y7)) fun _ s8 hq0=>?_
   obtain⟨τ8,H8,I8,q8⟩:=hq0
   refine thn (ht ⟨cl,C,s3,H3,fp⟩ _ s8 τ8 H8 _ I8 q8) fun ok s9 hq0=>?_
   obtain⟨H9,I9,q9⟩:=hq0
   cases ok with
   |false =>
    obtain⟨m',hm,w9⟩:=hN _ _ _ (show N ys τ8 H9 from q9)
    exact again I9 hm w9
   |true =>
    refine thn (he ⟨cl,C,s3,H3,fp⟩ _ s9 τ8 H9 _ I9 q9) fun y s10 hq0=>?_
    obtain⟨z,H10,I10,r10,hl,hz,q10⟩:=hq0
    refine thn (yf _ s10 τ8 H10 (.ref D) [z] (.ref D) [y] (fun v H11=>v=.non∧H11=upd H10 D (.lst (ys++[z]))) I10 rfl (.cons r10 .nil) ⟨D,ys,z,rfl,rfl,hl,hz,rfl,rfl⟩) fun _ s11 hq0=>?_
    obtain⟨v,H11,I11,_,_,e11⟩:=hq0
    subst e11
    obtain⟨m',hm,w10⟩:=hN _ _ _ q10
    exact again I11 hm w10
 exact codeAny_compStart_list loop (T.self _ 0 _ _ _ (T.keep 0 _ _ st3 fun b _ o e=>k4 b o e) loop)
theorem ya (hc:X.calm=true) (S:CompOk X scope N' t caps) (hi:Bx (PI X tg iter wi)) (hg:∀ b,Bx (PG (cxB X scope N' b) tg (g b))) (ht:∀ b,Bx (PTs (cxB X scope N' b) ifs (tc b))) (he:∀ b,Bx (PE (cxB X scope N' b) elt (te b))) (hs:∀ x,foldedSetIterable iter X.env x=pure x:=by intro _;rfl):Bx (PE X (.ListComp elt [⟨tg,iter,ifs,0⟩] scope pos) (zbv wi g tc te t caps)):=by
 have hi:=hi.of
 have hg:=fun x0=>(hg x0).of
 have ht:=fun x0=>(ht x0).of
 have he:=fun x0=>(he x0).of
 refine⟨?_⟩
 intro pins s σ H Q I h
 obtain⟨cl,L⟩:=YB (env:=X.env) (scope:=scope) fun y hy hf=>I.ok.has y.1 (xq ((S.at hy).2.2 hf))
 rw[eval_ListComp]
 refine wpAny_comprehension_free (use:=none) rfl hs L.eq S.kind (fun y hy=>(S.at hy).2.1) (thn (hi pins s σ H _ I h) fun x s1 h1=>thn h1 fun itv s2 h2=>?_)
 obtain⟨it,fp,tn,J,H2,rfl,I2,T,st2,f2,R⟩:=h2
 refine thn (va hc S L hg ht he I2 T st2 f2 R) fun acc s3 h3=>thn h3 fun cenv s4 h4=>codeAny_mono h4 fun r s' hr=>?_
 obtain⟨D,H',m,rfl,rfl,I',hm,fC,q⟩:=hr
 obtain⟨c0,c1,c2,c3,c4,c5⟩:=fC
 exact⟨m,hm,fun h' sb=>⟨.ref D,H',I'.turned (t':=s'.toks) (fun b o hb e=>sb.extBut b o hb e) c0 c1 c3 c4 c5,rfl,q⟩⟩
theorem wF {i:Nat}{y:Str}{py spos:Pos}(hc:X.calm=true) (hN:X.N.Nodup) (hiy:X.N[i]?=some y) (hy:Loc X.env.scope y) (S:CompOk X scope N' t caps) (hi:Bx (PI X tg iter wi)) (hg:∀ b,Bx (PG (cxB X scope N' b) tg (g b))) (ht:∀ b,Bx (PTs (cxB X scope N' b) ifs (tc b))) (he:∀ b,Bx (PE (cxB X scope N' b) elt (te b))) (hsw:swapsWith (.ListComp elt [⟨tg,iter,ifs,0⟩] scope pos) (some (.Name y py)) spos.line X.env=pure true:=by rfl) (hs:∀ x,foldedSetIterable iter X.env x=pure x:=by intro _;rfl) (hf:X.fn y=true∨X.env.scope.names.lookup y=some .local:=by first | exact .inl rfl | exact .inr rfl | assumption):Bx (PS X (.Assign [.Name y py] (.ListComp elt [⟨tg,iter,ifs,0⟩] scope pos) spos) (zrV (zbv wi g tc te t caps) (Yr i))):=by
 have hi:=hi.of
 have hg:=fun x0=>(hg x0).of
 have ht:=fun x0=>(ht x0).of
 have he:=fun x0=>(he x0).of
 refine⟨?_⟩
 intro pins s σ H D' I h
 obtain⟨cl,L⟩:=YB (env:=X.env) (scope:=scope) fun y hy hf=>I.ok.has y.1 (xq ((S.at hy).2.2 hf))
 rw[exec_Assign_Name_used _ _ _ _ hsw]
 refine wpAny_bind (wpAny_standAt (wpAny_bind ?_))
 show wpAny _ X.A (comprehension (.ListComp elt [⟨tg,iter,ifs,0⟩] scope pos) scope X.env _ (newList []) false (eval iter X.env) (some (assign (.Name y py) X.env)) >>= fun _=>pure ()) _ _ s
 refine wpAny_bind (thn (Q:=fun _ s'=>SP X pins D' .next s') ?_ fun _ s' hq=>wpAny_pure (wpAny_pure hq))
 refine wpAny_comprehension_free (use:=some (assign (.Name y py) X.env)) rfl hs L.eq S.kind (fun y hy=>(S.at hy).2.1) (thn (hi pins s σ H _ I h) fun x s1 h1=>thn h1 fun itv s2 h2=>?_)
 obtain⟨it,fp,tn,J,H2,rfl,I2,T,st2,f2,R⟩:=h2
 refine thn (va hc S L hg ht he I2 T st2 f2 R) fun acc s3 h3=>thn h3 fun cenv s4 h4=>codeAny_mono h4 fun r s' hr=>?_
 obtain⟨D,H',m,rfl,rfl,I',hm,fC,q⟩:=hr
 obtain⟨c0,c1,c2,c3,c4,c5⟩:=fC
 show wpAny _ X.A (assign (.Name y py) X.env (.ref D)) _ _ _
 refine wpAny_assign_Name (wL I' hN hiy hy (show RelV (.ref D) (.ref D) from rfl) (fun s'' I'' hq0=>?_) hf)
 obtain⟨a,sb,ha⟩:=hq0
 have hne:cenv.locals≠a:=by
  rcases ha with z | z
  ·rw[z];exact c1
  ·exact fun z'=>c4 y a z z'.symm
 refine⟨m,hm.sameBut sb hne,fun h' sb'=>?_⟩
 exact⟨_,H',I''.turned (t':=s''.toks) (fun b o hb e=>sb'.extBut b o hb e) c0 c1 c3 c4 c5,q⟩
end
def zyL (i j:Int):Prop:=0<j∧j.natAbs.log2<9000
section
variable {X:Cx}
theorem yV:OpR X (binaryOp .FloorDiv) (rI zyL fun i j=>.int (i/j)):=opI fun i j _ _ _ _ _ hc q=>by
 have e:i.fdiv j=i/j:=Int.fdiv_eq_ediv_of_nonneg i (Int.le_of_lt hc.1)
 exact floordiv_int (Ne.symm (Int.ne_of_lt hc.1)) (by rw[e];exact q) (.inl (PyProof.noPylong_of_log2 hc.2))
def zrE:V→Option Value
 |.ty n=>some (.type n)
 |.ref a=>some (.ref a)
 |_=>none
theorem ur {c:V}{cv u:Value}(h:zrE c=some cv) (r:RelV c u):u=cv:=by
 cases c<;>simp[zrE] at h
 ·exact(show u=Value.ref _ from r).trans h
 ·exact(show u=Value.type _ from r).trans h
def zGR (K:PySem.W.Frag):List V→Hp→VK→Prop:=fun xs H Q=>∃ x c t cv b,xs=[x,c]∧zrE c=some cv∧TyOf K H x t∧PySem.W.kitOne K t cv=some b∧Q (.bl b) H
theorem zJ:yu X (.builtin "isinstance") (zGR X.K):=by
 intro pins s σ H xs us Q I r h
 obtain⟨x,c,t,cv,b,rfl,hc,ty,e,q⟩:=h
 obtain⟨u,v,rfl,r1,r2⟩:=r.two
 obtain rfl:=ur hc r2
 exact Yk I r1 ty e fun tk=>⟨.bl b,H,I.tok tk,rfl,q⟩
inductive EqD (K:PySem.W.Frag) (H:Hp):V→V→Bool→Nat→Prop where
 |flat {x y:V}{n:Nat}(fx:xa x=true) (fy:xa y=true):EqD K H x y (eqV x y) n
 |same {a:Addr}{n:Nat}:EqD K H (.ref a) (.ref a) true n
 |lst {a b:Addr}{xs ys:List V}{e:Nat→Bool}{n:Nat}(hne:a≠b) (ha:SqL K H a xs) (hb:SqL K H b ys) (hl:xs.length=ys.length) (h:∀ (j:Nat) x y,xs[j]?=some x→ys[j]?=some y→EqD K H x y (e j) n) :
   EqD K H (.ref a) (.ref b) ((List.range xs.length).all e) (n+1)
 |tup {a b:Addr}{xs ys:List V}{e:Nat→Bool}{n:Nat}(hne:a≠b) (ha:SqT K H a xs) (hb:SqT K H b ys) (hl:xs.length=ys.length) (h:∀ (j:Nat) x y,xs[j]?=some x→ys[j]?=some y→EqD K H x y (e j) n) :
   EqD K H (.ref a) (.ref b) ((List.range xs.length).all e) (n+1)
theorem xL (A:Around):A.in1.units=A.units+1:=rfl
theorem EqD.at {pins:List (Addr×Obj)}{σ:St}{H:Hp}{s:Shared}{x y:V}{b:Bool}{n:Nat}(I:Inv X pins σ H s) (h:EqD X.K H x y b n) :
  ∀ (A:Around) (u v:Value),A.units+n<cLine→RelV x u→RelV y v→SeqAt.EqAt A s u v b:=by
 induction h with
 |flat fx fy=>intro A u v _ rx ry;exact eqAt_V rx ry fx fy
 |same=>intro A u v _ rx ry;cases rx;cases ry;exact SeqAt.EqAt.same _
 | @lst a b xs ys e n hne ha hb hl h ih =>
  intro A u v hu rx ry
  cases rx;cases ry
  obtain⟨i1,r1,p1,_⟩:=I.list ha
  obtain⟨i2,r2,p2,_⟩:=I.list hb
  have l1:=r1.length
  have l2:=r2.length
  refine SeqAt.EqAt.of_refs hne ?_
  have q:=SeqAt.RcAt.lists (A:=A) (s:=s) (e:=e) p1.isList p2.isList (by simp;omega) (by omega) (fun j h1 h2=>?_)
  ·rw[List.size_toArray,← l1] at q
   exact q
  ·have g1:j<xs.length:=by rw[l1];simpa using h1
   have g2:j<ys.length:=by rw[l2];simpa using h2
   obtain⟨u1,e1,q1⟩:=r1.get (i:=j) (x:=xs[j]) (by simp[g1])
   obtain⟨u2,e2,q2⟩:=r2.get (i:=j) (x:=ys[j]) (by simp[g2])
   have f1:i1.toArray[j]=u1:=by
    have:=List.getElem?_eq_some_iff.mp e1
    obtain⟨_,z⟩:=this
    simpa using z
   have f2:i2.toArray[j]=u2:=by
    have:=List.getElem?_eq_some_iff.mp e2
    obtain⟨_,z⟩:=this
    simpa using z
   rw[f1,f2]
   exact ih j _ _ (by simp[g1]) (by simp[g2]) A.in1 u1 u2 (by rw[xL];omega) q1 q2
 | @tup a b xs ys e n hne ha hb hl h ih =>
  intro A u v hu rx ry
  cases rx;cases ry
  obtain⟨i1,r1,p1,_⟩:=I.tuple ha
  obtain⟨i2,r2,p2,_⟩:=I.tuple hb
  have l1:=r1.length
  have l2:=r2.length
  refine SeqAt.EqAt.of_refs hne ?_
  have q:=SeqAt.RcAt.tuples (A:=A) (s:=s) (e:=e) (show s.heap.IsTuple a i1.toArray from p1) (show s.heap.IsTuple b i2.toArray from p2) (by omega) (fun j h1 h2=>?_)
  ·have z:i1.toArray.size=i2.toArray.size:=by simp;omega
   rw[← z,Nat.min_self,beq_self_eq_true,Bool.and_true,List.size_toArray,← l1] at q
   exact q
  ·have g1:j<xs.length:=by rw[l1];simpa using h1
   have g2:j<ys.length:=by rw[l2];simpa using h2
   obtain⟨u1,e1,q1⟩:=r1.get (i:=j) (x:=xs[j]) (by simp[g1])
   obtain⟨u2,e2,q2⟩:=r2.get (i:=j) (x:=ys[j]) (by simp[g2])
   have f1:i1.toArray[j]=u1:=by
    have:=List.getElem?_eq_some_iff.mp e1
    obtain⟨_,z⟩:=this
    simpa using z
   have f2:i2.toArray[j]=u2:=by
    have:=List.getElem?_eq_some_iff.mp e2
    obtain⟨_,z⟩:=this
    simpa using z
   rw[f1,f2]
   exact ih j _ _ (by simp[g1]) (by simp[g2]) A.in1 u1 u2 (by rw[xL];omega) q1 q2
def zDO (K:PySem.W.Frag) (A:Around) (neg:Bool):R2:=fun x y H Q=>∃ (a b:Addr) (xs ys:List V) (e:Nat→Bool) (n:Nat),x=.ref a∧y=.ref b∧((SqL K H a xs∧SqL K H b ys)∨(SqT K H a xs∧SqT K H b ys))∧xs.length=ys.length ∧
 A.units+n+2<cLine∧(∀ (j:Nat) x y,xs[j]?=some x→ys[j]?=some y→EqD K H x y (e j) n)∧Q (.bl (if neg then !(List.range xs.length).all e else(List.range xs.length).all e)) H
theorem xo {pins:List (Addr×Obj)}{σ:St}{H:Hp}{s:Shared}{A:Around}{xs ys:List V}{i1 i2:List Value}{e:Nat→Bool}{n:Nat}(I:Inv X pins σ H s) (r1:Vals xs i1) (r2:Vals ys i2) (hu:A.units+n+2<cLine)
  (h:∀ (j:Nat) x y,xs[j]?=some x→ys[j]?=some y→EqD X.K H x y (e j) n):∀ (j:Nat) (h1:j<i1.toArray.size) (h2:j<i2.toArray.size),SeqAt.EqAt A.in1 s i1.toArray[j] i2.toArray[j] (e j):=fun j h1 h2=>by
 have g1:j<xs.length:=by rw[r1.length];simpa using h1
 have g2:j<ys.length:=by rw[r2.length];simpa using h2
 obtain⟨u1,e1,q1⟩:=r1.get (i:=j) (x:=xs[j]) (by simp[g1])
 obtain⟨u2,e2,q2⟩:=r2.get (i:=j) (x:=ys[j]) (by simp[g2])
 have f1:i1.toArray[j]=u1:=by
  obtain⟨_,z⟩:=List.getElem?_eq_some_iff.mp e1
  simpa using z
 have f2:i2.toArray[j]=u2:=by
  obtain⟨_,z⟩:=List.getElem?_eq_some_iff.mp e2
  simpa using z
 rw[f1,f2]
 exact(h j _ _ (by simp[g1]) (by simp[g2])).at I A.in1 u1 u2 (by rw[xL];omega) q1 q2
theorem Wn:OpR X (compareOp .Eq) (zDO X.K X.A false):=by
 intro pins s σ H x y v u Q I rx ry h
 obtain⟨a,b,xs,ys,e,n,rfl,rfl,hq,hl,hu,hi,q⟩:=h
 cases rx;cases ry
 rcases hq with⟨h1,h2⟩ | ⟨h1,h2⟩
 ·obtain⟨i1,r1,p1,_⟩:=I.list h1
  obtain⟨i2,r2,p2,_⟩:=I.list h2
  refine SeqAt.eq_listAt p1.isList p2.isList (by simp;rw[← r1.length,← r2.length,hl]) (by omega) (xo I r1 r2 hu hi) ⟨.bl _,H,I,rfl,?_⟩
  rw[List.size_toArray,← r1.length]
  exact q
 ·obtain⟨i1,r1,p1,_⟩:=I.tuple h1
  obtain⟨i2,r2,p2,_⟩:=I.tuple h2
  have z:i1.toArray.size=i2.toArray.size:=by simp;rw[← r1.length,← r2.length,hl]
  refine SeqAt.eq_tupleAt (show s.heap.IsTuple a i1.toArray from p1) (show s.heap.IsTuple b i2.toArray from p2) (by omega) (xo I r1 r2 hu hi) ⟨.bl _,H,I,rfl,?_⟩
  rw[← z,Nat.min_self,beq_self_eq_true,Bool.and_true,List.size_toArray,← r1.length]
  exact q
theorem wP:OpR X (compareOp .NotEq) (zDO X.K X.A true):=by
 intro pins s σ H x y v u Q I rx ry h
 obtain⟨a,b,xs,ys,e,n,rfl,rfl,hq,hl,hu,hi,q⟩:=h
 cases rx;cases ry
 rcases hq with⟨h1,h2⟩ | ⟨h1,h2⟩
 ·obtain⟨i1,r1,p1,_⟩:=I.list h1
  obtain⟨i2,r2,p2,_⟩:=I.list h2
  refine SeqAt.RcNeAt.lists p1.isList p2.isList (by simp;rw[← r1.length,← r2.length,hl]) (by omega) (xo I r1 r2 hu hi) _ _ _ _ ⟨.bl _,H,I,rfl,?_⟩
  rw[List.size_toArray,← r1.length]
  exact q
 ·obtain⟨i1,r1,p1,_⟩:=I.tuple h1
  obtain⟨i2,r2,p2,_⟩:=I.tuple h2
  have z:i1.toArray.size=i2.toArray.size:=by simp;rw[← r1.length,← r2.length,hl]
  refine SeqAt.RcNeAt.tuples (show s.heap.IsTuple a i1.toArray from p1) (show s.heap.IsTuple b i2.toArray from p2) (by omega) (xo I r1 r2 hu hi) _ _ _ _ ⟨.bl _,H,I,rfl,?_⟩
  rw[← z,Nat.min_self,beq_self_eq_true,Bool.and_true,List.size_toArray,← r1.length]
  exact q
end
structure Callee (P:Program) (w:World) (K:PySem.W.Frag) (mg:Str→Option Value) (base:Heap) (x:Str) (f:Addr) (fd:FuncData) (ps:List Str) (k:Nat) (sp:Sp):Prop where
 ok:FnOk P w K mg base CX0 k f fd ps sp
 g:mg x=some (.ref f)
 kp:PySem.W.keepIn K (.ref f)=true
 b:Binds K fd ps []
structure Maker (P:Program) (w:World) (K:PySem.W.Frag) (mg:Str→Option Value) (base:Heap) (x:Str) (C f:Addr) (fd:FuncData) (ps:List Str) (k:Nat) (sp:Sp):Prop where
 ok:FnOk P w K mg base CX0 k f fd ps sp
 g:mg x=some (.ref C)
 mm:Mk K C f
 b:Binds K fd ps []
section
variable {X:Cx}{k:Nat}{f C:Addr}{fd:FuncData}{ps:List Str}{sp:Sp}{x m:Str}{p pos apos:Pos}{e o:Expr}{es:List Expr}{ta:TE}{t:TA}
theorem zk (c:Callee X.prog X.w X.K X.mg X.base x f fd ps k sp) (hr:Room k X.A) (ha:Bx (PA X (e::es) t)) (hg:Gl X x:=by rfl) (hdb:(x == ("__debug__" : Str))=false:=by decide) (he:starEach (e::es) X.env=(false,eval e X.env)::starEach es X.env:=by rfl) (hpl:(backTo pos (starEach es X.env)).any (·.1)=false:=by rfl):Bx (PE X (.Call (.Name x p) (e::es) [] pos) (zbw sp [] E0 t)):=by
 have ha:=ha.of
 exact⟨UB c.ok hr hg c.g c.kp c.b .nil Xk ha hdb he hpl⟩
theorem yU (c:Maker X.prog X.w X.K X.mg X.base x C f fd ps k sp) (hr:Room (k+1) X.A) (ha:Bx (PA X (e::es) t)) (hg:Gl X x:=by rfl) (hdb:(x == ("__debug__" : Str))=false:=by decide) (he:starEach (e::es) X.env=(false,eval e X.env)::starEach es X.env:=by rfl) (hpl:(backTo pos (starEach es X.env)).any (·.1)=false:=by rfl):Bx (PE X (.Call (.Name x p) (e::es) [] pos) (zbp C sp [] E0 t)):=by
 have ha:=ha.of
 exact⟨UA c.mm c.ok hr hg c.g c.b .nil Xk ha hdb he hpl⟩
def v0 (X:Cx) (m:Str) (ta:TE) (t:TA):TE:=fun σ H Q=>ta σ H fun x H1=>∃ (a C dx:Addr) (fs:List (Str×V)) (f:Addr) (fd:FuncData) (ps:List Str) (k:Nat) (sp:Sp),x=.ref a∧H1 a=some (.ins C dx fs)∧fs.lookup m=none∧Cls X.K C∧Meth X.K C m f ∧
 FnOk X.prog X.w X.K X.mg X.base CX0 k f fd ps sp∧Room k X.A∧Binds X.K fd ps []∧t σ H1 fun vs H2=>sp (x::(vs++[])) H2 Q E0
theorem Xj {pl:Sem Bool}(he:PE X o ta) (ha:PA X (e::es) t)
  (hst:starEach (e::es) X.env=(false,eval e X.env)::starEach es X.env:=by rfl) (hpl:(backTo pos (starEach es X.env)).any (·.1)=false:=by rfl)
  (ht:eval (.Call (.Attribute o m apos) (e::es) [] pos) X.env=(do
   let ov ← eval o X.env
   standAt apos.atName
   let (f,first) ← holding [ov] (getMethod ov m pl)
   callWith pos f first (backTo pos (starEach (e::es) X.env)) (backToKw pos (keywordEach [] X.env))):=by rfl) :
  PE X (.Call (.Attribute o m apos) (e::es) [] pos) (v0 X m ta t):=by
 intro pins s σ H Q I h
 refine PySem.W.methodCall_KW (pl:=pl) (thn (he pins s σ H _ I h) fun u s1 hq0=>?_) ht
 obtain⟨x,H1,I1,rx,a,C,dx,fs,f,fd,ps,k,sp,ex,ea,l,cl,hm,F,hr,hb,q⟩:=hq0
 subst ex
 obtain rfl:u=Value.ref a:=rx
 refine yr I1 ea cl hm l ?_
 refine PySem.W.callWith_K (first:=[.ref a]) (h₀:=X.base) I.ok.mod.kin hm.kp (thn (ha pos pins s1 σ H1 _ I1 q) fun us s2 ⟨vs,H2,I2,r,q2⟩=>⟨I2.kIn,?_⟩) hst hpl
 exact uc (us:=.ref a::us) (vs:=.ref a::vs) F hr hb .nil Xk I2 (.cons rfl r) q2
theorem ZL {pl:Sem Bool}(he:PE X o ta)
  (ht:eval (.Call (.Attribute o m apos) [] [] pos) X.env=(do
   let ov ← eval o X.env
   standAt apos.atName
   let (f,first) ← holding [ov] (getMethod ov m pl)
   callWith pos f first (backTo pos (starEach [] X.env)) (backToKw pos (keywordEach [] X.env))):=by rfl) :
  PE X (.Call (.Attribute o m apos) [] [] pos) (v0 X m ta zrO):=by
 intro pins s σ H Q I h
 refine PySem.W.methodCall_KW (pl:=pl) (thn (he pins s σ H _ I h) fun u s1 hq0=>?_) ht
 obtain⟨x,H1,I1,rx,a,C,dx,fs,f,fd,ps,k,sp,ex,ea,l,cl,hm,F,hr,hb,q⟩:=hq0
 subst ex
 obtain rfl:u=Value.ref a:=rx
 refine yr I1 ea cl hm l ?_
 exact PySem.W.callWith_K0 (first:=[.ref a]) I1.kIn hm.kp (uc (us:=[.ref a]) (vs:=[.ref a]) F hr hb .nil Xk I1 (.cons rfl .nil) q)
end
section
variable {X:Cx}{pins:List (Addr×Obj)}{σ:St}{H:Hp}{s:Shared}{a b:Addr}{xs ys:List V}
theorem Inv.turnedLaid {h':Heap}{t':Nat}{ch:List Addr}{T:Addr}{o:HO}(I:Inv X pins σ H s) (hf:∀ b∈ch,FpOk X pins H b) (k:∀ b u,b∉ch→s.heap.get? b=some u→h'.get? b=some u) (hT:s.heap.objs.size≤T)
  (new:ObjOk X.prog X.w (upd H T o) h' T o):Inv X pins σ (upd H T o) { s with heap:=h',toks:=t' }:=by
 have hn:H T=none:=I.hok.fresh hT
 have nch:∀ b u,H b=some u→b∉ch:=fun b u e hb=>by rw[(hf b hb).1] at e;cases e
 have neT:∀ b u,s.heap.get? b=some u→b≠T:=fun b u e=>Nat.ne_of_lt (Nat.lt_of_lt_of_le (Heap.lt_size e) hT)
 refine I.step (g':=s.gens) (d':=s.drawn) (ch:=ch) (fun b hb=>?_) (fun b u _ _ hc e _=>k b u hc e) (fun b u _ _ hc e _=>⟨u.slots,k b u hc e⟩) (fun b u _ e n=>?_) (fun b u hc e=>⟨u,k b u hc e⟩)
  (fun b zs e=>?_) (fun b ob u e=>?_) (fun b ps e=>⟨#[],?_⟩) (fun m hm=>?_) (fun b u e=>?_) I.bare
 ·exact⟨(hf b hb).2.2.2.1,(hf b hb).2.1,(hf b hb).2.2.2.2.1,(hf b hb).2.2.2.2.2⟩
 ·rw[ze (neT b u e)];exact n
 ·rw[ze (ne_of_none e hn)];exact e
 ·rw[ze (ne_of_none e hn)];exact e
 ·rw[ze (ne_of_none e hn),e];simp
 ·obtain⟨ob,es,ep,ho,r⟩:=hm
  exact⟨ob,es,ep,k _ ob (fun hb=>(hf _ hb).2.1 rfl) ho,r⟩
 ·by_cases hb:b=T
  ·subst hb
   rw[upd_same] at e
   cases e
   exact new
  ·rw[ze hb] at e
   refine(I.hok b u e).stay (fun c v hc q=>k c v ?_ q) (fun c q=>by rw[ze (ne_of_none q hn)];exact q) fun c zs q=>by rw[ze (ne_of_none q hn)];exact q
   rcases hc with z | z
   ·rw[z];exact nch b u e
   ·exact nch c _ z
end
theorem zS {X:Cx}{x:Str}{C:Addr}{pos:Pos}(hm:X.mg x=some (.ref C)) (hg:Gl X x:=by rfl) (hd:(x == ("__debug__" : Str))=false:=by decide):Bx (PE X (.Name x pos) (tC (.ref C))):=by
 exact⟨ZM hg hm rfl hd⟩
theorem zT {X:Cx}{x:Str}{n:String}{pos:Pos}(hm:X.mg x=none) (hv:bootBuiltins x=some (.type n)) (hg:Gl X x:=by rfl) (hn:x ≠ "__name__" := by decide) (hd:(x == ("__debug__" : Str))=false:=by decide):Bx (PE X (.Name x pos) (tC (.ty n))):=by
 exact⟨UC hg hm hv rfl hn hd⟩
theorem ym:bootBuiltins "len" = some (.builtin "len"):=by decide +kernel
theorem YK:bootBuiltins "int" = some (.type "int"):=by decide +kernel
theorem bt_min:bootBuiltins "min" = some (.builtin "min"):=by decide +kernel
theorem bt_max:bootBuiltins "max" = some (.builtin "max"):=by decide +kernel
theorem zm:bootBuiltins "isinstance" = some (.builtin "isinstance"):=by decide +kernel
theorem yS:bootBuiltins "list" = some (.type "list"):=by decide +kernel
theorem vR:bootBuiltins "dict" = some (.type "dict"):=by decide +kernel
theorem zpv:bootBuiltins "abs" = some (.builtin "abs"):=by decide +kernel
theorem zM:bootBuiltins "sorted" = some (.builtin "sorted"):=by decide +kernel
theorem YJ:bootBuiltins "str" = some (.type "str"):=by decide +kernel
theorem YI:bootBuiltins "sum" = some (.builtin "sum"):=by decide +kernel
theorem YM:bootBuiltins "bool" = some (.type "bool"):=by decide +kernel
theorem uv:bootBuiltins "tuple" = some (.type "tuple"):=by decide +kernel
theorem wB:bootBuiltins "ValueError" = some (.type "ValueError"):=by decide +kernel
theorem yQ {ns:LI}{i:Nat}(h:i<ns.length):ns.getD i 0=ns[i]:=by simp[List.getD,h]
theorem xu {ns:LI}{its:List Value}(r:Vals (ns.map V.int) its){i:Nat}{v:Value}(e:its.toArray[i]?=some v):∃ t,v=.int (ns.getD i 0) t:=by
 have e':its[i]?=some v:=by simpa using e
 have hi:i<its.length:=(List.getElem?_eq_some_iff.mp e').1
 have hl:=r.length
 rw[List.length_map] at hl
 have hb:i<ns.length:=by omega
 obtain⟨u,e2,ru⟩:=r.get (i:=i) (x:=V.int ns[i]) (by simp[hb])
 rw[e'] at e2
 cases e2
 obtain⟨t,rfl⟩:=ru
 exact⟨t,by rw[yQ hb]⟩
theorem vT (val:Nat→Int):∀ k,argBest (fun i j=>decide (val i>val j)) k≤k∧∀ j,j≤k→val j≤val (argBest (fun i j=>decide (val i>val j)) k)
 |0=>⟨Nat.le_refl _,fun j hj=>by rw[Nat.le_zero.mp hj];exact Int.le_refl _⟩
 |k+1=>by
  obtain⟨h1,h2⟩:=vT val k
  show(if decide (val (k+1)>val (argBest _ k))=true then k+1 else argBest _ k)≤k+1∧∀ j,j≤k+1→val j≤val (if decide (val (k+1)>val (argBest _ k))=true then k+1 else argBest _ k)
  by_cases q:val (k+1)>val (argBest (fun i j=>decide (val i>val j)) k)
  ·rw[if_pos (decide_eq_true q)]
   refine⟨Nat.le_refl _,fun j hj=>?_⟩
   by_cases e:j=k+1
   ·rw[e];exact Int.le_refl _
   ·have:=h2 j (by omega)
    omega
  ·rw[if_neg (fun z=>q (of_decide_eq_true z))]
   refine⟨Nat.le_succ_of_le h1,fun j hj=>?_⟩
   by_cases e:j=k+1
   ·rw[e];omega
   ·exact h2 j (by omega)
theorem YN (val:Nat→Int):∀ k,argBest (fun i j=>decide (val i<val j)) k≤k∧∀ j,j≤k→val (argBest (fun i j=>decide (val i<val j)) k)≤val j
 |0=>⟨Nat.le_refl _,fun j hj=>by rw[Nat.le_zero.mp hj];exact Int.le_refl _⟩
 |k+1=>by
  obtain⟨h1,h2⟩:=YN val k
  show(if decide (val (k+1)<val (argBest _ k))=true then k+1 else argBest _ k)≤k+1∧∀ j,j≤k+1→val (if decide (val (k+1)<val (argBest _ k))=true then k+1 else argBest _ k)≤val j
  by_cases q:val (k+1)<val (argBest (fun i j=>decide (val i<val j)) k)
  ·rw[if_pos (decide_eq_true q)]
   refine⟨Nat.le_refl _,fun j hj=>?_⟩
   by_cases e:j=k+1
   ·rw[e];exact Int.le_refl _
   ·have:=h2 j (by omega)
    omega
  ·rw[if_neg (fun z=>q (of_decide_eq_true z))]
   refine⟨Nat.le_succ_of_le h1,fun j hj=>?_⟩
   by_cases e:j=k+1
   ·rw[e];omega
   ·exact h2 j (by omega)
abbrev bst (u:Value) (c:Nat):Obj:={ cls:=.type "list",data:=.seq #[u,u] c }
section
variable {P:Program}{w:World}{A:Around}{R:Result→Shared→Prop}{I S:Addr}{fp wr:List Addr}{n:Nat}{Is:Nat→Value→Prop}{St:Nat→Heap→Prop}{kw:List (Str×Value)}
theorem Ya (W:Walks P w A.in1 I fp wr n Is St) (bt:Nat→Nat→Bool) (cm:CmpOf P w A.in1 .Gt Is bt) (nf:S∉fp):∀ (r j:Nat) (t:Shared) (u:Value) (c:Nat),n=j+1+r→St (j+1) t.heap→Is (argBest bt j) u→t.heap.get? S=some (bst u c) →
  (∀ v h' tk,Is (argBest bt (n-1)) v→(∀ b o,b∉wr→b≠S→t.heap.get? b=some o→h'.get? b=some o)→R (.ok (.ret v)) { t with heap:=h',toks:=tk })→codeAny (model P w) A (.builtin "max.loop" ⟨[.ref I,.none,.ref S],kw⟩) R t:=by
 have nw:S∉wr:=fun z=>nf (W.sub _ z)
 have nm:(toString "max" ++ toString ".loop" : String) = "max.loop" := by decide
 intro r
 induction r with
 |zero =>
  intro j t u c hn st iu at_ fin
  subst hn
  refine codeAny_builtin F.entry_max_loop (by
   rw[Around.under_plainId F.plain_max_loop _]
   show wpAny _ A.in1 (seqItems? (.ref S) >>= _) _ _ t
   refine wpAny_bind (wpAny_seqItems at_ rfl (by
    show wpAny _ A.in1 (tryCatch (pyNext (.ref I)) _ >>= _) _ _ t
    refine wpAny_bind (wpAny_tryCatch (W.done t _ _ st fun h1 tk kk=>?_))
    show wpAny _ A.in1 (updateSeq S (fun _=>#[]) >>= _) _ _ _
    refine wpAny_bind (wpAny_updateSeq (kk S _ nw at_) rfl (wpAny_bind (wpAny_letGo (wpAny_pure ?_))))
    exact fin u _ tk iu fun b o n1 n2 e=>(Heap.get?_update_other _ _ n2.symm).trans (kk b o n1 e))))
 |succ r ih =>
  intro j t u c hn st iu at_ fin
  refine codeAny_builtin F.entry_max_loop (by
   rw[Around.under_plainId F.plain_max_loop _]
   show wpAny _ A.in1 (seqItems? (.ref S) >>= _) _ _ t
   refine wpAny_bind (wpAny_seqItems at_ rfl (by
    show wpAny _ A.in1 (tryCatch (pyNext (.ref I)) _ >>= _) _ _ t
    refine wpAny_bind (wpAny_tryCatch (W.item (j+1) t _ _ (by omega) st fun v h1 tk iv st1 kk=>?_))
    have at1:=kk S _ nw at_
    show wpAny _ A.in1 (tryCatch (holding [v,v] (richCompare .Gt v u >>= _)) _ >>= _) _ _ _
    refine wpAny_bind (wpAny_tryCatch (wpAny_holding (wpAny_bind (cm (j+1) (argBest bt j) v u _ _ _ iv iu (wpAny_bind (wpAny_holding (wpAny_truthy_bool (wpAny_bind (wpAny_letGo (wpAny_pure ?_))))))))))
    by_cases q:bt (j+1) (argBest bt j)=true
    ·have ab:argBest bt (j+1)=j+1:=by show(if bt (j+1) (argBest bt j)=true then j+1 else argBest bt j)=_;rw[if_pos q]
     rw[if_pos q]
     refine wpAny_bind (wpAny_updateSeq at1 rfl (wpAny_bind (wpAny_letGo ?_)))
     rw[nm]
     refine wpAny_pure ⟨plainId_quiet F.plain_max_loop _,ih (j+1) _ v _ (by omega) (W.frame _ _ _ st1 fun b hb o e=>(Heap.get?_update_other _ _ fun z:S=b=>nf (z ▸ hb)).trans e) (by rw[ab];exact iv) (Heap.get?_update_self _ at1 rfl) fun v2 h2 tk2 iv2 kk2=>?_⟩
     exact fin v2 h2 tk2 iv2 fun b o n1 n2 e=>kk2 b o n1 n2 ((Heap.get?_update_other _ _ n2.symm).trans (kk b o n1 e))
    ·have ab:argBest bt (j+1)=argBest bt j:=by show(if bt (j+1) (argBest bt j)=true then j+1 else argBest bt j)=_;rw[if_neg q]
     rw[if_neg q]
     refine wpAny_bind (wpAny_letGo ?_)
     rw[nm]
     exact wpAny_pure ⟨plainId_quiet F.plain_max_loop _,ih (j+1) _ u c (by omega) st1 (by rw[ab];exact iu) at1 fun v2 h2 tk2 iv2 kk2=>fin v2 h2 tk2 iv2 fun b o n1 n2 e=>kk2 b o n1 n2 (kk b o n1 e)⟩)))
theorem Xy {d:Value}{x:Str}(W:Walks P w A.in1 I fp wr n Is St) (bt:Nat→Nat→Bool) (cm:CmpOf P w A.in1 .Gt Is bt) (nf:S∉fp){t:Shared}{c:Nat}(st:St 0 t.heap)
  (at_:t.heap.get? S=some { cls:=.type "list",data:=.seq #[] c }) (fin:∀ v h' tk,((n=0∧v=d)∨(0<n∧Is (argBest bt (n-1)) v))→(∀ b o,b∉wr→b≠S→t.heap.get? b=some o→h'.get? b=some o)→R (.ok (.ret v)) { t with heap:=h',toks:=tk }) :
  codeAny (model P w) A (.builtin "max.loop" ⟨[.ref I,.none,.ref S],[(x,d)]⟩) R t:=by
 have nw:S∉wr:=fun z=>nf (W.sub _ z)
 have nm:(toString "max" ++ toString ".loop" : String) = "max.loop" := by decide
 refine codeAny_builtin F.entry_max_loop (by
  rw[Around.under_plainId F.plain_max_loop _]
  show wpAny _ A.in1 (seqItems? (.ref S) >>= _) _ _ t
  refine wpAny_bind (wpAny_seqItems at_ rfl (by
   show wpAny _ A.in1 (tryCatch (pyNext (.ref I)) _ >>= _) _ _ t
   by_cases hn:n=0
   ·subst hn
    refine wpAny_bind (wpAny_tryCatch (W.done t _ _ st fun h1 tk kk=>?_))
    show wpAny _ A.in1 (rule _ >>= _) _ _ _
    exact wpAny_bind (wpAny_rule (wpAny_pure (fin d h1 tk (.inl ⟨rfl,rfl⟩) fun b o n1 _ e=>kk b o n1 e)))
   ·refine wpAny_bind (wpAny_tryCatch (W.item 0 t _ _ (by omega) st fun v h1 tk iv st1 kk=>?_))
    have at1:=kk S _ nw at_
    show wpAny _ A.in1 (updateSeq S (fun _=>#[v,v]) >>= _) _ _ _
    refine wpAny_bind (wpAny_updateSeq at1 rfl ?_)
    rw[nm]
    refine wpAny_pure ⟨plainId_quiet F.plain_max_loop _,Ya W bt cm nf (n-1) 0 _ v _ (by omega) (W.frame _ _ _ st1 fun b hb o e=>(Heap.get?_update_other _ _ fun z:S=b=>nf (z ▸ hb)).trans e) iv (Heap.get?_update_self _ at1 rfl) fun v2 h2 tk2 iv2 kk2=>?_⟩
    exact fin v2 h2 tk2 (.inr ⟨by omega,iv2⟩) fun b o n1 n2 e=>kk2 b o n1 n2 ((Heap.get?_update_other _ _ n2.symm).trans (kk b o n1 e)))))
theorem YR (a v:Value):argsOk "max" ⟨[a],[(Str.ofString "default",v)]⟩:=by unfold argsOk;kernel_rfl
theorem vF {l:Addr}{its:List Value}{ns:LI}{d:Value}{Q:Value→Shared→Prop}{E:Value→Shared→Prop}{s:Shared}(hh:A.handled=none) (hl:s.heap.IsList l its.toArray) (hr:Vals (ns.map V.int) its)
  (h:∀ v h' tk,((ns=[]∧v=d)∨∃ m t,v=.int m t∧m∈ns∧∀ y∈ns,y≤m)→(∀ b o,s.heap.get? b=some o→h'.get? b=some o)→Q v { s with heap:=h',toks:=tk }) :
  wpAny (model P w) A (call (.builtin "max") [.ref l] [(Str.ofString "default",d)]) Q E s:=by
 have nm:(toString "max" ++ toString ".loop" : String) = "max.loop" := by decide
 have lt:l<s.heap.objs.size:=by
  obtain⟨_,e,_⟩:=hl
  exact Heap.lt_size e
 have len:its.toArray.size=ns.length:=by
  have:=hr.length
  rw[List.length_map] at this
  simp[this]
 refine PyProof.Rows.kmk_tree F.kind_max F.plain_max F.entry_max (YR _ _) (by
  show wpAny _ A.in1 (Builtin.Builtins.bindParams "max" ["key", "default"] 0 ⟨[],[(Str.ofString "default",d)]⟩ >>= _) _ _ s
  refine wpAny_bind (wpAny_of_eq (show Builtin.Builtins.bindParams "max" ["key", "default"] 0 ⟨[],[(Str.ofString "default",d)]⟩=pure [none,some d] from rfl) (wpAny_bind (wpAny_pure (wpAny_bind (wpAny_pyIter_list hl (wpAny_bind (wpAny_newObj_type ?_)))))))
  rw[nm]
  have W:=Walks.list (prog:=P) (w:=w) (A:=A.in1) hh s.heap.objs.size l (Nat.ne_of_lt lt) its.toArray
  have st:((s.heap.push { cls:=.type "list_iterator",data:=.fields #[.ref l,.int 0 0] }).IsListIter s.heap.objs.size l 0∧(s.heap.push { cls:=.type "list_iterator",data:=.fields #[.ref l,.int 0 0] }).IsList l its.toArray):=⟨⟨_,Heap.get?_push_size _ rfl,rfl,rfl⟩,hl.push _⟩
  have cm:=CmpOf.ints_gt (prog:=P) (w:=w) (A:=A.in1) (fun i=>ns.getD i 0) (fun i v e=>xu hr e)
  have nf:(s.heap.push { cls:=.type "list_iterator",data:=.fields #[.ref l,.int 0 0] }).objs.size∉[s.heap.objs.size,l]:=by
   intro z
   rw[Heap.size_push] at z
   rcases List.mem_cons.mp z with e | e
   ·exact Nat.succ_ne_self _ e
   ·exact Nat.lt_irrefl _ (Nat.lt_trans (Nat.lt_succ_self _) ((List.mem_singleton.mp e).symm ▸ lt))
  refine wpAny_pure ⟨plainId_quiet F.plain_max_loop _,Xy (c:=0) W _ cm nf (W.frame _ _ _ st fun b _ o e=>Heap.get?_push_of_some _ e) (Heap.get?_push_size _ rfl) fun v h' tk hv kk=>?_⟩
  refine h v h' tk ?_ fun b o e=>kk b o (fun z=>?_) (fun z=>?_) (Heap.get?_push_of_some _ (Heap.get?_push_of_some _ e))
  ·rcases hv with⟨z,e⟩ | ⟨z,e⟩
   ·left
    exact⟨List.eq_nil_of_length_eq_zero (by omega),e⟩
   ·right
    obtain⟨t,et⟩:=xu hr e
    have hb:=vT (fun i=>ns.getD i 0) (its.toArray.size-1)
    refine⟨_,t,et,?_,fun y hy=>?_⟩
    ·have hi:=hb.1
     rw[yQ (by omega)]
     exact List.getElem_mem _
    ·obtain⟨i,hi,rfl⟩:=List.mem_iff_getElem.mp hy
     have:=hb.2 i (by omega)
     rw[show(ns.getD i 0)=ns[i] from yQ hi] at this
     exact this
  ·rw[List.mem_singleton.mp z] at e
   exact Nat.lt_irrefl _ (Heap.lt_size e)
  ·have z2:b=s.heap.objs.size+1:=z.trans (Heap.size_push _ _)
   exact Nat.lt_irrefl _ (Nat.lt_trans (Nat.lt_succ_self _) (z2 ▸ Heap.lt_size e)))
def zrR (K:PySem.W.Frag) (ta:TA) (td:TE):TE:=fun σ H Q=>ta σ H fun vs H1=>td σ H1 fun dv H2=>∃ a ns i,vs=[V.ref a]∧dv=.int i∧SqL K H2 a (ns.map V.int)∧∀ m:Int,((ns=[]∧m=i)∨(m∈ns∧∀ y∈ns,y≤m))→Q (.int m) H2
theorem Zc {X:Cx}{e dv:Expr}{ta:TA}{td:TE}{p kp pos:Pos}(hc:X.calm=true) (hg:Gl X "max") (hm:X.mg "max" = none) (ha:Bx (PA X [e] ta)) (hd:Bx (PE X dv td)) (hs:starEach [e] X.env=[(false,eval e X.env)]:=by rfl):Bx (PE X (.Call (.Name "max" p) [e] [⟨some "default",dv,kp⟩] pos) (zrR X.K ta td)):=by
 have ha:=ha.of
 have hd:=hd.of
 refine⟨?_⟩
 intro pins s σ H Q I h
 refine wpAny_Call_Name_kw (ld_blt I hg hm bt_max ?_)
 refine PyProof.Rows.callWith_kw (thn (ha pos pins s σ H _ I h) fun us s1 ⟨vs,H1,I1,r1,q1⟩=>PyProof.Rows.kws_cons (thn (hd pins s1 σ H1 _ I1 q1) fun u s2 ⟨y,H2,I2,r2,q2⟩=>PyProof.Rows.kws_nil ?_)) (by rw[hs];rfl) (by rw[hs];rfl)
 obtain⟨a,ns,i,rfl,rfl,hl,q⟩:=q2
 obtain⟨z,rfl,rz⟩:=r1.one
 cases rz
 obtain⟨tk0,rfl⟩:=r2
 obtain⟨its,rv,pl,_⟩:=I2.list hl
 refine vF (I2.ok.hd hc) pl.isList rv fun v h' tk hv kk=>?_
 rcases hv with⟨e1,rfl⟩ | ⟨m,t,rfl,hm⟩
 ·exact⟨.int i,H2,I2.kept (t':=tk) kk,⟨_,rfl⟩,q i (.inl ⟨e1,rfl⟩)⟩
 ·exact⟨.int m,H2,I2.kept (t':=tk) kk,⟨_,rfl⟩,q m (.inr hm)⟩
theorem zaC (W:Walks P w A.in1 I fp wr n Is St) (bt:Nat→Nat→Bool) (cm:CmpOf P w A.in1 .Lt Is bt) (nf:S∉fp):∀ (r j:Nat) (t:Shared) (u:Value) (c:Nat),n=j+1+r→St (j+1) t.heap→Is (argBest bt j) u→t.heap.get? S=some (bst u c) →
  (∀ v h' tk,Is (argBest bt (n-1)) v→(∀ b o,b∉wr→b≠S→t.heap.get? b=some o→h'.get? b=some o)→R (.ok (.ret v)) { t with heap:=h',toks:=tk })→codeAny (model P w) A (.builtin "min.loop" ⟨[.ref I,.none,.ref S],kw⟩) R t:=by
 have nw:S∉wr:=fun z=>nf (W.sub _ z)
 have nm:(toString "min" ++ toString ".loop" : String) = "min.loop" := by decide
 intro r
 induction r with
 |zero =>
  intro j t u c hn st iu at_ fin
  subst hn
  refine codeAny_builtin F.entry_min_loop (by
   rw[Around.under_plainId F.plain_min_loop _]
   show wpAny _ A.in1 (seqItems? (.ref S) >>= _) _ _ t
   refine wpAny_bind (wpAny_seqItems at_ rfl (by
    show wpAny _ A.in1 (tryCatch (pyNext (.ref I)) _ >>= _) _ _ t
    refine wpAny_bind (wpAny_tryCatch (W.done t _ _ st fun h1 tk kk=>?_))
    show wpAny _ A.in1 (updateSeq S (fun _=>#[]) >>= _) _ _ _
    refine wpAny_bind (wpAny_updateSeq (kk S _ nw at_) rfl (wpAny_bind (wpAny_letGo (wpAny_pure ?_))))
    exact fin u _ tk iu fun b o n1 n2 e=>(Heap.get?_update_other _ _ n2.symm).trans (kk b o n1 e))))
 |succ r ih =>
  intro j t u c hn st iu at_ fin
  refine codeAny_builtin F.entry_min_loop (by
   rw[Around.under_plainId F.plain_min_loop _]
   show wpAny _ A.in1 (seqItems? (.ref S) >>= _) _ _ t
   refine wpAny_bind (wpAny_seqItems at_ rfl (by
    show wpAny _ A.in1 (tryCatch (pyNext (.ref I)) _ >>= _) _ _ t
    refine wpAny_bind (wpAny_tryCatch (W.item (j+1) t _ _ (by omega) st fun v h1 tk iv st1 kk=>?_))
    have at1:=kk S _ nw at_
    show wpAny _ A.in1 (tryCatch (holding [v,v] (richCompare .Lt v u >>= _)) _ >>= _) _ _ _
    refine wpAny_bind (wpAny_tryCatch (wpAny_holding (wpAny_bind (cm (j+1) (argBest bt j) v u _ _ _ iv iu (wpAny_bind (wpAny_holding (wpAny_truthy_bool (wpAny_bind (wpAny_letGo (wpAny_pure ?_))))))))))
    by_cases q:bt (j+1) (argBest bt j)=true
    ·have ab:argBest bt (j+1)=j+1:=by show(if bt (j+1) (argBest bt j)=true then j+1 else argBest bt j)=_;rw[if_pos q]
     rw[if_pos q]
     refine wpAny_bind (wpAny_updateSeq at1 rfl (wpAny_bind (wpAny_letGo ?_)))
     rw[nm]
     refine wpAny_pure ⟨plainId_quiet F.plain_min_loop _,ih (j+1) _ v _ (by omega) (W.frame _ _ _ st1 fun b hb o e=>(Heap.get?_update_other _ _ fun z:S=b=>nf (z ▸ hb)).trans e) (by rw[ab];exact iv) (Heap.get?_update_self _ at1 rfl) fun v2 h2 tk2 iv2 kk2=>?_⟩
     exact fin v2 h2 tk2 iv2 fun b o n1 n2 e=>kk2 b o n1 n2 ((Heap.get?_update_other _ _ n2.symm).trans (kk b o n1 e))
    ·have ab:argBest bt (j+1)=argBest bt j:=by show(if bt (j+1) (argBest bt j)=true then j+1 else argBest bt j)=_;rw[if_neg q]
     rw[if_neg q]
     refine wpAny_bind (wpAny_letGo ?_)
     rw[nm]
     exact wpAny_pure ⟨plainId_quiet F.plain_min_loop _,ih (j+1) _ u c (by omega) st1 (by rw[ab];exact iu) at1 fun v2 h2 tk2 iv2 kk2=>fin v2 h2 tk2 iv2 fun b o n1 n2 e=>kk2 b o n1 n2 (kk b o n1 e)⟩)))
theorem Xw {d:Value}{x:Str}(W:Walks P w A.in1 I fp wr n Is St) (bt:Nat→Nat→Bool) (cm:CmpOf P w A.in1 .Lt Is bt) (nf:S∉fp){t:Shared}{c:Nat}(st:St 0 t.heap)
  (at_:t.heap.get? S=some { cls:=.type "list",data:=.seq #[] c }) (fin:∀ v h' tk,((n=0∧v=d)∨(0<n∧Is (argBest bt (n-1)) v))→(∀ b o,b∉wr→b≠S→t.heap.get? b=some o→h'.get? b=some o)→R (.ok (.ret v)) { t with heap:=h',toks:=tk }) :
  codeAny (model P w) A (.builtin "min.loop" ⟨[.ref I,.none,.ref S],[(x,d)]⟩) R t:=by
 have nw:S∉wr:=fun z=>nf (W.sub _ z)
 have nm:(toString "min" ++ toString ".loop" : String) = "min.loop" := by decide
 refine codeAny_builtin F.entry_min_loop (by
  rw[Around.under_plainId F.plain_min_loop _]
  show wpAny _ A.in1 (seqItems? (.ref S) >>= _) _ _ t
  refine wpAny_bind (wpAny_seqItems at_ rfl (by
   show wpAny _ A.in1 (tryCatch (pyNext (.ref I)) _ >>= _) _ _ t
   by_cases hn:n=0
   ·subst hn
    refine wpAny_bind (wpAny_tryCatch (W.done t _ _ st fun h1 tk kk=>?_))
    show wpAny _ A.in1 (rule _ >>= _) _ _ _
    exact wpAny_bind (wpAny_rule (wpAny_pure (fin d h1 tk (.inl ⟨rfl,rfl⟩) fun b o n1 _ e=>kk b o n1 e)))
   ·refine wpAny_bind (wpAny_tryCatch (W.item 0 t _ _ (by omega) st fun v h1 tk iv st1 kk=>?_))
    have at1:=kk S _ nw at_
    show wpAny _ A.in1 (updateSeq S (fun _=>#[v,v]) >>= _) _ _ _
    refine wpAny_bind (wpAny_updateSeq at1 rfl ?_)
    rw[nm]
    refine wpAny_pure ⟨plainId_quiet F.plain_min_loop _,zaC W bt cm nf (n-1) 0 _ v _ (by omega) (W.frame _ _ _ st1 fun b hb o e=>(Heap.get?_update_other _ _ fun z:S=b=>nf (z ▸ hb)).trans e) iv (Heap.get?_update_self _ at1 rfl) fun v2 h2 tk2 iv2 kk2=>?_⟩
    exact fin v2 h2 tk2 (.inr ⟨by omega,iv2⟩) fun b o n1 n2 e=>kk2 b o n1 n2 ((Heap.get?_update_other _ _ n2.symm).trans (kk b o n1 e)))))
theorem YQ (a v:Value):argsOk "min" ⟨[a],[(Str.ofString "default",v)]⟩:=by unfold argsOk;kernel_rfl
theorem vE {l:Addr}{its:List Value}{ns:LI}{d:Value}{Q:Value→Shared→Prop}{E:Value→Shared→Prop}{s:Shared}(hh:A.handled=none) (hl:s.heap.IsList l its.toArray) (hr:Vals (ns.map V.int) its)
  (h:∀ v h' tk,((ns=[]∧v=d)∨∃ m t,v=.int m t∧m∈ns∧∀ y∈ns,m≤y)→(∀ b o,s.heap.get? b=some o→h'.get? b=some o)→Q v { s with heap:=h',toks:=tk }) :
  wpAny (model P w) A (call (.builtin "min") [.ref l] [(Str.ofString "default",d)]) Q E s:=by
 have nm:(toString "min" ++ toString ".loop" : String) = "min.loop" := by decide
 have lt:l<s.heap.objs.size:=by
  obtain⟨_,e,_⟩:=hl
  exact Heap.lt_size e
 have len:its.toArray.size=ns.length:=by
  have:=hr.length
  rw[List.length_map] at this
  simp[this]
 refine PyProof.Rows.kmk_tree F.kind_min F.plain_min F.entry_min (YQ _ _) (by
  show wpAny _ A.in1 (Builtin.Builtins.bindParams "min" ["key", "default"] 0 ⟨[],[(Str.ofString "default",d)]⟩ >>= _) _ _ s
  refine wpAny_bind (wpAny_of_eq (show Builtin.Builtins.bindParams "min" ["key", "default"] 0 ⟨[],[(Str.ofString "default",d)]⟩=pure [none,some d] from rfl) (wpAny_bind (wpAny_pure (wpAny_bind (wpAny_pyIter_list hl (wpAny_bind (wpAny_newObj_type ?_)))))))
  rw[nm]
  have W:=Walks.list (prog:=P) (w:=w) (A:=A.in1) hh s.heap.objs.size l (Nat.ne_of_lt lt) its.toArray
  have st:((s.heap.push { cls:=.type "list_iterator",data:=.fields #[.ref l,.int 0 0] }).IsListIter s.heap.objs.size l 0∧(s.heap.push { cls:=.type "list_iterator",data:=.fields #[.ref l,.int 0 0] }).IsList l its.toArray):=⟨⟨_,Heap.get?_push_size _ rfl,rfl,rfl⟩,hl.push _⟩
  have cm:=CmpOf.ints_lt (prog:=P) (w:=w) (A:=A.in1) (fun i=>ns.getD i 0) (fun i v e=>xu hr e)
  have nf:(s.heap.push { cls:=.type "list_iterator",data:=.fields #[.ref l,.int 0 0] }).objs.size∉[s.heap.objs.size,l]:=by
   intro z
   rw[Heap.size_push] at z
   rcases List.mem_cons.mp z with e | e
   ·exact Nat.succ_ne_self _ e
   ·exact Nat.lt_irrefl _ (Nat.lt_trans (Nat.lt_succ_self _) ((List.mem_singleton.mp e).symm ▸ lt))
  refine wpAny_pure ⟨plainId_quiet F.plain_min_loop _,Xw (c:=0) W _ cm nf (W.frame _ _ _ st fun b _ o e=>Heap.get?_push_of_some _ e) (Heap.get?_push_size _ rfl) fun v h' tk hv kk=>?_⟩
  refine h v h' tk ?_ fun b o e=>kk b o (fun z=>?_) (fun z=>?_) (Heap.get?_push_of_some _ (Heap.get?_push_of_some _ e))
  ·rcases hv with⟨z,e⟩ | ⟨z,e⟩
   ·left
    exact⟨List.eq_nil_of_length_eq_zero (by omega),e⟩
   ·right
    obtain⟨t,et⟩:=xu hr e
    have hb:=YN (fun i=>ns.getD i 0) (its.toArray.size-1)
    refine⟨_,t,et,?_,fun y hy=>?_⟩
    ·have hi:=hb.1
     rw[yQ (by omega)]
     exact List.getElem_mem _
    ·obtain⟨i,hi,rfl⟩:=List.mem_iff_getElem.mp hy
     have:=hb.2 i (by omega)
     rw[show(ns.getD i 0)=ns[i] from yQ hi] at this
     exact this
  ·rw[List.mem_singleton.mp z] at e
   exact Nat.lt_irrefl _ (Heap.lt_size e)
  ·have z2:b=s.heap.objs.size+1:=z.trans (Heap.size_push _ _)
   exact Nat.lt_irrefl _ (Nat.lt_trans (Nat.lt_succ_self _) (z2 ▸ Heap.lt_size e)))
def zrQ (K:PySem.W.Frag) (ta:TA) (td:TE):TE:=fun σ H Q=>ta σ H fun vs H1=>td σ H1 fun dv H2=>∃ a ns i,vs=[V.ref a]∧dv=.int i∧SqL K H2 a (ns.map V.int)∧∀ m:Int,((ns=[]∧m=i)∨(m∈ns∧∀ y∈ns,m≤y))→Q (.int m) H2
theorem Zb {X:Cx}{e dv:Expr}{ta:TA}{td:TE}{p kp pos:Pos}(hc:X.calm=true) (hg:Gl X "min") (hm:X.mg "min" = none) (ha:Bx (PA X [e] ta)) (hd:Bx (PE X dv td)) (hs:starEach [e] X.env=[(false,eval e X.env)]:=by rfl):Bx (PE X (.Call (.Name "min" p) [e] [⟨some "default",dv,kp⟩] pos) (zrQ X.K ta td)):=by
 have ha:=ha.of
 have hd:=hd.of
 refine⟨?_⟩
 intro pins s σ H Q I h
 refine wpAny_Call_Name_kw (ld_blt I hg hm bt_min ?_)
 refine PyProof.Rows.callWith_kw (thn (ha pos pins s σ H _ I h) fun us s1 ⟨vs,H1,I1,r1,q1⟩=>PyProof.Rows.kws_cons (thn (hd pins s1 σ H1 _ I1 q1) fun u s2 ⟨y,H2,I2,r2,q2⟩=>PyProof.Rows.kws_nil ?_)) (by rw[hs];rfl) (by rw[hs];rfl)
 obtain⟨a,ns,i,rfl,rfl,hl,q⟩:=q2
 obtain⟨z,rfl,rz⟩:=r1.one
 cases rz
 obtain⟨tk0,rfl⟩:=r2
 obtain⟨its,rv,pl,_⟩:=I2.list hl
 refine vE (I2.ok.hd hc) pl.isList rv fun v h' tk hv kk=>?_
 rcases hv with⟨e1,rfl⟩ | ⟨m,t,rfl,hm⟩
 ·exact⟨.int i,H2,I2.kept (t':=tk) kk,⟨_,rfl⟩,q i (.inl ⟨e1,rfl⟩)⟩
 ·exact⟨.int m,H2,I2.kept (t':=tk) kk,⟨_,rfl⟩,q m (.inr hm)⟩
end
theorem ud (ns:LI):∀ k,preSum (fun i=>ns.getD i 0) k=(ns.take k).sum
 |0=>by simp[preSum]
 |k+1=>by
  show preSum _ k+ns.getD k 0=_
  rw[ud ns k,List.take_add_one]
  cases q:ns[k]? with
  |none=>simp[List.getD,q]
  |some x=>simp[List.getD,q]
def ztr (K:PySem.W.Frag):List V→Hp→VK→Prop:=fun xs H Q=>∃ (a:Addr) (ns:LI),xs=[V.ref a]∧SqL K H a (ns.map V.int)∧Q (.int ns.sum) H
section
variable {X:Cx}
theorem call_sumI (hc:X.calm=true):yu X (.builtin "sum") (ztr X.K):=by
 intro pins s σ H xs us Q I r h
 obtain⟨a,ns,rfl,ha,q⟩:=h
 obtain⟨u,rfl,ru⟩:=r.one
 cases ru
 obtain⟨its,rv,p,hz⟩:=I.list ha
 have lt:a<s.heap.objs.size:=by
  obtain⟨_,e,_⟩:=p.isList
  exact Heap.lt_size e
 refine call_sum_walkAnyS (wpAny_pyIter_list p.isList ?_)
 refine⟨s.heap.objs.size,_,_,_,_,_,_,fun i=>ns.getD i 0,rfl,(Walks.list (A:=X.A.in1) (show X.A.in1.handled=none from I.ok.hd hc) s.heap.objs.size a (Nat.ne_of_lt lt) its.toArray).toS,⟨⟨_,Heap.get?_push_size _ rfl,rfl,rfl⟩,p.isList.push _⟩,fun b hb=>?_,fun i v hv=>xu rv hv,fun s' t' hm=>?_⟩
 ·show b<(s.heap.push _).objs.size
  rw[Heap.size_push]
  have z:b=s.heap.objs.size∨b=a:=by simpa using hb
  rcases z with z | z
  ·rw[z];exact Nat.lt_succ_self _
  ·rw[z];exact Nat.lt_succ_of_lt lt
 ·obtain⟨h',g',d',tk',os'⟩:=s'
  have e1:g'=s.gens:=hm.gens
  have e2:d'=s.drawn:=hm.drawn
  have e3:os'=s.os:=hm.os
  subst e1 e2 e3
  have hl:=rv.length
  rw[List.length_map] at hl
  rw[ud,List.size_toArray,← hl,List.take_length]
  exact⟨.int _,H,I.kept (t':=tk') fun b o e=>hm.heap b o (fun z=>by
   rw[List.mem_singleton.mp z] at e
   exact Nat.lt_irrefl _ (Heap.lt_size e)) (Heap.get?_push_of_some _ e),⟨_,rfl⟩,q⟩
theorem vK:∀ {ns:LI}{its:List Value},Vals (ns.map V.int) its→IntsAre its ns
 |[],_,r=>by cases r;exact .nil
 |n::ns,_,r=>by
  cases r with
  |cons h t =>
   obtain⟨k,rfl⟩:=h
   exact .cons _ _ (vK t)
theorem wt:∀ {ns:LI}{its:List Value},IntsAre its ns→Vals (ns.map V.int) its
 |_,_,.nil=>.nil
 |_,_,.cons _ _ t=>.cons ⟨_,rfl⟩ (wt t)
def znM (K:PySem.W.Frag):List V→Hp→VK→Prop:=fun xs H Q=>∃ (a:Addr) (ns:LI),xs=[V.ref a]∧SqL K H a (ns.map V.int)∧ns.length<64∧∀ (p:Addr) (ms:LI),H p=none→ms.Perm ns→ms.Pairwise (· ≤ ·)→Q (.ref p) (upd H p (.lst (ms.map V.int)))
theorem zN:yu X (.builtin "sorted") (znM X.K):=by
 intro pins s σ H xs us Q I r h
 obtain⟨a,ns,rfl,ha,h64,q⟩:=h
 obtain⟨u,rfl,ru⟩:=r.one
 cases ru
 obtain⟨its,rv,p,hz⟩:=I.list ha
 have hl:=rv.length
 rw[List.length_map] at hl hz
 refine sorted_ints p.isList (vK rv) (by omega) fun out ms a1 a2 a3=>?_
 have hn:H (s.heap.objs.size+1)=none:=I.hok.fresh (Nat.le_succ _)
 obtain⟨c,hc⟩:=sortedAll_at s.heap its out
 refine⟨.ref _,_,I.laid (a:=s.heap.objs.size+1) (o:=.lst (ms.map V.int)) (t':=s.toks) (fun _ _ e=>sortedAll_old e) (Nat.le_succ _) ⟨?_,out.toList,c,wt a1,?_⟩,rfl,q _ ms hn a2 a3⟩
 ·rw[List.length_map,a2.length_eq];exact hz
 ·exact hc
end
theorem znX {X:Cx}{f:Value→Value→Sem Value}{r1 r2:R2}(h1:OpR X f r1) (h2:OpR X f r2):OpR X f (fun x y H Q=>r1 x y H Q∨r2 x y H Q):=by
 intro pins s σ H x y v u Q I rx ry h
 rcases h with h | h
 ·exact h1 pins s σ H x y v u Q I rx ry h
 ·exact h2 pins s σ H x y v u Q I rx ry h
def DictAt (a D:Addr) (h:Heap):Prop:=∃ o,h.get? a=some o∧o.dict=some D
def KD (h h':Heap):Prop:=∀ a D,DictAt a D h→DictAt a D h'
def Kp {α:Type}:Sem α→Prop
 |.pure _=>True
 |.raise _=>True
 |.unsupported _=>True
 |.finish _=>True
 |.rule _ k=>Kp (k ())
 |.at _ k=>Kp (k ())
 |.load _ _ k=>∀ o,Kp (k o)
 |.update _ _ f k=>(∀ o,(f o).dict=o.dict∧((f o).data=.freed→o.data=.freed))∧Kp (k ())
 |.alloc _ k=>∀ a,Kp (k a)
 |.loadIfAlive _ k=>∀ o,Kp (k o)
 |.point _ k=>Kp (k ())
 |.register _ _=>True
 |.fresh k=>∀ t,Kp (k t)
 |.ask k=>∀ x,Kp (k x)
 |.choose _ _ k=>∀ n,Kp (k n)
 |.os _ _ k=>∀ r,Kp (k r)
 |.call ..=>False
 |.handled _ k=>∀ o,Kp (k o)
 |.newGen _ k=>∀ n,Kp (k n)
 |.genState _ k=>∀ x,Kp (k x)
 |.resume ..=>False
 |.yield ..=>True
 |.stack k=>∀ l,Kp (k l)
 |.fork ..=>True
 |.thread k=>∀ n,Kp (k n)
 |.await ..=>True
section
variable {α β:Type}
theorem XD (m:Sem α) (f:α→Sem β) (h:Kp m) (k:∀ x,Kp (f x)):Kp (m.bind f):=by
 induction m<;>simp only[Kp,Sem.bind] at h ⊢<;>first | trivial | exact k _ | (rename_i ih;exact ih _ h) | (rename_i ih;exact⟨h.1,ih _ h.2⟩) | (rename_i ih;exact fun x=>ih x (h x))
theorem kp_bind {m:Sem α}{f:α→Sem β}(h:Kp m) (k:∀ x,Kp (f x)):Kp (m >>= f):=XD m f h k
theorem kp_pure {x:α}:Kp (pure x:Sem α):=True.intro
theorem yX {c:Prop} [Decidable c]{a b:Sem α}(h:Kp a) (k:Kp b):Kp (if c then a else b):=by split<;>assumption
theorem DictAt.upd {h:Heap}{a D b:Addr}{f:Obj→Obj}(hf:∀ o,(f o).dict=o.dict∧((f o).data=.freed→o.data=.freed)) (x:DictAt a D h):DictAt a D (h.update b f):=by
 obtain⟨o,e,d⟩:=x
 by_cases hb:b=a
 ·subst hb
  refine⟨f o,Heap.get?_update_self f e ?_,(hf o).1.trans d⟩
  cases q:(f o).isFreed with
  |false=>rfl
  |true =>
   exfalso
   have q1:(f o).data=.freed:=by
    revert q
    generalize f o=u
    intro q
    obtain⟨c,d',dt,sl⟩:=u
    cases dt<;>first | rfl | cases q
   have q2:=(hf o).2 q1
   obtain⟨c,d',dt,sl⟩:=o
   cases q2
   simp only[Heap.get?] at e
   split at e
   ·cases e
   ·rename_i hne
    exact hne _ _ _ e
 ·exact⟨o,(Heap.get?_update_other _ _ hb).trans e,d⟩
theorem DictAt.keeps {h h':Heap}{a D:Addr}(x:DictAt a D h) (k:∀ b o,h.get? b=some o→h'.get? b=some o):DictAt a D h':=let ⟨o,e,d⟩:=x;⟨o,k _ _ e,d⟩
theorem zrH {M:Model}{Γ:PySem.Ctx}(t:Sem α){Q:α→Pos→Shared→Prop}{E:Value→Pos→Shared→Prop}{h0:Heap}(g:Kp t) (p:Pos) (s:Shared) (k:KD h0 s.heap) (h:Sem.wp M Γ t Q E p s) :
  Sem.wp M Γ t (fun a p' s'=>Q a p' s'∧KD h0 s'.heap) E p s:=by
 induction t generalizing p s with
 |pure x=>exact⟨h,k⟩
 |raise v=>exact h
 |unsupported | finish | yield | fork | await | register=>exact h
 |rule _ _ ih | «at» _ _ ih | point _ _ ih=>exact ih _ g _ _ k h
 |loadIfAlive _ _ ih | fresh _ ih | ask _ ih | os _ _ _ ih | handled _ _ ih | newGen _ _ ih | stack _ ih | thread _ ih=>exact ih _ (g _) _ _ k h
 |alloc o _ ih=>exact ih _ (g _) _ _ (fun a D x=>(k a D x).keeps fun b u e=>Heap.get?_push_of_some _ e) h
 |load _ _ _ ih | genState _ _ ih =>
  obtain⟨o,ho,h⟩:=h
  exact⟨o,ho,ih _ (g _) _ _ k h⟩
 |choose _ _ _ ih=>exact⟨h.1,ih _ (g _) _ _ k h.2⟩
 |update a _ f _ ih=>exact⟨h.1,ih _ g.2 _ _ (fun b D x=>(k b D x).upd g.1) h.2⟩
 |call=>exact False.elim g
 |resume=>exact False.elim g
theorem xh {M:Model}{A:Around}{t:Sem α}{Q:α→Shared→Prop}{E:Value→Shared→Prop}{s:Shared}(g:Kp t) (h:wpAny M A t Q E s):wpAny M A t (fun a s'=>Q a s'∧KD s.heap s'.heap) E s :=
 fun Γ p hΓ=>zrH t g p s (fun _ _ x=>x) (h Γ p hΓ)
theorem vG {a:Addr}:Kp (load a):=fun _=>True.intro
theorem vJ {v:Value}:Kp (fieldsOf v):=by
 unfold fieldsOf
 cases v<;>first | trivial | skip
 refine kp_bind vG fun o=>?_
 split<;>trivial
theorem xn {v:Value}{i:Nat}:Kp (field v i):=by
 unfold field
 refine kp_bind vJ fun o=>?_
 split<;>trivial
theorem vI {g:Array Value→Array Value}(o:Obj):(Obj.mapFields g o).dict=o.dict∧((Obj.mapFields g o).data=.freed→o.data=.freed):=by
 obtain⟨c,d,dt,sl⟩:=o
 cases dt<;>exact⟨rfl,fun q=>by first | rfl | cases q⟩
theorem xQ {a:Addr}{i:Nat}{x:Value}:Kp (updateField a i x):=by
 unfold updateField
 refine kp_bind vG fun o=>?_
 split
 ·refine yX ?_ True.intro
  exact⟨vI,True.intro⟩
 ·trivial
theorem yy {v:Value}{i:Nat}{x:Value}:Kp (setField v i x):=by
 unfold setField
 cases v<;>first | trivial | exact xQ
theorem yE {e:Value}{f:Option Addr}:Kp (setFlight e f):=by
 unfold setFlight
 exact kp_bind xn fun o=>yX yy kp_pure
theorem vH {env:Env}{b:Bool}{l:List Env}:Kp (keptBack env b l):=by
 unfold keptBack
 cases l with
 |nil =>
  dsimp only
  refine yX kp_pure (kp_bind ?_ fun x=>kp_pure)
  unfold underTheClaimsCaller
  first | exact fun _=>True.intro | exact kp_bind (fun _=>True.intro) fun _=>True.intro
 |cons c l=>exact kp_pure
theorem kp_behind {env:Env}{l:List Env}:Kp (behindIsImport env l):=by
 unfold behindIsImport
 refine yX kp_pure (yX kp_pure ?_)
 exact kp_bind xn fun _=>kp_pure
theorem XC (l:List Env):Kp (readyFrames l):=by
 induction l with
 |nil=>trivial
 |cons env l ih =>
  unfold readyFrames
  split
  ·refine kp_bind vG fun o=>yX kp_pure (kp_bind kp_behind fun b=>kp_bind vH fun v=>kp_bind ?_ fun _=>ih)
   exact⟨fun o=>⟨rfl,id⟩,True.intro⟩
  ·trivial
theorem xZ {env:Env}:Kp (PySem.frameOf env):=by
 unfold PySem.frameOf
 refine kp_bind (kp_bind (fun _=>True.intro) fun _=>True.intro) fun l=>kp_bind ?_ fun o=>?_
 ·generalize l.dropWhile _=l'
  cases l' with
  |nil=>trivial
  |cons c r =>
   unfold frameObject
   exact kp_bind (XC _) fun _=>kp_pure
 ·split<;>trivial
theorem yY {f:Addr}{b:Bool}:Kp (entryPlaceOf f b):=by
 unfold entryPlaceOf
 refine kp_bind (fun _=>True.intro) fun l=>?_
 split<;>trivial
theorem xG {a b c d e:Value}{pl:List Value}:Kp (EntryCells.newEntry a b c d e pl):=by
 unfold EntryCells.newEntry newFields newObj newObjAsIs
 dsimp only
 have al:∀ o:Obj,Kp (alloc o):=fun _ _=>True.intro
 refine yX ?_ ?_
 ·exact kp_bind (m:=Sem.unsupported _) True.intro fun _=>kp_bind (al _) fun _=>kp_pure
 ·exact kp_bind (al _) fun _=>kp_pure
theorem kp_noteFrame {e:Value}{env:Env}:Kp (noteFrame e env):=by
 unfold noteFrame
 split
 ·refine kp_bind xn fun hd=>?_
  refine yX (kp_bind xn fun _=>yX kp_pure (kp_bind yy fun _=>?_)) ?_
  ·exact kp_bind xZ fun _=>kp_bind yY fun _=>kp_bind xG fun _=>yy
  ·exact kp_bind xZ fun _=>kp_bind yY fun _=>kp_bind xG fun _=>yy
 ·trivial
theorem uK {e:Value}{env:Env}:Kp (leaving env e):=by
 unfold leaving
 exact kp_bind kp_noteFrame fun _=>yE
end
section
variable {M:Model}{A:Around}{E:Value→Shared→Prop}{s:Shared}{base:Heap}{l:List Env}{env:Env}{outer:List Env}{L e:Addr}{cls a0:Value}{Q:Unit→Shared→Prop}
theorem zyx (hfr:A.frames=some (env::outer)) (hf:env.frame=some L) (hfl:Heap.FlyingW base (env::outer) e cls a0 s.heap)
  (hQ:∀ h',Heap.FlyingW base outer e cls a0 h'→s.heap.UpToSlots h'→KD s.heap h'→Q () { s with heap:=h' }):wpAny M A (leaving env (.ref e)) Q E s :=
 wpAny_mono (xh uK (wpAny_leaves_onW (Q:=fun _ s2=>∃ h',s2={ s with heap:=h' }∧Heap.FlyingW base outer e cls a0 h'∧s.heap.UpToSlots h') hfr hf hfl fun h' a b=>⟨h',rfl,a,b⟩))
  (fun _ s2 ⟨⟨h',q,a,b⟩,k⟩=>by subst q;exact hQ h' a b k) fun _ _ z=>z
theorem zpb (hfr:A.frames=some (env::outer)) (hf:env.frame=some L) (hfl:Heap.FlyingW base (env::outer) e cls a0 s.heap)
  (hQ:∀ h',Heap.HeldW base (env::outer) e cls a0 L h'→s.heap.UpToSlots h'→KD s.heap h'→Q () { s with heap:=h' }):wpAny M A (noteFrame (.ref e) env) Q E s :=
 wpAny_mono (xh kp_noteFrame (wpAny_looks_onW (Q:=fun _ s2=>∃ h',s2={ s with heap:=h' }∧Heap.HeldW base (env::outer) e cls a0 L h'∧s.heap.UpToSlots h') hfr hf hfl fun h' a b=>⟨h',rfl,a,b⟩))
  (fun _ s2 ⟨⟨h',q,a,b⟩,k⟩=>by subst q;exact hQ h' a b k) fun _ _ z=>z
theorem zpf (hh:Heap.HeldW base l e cls a0 L s.heap) (hQ:∀ h',Heap.FlyingW base l e cls a0 h'→s.heap.UpToSlots h'→KD s.heap h'→Q () { s with heap:=h' }):wpAny M A (setFlight (.ref e) none) Q E s :=
 wpAny_mono (xh yE (wpAny_landsW (Q:=fun _ s2=>∃ h',s2={ s with heap:=h' }∧Heap.FlyingW base l e cls a0 h'∧s.heap.UpToSlots h') hh fun h' a b=>⟨h',rfl,a,b⟩))
  (fun _ s2 ⟨⟨h',q,a,b⟩,k⟩=>by subst q;exact hQ h' a b k) fun _ _ z=>z
theorem zaG (hh:Heap.FlyingW base l e cls a0 s.heap) (hQ:∀ h',Heap.FlyingW base l e cls a0 h'→s.heap.UpToSlots h'→KD s.heap h'→Q () { s with heap:=h' }):wpAny M A (setFlight (.ref e) none) Q E s :=
 wpAny_mono (xh yE (lands_againW (Q:=fun _ s2=>∃ h',s2={ s with heap:=h' }∧Heap.FlyingW base l e cls a0 h'∧s.heap.UpToSlots h') hh fun h' a b=>⟨h',rfl,a,b⟩))
  (fun _ s2 ⟨⟨h',q,a,b⟩,k⟩=>by subst q;exact hQ h' a b k) fun _ _ z=>z
end
section
variable {P:Program}{w:World}{H H':Hp}{h h':Heap}{a:Addr}{o:HO}
theorem ObjOk.thr (x:ObjOk P w H h a o):∃ u,h.get? a=some u:=by
 cases o with
 |lst xs=>obtain⟨_,_,_,_,e⟩:=x;exact⟨_,e⟩
 |tup xs=>obtain⟨_,_,_,_,e,_⟩:=x;exact⟨_,e⟩
 |dK kvs=>obtain⟨_,_,_,_,o,_,_,e,_⟩:=x;exact⟨_,e⟩
 |dT kvs=>obtain⟨_,_,_,_,o,_,_,e,_⟩:=x;exact⟨_,e⟩
 |set S n=>obtain⟨o,_,_,_,e,_⟩:=x;exact⟨_,e⟩
 |ins C dx fs=>obtain⟨_,_,_,e,_⟩:=x;exact⟨_,e⟩
 |own y=>obtain⟨_,e⟩:=x;exact⟨_,e⟩
 |xd fs=>obtain⟨_,⟨_,_,_,e,_⟩,_⟩:=x;exact⟨_,e⟩
 |rng lo hi=>obtain⟨_,_,_,e⟩:=x;exact⟨_,e⟩
 |frz ob u=>obtain⟨e,_⟩:=x;exact⟨_,e⟩
 |tbl ps=>exact⟨_,show h.get? a=some _ from x⟩
 |met f y=>exact⟨_,show h.get? a=some _ from x⟩
 |ext φ=>obtain⟨_,⟨_,e⟩,_⟩:=x;exact⟨_,e⟩
theorem HOk.thr (x:HOk P w H h) (e:H a=some o):∃ u,h.get? a=some u:=(x a o e).thr
theorem HOk.untr (x:HOk P w H h) (e:h.get? a=none):H a=none:=by
 cases q:H a with
 |none=>rfl
 |some u =>
  obtain⟨v,hv⟩:=x.thr q
  rw[e] at hv
  cases hv
theorem HOk.keptT (x:HOk P w H h) (k:∀ b u,H b≠none→h.get? b=some u→h'.get? b=some u):HOk P w H h':=fun a o e =>
 (x a o e).stay (fun b u hb q=>k b u (by rcases hb with rfl | hb<;>simp_all) q) (fun _ q=>q) fun _ _ q=>q
end
structure Lies (P:Program) (w:World) (l:List Env) (H:Hp) (s:Shared) (H':Hp) (s':Shared) (B:Heap):Prop where
 os:s'.os=s.os
 bare:AllBare s'.gens
 un:Un (frs l) [] H H' s.heap s'.heap
 hok:HOk P w H' s'.heap
 c1:∀ b o,s.heap.get? b=some o→H b=none→b∉frs l→B.get? b=some o
 c2:∀ b o,H' b≠none→s'.heap.get? b=some o→B.get? b=some o
 c3:∀ b o,s.heap.get? b=some o→b∉frs l→∃ o',B.get? b=some o'
abbrev CX1 (P:Program) (w:World):CXT:=fun l H s E e s'=>∃ (a:Addr) (cls a0:Value) (H':Hp) (B:Heap),e=.ref a∧Lies P w l H s H' s' B∧Heap.FlyingW B l a cls a0 s'.heap∧∃ dd:Option Addr,(∀ D,dd=some D→DictAt a D s'.heap)∧E cls dd H'
section
variable {X:Cx}{pins:List (Addr×Obj)}{σ:St}{H H':Hp}{s s':Shared}{B h2:Heap}{t2:Nat}
theorem Lies.un2 (I:Inv X pins σ H s) (L:Lies X.prog X.w X.stack H s H' s' B) (st:B.StaysIn h2) (up:s'.heap.UpToSlots h2):Un (frs X.stack) [] H H' s.heap h2:=by
 have sl:∀ b o,s.heap.get? b=some o→b∈frs X.stack→∃ z,h2.get? b=some { o with slots:=z }:=fun b o q hb=>by
  obtain⟨z,e1⟩:=L.un.slot b o q (I.stkFree b hb) hb (by simp)
  obtain⟨_,o',ho',hd⟩:=I.stack.mem hb
  rw[q] at ho'
  cases ho'
  obtain⟨z2,e2⟩:=up b _ e1 (fun vs z=>hd vs z)
  exact⟨z2,e2⟩
 refine⟨fun b o q n hb _=>st b o (L.c1 b o q n hb),fun b o q _ hb _=>sl b o q hb,fun b o q n hx=>L.un.free b o q n hx,fun b o q _=>?_,L.un.tups,L.un.frzs,L.un.tbls⟩
 by_cases hb:b∈frs X.stack
 ·obtain⟨z,e⟩:=sl b o q hb
  exact⟨_,e⟩
 ·obtain⟨o',e⟩:=L.c3 b o q hb
  exact⟨o',st b o' e⟩
theorem Lies.ok2 {l:List Env}{P:Program}{w:World}(L:Lies P w l H s H' s' B) (st:B.StaysIn h2):HOk P w H' h2:=L.hok.keptT fun b u hb q=>st b u (L.c2 b u hb q)
theorem Lies.inv (I:Inv X pins σ H s) (L:Lies X.prog X.w X.stack H s H' s' B) (st:B.StaysIn h2) (up:s'.heap.UpToSlots h2):Inv X pins σ H' { s' with heap:=h2,toks:=t2 }:=by
 refine I.call' (s':={ s' with heap:=h2,toks:=t2 }) (ch:=[]) L.os (L.un2 I st up) (L.ok2 st) L.bare (fun b z=>absurd z (by simp))
theorem Lies.out (I:Inv X pins σ H s) (L:Lies X.prog X.w X.stack H s H' s' B) (st:B.StaysIn h2) (up:s'.heap.UpToSlots h2) (hx:X.ex=[]):Lies X.prog X.w X.outer X.H₀ X.s₀ H' { s' with heap:=h2 } B:=by
 have J:=Lies.inv (t2:=s'.toks) I L st up
 have ns:∀ b o,X.s₀.heap.get? b=some o→b∉frs X.outer→b∉frs X.stack:=fun b o q hb z=>by
  rcases List.mem_cons.mp (I.stkSub b z) with e | e
  ·exact absurd (Nat.lt_of_lt_of_le (Heap.lt_size q) I.ok.above) (by rw[e];exact Nat.lt_irrefl _)
  ·exact hb e
 have hn:∀ b:Addr,b∉X.ex:=fun b=>by rw[hx];simp
 refine⟨J.os,J.bare,?_,J.hok,fun b o q n hb=>?_,fun b o hb q=>?_,fun b o q hb=>?_⟩
 ·have:=J.base
  rw[hx] at this
  exact this
 ·exact L.c1 b o (I.base.keep b o q n hb (hn b)) (I.base.free b o q n (hn b)) (ns b o q hb)
 ·cases e:H' b with
  |none=>exact absurd e hb
  |some u =>
   obtain⟨v,hv⟩:=L.hok.thr e
   have z:=L.c2 b v hb hv
   have q':h2.get? b=some o:=q
   rw[st b v z] at q'
   cases q'
   exact z
 ·obtain⟨o',e⟩:=I.base.there b o q (hn b)
  exact L.c3 b o' e (ns b o q hb)
theorem XA (I:Inv X pins σ H s) (k:∀ b u,s.heap.get? b=some u→h2.get? b=some u):Lies X.prog X.w X.stack H s H { s with heap:=h2 } (PySem.W.hideAll s.heap (frs X.stack)):=by
 refine⟨rfl,I.bare,Un.kept k,I.hok.kept k,fun b o q _ hb=>PySem.W.hideAll_get _ q hb,fun b o hb q=>?_,fun b o q hb=>⟨o,PySem.W.hideAll_get _ q hb⟩⟩
 cases e:H b with
 |none=>exact absurd e hb
 |some u =>
  obtain⟨v,hv⟩:=I.hok.thr e
  have q':h2.get? b=some o:=q
  rw[k b v hv] at q'
  cases q'
  exact PySem.W.hideAll_get _ hv fun z=>hb (I.stkFree b z)
end
section
variable {P:Program}{w:World}{K:PySem.W.Frag}{mg:Str→Option Value}{base:Heap}{N:List Str}{qual:Str}{scope:Scope}{f:Addr}{cd:Value}{A:Around}{outer:List Env}{s0:Shared}{H0:Hp}{E:XK}
theorem zpc {pins:List (Addr×Obj)}{σ:St}{H:Hp}{s:Shared}{h':Heap}{e:Addr}{cls:Value}{args:List Value}(I:Inv (vj (CX1 P w) P w K mg base N qual scope f cd A outer s0 H0 E) pins σ H s)
  (hx:Heap.MadeExcOf s.heap h' e cls args) (q:E cls none H):(vj (CX1 P w) P w K mg base N qual scope f cd A outer s0 H0 E).xe (.ref e) { s with heap:=h' }:=by
 have hfr:=I.ok.frames
 have L:=XA I hx.keeps
 refine wpAny_leaves_madeW (M:=model P w) (A:=A.deeper (envOfC qual scope s0.heap.objs.size f cd)) (s:={ s with heap:=h' }) (outer:=outer) (L:=s0.heap.objs.size) (base:=PySem.W.hideAll s.heap (frs (envOfC qual scope s0.heap.objs.size f cd::outer))) hfr rfl (fun b o q=>PySem.W.of_hideAll _ q)
  (PySem.W.funFrames_hide I.stack fun env he b hb=>List.mem_filterMap.mpr ⟨env,he,hb⟩) hx fun h2 t F2 _ _ up=>?_
 exact⟨e,cls,.ref t,H,_,rfl,L.out I F2.1 up rfl,F2,none,(fun D e=>nomatch e),q⟩
end
abbrev vS:List Value:=[.type "ValueError",.type "Exception",.type "BaseException",.type "object"]
def XCls (K:PySem.W.Frag) (C:Addr):Prop:=PySem.W.excIn K C vS "ValueError.__new__" = true
def zHq (h:Heap) (C:Addr):Prop:=∃ bm N nm qn bs hd sn sub ab col dd k0 k1 k2 k3 k5 mN,h.get? C=some (excClassObj nm qn C N bs bm hd sn sub ab col dd k0 k1 k2 k3 k5 "ValueError.__new__")∧h.Ns N mN∧mN "__init__" = none∧OwnTail h vS bm
theorem XCls.obj {K:PySem.W.Frag}{C:Addr}(x:XCls K C){h:Heap}(I:K.In h):zHq h C:=by
 unfold XCls PySem.W.excIn at x
 split at x
 case h_2=>cases x
 case h_1 dd cd sl lk =>
  split at x
  case h_2=>cases x
  case h_1 C2 bm k0 k1 k2 k3 nid k5 em es =>
   rw[Bool.and_eq_true,Bool.and_eq_true,Bool.and_eq_true,Bool.and_eq_true,Bool.and_eq_true] at x
   obtain⟨⟨⟨⟨⟨x1,x2⟩,x3⟩,x4⟩,x5⟩,x6⟩:=x
   cases (beq_iff_eq.mp x1)
   cases (beq_iff_eq.mp x2)
   cases cd with
   |mk nm bs mro ns qn hd sn sub ab col del =>
    have e1:mro=.ref C::bm:=em
    have e2:del=false:=by
     cases del with
     |false=>rfl
     |true=>cases x3
    have e3:sl = #[k0,k1,k2,k3,some (.builtin "ValueError.__new__"),k5]:=by
     cases sl with
     |mk l =>
      have e:l=_:=es
      rw[e]
    rw[e1,e2,e3] at lk
    exact⟨bm,ns,nm,qn,bs,hd,sn,sub,ab,col,dd,k0,k1,k2,k3,k5,_,I _ _ lk,.of_isNs (PySem.W.isNs_of_in I x5),PySem.W.nsMap_none_of_in I x5 (beq_iff_eq.mp x6),PySem.W.tail_of_in I x4⟩
section
variable {P:Program}{w:World}{K:PySem.W.Frag}{mg:Str→Option Value}{base:Heap}{N:List Str}{qual:Str}{scope:Scope}{f:Addr}{cd:Value}{A:Around}{outer:List Env}{s0:Shared}{H0:Hp}{E:XK}
 {x:Str}{C:Addr}{e:Expr}{es:List Expr}{t:TA}{np cpos pos:Pos}
def tRz (C:Addr) (E:XK) (t:TA):TS:=fun _ σ H=>t σ H fun vs H1=>vs.length≤1000∧E (.ref C) none H1
theorem xV (hc:(A.deeper (envOfC qual scope s0.heap.objs.size f cd)).handled=none) (c:XCls K C) (hm:mg x=some (.ref C)) (ha:Bx (PA (vj (CX1 P w) P w K mg base N qual scope f cd A outer s0 H0 E) (e::es) t)) (hg:Gl (vj (CX1 P w) P w K mg base N qual scope f cd A outer s0 H0 E) x:=by rfl) (he:starEach (e::es) (vj (CX1 P w) P w K mg base N qual scope f cd A outer s0 H0 E).env=(false,eval e (vj (CX1 P w) P w K mg base N qual scope f cd A outer s0 H0 E).env)::starEach es (vj (CX1 P w) P w K mg base N qual scope f cd A outer s0 H0 E).env:=by rfl) (hpl:(backTo cpos (starEach es (vj (CX1 P w) P w K mg base N qual scope f cd A outer s0 H0 E).env)).any (·.1)=false:=by rfl) (hdb:(x == ("__debug__" : Str))=false:=by decide):Bx (PS (vj (CX1 P w) P w K mg base N qual scope f cd A outer s0 H0 E) (.Raise (some (.Call (.Name x np) (e::es) [] cpos)) none pos) (tRz C E t)):=by
 have ha:=ha.of
 refine⟨?_⟩
 intro pins s σ H D I h
 obtain⟨bm,Nn,nm,qn,bs,hd,sn,sub,ab,col,dd,k0,k1,k2,k3,k5,mN,h1,h2,h3,h4⟩:=c.obj I.mod.kin
 refine wpAny_Raise_call_subT (C:=C) (nm:=nm) (q:=qn) (N:=Nn) (bs:=bs) (bm:=bm) (hdct:=hd) (sn:=sn) (sub:=sub) (ab:=ab) (col:=col) (dd:=dd) (k0:=k0) (k1:=k1) (k2:=k2) (k3:=k3) (k5:=k5) PySem.F.excBase_ValueError (mN:=mN)
  (h4.hasType rfl) hc (by rw[he];exact hpl) h3 (ld_glob I hg hm ⟨rfl,?_⟩ hdb)
 have hA:=ha cpos pins s σ H _ I h
 rw[he] at hA ⊢
 refine Calls.evalArgs_plain (wpAny_mono hA (fun us s2 hq=>?_) fun _ _ z=>z)
 obtain⟨vs,H1,I1,r1,hl,q⟩:=hq
 refine⟨rfl,?_,I1.bk _ _ h1,h2.keeps I1.bk,h4.keeps I1.bk,fun h' e' hx=>zpc I1 hx q⟩
 show us.length≤sizeLine
 rw[← r1.length]
 exact Nat.le_of_lt (zB hl)
end
def XP (X:Cx) (pins:List (Addr×Obj)) (σ:St) (E:XK) (e:Value) (s':Shared):Prop:=∃ H1 s1,Inv X pins σ H1 s1∧CX1 X.prog X.w X.stack H1 s1 E e s'
def PV (X:Cx) (e:Expr) (t:XK→TE):Prop:=∀ (pins:List (Addr×Obj)) (s:Shared) (σ:St) (H:Hp) (Q:VK) (E:XK),Inv X pins σ H s→t E σ H Q→wpAny (model X.prog X.w) X.A (eval e X.env) (EP X pins σ Q) (XP X pins σ E) s
def PX (X:Cx) (b:List Stmt) (t:XK→TS):Prop:=∀ (pins:List (Addr×Obj)) (s:Shared) (σ:St) (H:Hp) (D:Ends) (E:XK),Inv X pins σ H s→t E D σ H→wpAny (model X.prog X.w) X.A (execs b X.env) (SP X pins D) (XP X pins σ E) s
section
variable {X:Cx}{k:Nat}{f C:Addr}{fd:FuncData}{ps:List Str}{sp:Sp}{dvs:List V}{ds:List Value}{x:Str}{p pos:Pos}{e:Expr}{es:List Expr}{t:TA}
theorem Ut {E:XK}{pins:List (Addr×Obj)}{σ:St}{H:Hp}{s:Shared}{Q:VK}{us:List Value}{vs:List V}(F:FnOk X.prog X.w X.K X.mg X.base (CX1 X.prog X.w) k f fd ps sp) (hr:Room k X.A) (hb:Binds X.K fd ps ds) (hd:Vals dvs ds)
  (I:Inv X pins σ H s) (r:Vals vs us) (h:sp (vs++dvs) H Q E):wpAny (model X.prog X.w) X.A (call (.ref f) us) (EP X pins σ Q) (XP X pins σ E) s:=by
 have r2:Vals (vs++dvs) (us++ds):=r.append hd
 have hl:(us++ds).length=ps.length:=by rw[← r2.length];exact F.len _ _ _ _ h
 refine wpAny_call (codeAny_mono (F.run X.A X.stack s H ⟨us,[]⟩ (us++ds) (vs++dvs) Q E hr I.env0 (hb s us I.kIn hl) r2 h) fun r s' hq=>?_)
 cases r with
 |error e=>exact⟨H,s,I,hq⟩
 |ok fl =>
  cases fl with
  |ret u=>exact I.after hq
  |next=>exact False.elim hq
  |brk=>exact False.elim hq
  |cont=>exact False.elim hq
theorem wE {te:XK→TE}(h:Bx (PV X e te)) (hs:swapsWith e none pos.line X.env=pure false:=by rfl):Bx (PX X [.Expr e pos] (fun E=>zbq (te E))):=by
 have h:=h.of
 refine⟨?_⟩
 intro pins s σ H D E I q
 refine wpAny_execs_cons (wpAny_Expr_any (wpAny_mono (h pins s σ H _ E I q) (fun v s1 hq=>?_) fun _ _ z=>z) I.quiet hs)
 obtain⟨y,H1,I1,r1,q1⟩:=hq
 exact wpAny_execs_nil ⟨σ,H1,I1,q1⟩
end
abbrev Cx.inH (X:Cx) (a:Addr):Cx:={ X with A:=X.A.mark (some (.ref a)),calm:=false,xe:=fun _ _=>False }
section
variable {X:Cx}{pins:List (Addr×Obj)}{σ:St}{H:Hp}{s:Shared}{a:Addr}
theorem Inv.inH (I:Inv X pins σ H s) (a:Addr):Inv (X.inH a) pins σ H s :=
 ⟨⟨I.ok.mod,I.ok.kind,I.ok.glob,I.ok.blt,I.ok.above,I.ok.inj,I.ok.has,I.ok.cab,(fun z=>nomatch z),I.ok.frames,I.ok.stk,I.ok.exf,I.ok.bs,I.ok.bsz,I.ok.noex,I.ok.exfs,I.ok.funs,I.ok.frf⟩,I.os,I.bare,I.base,I.loc,I.cell,I.free,I.freeC,I.pin,I.hok,I.len⟩
theorem Inv.unH (ok:X.Ok) (I:Inv (X.inH a) pins σ H s):Inv X pins σ H s:=⟨ok,I.os,I.bare,I.base,I.loc,I.cell,I.free,I.freeC,I.pin,I.hok,I.len⟩
theorem SP.unH {D:Ends}{f:Flow}{s':Shared}(ok:X.Ok) (h:SP (X.inH a) pins D f s'):SP X pins D f s':=by
 cases f with
 |next=>obtain⟨σ',H',I,q⟩:=h;exact⟨σ',H',I.unH ok,q⟩
 |brk=>obtain⟨σ',H',I,q⟩:=h;exact⟨σ',H',I.unH ok,q⟩
 |cont=>obtain⟨σ',H',I,q⟩:=h;exact⟨σ',H',I.unH ok,q⟩
 |ret u=>obtain⟨v,σ',H',I,r,q⟩:=h;exact⟨v,σ',H',I.unH ok,r,q⟩
end
section
variable {P:Program}{w:World}{K:PySem.W.Frag}{mg:Str→Option Value}{base:Heap}
theorem Fun.ok1 {x qual:Str}{st:Stmt}{f:Addr}{fd:FuncData}{N ps:List Str}{k:Nat}{sp:Sp}(F:Fun K x qual st f fd) (S:FnScope N ps (defScope st)) (len:∀ vs H Q E,sp vs H Q E→vs.length=ps.length)
  (hbody:∀ (cdv:Value) (A:Around) (outer:List Env) (s:Shared) (H:Hp) (vs:List V) (Q:VK) (E:XK),Room k (A.deeper (envOfC qual (defScope st) s.heap.objs.size f cdv))→sp vs H Q E →
   ∃ t,PSs (vj (CX1 P w) P w K mg base N qual (defScope st) f cdv A outer s H E) (defBody st) t∧t { nx:=fun _ H'=>Q .non H',rt:=Q } (start N vs) H):FnOk P w K mg base (CX1 P w) (k+1) f fd ps sp:=by
 obtain⟨oc,od,kV,doc,pm,an,cdv,ct,osl,rfl,lk,hcd⟩:=F.ex
 exact zpn lk hcd S len fun A outer s H vs Q E hr hsp=>hbody cdv A outer s H vs Q E hr hsp
end
end L2
namespace L2
open PySem PySem.W PySem.Spec PySem.Calls PyProof.Rows PySem.Builtin PySem.Builtin.ObjectAttr PySem.Builtin.Getset_descriptor
def ObC (x C:Addr) (h:Heap):Prop:=∃ o,h.get? x=some o∧o.cls=.ref C
structure XIs (K:Frag) (C:Addr):Prop where
 ga:findIn K (.ref C) "__getattribute__" = some (some (.builtin "BaseException.__getattribute__"))
 gt:findIn K (.ref C) "__getattr__" = some none
 ha:findIn K (.ref C) "__class__" = some (some (.builtin "object.__class__"))
 hn:specialIn K (.builtin "object.__class__") "__get__" = some (some (.builtin "getset_descriptor.__get__"))
 htk:takesIn K (.builtin "object.__class__")=some true
 hm:mroIn K C (.type "object")=some true
 hb:mroIn K C (.type "BaseException")=some true
 hd:hasDictIn K C=true
section
variable {K:Frag}{M:Model}{h:Heap}{x C:Addr}{name:Str}
theorem ObC.type (I:ObC x C h):Looks M h (typeOf (.ref x)) (.ref C):=by
 obtain⟨o,h1,h2⟩:=I
 rw[← h2]
 exact(Looks.ld h1).andThen .now
theorem Yt {a g:Value}(X:K.In h) (ha:findIn K (.ref C) name=some (some a)) (hg:specialIn K a "__get__" = some (some g)) (hd:takesIn K a=some true) :
  Looks M h (find (.ref x) (.ref C) name) (.bind g a):=by
 have L2:Looks M h (getOf (some a)) (some g):=looks_specialIn X hg
 have L3:Looks M h (dataDescriptor? (some a) (some g)) (some (g,a)):=(looks_takesIn X hd).andThen .now
 exact(looks_findIn X ha).andThen (L2.andThen (L3.andThen (Looks.tag .now)))
end
section
variable {prog:Program}{w:World}{A:Around}{E:Value→Shared→Prop}{K:Frag}{x C:Addr}{s:Shared}
theorem zaM {R:Result→Shared→Prop}{tp:Value}(X:K.In s.heap) (I:ObC x C s.heap) (hm:mroIn K C (.type "object")=some true) (k:R (.ok (.ret (.ref C))) s) :
  codeAny (model prog w) A (.call (.builtin "getset_descriptor.__get__") ⟨[.builtin "object.__class__",.ref x,tp],[]⟩) R s:=by
 obtain⟨hh,gg,dr,tt,ss⟩:=s
 have T0:=I.type (M:=model prog w)
 have T1:=looks_mroIn (M:=model prog w) X hm
 refine codeAny_call_builtin KF.slot_gs.plain KF.entry_gs ?_
 refine KF.slot_gs.check _ _ _ _ _ _ _ _ KF.type_class (KF.args_gs _ _ _) ?_
 unfold Builtin.«getset_descriptor.__get__»
 unfold descrGet
 rw[dga_obj]
 refine wpAny_bind (wpAny_pure ?_)
 unfold descrGetter descrCheckInstance
 unfold descrNameAndClass isInstance
 simp only[KF.owner_class]
 repeat lk
 refine⟨Code.quiet_builtin _ (by decide +kernel),?_⟩
 refine codeAny_builtin KF.entry_class ?_
 unfold Builtin.«object.__class__»
 unfold shownTypeOf
 repeat lk
 exact k
theorem XR {nameV:Value}{Q:Unit→Shared→Prop}(X:K.In s.heap) (I:ObC x C s.heap) (hb:mroIn K C (.type "BaseException")=some true) (k:Q () s) :
  wpAny (model prog w) A (checkBuiltinCall "BaseException.__getattribute__" ⟨[.ref x,nameV],[]⟩) Q E s:=by
 have T0:=I.type (M:=model prog w)
 have T1:=looks_mroIn (M:=model prog w) X hb
 have hk:builtinKind "BaseException.__getattribute__" = some .slot:=by decide +kernel
 have hsplit:splitId "BaseException.__getattribute__" = some ("BaseException", "__getattribute__"):=by decide +kernel
 have ha:=F.args_bexc_ga (.ref x) nameV
 obtain⟨hh,gg,dr,tt,ss⟩:=s
 simp only[checkBuiltinCall,hk,hsplit]
 refine wpAny_bind ?_
 unfold isInstance
 repeat lk
 exact k
theorem YA {tk:Tok}{Q:Fin→Shared→Prop}(X:K.In s.heap) (I:ObC x C s.heap) (c:XIs K C) (k:Q (.done (.ret (.ref C))) s) :
  wpAny (model prog w) A (Builtin.«object.__getattribute__» ⟨[.ref x,.str "__class__" tk],[]⟩) Q E s:=by
 have T0:=I.type (M:=model prog w)
 have T1:=Yt (M:=model prog w) (x:=x) X c.ha c.hn c.htk
 obtain⟨hh,gg,dr,tt,ss⟩:=s
 unfold Builtin.«object.__getattribute__»
 repeat lk
 refine wpAny_run (h:=none) ?_
 exact zaM X I c.hm (wpAny_pure (wpAny_pure k))
theorem zps {tk:Tok}{Q:Value→Shared→Prop}(X:K.In s.heap) (I:ObC x C s.heap) (c:XIs K C) (k:Q (.ref C) s) :
  wpAny (model prog w) A (getAttrBy (.ref x) (.str "__class__" tk) false) Q E s:=by
 have T0:=I.type (M:=model prog w)
 have T1:=looks_findIn (M:=model prog w) X c.ga
 have T2:=looks_findIn (M:=model prog w) X c.gt
 have f3:=F.attr_ValueError.ga.bind (.ref x)
 obtain⟨hh,gg,dr,tt,ss⟩:=s
 unfold getAttrBy
 refine wpAny_holding (wpAny_bind (T0.at (wpAny_bind (T1.at ?_))))
 show wpAny _ _ (if (onTheHeap (Value.ref C)&&Value.builtin "BaseException.__getattribute__" == Value.builtin "object.__getattribute__")=true then _ else _) _ _ _
 have z:(Value.builtin "BaseException.__getattribute__" == Value.builtin "object.__getattribute__")=false:=by decide +kernel
 rw[z,Bool.and_false,if_neg Bool.false_ne_true]
 unfold getAttrByItsOwn
 refine wpAny_bind (T2.at ?_)
 refine wpAny_bind (wpAny_attempt (wpAny_holding ?_))
 show wpAny _ _ (boundAndCalled _ _ _) _ _ _
 unfold boundAndCalled
 rw[f3]
 refine wpAny_bind (wpAny_pure (wpAny_call ?_))
 refine codeAny_call_builtin F.attr_ValueError.ga.plain F.entry_bexc_ga ?_
 exact XR X I c.hb (YA X I c (wpAny_pure k))
theorem XV {Q:Option Value→Shared→Prop}(X:K.In s.heap) (I:ObC x C s.heap) (c:XIs K C) (k:Q (some (.ref C)) { s with toks:=s.toks+1 }) :
  wpAny (model prog w) A (getAttr? (.ref x) "__class__") Q E s:=by
 obtain⟨hh,gg,dr,tt,ss⟩:=s
 unfold getAttr? getAttrBy?
 refine wpAny_bind (wpAny_mkText (wpAny_bind (wpAny_attempt ?_)))
 exact zps (s:=⟨hh,gg,dr,tt+1,ss⟩) X I c (wpAny_pure k)
theorem XE (c:XIs K C):KitX K (.ref x) (.ref C) (ObC x C) where
 ty:=fun _ _ _ I=>I.type
 it:=fun _ _ X _=>by
  obtain⟨cd,hc,_⟩:=any_some c.hd
  unfold clsIn at hc
  split at hc
  ·rename_i ho
   intro A' Q' E' s' k q
   unfold isType loadHead
   exact wpAny_bind (wpAny_loadPart (k _ _ (X _ _ ho)) (wpAny_pure q))
  ·cases hc
 ne:=fun h tp dd its n sl X htp=>by
  obtain⟨cd,hc,_⟩:=any_some c.hd
  refine Bool.eq_false_iff.mpr fun q=>?_
  cases Value.ref.inj (beq_iff_eq.mp q)
  unfold clsIn at hc
  split at hc
  ·rename_i ho
   cases (X _ _ ho).symm.trans htp
  ·cases hc
 ca:=fun X I k=>XV X I c k
end
section
variable {X:Cx}
def znN (K:Frag):List V→Hp→VK→Prop:=fun xs H Q=>∃ (x C:Addr) (c:V) (cv:Value) (b:Bool),xs=[.ref x,c]∧zrE c=some cv∧H x=some (.ext (ObC x C))∧XIs K C∧kitOne K (.ref C) cv=some b∧Q (.bl b) H
theorem YH:yu X (.builtin "isinstance") (znN X.K):=by
 intro pins s σ H xs us Q I r h
 obtain⟨x,C,c,cv,b,rfl,hc,hx,xi,e,q⟩:=h
 obtain⟨u,v,rfl,r1,r2⟩:=r.two
 obtain rfl:=ur hc r2
 cases (show u=Value.ref x from r1)
 obtain⟨p,_,_⟩:=(show ObjOk X.prog X.w H s.heap x (.ext (ObC x C)) from I.hok x _ hx)
 exact kia_one (XE xi) I.kIn p e (fun z=>nomatch z) fun tk=>⟨.bl b,H,I.tok tk,rfl,q⟩
theorem yt {K:Frag}(h:X.K=K):yu X (.builtin "isinstance") (znN K):=by
 subst h
 exact YH
end
end L2
namespace L2
open PySem PySem.Spec PyProof.Rows
section
variable {X:Cx}{pins:List (Addr×Obj)}{σ:St}{H:Hp}{s:Shared}
theorem Ze {M:Model}{A:Around}{E:Value→Shared→Prop}{i:Nat}{x:Str}{Q:Unit→Shared→Prop}(I:Inv X pins σ H s) (hN:X.N.Nodup) (hi:X.N[i]?=some x) (hk:X.env.scope.names.lookup x=some .local){v:V}(hv:σ[i]?=some (some v))
  (h:∀ s',Inv X pins (σ.set i none) H s'→Q () s'):wpAny M A (unbindName X.env x) Q E s:=by
 obtain⟨m,hn,hl⟩:=id I.loc
 have hcls:(X.env.scope.kind == .class||(X.env.scope.kind == .module&&X.env.locals != X.env.globals))=false:=by rw[I.ok.kind];rfl
 have cne:=I.cne
 have hm:∃ u,m x=some u:=by
  obtain⟨u,_,q⟩:=hl i x v hi hv (.inl hk)
  rcases q with⟨_,e⟩ | ⟨k,_⟩
  ·exact⟨u,e⟩
  ·have hk':X.env.kindOf x=some .local:=hk
   rw[hk'] at k
   rcases k with k | k<;>cases k
 obtain⟨u0,hm⟩:=hm
 obtain⟨oL,_,_,hoL,_⟩:=id hn
 refine wpAny_unbindName_local hk hn hm hcls fun h' u' hn' hs=>?_
 have tracked:HOk X.prog X.w H h':=fun b ob e=>by
  refine(I.hok b ob e).stay (fun c w' hc q=>(hs.2 c ?_).trans q) (fun _ q=>q) fun _ _ q=>q
  rintro rfl
  have hfree:=I.free
  rcases hc with rfl | hc
  ·rw[hfree] at e;cases e
  ·rw[hfree] at hc;cases hc
 refine h _ ⟨I.ok,I.os,I.bare,⟨fun b o e n hb hx=>?_,fun b o e n hb hx=>?_,I.base.free,fun b o e hx=>?_,I.base.tups,I.base.frzs,I.base.tbls⟩,⟨_,hn',fun j y v' e1 e2 e3=>?_⟩,fun y c e=>?_,I.free,I.freeC,fun p hp=>?_,tracked,by simpa using I.len⟩
 ·exact(hs.2 b (Nat.ne_of_lt (Nat.lt_of_lt_of_le (Heap.lt_size e) I.ok.above))).trans (I.base.keep b o e n hb hx)
 ·obtain⟨sl,e1⟩:=I.base.slot b o e n hb hx
  exact⟨sl,(hs.2 b (Nat.ne_of_lt (Nat.lt_of_lt_of_le (Heap.lt_size e) I.ok.above))).trans e1⟩
 ·obtain⟨o',e1⟩:=I.base.there b o e hx
  exact⟨o',(hs.2 b (Nat.ne_of_lt (Nat.lt_of_lt_of_le (Heap.lt_size e) I.ok.above))).trans e1⟩
 ·by_cases hj:j=i
  ·subst hj
   rw[List.getElem?_set] at e2
   simp at e2
  ·rw[List.getElem?_set_ne (Ne.symm hj)] at e2
   obtain⟨u',r',q⟩:=hl j y v' e1 e2 e3
   refine⟨u',r',?_⟩
   rcases q with⟨k,e⟩ | ⟨k,c,e,z⟩
   ·refine .inl ⟨k,?_⟩
    have:y≠x:=fun e=>hj (nodup_ix hN e1 (e ▸ hi))
    simp[this,e]
   ·exact .inr ⟨k,c,e,z.sameBut hs (cne y c e)⟩
 ·obtain⟨w',z⟩:=I.cell y c e
  exact⟨w',z.sameBut hs (cne y c e)⟩
 ·obtain⟨e,n,ne,nf,d⟩:=I.pin p hp
  exact⟨(hs.2 p.1 ne).trans e,n,ne,nf,d⟩
theorem Yq {M:Model}{A:Around}{E:Value→Shared→Prop}{i:Nat}{x:Str}{pos:Pos}{Q:Unit→Shared→Prop}(I:Inv X pins σ H s) (hN:X.N.Nodup) (hi:X.N[i]?=some x) (hk:X.env.scope.names.lookup x=some .local)
  (h:∀ s',Inv X pins (σ.set i none) H s'→Q () s'):wpAny M A (do bindName X.env x .none;unbindBehindTheSuite X.env x pos) Q E s:=by
 have hiσ:i<σ.length:=by rw[I.len];exact(List.getElem?_eq_some_iff.mp hi).1
 refine wpAny_bind (wpAny_bindName (store_ok (v:=.non) I hN hi (.inl hk) rfl (fun s1 I1=>?_) (.inr hk)))
 unfold unbindBehindTheSuite
 refine wpAny_onRaise (Ze I1 hN hi hk (v:=.non) (List.getElem?_set_self hiσ) fun s2 I2=>h s2 ?_)
 rw[List.set_set] at I2
 exact I2
end
abbrev Ends.sans (D:Ends) (i:Nat):Ends:={ nx:=fun σ H=>D.nx (σ.set i none) H,rt:=D.rt,bk:=fun σ H=>D.bk (σ.set i none) H,ct:=fun σ H=>D.ct (σ.set i none) H }
end L2
namespace L2
open PySem
section
variable {X:Cx}{es:List Expr}{t:TA}{te:TE}
theorem zf {c j pos}(ha:Bx (PE X (.Constant c j pos) te)) (hr:Bx (PA X es t)):Bx (PA X (.Constant c j pos::es) (wK te t)):=by
 have ha:=ha.of
 have hr:=hr.of
 exact⟨yO ha hr rfl⟩
theorem yo {xs c pos}(ha:Bx (PE X (.Tuple xs c pos) te)) (hr:Bx (PA X es t)):Bx (PA X (.Tuple xs c pos::es) (wK te t)):=by
 have ha:=ha.of
 have hr:=hr.of
 exact⟨yO ha hr rfl⟩
theorem zt {f xs ks pos}(ha:Bx (PE X (.Call f xs ks pos) te)) (hr:Bx (PA X es t)):Bx (PA X (.Call f xs ks pos::es) (wK te t)):=by
 have ha:=ha.of
 have hr:=hr.of
 exact⟨yO ha hr rfl⟩
theorem zU {l o r pos}(ha:Bx (PE X (.BinOp l o r pos) te)) (hr:Bx (PA X es t)):Bx (PA X (.BinOp l o r pos::es) (wK te t)):=by
 have ha:=ha.of
 have hr:=hr.of
 exact⟨yO ha hr rfl⟩
theorem zbf {o r pos}(ha:Bx (PE X (.UnaryOp o r pos) te)) (hr:Bx (PA X es t)):Bx (PA X (.UnaryOp o r pos::es) (wK te t)):=by
 have ha:=ha.of
 have hr:=hr.of
 exact⟨yO ha hr rfl⟩
theorem za {x pos}(ha:Bx (PE X (.Name x pos) te)) (hr:Bx (PA X es t)):Bx (PA X (.Name x pos::es) (wK te t)):=by
 have ha:=ha.of
 have hr:=hr.of
 exact⟨yO ha hr rfl⟩
end
end L2
namespace L2
open PySem PySem.Spec PyProof.Rows
section
variable {X:Cx}
def zFT (K:PySem.W.Frag) (te ts:TE):TE:=fun σ H Q=>te σ H fun x H1=>ts σ H1 fun y H2=>y=.int (-1)∧∃ a xs,x=.ref a∧SqL K H2 a xs∧∀ p,H2 p=none→Q (.ref p) (upd H2 p (.lst xs.reverse))
theorem Y4 {e st:Expr}{te ts:TE}{p2 pos:Pos}(he:Bx (PE X e te)) (hs:Bx (PE X st ts)):Bx (PE X (.Subscript e (.Slice none none (some st) p2) pos) (zFT X.K te ts)):=by
 have he:=he.of
 have hs:=hs.of
 refine⟨?_⟩
 intro pins s σ H Q I h
 refine Subscript_ (thn (he pins s σ H _ I h) fun v s1 hq0=>?_)
 obtain⟨x,H1,I1,r1,q1⟩:=hq0
 refine wpAny_Slice ?_
 rw[evalPart_none]
 refine wpAny_pure (wpAny_pure ?_)
 rw[evalPart_some]
 refine thn (hs pins s1 σ H1 _ I1 q1) fun w s3 hq0=>?_
 obtain⟨y,H3,I3,r3,ey,a,xs,ex,hx,q⟩:=hq0
 subst ey
 subst ex
 obtain⟨t,rfl⟩:=r3
 cases r1
 have I4:Inv X pins σ H3 { s3 with heap:=s3.heap.push { cls:=.type "slice",data:=.fields #[.none,.none,.int (-1) t] } }:=I3.kept (t':=s3.toks) fun b ob q=>Heap.get?_push_of_some _ q
 obtain⟨its,r,ht,hz⟩:=I4.list hx
 have hlen:=r.length
 refine tail_any (T := "list") (ops:=[.ref a,.ref s3.heap.objs.size]) ht.isList.typeIs slot_list_getitem.lookup ?_ (by with_unfolding_all rfl)
 refine wpAny_getItem_list_slice ht.isList (Heap.IsSliceOf.new ..) .none .none (.int (-1) t) (by simp) ?_ (by rw[List.size_toArray]<;>omega)
 rw[PySem.W.krv_pick]
 refine⟨.ref _,_,I4.laid (t':=s3.toks) (o:=.lst xs.reverse) (fun b ob q=>Heap.get?_push_of_some _ q) (Nat.le_refl _) ?_,rfl,q _ (I4.hok.fresh (Nat.le_refl _))⟩
 exact⟨by rw[List.length_reverse];exact hz,_,0,r.reverse,Heap.get?_push_size _ rfl⟩
end
section
variable {X:Cx}{m:Str}{o e:Expr}{es:List Expr}{ta:TE}{t:TA}{apos pos:Pos}
def Wc (X:Cx) (m:Str) (ta:TE) (t:TA) (E:XK):TE:=fun σ H Q=>ta σ H fun x H1=>∃ (a C dx:Addr) (fs:List (Str×V)) (f:Addr) (fd:FuncData) (ps:List Str) (k:Nat) (sp:Sp),x=.ref a∧H1 a=some (.ins C dx fs)∧fs.lookup m=none∧Cls X.K C∧Meth X.K C m f ∧
 FnOk X.prog X.w X.K X.mg X.base (CX1 X.prog X.w) k f fd ps sp∧Room k X.A∧Binds X.K fd ps []∧t σ H1 fun vs H2=>sp (x::(vs++[])) H2 Q E
theorem Xg {pl:Sem Bool}(he:PE X.nox o ta) (ha:PA X.nox (e::es) t)
  (hst:starEach (e::es) X.env=(false,eval e X.env)::starEach es X.env:=by rfl) (hpl:(backTo pos (starEach es X.env)).any (·.1)=false:=by rfl)
  (ht:eval (.Call (.Attribute o m apos) (e::es) [] pos) X.env=(do
   let ov ← eval o X.env
   standAt apos.atName
   let (f,first) ← holding [ov] (getMethod ov m pl)
   callWith pos f first (backTo pos (starEach (e::es) X.env)) (backToKw pos (keywordEach [] X.env))):=by rfl) :
  PV X (.Call (.Attribute o m apos) (e::es) [] pos) (fun E=>Wc X m ta t E):=by
 intro pins s σ H Q E I h
 refine PySem.W.methodCall_KW (pl:=pl) (wpAny_mono (he pins s σ H _ (I.wish _) h) (fun u s1 hq0=>?_) fun _ _ z=>False.elim z) ht
 obtain⟨x,H1,I1,rx,a,C,dx,fs,f,fd,ps,k,sp,ex,ea,l,cl,hm,F,hr,hb,q⟩:=hq0
 subst ex
 obtain rfl:u=Value.ref a:=rx
 refine yr I1.unwish ea cl hm l ?_
 refine PySem.W.callWith_K (first:=[.ref a]) (h₀:=X.base) I.ok.mod.kin hm.kp (wpAny_mono (ha pos pins s1 σ H1 _ I1 q) (fun us s2 hq=>?_) fun _ _ z=>False.elim z) hst hpl
 obtain⟨vs,H2,I2,r,q2⟩:=hq
 exact⟨I2.unwish.kIn,Ut (us:=.ref a::us) (vs:=.ref a::vs) F hr hb .nil I2.unwish (.cons rfl r) q2⟩
end
def Vm (K:PySem.W.Frag) (C f:Addr):Bool:=match K.lookup C with
 |some ⟨.type "type",_,.cls cd,sl⟩=>(match cd.mro,sl.toList with
  |.ref C'::bm,[_,_,_,_,some (.builtin n),_]=>C' == C&&n == "ValueError.__new__" && !cd.hasDel&&PySem.W.tailIn K vS bm&&PySem.W.nsOkIn K cd.ns&&PySem.W.nsIn K cd.ns "__init__" == some (some (.ref f))
  |_,_=>false)
 |_=>false
def zyH (h:Heap) (C f:Addr):Prop:=∃ bm N nm qn bs hd sn sub ab col dd k0 k1 k2 k3 k5 mN,h.get? C=some (excClassObj nm qn C N bs bm hd sn sub ab col dd k0 k1 k2 k3 k5 "ValueError.__new__")∧h.Ns N mN∧mN "__init__" = some (.ref f)∧OwnTail h vS bm
theorem zpa {K:PySem.W.Frag}{h:Heap}{N:Addr}{m:Str→Option Value}{x:Str}{v:Value}(X:K.In h) (G:h.Ns N m) (q:PySem.W.nsIn K N x=some (some v)):m x=some v:=by
 obtain⟨o,es,ep,e1,e2,_,e3⟩:=G
 unfold PySem.W.nsIn at q
 split at q
 case h_2=>cases q
 case h_1 lk =>
  have z:=e1.symm.trans (X _ _ lk)
  cases z
  cases e2
  split at q
  case h_2 =>
   split at q<;>cases q
  case h_1 fd =>
   rw[← e3]
   unfold nsFind findBy
   rw[← Array.find?_toList,fd]
   exact Option.some.inj q
theorem u5 {K:PySem.W.Frag}{C f:Addr}(x:Vm K C f=true){h:Heap}(I:K.In h):zyH h C f:=by
 unfold Vm at x
 split at x
 case h_2=>cases x
 case h_1 dd cd sl lk =>
  split at x
  case h_2=>cases x
  case h_1 C2 bm k0 k1 k2 k3 nid k5 em es =>
   rw[Bool.and_eq_true,Bool.and_eq_true,Bool.and_eq_true,Bool.and_eq_true,Bool.and_eq_true] at x
   obtain⟨⟨⟨⟨⟨x1,x2⟩,x3⟩,x4⟩,x5⟩,x6⟩:=x
   cases (beq_iff_eq.mp x1)
   cases (beq_iff_eq.mp x2)
   cases cd with
   |mk nm bs mro ns qn hd sn sub ab col del =>
    have e1:mro=.ref C::bm:=em
    have e2:del=false:=by
     cases del with
     |false=>rfl
     |true=>cases x3
    have e3:sl = #[k0,k1,k2,k3,some (.builtin "ValueError.__new__"),k5]:=by
     cases sl with
     |mk l =>
      have e:l=_:=es
      rw[e]
    rw[e1,e2,e3] at lk
    have hn:h.Ns ns (h.nsMap ns):=.of_isNs (PySem.W.isNs_of_in I x5)
    exact⟨bm,ns,nm,qn,bs,hd,sn,sub,ab,col,dd,k0,k1,k2,k3,k5,_,I _ _ lk,hn,zpa I hn (beq_iff_eq.mp x6),PySem.W.tail_of_in I x4⟩
def XAny (K:PySem.W.Frag) (C:Addr):Prop:=XCls K C∨∃ g,Vm K C g=true
def zHr (h:Heap) (C:Addr):Prop:=∃ bm N nm qn bs hd sn sub ab col dd k0 k1 k2 k3 k5,h.get? C=some (excClassObj nm qn C N bs bm hd sn sub ab col dd k0 k1 k2 k3 k5 "ValueError.__new__")∧OwnTail h vS bm
theorem XAny.obj {K:PySem.W.Frag}{C:Addr}(x:XAny K C){h:Heap}(I:K.In h):zHr h C:=by
 rcases x with x | ⟨g,x⟩
 ·obtain⟨bm,N,nm,qn,bs,hd,sn,sub,ab,col,dd,k0,k1,k2,k3,k5,mN,h1,h2,h3,h4⟩:=x.obj I
  exact⟨bm,N,nm,qn,bs,hd,sn,sub,ab,col,dd,k0,k1,k2,k3,k5,h1,h4⟩
 ·obtain⟨bm,N,nm,qn,bs,hd,sn,sub,ab,col,dd,k0,k1,k2,k3,k5,mN,h1,h2,h3,h4⟩:=u5 x I
  exact⟨bm,N,nm,qn,bs,hd,sn,sub,ab,col,dd,k0,k1,k2,k3,k5,h1,h4⟩
def zbc (K:PySem.W.Frag) (C C1:Addr):Option Bool:=match K.lookup C with
 |some ⟨_,_,.cls cd,_⟩=>some (cd.mro.contains (.ref C1))
 |_=>none
theorem zbd {M:Model}{A:Around}{E:Value→Shared→Prop}{s:Shared}{K:PySem.W.Frag}{C C1 a:Addr}{b:Bool}{Q:Bool→Shared→Prop}(X:K.In s.heap) (c:XAny K C) (c1:XAny K C1) (hs:zbc K C C1=some b) (ho:ObC a C s.heap) (hq:Q b s) :
  wpAny M A (excMatches (.ref a) (.ref C1)) Q E s:=by
 obtain⟨bm,N,nm,qn,bs,hd,sn,sub,ab,col,dd,k0,k1,k2,k3,k5,hC,T⟩:=c.obj X
 obtain⟨bm1,N1,nm1,qn1,bs1,hd1,sn1,sub1,ab1,col1,dd1,j0,j1,j2,j3,j5,hC1,T1⟩:=c1.obj X
 have hc:(Value.ref C::bm).contains (.ref C1)=b:=by
  unfold zbc at hs
  split at hs
  ·rename_i lk
   have z:=hC.symm.trans (X _ _ lk)
   cases z
   exact Option.some.inj hs
  ·cases hs
 have cB:(Value.ref C1::bm1).contains (.type "BaseException")=true:=by rw[List.contains_cons,T1.hasType (b:=true) rfl,Bool.or_true]
 obtain⟨o,he,ec⟩:=ho
 obtain⟨h,g,d,t,os⟩:=s
 have f:=tc_notTuple
 unfold excMatches
 repeat (first | (with_reducible refine wpAny_loadPart_at he ?_;rw[ec]) | with_reducible refine wpAny_loadPart_at hC1 ?_ | (with_reducible refine wpAny_isSubtype_exc hC1 ?_;rw[cB]) | (with_reducible refine wpAny_isSubtype_exc hC ?_;rw[hc]) | wp_step)
 cases b<;>(repeat wp_step)<;>exact hq
section
variable {X:Cx}{pins:List (Addr×Obj)}{σ:St}{H:Hp}{s:Shared}
theorem Inv.addE {a:Addr}{φ:Heap→Prop}(I:Inv X pins σ H s) (h0:∀ b o,X.s₀.heap.get? b=some o→b∉X.ex→b≠a) (hn:H a=none) (hl:X.env.locals≠a) (hc:∀ x c,X.env.cells.lookup x=some c→c≠a) (hp:∀ p∈X.pn++pins,p.1≠a)
  (ob:ObjOk X.prog X.w (upd H a (.ext φ)) s.heap a (.ext φ)):Inv X pins σ (upd H a (.ext φ)) s:=by
 have ne:∀ {b:Addr}{u:HO},H b=some u→b≠a:=fun e=>ne_of_none e hn
 refine⟨I.ok,I.os,I.bare,⟨I.base.keep,I.base.slot,fun b o q n hx=>?_,I.base.there,fun b xs q=>?_,fun b o u q=>?_,fun b ps q=>?_⟩,I.loc,I.cell,?_,fun x c e=>?_,fun p hq=>?_,fun b u e=>?_,I.len⟩
 ·rw[ze (h0 b o q hx)]
  exact I.base.free b o q n hx
 ·have:=I.base.tups b xs q
  rw[ze (ne this)]
  exact this
 ·have:=I.base.frzs b o u q
  rw[ze (ne this)]
  exact this
 ·obtain⟨more,this⟩:=I.base.tbls b ps q
  exact⟨more,by rw[ze (ne this)];exact this⟩
 ·rw[ze hl]
  exact I.free
 ·rw[ze (hc x c e)]
  exact I.freeC x c e
 ·obtain⟨e,n,n1,n2,d⟩:=I.pin p hq
  exact⟨e,by rw[ze (hp p hq)];exact n,n1,n2,d⟩
 ·by_cases hb:b=a
  ·subst hb
   rw[upd_same] at e
   cases e
   exact ob
  ·rw[ze hb] at e
   exact(I.hok b u e).stay (fun c v _ q=>q) (fun c q=>by rw[ze (ne_of_none q hn)];exact q) fun c xs q=>by rw[ze (ne_of_none q hn)];exact q
end
def ObX (a C:Addr):Option Addr→Heap→Prop
 |none=>ObC a C
 |some D=>fun h=>∃ o,h.get? a=some o∧o.cls=.ref C∧o.dict=some D∧PySem.W.notCls o=true
theorem zn6 {P:Program}{w:World}{H:Hp}{h:Heap}{a C:Addr}{dd:Option Addr}(o:∃ ob,h.get? a=some ob∧ob.cls=.ref C∧PySem.W.notCls ob=true) (d:∀ D,dd=some D→DictAt a D h):ObjOk P w H h a (.ext (ObX a C dd)):=by
 obtain⟨ob,e,c,nc⟩:=o
 cases dd with
 |none=>exact⟨⟨ob,e,c⟩,⟨ob,e⟩,fun h1 h2 ⟨o,e,c⟩ k=>⟨o,k o e,c⟩⟩
 |some D =>
  obtain⟨o',e',d'⟩:=d D rfl
  rw[e] at e'
  cases e'
  exact⟨⟨ob,e,c,d',nc⟩,⟨ob,e⟩,fun h1 h2 ⟨o,e,c,d,n⟩ k=>⟨o,k o e,c,d,n⟩⟩
structure Fl (X:Cx) (pins:List (Addr×Obj)) (σ:St) (H:Hp) (s:Shared) (h:Heap) (a C:Addr) (dd:Option Addr):Prop where
 ex:∃ H1 s1 B a0,Inv X pins σ H1 s1∧Lies X.prog X.w X.stack H1 s1 H s B∧s.heap.UpToSlots h∧Heap.FlyingW B X.stack a (.ref C) a0 h∧s1.heap.get? a=none
 ha:H a=none
 dk:∀ D,dd=some D→DictAt a D h
section
variable {X:Cx}{pins:List (Addr×Obj)}{σ:St}{H:Hp}{s:Shared}{h:Heap}{a C:Addr}{dd:Option Addr}
theorem Fl.inv (F:Fl X pins σ H s h a C dd):Inv X pins σ H { s with heap:=h }:=by
 obtain⟨H1,s1,B,a0,I,L,up,W,_⟩:=F.ex
 exact Lies.inv (t2:=s.toks) I L W.1 up
theorem Fl.ob (F:Fl X pins σ H s h a C dd):ObC a C h:=by
 obtain⟨H1,s1,B,a0,I,L,up,W,_⟩:=F.ex
 exact W.there
theorem Fl.ob2 (F:Fl X pins σ H s h a C dd):∃ ob,h.get? a=some ob∧ob.cls=.ref C∧PySem.W.notCls ob=true:=by
 obtain⟨H1,s1,B,a0,I,L,up,W,_⟩:=F.ex
 obtain⟨oe,vs,he,hc,hd,_⟩:=W.first
 exact⟨oe,he,hc,by unfold PySem.W.notCls;rw[hd]⟩
theorem Fl.look (F:Fl X pins σ H s h a C dd):Inv X pins σ (upd H a (.ext (ObX a C dd))) { s with heap:=h }:=by
 have J:=F.inv
 obtain⟨H1,s1,B,a0,I,L,up,W,young⟩:=F.ex
 refine J.addE (fun b o e hx z=>?_) F.ha (fun z=>?_) (fun y k e z=>?_) (fun p hp z=>?_) (zn6 F.ob2 F.dk)
 ·obtain⟨o',e'⟩:=I.base.there b o e hx
  rw[z,young] at e'
  cases e'
 ·obtain⟨m,⟨o,_,_,e,_⟩,_⟩:=I.loc
  rw[z,young] at e
  cases e
 ·obtain⟨w',o,e',_⟩:=I.cell y k e
  rw[z,young] at e'
  cases e'
 ·have:=(I.pin p hp).1
  rw[z,young] at this
  cases this
theorem Fl.lands {M:Model}{A:Around}{E:Value→Shared→Prop}{Q:Unit→Shared→Prop}(F:Fl X pins σ H s h a C dd) (hQ:∀ h',Fl X pins σ H s h' a C dd→Q () { s with heap:=h' }):wpAny M A (setFlight (.ref a) none) Q E { s with heap:=h }:=by
 obtain⟨H1,s1,B,a0,I,L,up,W,young⟩:=F.ex
 exact zaG (s:={ s with heap:=h }) W fun h' W' up' kd=>hQ h' ⟨⟨H1,s1,B,a0,I,L,up.trans up',W',young⟩,F.ha,fun D e=>kd _ _ (F.dk D e)⟩
end
def PH (X:Cx) (hs:List ExceptHandler) (th:Addr→Option Addr→TS):Prop:=∀ (pins:List (Addr×Obj)) (σ:St) (H:Hp) (D:Ends) (s:Shared) (h:Heap) (a C:Addr) (dd:Option Addr),Fl X pins σ H s h a C dd→th C dd D σ H →
 wpAny (model X.prog X.w) X.A (handleBy (.ref a) X.env hs) (SP X pins D) X.xe { s with heap:=h }
def zbm (tb:XK→TS) (th:Addr→Option Addr→TS):TS:=fun D σ H=>tb (fun cls dd H'=>∃ C,cls=.ref C∧th C dd D σ H') D σ H
theorem Ux {X:Cx}{body:List Stmt}{h0:ExceptHandler}{hs:List ExceptHandler}{pos:Pos}{tb:XK→TS}{th:Addr→Option Addr→TS}(hst:X.stack=X.env::X.outer) (hfr:X.env.frame=some X.env.locals) (hb:PX X body tb) (hh:PH X (h0::hs) th) :
  PS X (.Try body (h0::hs) [] [] pos) (zbm tb th):=by
 intro pins s σ H D I h
 refine wpAny_Try_except (wpAny_mono (hb pins s σ H D _ I h) (fun fl s1 q=>?_) (fun e s1 hx=>?_))
 ·cases fl with
  |next=>exact wpAny_execs_nil q
  |ret v=>exact q
  |brk=>exact q
  |cont=>exact q
 ·obtain⟨H1,s2,I1,a,cls,a0,H',B,rfl,L,F,dd,hdd,C,rfl,hts⟩:=hx
  obtain⟨sh,sg,sd,stk,sos⟩:=s1
  -- the exception is younger than the call
  have young:s2.heap.get? a=none:=by
   cases e:s2.heap.get? a with
   |none=>rfl
   |some o =>
    obtain⟨_,f2,f3,oe,vs,_,_,_,he,_,hd,_⟩:=id F
    by_cases hf:a∈frs X.stack
    ·obtain⟨_,o',ho',hnf⟩:=f3.mem hf
     have z:=ho'.symm.trans he
     cases z
     exact absurd hd (hnf vs)
    ·obtain⟨o',e'⟩:=L.c3 a o e hf
     rw[f2] at e'
     cases e'
  have Ha:H' a=none:=by
   cases e:H' a with
   |none=>rfl
   |some o =>
    obtain⟨u,hu⟩:=L.hok.thr e
    have:=L.c2 a u (by rw[e];intro z;cases z) hu
    rw[F.2.1] at this
    cases this
  have F':=F
  rw[hst] at F'
  refine zpb (s:=⟨sh,sg,sd,stk,sos⟩) (outer:=X.outer) (L:=X.env.locals) (by rw[I.ok.frames,hst]) hfr F' fun h4 Hd4 up4 kd4=>zpf (s:=⟨h4,sg,sd,stk,sos⟩) Hd4 fun h5 F5 up5 kd5=>?_
  refine hh pins σ H' D ⟨sh,sg,sd,stk,sos⟩ h5 a C dd ⟨⟨H1,s2,B,a0,I1,L,up4.trans up5,?_,young⟩,Ha,fun D e=>kd5 _ _ (kd4 _ _ (hdd D e))⟩ hts
  rw[hst]
  exact F5
theorem entry_dul:entryFor table "dict.update.loop" = some Builtin.«dict.update.loop»:=entryFor_of_tree (by kernel_rfl)
theorem plain_dul:plainId "dict.update.loop" = true:=by decide +kernel
theorem Yd:typeLookup (.type "list") "keys" = pure none:=am_miss_of_fast (by kernel_rfl)
section
variable {P:Program}{w:World}{A:Around}{E:Value→Shared→Prop}{s:Shared}
theorem zaz {a:Addr}{xs:Array Value}{Q:Option Value→Shared→Prop}(hl:PlainL s.heap a xs) (hA:A.handled=none)
  (q:∀ h' tk,(∀ b o,s.heap.get? b=some o→h'.get? b=some o)→Q none { s with heap:=h',toks:=tk }):wpAny (model P w) A (getAttr? (.ref a) "keys") Q E s:=by
 obtain⟨o,n,hx,hc,hd,hs⟩:=hl
 obtain⟨c,dct,dat,sl⟩:=o
 dsimp only at hc hd hs
 subst hc hd hs
 obtain⟨hp,g,dr,tk0,os⟩:=s
 have hT:∀ tk',(⟨hp,g,dr,tk',os⟩:Shared).TypeIs (.ref a) "list" := fun _=>⟨_,hx,rfl⟩
 have f1:=sub_AttributeError
 have f3:=F.slot_list_getattribute.lookup
 have f4:=F.slot_list_getattribute.bind (.ref a)
 have f5:=am_list_getattr_none
 unfold getAttr? getAttrBy? getAttrBy
 repeat (any_goals (first | assumption | exact hT _ | ((with_reducible show wpAny _ _ (call (Value.builtin "list.__getattribute__") _ _) _ _ _);refine call_meets F.slot_list_getattribute (hT _) am_entry_list_getattribute (F.args_list_getattribute_2 _ _) (meets_getattribute_miss_list a xs n sl "keys" _ Yd (by decide +kernel) (by decide +kernel)) ⟨hx,hA,fun h1 tk1 e1 ne=>?_⟩) | wp_step))
 obtain⟨t',u',he⟩:=ne.there
 show wpAny _ _ (getattributeRaised _ _ _ _ _ _ _) _ _ _
 unfold getattributeRaised hookOrError attributeErrorLeaves
 repeat (any_goals (first | assumption | wp_step))
 exact q _ _ ne.keeps
variable {K:Type} [DecidableEq K]{knd:KeyKind P w K}
theorem zpo {d I:Addr}{fp wr:List Addr}{n:Nat}{Is:Nat→Value→Prop}{St:Nat→Heap→Prop}{R:Except Value Flow→Shared→Prop}(W:Walks P w A.in1 I fp wr n Is St) (nf:d∉fp) (kvs:List (K×Value)) (hk:kvs.length=n) (hz:n≤1000)
  (h0:Heap) (hI:∀ i v,Is i v→∃ q k,v=.ref q∧(∃ o x,h0.get? q=some o∧o.cls=.type "tuple" ∧ o.data=.seq #[k,(kvs[i]?.map (·.2)).getD .none] x)∧∃ kk,(kvs[i]?.map (·.1))=some kk∧knd.is kk k=true)
  (hq:∀ i v q,Is i v→v=.ref q→q∉wr∧q≠d) :
  ∀ (r j:Nat) (t:Shared) (tk0:Tok),j+r=n→St j t.heap→t.heap.DictOf knd d (merged [] (kvs.take j))→(∀ b o,b∉wr→b≠d→h0.get? b=some o→t.heap.get? b=some o) →
   (∀ h' tk,h'.DictOf knd d (merged [] kvs)→(∀ b o,b∉wr→b≠d→t.heap.get? b=some o→h'.get? b=some o)→R (.ok (.ret .none)) { t with heap:=h',toks:=tk }) →
   codeAny (model P w) A (.builtin "dict.update.loop" ⟨[.ref d,.ref I,.int (j:Int) tk0,.none],[]⟩) R t:=by
 have nw:d∉wr:=fun z=>nf (W.sub _ z)
 intro r
 induction r with
 |zero =>
  intro j t tk0 hj st hd keep fin
  have ej:j=n:=by omega
  subst ej
  refine codeAny_builtin entry_dul (by
   rw[Around.under_plainId plain_dul _]
   show wpAny _ A.in1 (pyNext (.ref I) >>= _) _ _ t
   refine wpAny_bind (W.done t _ _ st fun h1 tk kk=>?_)
   show wpAny _ A.in1 (Builtin.Dict.addKeywords d [] >>= _) _ _ _
   rw[← hk,List.take_length] at hd
   obtain⟨o,ho,hdo⟩:=Heap.dictOf_iff.mp hd
   exact wpAny_bind (wpAny_pure (wpAny_pure (fin h1 tk (Heap.dictOf_iff.mpr ⟨o,kk d o nw ho,hdo⟩) fun b o n1 _ e=>kk b o n1 e))))
 |succ r ih =>
  intro j t tk0 hj st hd keep fin
  refine codeAny_builtin entry_dul (by
   rw[Around.under_plainId plain_dul _]
   show wpAny _ A.in1 (pyNext (.ref I) >>= _) _ _ t
   refine wpAny_bind (W.item j t _ _ (by omega) st fun v h1 tk iv st1 kk=>?_)
   obtain⟨q,k,rfl,⟨o,x,hq0,hc,hs⟩,kx,hkx,hki⟩:=hI j v iv
   obtain⟨nq1,nq2⟩:=hq j _ q iv rfl
   have hq1:=kk q o nq1 (keep q o nq1 nq2 hq0)
   obtain⟨od,hod,hdo⟩:=Heap.dictOf_iff.mp hd
   have hd1:h1.DictOf knd d (merged [] (kvs.take j)):=Heap.dictOf_iff.mpr ⟨od,kk d od nw hod,hdo⟩
   obtain⟨⟨k2,v2⟩,hkv⟩:∃ kv,kvs[j]?=some kv:=⟨kvs[j]'(by omega),by simp[show j<kvs.length by omega]⟩
   rw[hkv] at hs hkx
   cases hkx
   show wpAny _ A.in1 (holding [Value.ref q] (tryCatch (Builtin.Dict.pairItems (Value.ref q)) _ >>= _) >>= _) _ _ _
   refine wpAny_bind (wpAny_holding (wpAny_bind (wpAny_tryCatch ?_)))
   unfold Builtin.Dict.pairItems
   refine wpAny_bind (wpAny_typeOf (T := "tuple") ⟨o,hq1,hc⟩ ?_)
   rw[if_pos (by decide)]
   refine wpAny_bind (wpAny_seqItems hq1 hs (wpAny_pure ?_))
   show wpAny _ A.in1 (holding [k,v2] (dictSet d k v2)) _ _ _
   refine wpAny_holding (wpAny_dictSet_pairs hki hd1 (fun h2 hd2 sb=>?_) ?_)
   ·show wpAny _ A.in1 (pure _) _ _ _
    have hm:=merged_take_succ ([]:List (K×Value)) kvs j (k2,v2) hkv
    refine wpAny_pure ⟨plainId_quiet plain_dul _,ih (j+1) _ _ (by omega) (W.frame _ _ _ st1 fun b hb o e=>?_) (by rw[hm];exact hd2) (fun b o n1 n2 e=>?_) fun h3 tk3 hd3 kk3=>fin h3 tk3 hd3 fun b o n1 n2 e=>kk3 b o n1 n2 ?_⟩
    ·exact(sb.2 b fun z=>nf (z ▸ hb)).trans e
    ·exact(sb.2 b n2).trans (kk b o n1 (keep b o n1 n2 e))
    ·exact(sb.2 b n2).trans (kk b o n1 e)
   ·have:=merged_length_le ([]:List (K×Value)) (kvs.take j)
    rw[List.length_take] at this
    simp only[List.length_nil] at this
    exact Nat.le_trans (show _≤1000 by omega) (by decide))
end
section
variable {X:Cx}
theorem vZ:∀ {xs:List V}{us:List Value}{i:Nat}{u:Value},Vals xs us→us[i]?=some u→∃ x,xs[i]?=some x∧RelV x u
 |_,_,0,_,.cons r _,h=>by cases h;exact⟨_,rfl,r⟩
 |_,_,i+1,_,.cons _ t,h=>by
  obtain⟨x,e,r⟩:=vZ t (by simpa using h)
  exact⟨x,by simpa using e,r⟩
theorem ue {pins:List (Addr×Obj)}{σ:St}{H:Hp}{s:Shared}(I:Inv X pins σ H s):∀ (qs:List Addr) (kvs:List (Key×V)),qs.length=kvs.length→(∀ (i:Nat) (q:Addr) (kv:Key×V),qs[i]?=some q→kvs[i]?=some kv→H q=some (.tup [kV kv.1,kv.2])) →
  ∃ vs:List (Key×Value),KV kvs vs∧∀ (i:Nat) (q:Addr),qs[i]?=some q→∃ o x k kv,s.heap.get? q=some o∧o.cls=.type "tuple" ∧ o.data=.seq #[k,kv.2] x∧vs[i]?=some kv∧(zu X.prog X.w).is kv.1 k=true
 |[],[],_,_=>⟨[],.nil,fun i q h=>by simp at h⟩
 |q::qs,kv::kvs,hl,h=>by
  obtain⟨vs,r,hv⟩:=ue I qs kvs (by simpa using hl) fun i q' kv' h1 h2=>h (i+1) q' kv' (by simpa using h1) (by simpa using h2)
  have h0:=h 0 q kv rfl rfl
  obtain⟨its,rv,it,_⟩:=I.tuple (SqT.of h0)
  obtain⟨uk,ux,rfl,rk,rx⟩:∃ uk ux,its=[uk,ux]∧RelV (kV kv.1) uk∧RelV kv.2 ux:=by
   cases rv with | cons r1 rv =>
   cases rv with | cons r2 rv =>
   cases rv
   exact⟨_,_,rfl,r1,r2⟩
  obtain⟨o,e,oc,n,od⟩:=it
  refine⟨(kv.1,ux)::vs,.cons ⟨rfl,rx⟩ r,fun i q' hi=>?_⟩
  cases i with
  |zero =>
   cases hi
   exact⟨o,n,uk,(kv.1,ux),e,oc,od,rfl,xI rk⟩
  |succ i=>exact hv i q' (by simpa using hi)
def znO (K:PySem.W.Frag):List V→Hp→VK→Prop:=fun xs H Q=>∃ (a:Addr) (qs:List Addr) (kvs:List (Key×V)),xs=[V.ref a]∧H a=some (.lst (qs.map V.ref))∧qs.length=kvs.length∧kvs.length≤1000∧(∀ (i:Nat) (q:Addr) (kv:Key×V),qs[i]?=some q→kvs[i]?=some kv→H q=some (.tup [kV kv.1,kv.2])) ∧
 ∀ p,H p=none→Q (.ref p) (upd H p (.dK (mergeK [] kvs)))
theorem we (hc:X.calm=true):yu X (.type "dict") (znO X.K):=by
 intro pins s σ H xs us Q I r h
 obtain⟨a,qs,kvs,rfl,ha,hl,hz,hq,k⟩:=h
 obtain⟨u,rfl,ru⟩:=r.one
 cases ru
 obtain⟨its,rv,pl,_⟩:=I.list (SqL.of ha)
 have hA:X.A.handled=none:=I.ok.hd hc
 refine callType_codes (Q₁:=fun obj s₁=>obj=.ref s.heap.objs.size∧s₁={ s with heap:=s.heap.push { cls:=.type "dict",data:=.dict #[] } }) F.kt_called_dict (F.kt_typeCall_dict_1 _) F.entry_dict_init (kt_code_dict_new _ ⟨rfl,rfl⟩) ?_
 rintro obj s₁ ⟨rfl,rfl⟩
 have hnew:(s.heap.push { cls:=.type "dict",data:=.dict #[] }).DictOf (zu X.prog X.w) s.heap.objs.size []:=Heap.DictOf.new s.heap
 have lt:a<s.heap.objs.size:=by
  obtain⟨_,e,_⟩:=pl.isList
  exact Heap.lt_size e
 have pl1:PlainL (s.heap.push { cls:=.type "dict",data:=.dict #[] }) a its.toArray:=by
  obtain⟨o,n,e,r⟩:=pl
  exact⟨o,n,Heap.get?_push_of_some _ e,r⟩
 refine⟨hnew.typeIs,F.args_dict_init_2 _ _,?_⟩
 unfold Builtin.«dict.__init__»
 refine wpAny_bind ?_
 unfold Builtin.Dict.selfAndRest
 refine wpAny_bind (wpAny_notOrdered_dict hnew.typeIs ?_)
 show wpAny _ _ (pure (s.heap.objs.size,[Value.ref a])) _ _ _
 refine wpAny_pure ?_
 show wpAny _ _ (Builtin.Dict.updateFrom "dict.__init__" s.heap.objs.size (.ref a) [] .none) _ _ _
 unfold Builtin.Dict.updateFrom
 obtain⟨o,n,e,oc,od,os⟩:=pl1
 refine wpAny_bind (wpAny_typeOf (T := "list") ⟨o,e,oc⟩ ?_)
 rw[if_pos (by decide)]
 refine wpAny_bind (zaz ⟨o,n,e,oc,od,os⟩ hA fun h1 tk1 kk1=>?_)
 obtain⟨vs,rel,hvs⟩:=ue I qs kvs hl hq
 have hl1:h1.IsList a its.toArray:=⟨o,kk1 _ _ e,oc,n,os⟩
 show wpAny _ _ (rule _ >>= _) _ _ _
 refine wpAny_bind (wpAny_rule (wpAny_bind (wpAny_pyIter_list hl1 ?_)))
 have nd0:(s.heap.push { cls:=.type "dict",data:=.dict #[] }).get? s.heap.objs.size=some { cls:=.type "dict",data:=.dict #[] }:=Heap.get?_push_size _ rfl
 have nd1:=kk1 _ _ nd0
 have ltd:s.heap.objs.size<h1.objs.size:=Heap.lt_size nd1
 have lta:a<h1.objs.size:=Nat.lt_trans lt ltd
 have len:its.toArray.size=vs.length:=by
  have e1:=rv.length
  rw[List.length_map] at e1
  have e2:=rel.length
  simp
  omega
 have lvs:vs.length=kvs.length:=(rel.length).symm
 have W:=Walks.list (prog:=X.prog) (w:=X.w) (A:=X.A.in1.in1) hA h1.objs.size a (Nat.ne_of_lt lta) its.toArray
 have st:((h1.push { cls:=.type "list_iterator",data:=.fields #[.ref a,.int 0 0] }).IsListIter h1.objs.size a 0∧(h1.push { cls:=.type "list_iterator",data:=.fields #[.ref a,.int 0 0] }).IsList a its.toArray):=⟨⟨_,Heap.get?_push_size _ rfl,rfl,rfl⟩,hl1.push _⟩
 have nf:s.heap.objs.size∉[h1.objs.size,a]:=by
  intro z
  rcases List.mem_cons.mp z with z | z
  ·exact Nat.lt_irrefl _ (z ▸ ltd)
  ·exact Nat.lt_irrefl _ ((List.mem_singleton.mp z) ▸ lt)
 have item:∀ (i:Nat) (v:Value),its.toArray[i]?=some v→∃ q:Addr,v=Value.ref q∧qs[i]?=some q:=fun i v hv=>by
  have hv:its[i]?=some v:=by simpa using hv
  obtain⟨x,hx,rx⟩:=vZ rv hv
  rw[List.getElem?_map] at hx
  obtain⟨q,hq,rfl⟩:=Option.map_eq_some_iff.mp hx
  exact⟨q,rx,hq⟩
 have hd0:(h1.push { cls:=.type "list_iterator",data:=.fields #[.ref a,.int 0 0] }).DictOf (zu X.prog X.w) s.heap.objs.size []:=by
  obtain⟨od,hod,hdo⟩:=Heap.dictOf_iff.mp hnew
  exact Heap.dictOf_iff.mpr ⟨od,Heap.get?_push_of_some _ (kk1 _ _ hod),hdo⟩
 refine wpAny_pure ⟨plainId_quiet plain_dul _,zpo (A:=X.A.in1) (knd:=zu X.prog X.w) W nf vs len.symm (by omega) s.heap ?_ ?_ its.toArray.size 0 _ 0 (by omega) st hd0 ?_ ?_⟩
 ·intro i v hv
  obtain⟨q,rfl,hq'⟩:=item i v hv
  obtain⟨o,x,k',kv,e1,e2,e3,e4,e5⟩:=hvs i q hq'
  exact⟨q,k',rfl,⟨o,x,e1,e2,by rw[e4];exact e3⟩,kv.1,by rw[e4];rfl,e5⟩
 ·intro i v q hv ev
  obtain⟨q',rfl,hq'⟩:=item i v hv
  cases ev
  obtain⟨o,x,k',kv,e1,_⟩:=hvs i _ hq'
  have l1:=Heap.lt_size e1
  exact⟨fun z=>by rw[List.mem_singleton.mp z] at l1;exact Nat.lt_irrefl _ (Nat.lt_trans l1 ltd),fun z=>by rw[z] at l1;exact Nat.lt_irrefl _ l1⟩
 ·intro b o n1 n2 e
  exact Heap.get?_push_of_some _ (kk1 _ _ (Heap.get?_push_of_some _ e))
 ·intro h' tk hd' kk'
  refine⟨rfl,?_⟩
  refine⟨.ref s.heap.objs.size,_,I.laid (a:=s.heap.objs.size) (o:=.dK (mergeK [] kvs)) (t':=tk) (fun b o e=>?_) (Nat.le_refl _) (wb ?_ (beq_eq_false_iff_ne.mpr (Ne.symm (Nat.ne_of_lt I.big))) (KV.merge rel .nil) hd'),rfl,k _ (I.hok.fresh (Nat.le_refl _))⟩
  ·have l1:=Heap.lt_size e
   refine kk' b o (fun z=>?_) (fun z=>?_) (Heap.get?_push_of_some _ (kk1 _ _ (Heap.get?_push_of_some _ e)))
   ·rw[List.mem_singleton.mp z] at l1
    exact Nat.lt_irrefl _ (Nat.lt_trans l1 ltd)
   ·rw[z] at l1
    exact Nat.lt_irrefl _ l1
  ·have e1:=(KV.merge rel (.nil:KV ([]:List (Key×V)) [])).length
   have e2:=merged_length_le ([]:List (Key×Value)) vs
   simp only[List.length_nil] at e2
   exact Nat.le_trans (show _≤1000 by omega) (by decide)
end
def zrT (td ty:TE):TE:=fun σ H Q=>td σ H fun x H1=>∃ a,x=.ref a∧IsD H1 a∧ty σ H1 fun y H2=>∃ b kvs more,y=.ref b∧a≠b∧H2 a=some (.dK kvs)∧H2 b=some (.dK more)∧kvs.length+more.length≤1000∧Q .non (upd H2 a (.dK (mergeK kvs more)))
section
variable {X:Cx}{o e:Expr}{apos cpos:Pos}{td ty:TE}
theorem w_pe_dupd (ho:Bx (PE X o td)) (he:Bx (PE X e ty)) (m:M1 X o "update" apos e cpos):Bx (PE X (.Call (.Attribute o "update" apos) [e] [] cpos) (zrT td ty)):=by
 have ho:=ho.of
 have he:=he.of
 refine⟨?_⟩
 intro pins s σ H Q I h
 refine wpAny_Call_method m.base m.few m.line PySem.F.plainAttrs_dict PySem.F.slot_dict_update PySem.F.type_dict_update (thn (ho pins s σ H _ I h) fun u s1 hq0=>?_)
 obtain⟨x,H1,I1,rx,a,ex,d,q1⟩:=hq0
 subst ex
 obtain rfl:u=Value.ref a:=rx
 obtain⟨t1,t2,_⟩:=wZ I1 d
 refine⟨t1,t2,?_⟩
 rw[m.trees]
 refine Calls.callWith_builtin rfl (Calls.evalArgs_plain (Calls.spliced_cons (thn (he pins s1 σ H1 _ I1 q1) fun iv s2 ⟨y,H2,I2,ry,b,kvs,more,ey,ne,ha,hb,hz,q2⟩=>Calls.spliced_nil ?_)))
 subst ey
 obtain rfl:iv=Value.ref b:=ry
 obtain⟨z1,hd1,vs1,rel1,dd1⟩:=xS I2.hok ha
 obtain⟨z2,hd2,vs2,rel2,dd2⟩:=xS I2.hok hb
 have l1:=rel1.length
 have l2:=rel2.length
 have rm:=KV.merge rel2 rel1
 have lm:=merged_length_le vs1 vs2
 have lm2:=rm.length
 refine call_meetsIn PySem.F.slot_dict_update dd1.typeIs PySem.F.entry_dict_update (PySem.F.args_dict_update_2 _ _) (meets_dict_update (zu X.prog X.w) a b ne hd2) ⟨vs1,vs2,dd1,dd2,Nat.le_trans (show _≤1000 by omega) (by decide),fun h' dd' _ hs=>?_⟩
 have he':∃ q,h'.get? a=some q:=let ⟨q,_,_,hq,_⟩:=dd';⟨q,hq⟩
 exact⟨.non,_,xb (t':=s2.toks) I2 (by rw[ha];exact True.intro) hs he' (wb (Nat.le_trans (show _≤1000 by omega) (by decide)) hd1 rm dd'),rfl,q2⟩
end
section
variable {X:Cx}
def zGS (K:PySem.W.Frag) (A:Around):R2:=fun x y H Q=>∃ (a b:Addr) (xs ys:List V),x=.ref a∧y=.ref b∧SqL K H a xs∧SqL K H b ys∧xs.length≠ys.length∧A.units<cLine∧Q (.bl false) H
theorem znW:OpR X (compareOp .Eq) (zGS X.K X.A):=by
 intro pins s σ H x y v u Q I rx ry h
 obtain⟨a,b,xs,ys,rfl,rfl,h1,h2,hl,hu,q⟩:=h
 cases rx;cases ry
 obtain⟨i1,r1,p1,_⟩:=I.list h1
 obtain⟨i2,r2,p2,_⟩:=I.list h2
 exact SeqAt.RcAt.lists_lengths p1.isList p2.isList (by simp;rw[← r1.length,← r2.length];exact hl) hu _ _ _ _ ⟨.bl _,H,I,rfl,q⟩
end
section
variable {X:Cx}{pins:List (Addr×Obj)}{σ:St}{H G:Hp}{s:Shared}{d:Addr}{od:Obj}{kvs:List (Key×V)}
theorem Inv.froz (I:Inv X pins σ H s) (e:H d=some (.dK kvs)) (q0:s.heap.get? d=some od):Inv X pins σ (upd H d (.frz od (.dK kvs))) s:=by
 have ne:∀ {b:Addr}{o:HO},H b=some o→(∀ kvs,o≠.dK kvs)→upd H d (.frz od (.dK kvs)) b=some o:=fun {b o} q n=>by
  rw[ze (fun z=>by rw[z,e] at q;injection q with q;exact n _ q.symm)];exact q
 have no:∀ {b:Addr},H b=none→upd H d (.frz od (.dK kvs)) b=none:=fun {b} q=>by
  rw[ze (fun z=>by rw[z,e] at q;cases q)];exact q
 refine⟨I.ok,I.os,I.bare,⟨I.base.keep,I.base.slot,fun b o q n x=>no (I.base.free b o q n x),I.base.there,fun b xs q=>ne (I.base.tups b xs q) (fun _ z=>by cases z),fun b o u q=>ne (I.base.frzs b o u q) (fun _ z=>by cases z),fun b ps q=>?_⟩,I.loc,I.cell,no I.free,fun x c q=>no (I.freeC x c q),fun p hp=>?_,fun b o q=>?_,I.len⟩
 ·obtain⟨m,q⟩:=I.base.tbls b ps q
  exact⟨m,ne q (fun _ z=>by cases z)⟩
 ·obtain⟨p1,p2,p3⟩:=I.pin p hp
  exact⟨p1,no p2,p3⟩
 ·have st:∀ {b:Addr}{o:HO},H b=some o→ObjOk X.prog X.w (upd H d (.frz od (.dK kvs))) s.heap b o:=fun {b o} q=>(I.hok b o q).stay (fun c u _ q=>q) (fun c q=>ne q (fun _ z=>by cases z)) fun c xs q=>ne q (fun _ z=>by cases z)
  by_cases c:b=d
  ·subst c
   rw[upd_same] at q
   cases q
   exact⟨q0,st e⟩
  ·rw[ze c] at q
   exact st q
theorem Inv.thaw (I:Inv X pins σ G s) (S:∀ o u,X.H₀ d≠some (.frz o u)) (g:G d=some (.frz od (.dK kvs))):Inv X pins σ (upd G d (.dK kvs)) s:=by
 have ne:∀ {b:Addr}{o:HO},G b=some o→(∀ ob u,o≠.frz ob u)→upd G d (.dK kvs) b=some o:=fun {b o} q n=>by
  rw[ze (fun z=>by rw[z,g] at q;injection q with q;exact n _ _ q.symm)];exact q
 have no:∀ {b:Addr},G b=none→upd G d (.dK kvs) b=none:=fun {b} q=>by
  rw[ze (fun z=>by rw[z,g] at q;cases q)];exact q
 refine⟨I.ok,I.os,I.bare,⟨I.base.keep,I.base.slot,fun b o q n x=>no (I.base.free b o q n x),I.base.there,fun b xs q=>ne (I.base.tups b xs q) (fun _ _ z=>by cases z),fun b o u q=>?_,fun b ps q=>?_⟩,I.loc,I.cell,no I.free,fun x c q=>no (I.freeC x c q),fun p hp=>?_,fun b o q=>?_,I.len⟩
 ·rw[ze (fun(z:b=d)=>S o u (by rw[← z];exact q))]
  exact I.base.frzs b o u q
 ·obtain⟨m,q⟩:=I.base.tbls b ps q
  exact⟨m,ne q (fun _ _ z=>by cases z)⟩
 ·obtain⟨p1,p2,p3⟩:=I.pin p hp
  exact⟨p1,no p2,p3⟩
 ·have st:∀ {b:Addr}{o:HO},ObjOk X.prog X.w G s.heap b o→ObjOk X.prog X.w (upd G d (.dK kvs)) s.heap b o:=fun {b o} q=>q.stay (fun c u _ q=>q) (fun c q=>ne q (fun _ _ z=>by cases z)) fun c xs q=>ne q (fun _ _ z=>by cases z)
  by_cases c:b=d
  ·subst c
   rw[upd_same] at q
   cases q
   exact st (I.hok b _ g).2
  ·rw[ze c] at q
   exact st (I.hok b o q)
theorem KV.getAt:∀ {kvs:List (Key×V)}{vs:List (Key×Value)},KV kvs vs→∀ {i:Nat}{p:Key×V},kvs[i]?=some p→∃ u,vs[i]?=some (p.1,u)∧RelV p.2 u
 |_,_,.nil,i,p,h=>by cases h
 |_,_,.cons (b:=q) r t,0,p,h=>by
  cases h
  exact⟨q.2,by rw[r.1];rfl,r.2⟩
 |_,_,.cons r t,i+1,p,h=>KV.getAt t (i:=i) h
end
theorem zv {X:Cx}{body:List Stmt}{q:TS→Prop}{t:TS}(h:Bx (PSs X body t)) (k:q t):∃ t,PSs X body t∧q t:=⟨t,h.of,k⟩
theorem w_pt {X:Cx}{e:Expr}{t:TT}(h:Bx (PW X e t)):Bx (PT X e t):=⟨h.of.pt⟩
section
variable {X:Cx}
theorem zL {x:Str}{v:V}{u:Value}{pos:Pos}(hg:Gl X x) (hm:X.mg x=some u) (r:RelV v u) (hd:(x == ("__debug__" : Str))=false:=by decide):Bx (PE X (.Name x pos) (tC v)):=⟨ZM hg hm r hd⟩
end
section
variable {X:Cx}{pos:Pos}
theorem vX {o i:Expr}{to ti:TE}{t:zrG}(ho:Bx (PE X o to)) (hi:Bx (PE X i ti)) (hs:zyJ X t) (ha:∀ v,assign (.Subscript o i pos) X.env v=(do
   let ov ← holding [v] (eval o X.env)
   let iv ← holding [v,ov] (eval i X.env)
   standAt pos
   holding [v,ov,iv] (setItem ov iv v)
   release [v,ov,iv] []):=by intro _;rfl):Bx (PG X (.Subscript o i pos) (zFM to ti t)):=⟨znT ho.of hi.of hs ha⟩
end
section
variable {X:Cx}{e:Expr}{es:List Expr}{te:TE}{t:TA}{pos:Pos}
theorem zb (ha:Bx (PE X e te)) (hr:Bx (PA X es t)) (hs:starEach (e::es) X.env=(false,eval e X.env)::starEach es X.env:=by rfl):Bx (PA X (e::es) (wK te t)):=⟨yO ha.of hr.of hs⟩
end
section
variable {X:Cx}{CX:CXT}{k:Nat}{f C:Addr}{fd:FuncData}{ps:List Str}{sp:Sp}{dvs:List V}{ds:List Value}{E:XK}{x m:Str}{p pos apos:Pos}{e o:Expr}{es:List Expr}{ta:TE}{t:TA}
theorem zbe {pl:Sem Bool}(he:Bx (PE X o ta)) (c:Cls X.K C) (hm:Meth X.K C m f) (F:FnOk X.prog X.w X.K X.mg X.base CX k f fd ps sp) (hr:Room k X.A) (hb:Binds X.K fd ps ds) (hd:Vals dvs ds) (hx:xM CX X E) (ha:Bx (PA X (e::es) t)) (hst:starEach (e::es) X.env=(false,eval e X.env)::starEach es X.env:=by rfl) (hpl:(backTo pos (starEach es X.env)).any (·.1)=false:=by rfl) (ht:eval (.Call (.Attribute o m apos) (e::es) [] pos) X.env=(do
   let ov ← eval o X.env
   standAt apos.atName
   let (f,first) ← holding [ov] (getMethod ov m pl)
   callWith pos f first (backTo pos (starEach (e::es) X.env)) (backToKw pos (keywordEach [] X.env))):=by rfl):Bx (PE X (.Call (.Attribute o m apos) (e::es) [] pos) (zbo C m sp dvs E ta t)):=⟨Uz he.of c hm F hr hb hd hx ha.of hst hpl ht⟩
end
section
variable {X:Cx}{a b:Expr}{ta tb:TE}{pos:Pos}
variable {o e:Expr}{es:List Expr}{to:TE}{t:TA}{name:Str}{apos cpos:Pos}{T id:String}{r:V→List V→Hp→VK→Prop}
theorem yb (pa:PlainAttrs T) (slot:Slot T name id) (hty:typeOf (.builtin id)=pure (.type "method_descriptor")) (hm:MtR X id r) (ho:Bx (PE X o to)) (ha:Bx (PA X (e::es) t)) (hbase:attributeBase o name X.env (eval o X.env)=eval o X.env:=by rfl) (hfew:((backTo cpos (starEach (e::es) X.env)).all (fun x=>!x.1)&&(backToKw cpos (keywordEach [] X.env)).all (fun x=>x.1.isSome)
   && decide ((e::es).length+([]:List Keyword).length+(if ([]:List Keyword).isEmpty then 0 else 1)<30))=true:=by rfl) (hline:(apos.endLine == cpos.line)=true:=by rfl) (hs:starEach (e::es) X.env=(false,eval e X.env)::starEach es X.env:=by rfl) (hplain:(backTo cpos (starEach es X.env)).any (·.1)=false:=by rfl):Bx (PE X (.Call (.Attribute o name apos) (e::es) [] cpos) (tBM X.K T r to t)):=⟨ztx pa slot hty hm ho.of ha.of hbase hfew hline hs hplain⟩
end
section
variable {X:Cx}{k:Nat}{f C:Addr}{fd:FuncData}{ps:List Str}{sp:Sp}{x m:Str}{p pos apos:Pos}{e o:Expr}{es:List Expr}{ta:TE}{t:TA}
theorem zi {pl:Sem Bool}(he:Bx (PE X o ta)) (ha:Bx (PA X (e::es) t)) (hst:starEach (e::es) X.env=(false,eval e X.env)::starEach es X.env:=by rfl) (hpl:(backTo pos (starEach es X.env)).any (·.1)=false:=by rfl) (ht:eval (.Call (.Attribute o m apos) (e::es) [] pos) X.env=(do
   let ov ← eval o X.env
   standAt apos.atName
   let (f,first) ← holding [ov] (getMethod ov m pl)
   callWith pos f first (backTo pos (starEach (e::es) X.env)) (backToKw pos (keywordEach [] X.env))):=by rfl):Bx (PE X (.Call (.Attribute o m apos) (e::es) [] pos) (v0 X m ta t)):=⟨Xj he.of ha.of hst hpl ht⟩
theorem w_pe_meth0D {pl:Sem Bool}(he:Bx (PE X o ta)) (ht:eval (.Call (.Attribute o m apos) [] [] pos) X.env=(do
   let ov ← eval o X.env
   standAt apos.atName
   let (f,first) ← holding [ov] (getMethod ov m pl)
   callWith pos f first (backTo pos (starEach [] X.env)) (backToKw pos (keywordEach [] X.env))):=by rfl):Bx (PE X (.Call (.Attribute o m apos) [] [] pos) (v0 X m ta zrO)):=⟨ZL he.of ht⟩
end
section
variable {X:Cx}{m:Str}{o e:Expr}{es:List Expr}{ta:TE}{t:TA}{apos pos:Pos}
theorem xU {pl:Sem Bool}(he:Bx (PE X.nox o ta)) (ha:Bx (PA X.nox (e::es) t)) (hst:starEach (e::es) X.env=(false,eval e X.env)::starEach es X.env:=by rfl) (hpl:(backTo pos (starEach es X.env)).any (·.1)=false:=by rfl) (ht:eval (.Call (.Attribute o m apos) (e::es) [] pos) X.env=(do
   let ov ← eval o X.env
   standAt apos.atName
   let (f,first) ← holding [ov] (getMethod ov m pl)
   callWith pos f first (backTo pos (starEach (e::es) X.env)) (backToKw pos (keywordEach [] X.env))):=by rfl):Bx (PV X (.Call (.Attribute o m apos) (e::es) [] pos) (fun E=>Wc X m ta t E)):=⟨Xg he.of ha.of hst hpl ht⟩
end
def Th (G:Hp) (Q:Hp→Prop) (H:Hp):Prop:=Q H∨∃ (d:Addr) (od:Obj) (kvs:List (Key×V)),(∀ o u,G d≠some (.frz o u))∧H d=some (.frz od (.dK kvs))∧Q (upd H d (.dK kvs))
def zFS (G:Hp) (t:TE):TE:=fun σ H Q=>t σ H fun v=>Th G (Q v)
def zFR (G:Hp) (t:TS):TS:=fun D σ H=>t ⟨fun σ=>Th G (D.nx σ),fun v=>Th G (D.rt v),fun σ=>Th G (D.bk σ),fun σ=>Th G (D.ct σ)⟩ σ H
section
variable {X:Cx}{pins:List (Addr×Obj)}{σ:St}{H G:Hp}{s:Shared}{d:Addr}{od:Obj}{kvs:List (Key×V)}
theorem Th.inv {Q:Hp→Prop}(I:Inv X pins σ H s) (h:Th X.H₀ Q H):∃ H',Inv X pins σ H' s∧Q H':=by
 rcases h with h | ⟨d,od,kvs,S,g,h⟩
 ·exact⟨_,I,h⟩
 ·exact⟨_,I.thaw S g,h⟩
theorem wG {e:Expr}{t:TE}(h:Bx (PE X e t)):Bx (PE X e (zFS X.H₀ t)):=by
 have h:=h.of
 refine⟨?_⟩
 intro pins s σ H Q I q
 refine thn (h pins s σ H _ I q) fun u s' hq0=>?_
 obtain⟨v,H',I',r,q'⟩:=hq0
 obtain⟨H2,I2,q2⟩:=Th.inv I' q'
 exact⟨v,H2,I2,r,q2⟩
theorem u9 {st:Stmt}{t:TS}(h:Bx (PS X st t)):Bx (PS X st (zFR X.H₀ t)):=by
 have h:=h.of
 refine⟨?_⟩
 intro pins s σ H D I q
 refine thn (h pins s σ H _ I q) fun f s' q'=>?_
 cases f with
 |next=>obtain⟨σ',H',I',q'⟩:=q';obtain⟨H2,I2,q2⟩:=Th.inv I' q';exact⟨_,_,I2,q2⟩
 |cont=>obtain⟨σ',H',I',q'⟩:=q';obtain⟨H2,I2,q2⟩:=Th.inv I' q';exact⟨_,_,I2,q2⟩
 |brk=>obtain⟨σ',H',I',q'⟩:=q';obtain⟨H2,I2,q2⟩:=Th.inv I' q';exact⟨_,_,I2,q2⟩
 |ret v=>obtain⟨x,σ',H',I',r,q'⟩:=q';obtain⟨H2,I2,q2⟩:=Th.inv I' q';exact⟨_,_,_,I2,r,q2⟩
theorem Ye {P:Program}{w:World}{k:Key}{u:Value}(h:(zu P w).is k u=true):RelV (kV k) u:=by
 rw[uG] at h
 cases k with
 |inl i=>cases u<;>simp[ww,Value.isInt] at h<;>(subst h;exact⟨_,rfl⟩)
 |inr x=>cases u<;>simp[ww,Value.isStrOf] at h<;>(subst h;exact⟨_,rfl⟩)
theorem yR:entryFor table "dict_itemiterator.__iter__" = some Builtin.«dict_keyiterator.__iter__» :=
 entryFor_alias (id' := "dict_keyiterator.__iter__") (by kernel_rfl) rfl (by decide +kernel) (by kernel_rfl)
theorem yB {prog:Program}{w:World}{A:Around}{E:Value→Shared→Prop}{s:Shared}{it d:Addr}{i n ep:Nat}{ok ov:Value}{Q:Value→Shared→Prop}(hit:IsItemIter s.heap it d i n ep ok ov) (h:Q (.ref it) s):wpAny (model prog w) A (pyIter (.ref it)) Q E s:=by
 have ti:s.TypeIs (.ref it) "dict_itemiterator" := ⟨_,hit,rfl⟩
 refine wpAny_pyIter_slot ti F.slot_dict_itemiterator_iter (wpAny_call_entry F.slot_dict_itemiterator_iter ti yR ?_ (F.args_dict_itemiterator_iter_1 _))
 show wpAny _ _ (ret (.ref it)) _ _ s
 exact wpAny_pure ⟨_,rfl, "dict_itemiterator",_,ti,F.slot_dict_itemiterator_next.lookup,h⟩
abbrev YL:=Key×V→V→Hp→Hp→Prop
def yI:YL:=fun kv x H H'=>∃ p,H p=none∧x=.ref p∧H'=upd H p (.tup [kV kv.1,kv.2])
def Itd (yl:YL) (d:Addr) (od:Obj) (kvs:List (Key×V)):It :=
 ⟨fun i H=>H d=some (.frz od (.dK kvs))∧i<kvs.length,fun i H x H'=>∃ kv,kvs[i]?=some kv∧yl kv x H H',fun i H=>H d=some (.frz od (.dK kvs))∧kvs.length≤i⟩
theorem vt {P:Program}{w:World}{K:PySem.W.Frag}{es:List Expr}{n:Nat}{tp:Pos}{it d:Addr}{od:Obj}{kvs:List (Key×V)}{vs:List (Key×Value)}{ep:Nat}(rel:KV kvs vs)
  (da:∀ h:Heap,h.get? d=some od→Heap.DictAt (zu P w) h d vs ep):Turn P w K (.Tuple es n tp) (Itd yI d od kvs) [it] it (fun i h=>∃ ok ov,IsItemIter h it d i vs.length ep ok ov) where
 mem:=by simp
 obj:=fun i h ⟨ok,ov,st⟩ b hb=>by
  rw[List.mem_singleton.mp hb]
  exact⟨_,st,fun v z=>by
   have z':Data.fields _=Data.cell v:=z
   cases z'⟩
 keep:=fun i h h' ⟨ok,ov,st⟩ k=>⟨ok,ov,k it (by simp) _ st⟩
 item:=by
  intro X hP hw hK hc i pins s σ H E I hf st hg
  subst hP hw hK
  obtain⟨ok,ov,st⟩:=st
  have fi:=hf it (by simp)
  have d3:=(I.hok d _ hg.1).1
  have hx:kvs[i]?=some (kvs[i]'hg.2):=List.getElem?_eq_getElem hg.2
  obtain⟨u,hu,ru⟩:=rel.getAt hx
  refine wpAny_pyNext_items_item st (da _ d3) hu fun key h1 hkey O1 T1 z1 kk=>?_
  refine⟨_,rfl,wpAny_letOwnedTupleGo_items (s:={ s with heap:=h1 }) O1 fun h2 E2 sb=>?_⟩
  have te:s.heap.objs.size≠it:=(Nat.ne_of_lt (Heap.lt_size st)).symm
  have T2:=sb.extBut _ _ te T1
  have k2:∀ c o,c∉[it]→s.heap.get? c=some o→h2.get? c=some o:=fun c o hc q=>by
   have hc:c≠it:=by simpa using hc
   exact sb.extBut c o hc (kk c o hc q)
  have hn:H s.heap.objs.size=none:=I.fresh
  refine⟨.ref s.heap.objs.size,upd H s.heap.objs.size (.tup [kV (kvs[i]'hg.2).1,(kvs[i]'hg.2).2]),I.turnedLaid (t':=s.toks) (ch:=[it]) hf k2 (Nat.le_refl _) ⟨by show 2≤sizeLine;decide,[key,u],.cons (Ye hkey) (.cons ru .nil),⟨_,T2,rfl,_,rfl⟩⟩,rfl,
   ⟨_,hx,_,hn,rfl,rfl⟩,⟨_,_,E2⟩,fun c hc=>?_⟩
  rw[List.mem_singleton.mp hc,ze te.symm]
  exact fi.1
 done:=by
  intro X hP hw hK hc i pins s σ H E I hf st hg
  subst hP hw hK
  obtain⟨ok,ov,st⟩:=st
  obtain⟨f0,f1,f2,f3,f4,f5⟩:=hf it (by simp)
  have d3:=(I.hok d _ hg.1).1
  have lv:=rel.length
  exact wpAny_pyNext_items_end (I.ok.hd hc) st (da _ d3) (List.getElem?_eq_none (by have:=hg.2;omega)) fun h' kk=>⟨rfl,I.turned (t':=s.toks) (fun b o hb q=>kk b o hb q) f0 f1 f3 f4 f5⟩
 self:=fun _ _ _ _ _ ⟨_,_,st⟩ h=>yB st h
def zHk (yl:YL) (G:Hp) (td:TE):TI:=fun σ H R=>td σ H fun x H1=>∃ (d:Addr) (kvs:List (Key×V)),x=.ref d∧H1 d=some (.dK kvs)∧∀ od:Obj,(∀ o u,G d≠some (.frz o u))→R (Itd yl d od kvs) (upd H1 d (.frz od (.dK kvs)))
theorem zaK {x:Addr}(I:Inv X pins σ H s) (e:H d=some (.dK kvs)):∀ o u,X.H₀ d≠some (.frz o u):=fun o u z=>by
 have:=I.base.frzs d o u z
 rw[e] at this;cases this
theorem yN {o:Expr}{es:List Expr}{n:Nat}{tp:Pos}{td:TE}{apos cpos:Pos}(ho:Bx (PE X o td)) (hbase:attributeBase o "items" X.env (eval o X.env)=eval o X.env:=by rfl) (hline:(apos.endLine == cpos.line)=true:=by rfl):Bx (PI X (.Tuple es n tp) (.Call (.Attribute o "items" apos) [] [] cpos) (zHk yI X.H₀ td)):=by
 have ho:=ho.of
 refine⟨?_⟩
 intro pins s σ H R I h
 refine wpAny_Call_method0_late hbase hline (thn (ho pins s σ H _ I h) fun v s1 hq0=>?_)
 obtain⟨x,H1,I1,rx,d,kvs,ex,e,q⟩:=hq0
 subst ex
 obtain rfl:v=Value.ref d:=rx
 obtain⟨t1,t2,_⟩:=wZ I1 (.inl ⟨_,.inl e⟩)
 obtain⟨z,hd,vs,rel,dd⟩:=xS I1.hok e
 refine⟨"dict", "dict.items",PySem.F.plainAttrs_dict,PySem.F.slot_dict_items,PySem.F.type_dict_items,t1,t2,Calls.callWith_builtin rfl (PySem.evalArgs_none ?_)⟩
 refine call_meetsIn PySem.F.slot_dict_items dd.typeIs PySem.F.entry_dict_items (PySem.F.args_dict_items_1 _) (meets_dict_items (zu X.prog X.w) d hd) ⟨⟨vs,dd⟩,?_⟩
 obtain⟨od,es',ep,q1,q2,q3,q4,q5,q6⟩:=dd
 have da:∀ h':Heap,h'.get? d=some od→Heap.DictAt (zu X.prog X.w) h' d vs ep:=fun _ q=>⟨od,es',q,q2,q3,q4,q5,q6⟩
 refine wpAny_pyIter_items (s:={ s1 with heap:=s1.heap.push _ }) (d:=d) ⟨_,Heap.get?_push_size _ rfl,rfl,rfl⟩ (da _ (Heap.get?_push_of_some _ q1)) ?_
 have hle:s1.heap.objs.size≤(s1.heap.push { cls:=.type "dict_items",data:=.fields #[.ref d] }).objs.size:=by rw[Heap.size_push];exact Nat.le_succ _
 have I1f:=I1.froz e q1
 refine⟨_,[(s1.heap.push { cls:=.type "dict_items",data:=.fields #[.ref d] }).objs.size],_,_,_,rfl,I1f.kept (t':=s1.toks) fun b u q=>Heap.get?_push_of_some _ (Heap.get?_push_of_some _ q),vt rel da,⟨_,_,Heap.get?_push_size _ rfl⟩,fun b hb=>?_,q od (zaK (x:=d) I1 e)⟩
 rw[List.mem_singleton.mp hb]
 exact I1f.fpOk hle (I1f.hok.fresh hle)
end
theorem XS {yl:YL}{d:Addr}{od:Obj}{kvs:List (Key×V)}{g:TG}{tb:TS}{D:Ends}{σ:St}{H:Hp}(Pv:Nat→St→Hp→Prop) (h0:Pv 0 σ H) (hf:∀ i σ H,Pv i σ H→H d=some (.frz od (.dK kvs)))
  (hs:∀ i kv x σ H H',kvs[i]?=some kv→Pv i σ H→yl kv x H H'→g x σ H' fun σ2 H2=>tb { D with nx:=Pv (i+1),ct:=Pv (i+1),bk:=D.nx } σ2 H2) (hd:∀ σ H,Pv kvs.length σ H→D.nx σ H) :
  ∃ W:Nat→Nat→St→Hp→Prop,(∃ m,W 0 m σ H)∧∀ i m σ H,W i m σ H →
   ((Itd yl d od kvs).stop i H∧D.nx σ H)∨((Itd yl d od kvs).go i H∧∃ N:St→Hp→Prop,(∀ σ' H',N σ' H'→∃ m',m'<m∧W (i+1) m' σ' H')∧∀ x H',(Itd yl d od kvs).yld i H x H'→g x σ H' fun σ2 H2=>tb { D with nx:=N,ct:=N,bk:=D.nx } σ2 H2):=by
 refine⟨fun i m σ H=>m=kvs.length-i∧i≤kvs.length∧Pv i σ H,⟨_,rfl,Nat.zero_le _,h0⟩,?_⟩
 rintro i m σ H ⟨rfl,hi,p⟩
 have q:=hf i σ H p
 by_cases hlt:i<kvs.length
 ·refine .inr ⟨⟨q,hlt⟩,Pv (i+1),fun σ' H' z=>⟨_,by omega,rfl,hlt,z⟩,fun x H' ⟨kv,hk,y⟩=>hs i kv x σ H H' hk p y⟩
 ·have e:i=kvs.length:=by omega
  subst e
  exact .inl ⟨⟨q,Nat.le_refl _⟩,hd σ H p⟩
theorem comp_view {yl:YL}{d:Addr}{od:Obj}{kvs:List (Key×V)}{g:TG}{tc:TT}{te:TE}{Q:VK}{D:Addr}{τ0:St}{H0:Hp}(Pv:Nat→List V→St→Hp→Prop) (h0:Pv 0 [] τ0 H0) (hf:∀ i zs τ H,Pv i zs τ H→H d=some (.frz od (.dK kvs)))
  (hs:∀ i kv x zs τ H H',kvs[i]?=some kv→Pv i zs τ H→yl kv x H H'→g x τ H' fun τ2 H4=>tc τ2 H4 fun b H5 =>
   if b=true then te τ2 H5 fun y H6=>H6 D=some (.lst zs)∧zs.length<sizeLine∧Pv (i+1) (zs++[y]) τ2 (upd H6 D (.lst (zs++[y]))) else Pv (i+1) zs τ2 H5)
  (hd:∀ zs τ H,Pv kvs.length zs τ H→Q (.ref D) H):YU (Itd yl d od kvs) g tc te Q D τ0 H0 :=
 Yz kvs.length Pv h0 (fun zs τ H p=>⟨⟨hf _ _ _ _ p,Nat.le_refl _⟩,hd zs τ H p⟩) fun i zs τ H hi p=>⟨⟨hf _ _ _ _ p,hi⟩,fun x H3 ⟨kv,hk,y⟩=>hs i kv x zs τ H H3 hk p y⟩
end L2
namespace L2
namespace Srt
open PySem PyProof.Rows PySem.W
section
variable {prog:Program}{w:World}{A:Around}{E:Value→Shared→Prop}{s:Shared}
theorem ints_all:∀ {ns:LI}{vs:List Value},vs.length=ns.length→(∀ (j:Nat) v n,vs[j]?=some v→ns[j]?=some n→∃ t,v=Value.int n t)→IntsAre vs ns
 |[],[],_,_=>.nil
 |n::ns,v::vs,hl,h=>by
  obtain⟨t,rfl⟩:=h 0 v n rfl rfl
  exact .cons _ _ (ints_all (by simpa using hl) fun j v n e1 e2=>h (j+1) v n (by simpa using e1) (by simpa using e2))
 |[],_::_,hl,_=>by simp at hl
 |_::_,[],hl,_=>by simp at hl
end
section
variable {X:Cx}{pins:List (Addr×Obj)}{σ:St}{H:Hp}{s:Shared}{h':Heap}
theorem laidF {a:Addr}{o:HO}{t':Nat}(I:Inv X pins σ H s) (k:∀ b u,s.heap.get? b=some u→h'.get? b=some u) (hf:s.heap.get? a=none) (new:ObjOk X.prog X.w (upd H a o) h' a o) :
  Inv X pins σ (upd H a o) { s with heap:=h',toks:=t' }:=by
 have hn:H a=none:=I.hok.untr hf
 have ne:∀ b u,s.heap.get? b=some u→b≠a:=fun b u q z=>by rw[z,hf] at q;cases q
 refine I.un ⟨fun b u q _ _ _=>k b u q,fun b u q _ _ _=>⟨u.slots,k b u q⟩,fun b u q n _=>by rw[ze (ne b u q)];exact n,fun b u q _=>⟨u,k b u q⟩,fun b xs q=>by rw[ze (ne_of_none q hn)];exact q,
  fun b u xs q=>by rw[ze (ne_of_none q hn)];exact q,fun b ps q=>⟨#[],by rw[ze (ne_of_none q hn),q];simp⟩⟩ fun b u e=>?_
 by_cases hb:b=a
 ·subst hb;rw[upd_same] at e;cases e;exact new
 ·rw[ze hb] at e
  exact(I.hok b u e).stay (fun c v _ q=>k c v q) (fun c q=>by rw[ze (ne_of_none q hn)];exact q) fun c xs q=>by rw[ze (ne_of_none q hn)];exact q
end
end Srt
end L2
namespace L2
open PySem PySem.Spec PyProof.Rows
section
variable {P:Program}{w:World}{A:Around}{I S:Addr}{fp wr:List Addr}{n:Nat}{Is:Nat→Value→Prop}{St:Nat→Heap→Prop}{R:Except Value Flow→Shared→Prop}
theorem Xx (W:Walks P w A.in1 I fp wr n Is St) (bt:Nat→Nat→Bool) (cm:CmpOf P w A.in1 .Gt Is bt) (nf:S∉fp) (hn:n≠0){t:Shared}{c:Nat}(st:St 0 t.heap)
  (at_:t.heap.get? S=some { cls:=.type "list",data:=.seq #[] c }) (fin:∀ v h' tk,Is (argBest bt (n-1)) v→(∀ b o,b∉wr→b≠S→t.heap.get? b=some o→h'.get? b=some o)→R (.ok (.ret v)) { t with heap:=h',toks:=tk }) :
  codeAny (model P w) A (.builtin "max.loop" ⟨[.ref I,.none,.ref S],[]⟩) R t:=by
 have nw:S∉wr:=fun z=>nf (W.sub _ z)
 have nm:(toString "max" ++ toString ".loop" : String) = "max.loop" := by decide
 refine codeAny_builtin F.entry_max_loop (by
  rw[Around.under_plainId F.plain_max_loop _]
  show wpAny _ A.in1 (seqItems? (.ref S) >>= _) _ _ t
  refine wpAny_bind (wpAny_seqItems at_ rfl (by
   show wpAny _ A.in1 (tryCatch (pyNext (.ref I)) _ >>= _) _ _ t
   refine wpAny_bind (wpAny_tryCatch (W.item 0 t _ _ (by omega) st fun v h1 tk iv st1 kk=>?_))
   have at1:=kk S _ nw at_
   show wpAny _ A.in1 (updateSeq S (fun _=>#[v,v]) >>= _) _ _ _
   refine wpAny_bind (wpAny_updateSeq at1 rfl ?_)
   rw[nm]
   refine wpAny_pure ⟨plainId_quiet F.plain_max_loop _,Ya W bt cm nf (n-1) 0 _ v _ (by omega) (W.frame _ _ _ st1 fun b hb o e=>(Heap.get?_update_other _ _ fun z:S=b=>nf (z ▸ hb)).trans e) iv (Heap.get?_update_self _ at1 rfl) fun v2 h2 tk2 iv2 kk2=>?_⟩
   exact fin v2 h2 tk2 iv2 fun b o n1 n2 e=>kk2 b o n1 n2 ((Heap.get?_update_other _ _ n2.symm).trans (kk b o n1 e)))))
theorem YS (a:Value):argsOk "max" ⟨[a],[]⟩:=by unfold argsOk;kernel_rfl
end
end L2
namespace L2
open PySem
theorem zpu:bootBuiltins "set" = some (.type "set"):=by decide +kernel
end L2
namespace L2
open PySem PySem.Spec PyProof.Rows
def zbk (K:PySem.W.Frag) (C1:Addr) (i:Nat) (th:TS):Addr→Option Addr→TS:=fun C dd D σ H=>zbc K C C1=some true∧XAny K C∧∀ a,H a=none→th (D.sans i) (σ.set i (some (.ref a))) (upd H a (.ext (ObX a C dd)))
section
variable {X:Cx}{suite body:List Stmt}{b0:Stmt}{i:Nat}{x n:Str}{C1:Addr}{np hpos pos:Pos}{th:TS}{tb:XK→TS}{rest:List ExceptHandler}
theorem znS (hN:X.N.Nodup) (hi:X.N[i]?=some n) (hk:X.env.scope.names.lookup n=some .local) (c:XAny X.K C1) (hm:X.mg x=some (.ref C1)) (hh:∀ a,PSs (X.inH a) (b0::suite) th)
  (hg:Gl X x:=by rfl) (hdb:(x == ("__debug__" : Str))=false:=by decide):PH X (.ExceptHandler (some (.Name x np)) (some n) (b0::suite) hpos::rest) (zbk X.K C1 i th):=by
 intro pins σ H D s h a C dd F q
 have I5:=F.inv
 have J5:=I5.inH a
 refine wpAny_handleBy_cons (codeAny_handlers_test (ld_glob J5 hg hm ?_ hdb)) (by intro q;cases q)
 obtain⟨hs,cC,hts⟩:=q
 refine zbd I5.kIn cC c hs F.ob ?_
 obtain⟨sh,sg,sd,stk,sos⟩:=s
 refine codeAny_handlers_suite_as (F.lands fun h6 F6=>?_)
 have I7:=F6.look
 refine store_ok (v:=.ref a) I7 hN hi (.inl hk) rfl (fun s8 I8=>?_) (.inr hk)
 refine wpAny_mono (hh a pins _ _ _ (D.sans i) (I8.inH a) (hts a F.ha)) (fun fl s9 q=>?_) (fun _ _ z=>False.elim z)
 have q:=SP.unH (X:=X) I5.ok q
 cases fl with
 |ret u =>
  obtain⟨v,σ',H9,I9,r,q⟩:=q
  exact Yq I9 hN hi hk fun s' I'=>⟨v,_,_,I',r,q⟩
 |_ =>
  obtain⟨σ',H9,I9,q⟩:=q
  exact Yq I9 hN hi hk fun s' I'=>⟨_,_,I',q⟩
theorem u8 (hst:X.stack=X.env::X.outer) (hfr:X.env.frame=some X.env.locals) (hN:X.N.Nodup) (hi:X.N[i]?=some n) (hk:X.env.scope.names.lookup n=some .local) (c:XAny X.K C1) (hm:X.mg x=some (.ref C1)) (hb:Bx (PX X body tb)) (hh:∀ a,Bx (PSs (X.inH a) (b0::suite) th)) (hg:Gl X x:=by rfl) (hdb:(x == ("__debug__" : Str))=false:=by decide):Bx (PS X (.Try body [.ExceptHandler (some (.Name x np)) (some n) (b0::suite) hpos] [] [] pos) (zbm tb (zbk X.K C1 i th))):=by
 have hb:=hb.of
 have hh:=fun x0=>(hh x0).of
 exact⟨Ux hst hfr hb (znS hN hi hk c hm hh hg hdb)⟩
end
section
variable {P:Program}{w:World}{A:Around}
theorem zaE {T:String}{r d:Addr}{n:Nat}{Is:Nat→Value→Prop}{OK:Heap→Prop}{ns:LI}{Q:Value→Shared→Prop}{E:Value→Shared→Prop}{s:Shared}(KS:PySem.W.KdlSrc P w T r d n Is OK) (hh:A.handled=none) (hok:OK s.heap) (hne:ns≠[]) (len:n=ns.length)
  (hv:∀ i v,Is i v→∃ t,v=.int (ns.getD i 0) t)
  (h:∀ m t h' tk,m∈ns→(∀ y∈ns,y≤m)→(∀ b o,s.heap.get? b=some o→h'.get? b=some o)→Q (.int m t) { s with heap:=h',toks:=tk }) :
  wpAny (model P w) A (call (.builtin "max") [.ref r]) Q E s:=by
 have nm:(toString "max" ++ toString ".loop" : String) = "max.loop" := by decide
 obtain⟨_,lt⟩:=KS.there _ hok
 have hz:n≠0:=fun z=>hne (List.eq_nil_of_length_eq_zero (by omega))
 obtain⟨oI,St,it,W,st⟩:=KS.iter A.in1 s hh hok
 refine PyProof.Rows.kmk_tree F.kind_max F.plain_max F.entry_max (YS _) (by
  show wpAny _ A.in1 (Builtin.Builtins.bindParams "max" ["key", "default"] 0 ⟨[],[]⟩ >>= _) _ _ s
  refine wpAny_bind (wpAny_of_eq (show Builtin.Builtins.bindParams "max" ["key", "default"] 0 ⟨[],[]⟩=pure [none,none] from rfl) (wpAny_bind (wpAny_pure (wpAny_bind (it _ _ (wpAny_bind (wpAny_newObj_type ?_)))))))
  rw[nm]
  have cm:=CmpOf.ints_gt (prog:=P) (w:=w) (A:=A.in1) (fun i=>ns.getD i 0) hv
  have nf:(s.heap.push oI).objs.size∉[s.heap.objs.size,d]:=by
   intro z
   rw[Heap.size_push] at z
   rcases List.mem_cons.mp z with e | e
   ·exact Nat.succ_ne_self _ e
   ·exact Nat.lt_irrefl _ (Nat.lt_trans (Nat.lt_succ_self _) ((List.mem_singleton.mp e).symm ▸ lt))
  refine wpAny_pure ⟨plainId_quiet F.plain_max_loop _,Xx (c:=0) W _ cm nf hz (W.frame _ _ _ st fun b _ o e=>Heap.get?_push_of_some _ e) (Heap.get?_push_size _ rfl) fun v h' tk hv' kk=>?_⟩
  obtain⟨t,et⟩:=hv _ _ hv'
  have hb:=vT (fun i=>ns.getD i 0) (n-1)
  rw[et]
  refine h _ t h' tk ?_ (fun y hy=>?_) fun b o e=>kk b o (fun z=>?_) (fun z=>?_) (Heap.get?_push_of_some _ (Heap.get?_push_of_some _ e))
  ·have hi:=hb.1
   rw[yQ (by omega)]
   exact List.getElem_mem _
  ·obtain⟨i,hi,rfl⟩:=List.mem_iff_getElem.mp hy
   have:=hb.2 i (by omega)
   rw[show(ns.getD i 0)=ns[i] from yQ hi] at this
   exact this
  ·rw[List.mem_singleton.mp z] at e
   exact Nat.lt_irrefl _ (Heap.lt_size e)
  ·have z2:b=s.heap.objs.size+1:=z.trans (Heap.size_push _ _)
   exact Nat.lt_irrefl _ (Nat.lt_trans (Nat.lt_succ_self _) (z2 ▸ Heap.lt_size e)))
end
section
variable {X:Cx}
theorem YE (hc:X.calm=true):yu X (.builtin "max") (fun xs H Q=>∃ a ns kvs,xs=[V.ref a]∧H a=some (.dK kvs)∧kvs.map (·.1)=ns.map Sum.inl∧ns≠[]∧∀ m:Int,m∈ns→(∀ y∈ns,y≤m)→Q (.int m) H):=by
 intro pins s σ H xs us Q I r h
 obtain⟨a,ns,kvs,rfl,hl,hk,hne,q⟩:=h
 obtain⟨z,rfl,rz⟩:=r.one
 cases rz
 obtain⟨_,hd,vs,rel,dd⟩:=xS I.hok hl
 obtain⟨od,es',ep,q1,q2,q3,q4,q5,q6⟩:=dd
 have hk2:vs.map (·.1)=ns.map Sum.inl:=by rw[← rel.keys];exact hk
 refine zaE (ns:=ns) (PySem.W.kdl_dict (knd:=zu X.prog X.w) (kvs:=vs) (ep:=ep) hd) (I.ok.hd hc) ⟨od,es',q1,q2,q3,q4,q5,q6⟩ hne (by have:=congrArg List.length hk2;simpa using this) (fun i v e=>?_) fun m t h' tk h1 h2 kk=>⟨.int m,H,I.kept (t':=tk) kk,⟨_,rfl⟩,q m h1 h2⟩
 obtain⟨k,x,e1,e2⟩:=e
 have e3:(vs.map (·.1))[i]?=some k:=by rw[List.getElem?_map,e1];rfl
 rw[hk2,List.getElem?_map] at e3
 obtain⟨y,e4,rfl⟩:=Option.map_eq_some_iff.mp e3
 have e5:ns.getD i 0=y:=by rw[List.getD_eq_getElem?_getD,e4];rfl
 rw[e5]
 exact Ye e2
end
section
variable {prog:Program}{w:World}{A:Around}{E:Value→Shared→Prop}{s:Shared}
theorem uL {r:Addr}{Q:Bool→Shared→Prop}(hT:s.TypeIs (.ref r) "dict_items") (h:Q false s):wpAny (model prog w) A (Builtin.List.listLengthHint (.ref r)) Q E s:=by
 unfold Builtin.List.listLengthHint
 refine wpAny_bind (wpAny_specialOf hT PySem.F.slot_dict_items_len.lookup ?_)
 generalize hid:("dict_items.__len__" : String)=id0
 wp_delta
 rw[show splitId id0=some ("dict_items", "__len__") from by subst hid;decide +kernel]
 subst hid
 refine wpAny_bind (wpAny_isInstance (T := "dict_items") (b:=true) hT (by rw[isSubtype_type];kernel_rfl) ?_)
 refine wpAny_ite_split (fun hab=>absurd hab (by decide)) (fun _=>?_)
 refine wpAny_ite_split (fun _=>?_) (fun hab=>absurd (by decide +kernel) hab)
 refine wpAny_bind (wpAny_typeOf hT ?_)
 exact wpAny_pure h
theorem Yj (hh:A.handled=none) (I d:Addr) (hne:d≠I) (ep:Nat) :
  Walks prog w A I [I,d] [I] 0 (fun _ _=>False) (fun _ h=>IsItemIter h I d 0 0 ep .none .none∧h.DictAt (zu prog w) d [] ep) where
 sub:=fun b hb=>by simp at hb;simp[hb]
 frame:=fun _ _ _ st hk=>⟨hk I (by simp) _ st.1,st.2.at' fun o e=>hk d (by simp) o e⟩
 item:=fun i s Q E hi=>absurd hi (Nat.not_lt_zero _)
 done:=fun s Q E st hQ=>wpAny_pyNext_items_end (kvs:=[]) hh st.1 st.2 rfl fun h' he'=>hQ h' s.toks fun b o hb e=>he' b o (fun h=>hb (by simp[h])) e
 self:=fun _ _ _ _ st hQ=>yB st.1 hQ
theorem zaH {r d:Addr}(ep:Nat):PySem.W.KdlSrc prog w "dict_items" r d 0 (fun _ _=>False) (fun h=>h.IsItemsView r d∧h.DictAt (zu prog w) d [] ep) where
 type:=fun _ hm=>hm.1.typeIs
 there:=fun _ hm=>⟨let ⟨_,ho,_⟩:=hm.1;Heap.lt_size ho,hm.2.lt_size⟩
 keep:=fun _ _ hm hk=>⟨let ⟨o,ho,x⟩:=hm.1;⟨o,hk r (.inl rfl) o ho,x⟩,hm.2.at' fun o e=>hk d (.inr rfl) o e⟩
 notList:=by decide
 notTuple:=by decide
 hint:=fun _ _ _ _ hm hq=>uL hm.1.typeIs hq
 iter:=fun _ _ hh hm=>⟨_,_,(fun _ _ hq=>wpAny_pyIter_items hm.1 hm.2 hq),Yj hh _ d (Nat.ne_of_lt hm.2.lt_size) ep,⟨Heap.get?_push_size _ rfl,hm.2.push _⟩⟩
open PySem.W in
theorem xx {T:String}{r d:Addr}{n:Nat}{Is:Nat→Value→Prop}{OK:Heap→Prop}{ns:LI}{Q:Value→Shared→Prop}(KS:PySem.W.KdlSrc prog w T r d n Is OK) (hh:A.handled=none) (hok:OK s.heap) (len:n=ns.length) (hv:∀ i v,Is i v→∃ t,v=.int (ns.getD i 0) t) (h64:ns.length<64)
  (h:∀ (D:Addr) (h':Heap) (tk:Nat) (out:Array Value) (ms:LI),(∀ b o,s.heap.get? b=some o→h'.get? b=some o)→s.heap.get? D=none→IntsAre out.toList ms→ms.Perm ns→ms.Pairwise (· ≤ ·)→(∃ c,h'.get? D=some (seqObj "list" out c))→Q (.ref D) { s with heap:=h',toks:=tk }) :
  wpAny (model prog w) A (call (.builtin "sorted") [.ref r]) Q E s:=by
 have big:64≤sizeLine:=by decide
 refine Calls.call_function_entry kind_sorted plain_sorted entry_sorted (args_sorted1 _) ?_
 unfold Builtin.«sorted»
 refine wpAny_bind (m:=checkCount "sorted" 1 1 _) (wpAny_pure ?_)
 refine wpAny_bind (kdu_collect (A:=A.in1) KS hh hok (by omega) fun h' tk acc hk' hacc=>?_)
 have hl:acc.toList.length=ns.length:=by rw[Array.length_toList,← len];exact hacc.1
 have hI:IntsAre acc.toList ns:=Srt.ints_all hl fun j v m e1 e2=>by
  obtain⟨t,rfl⟩:=hv j v (hacc.2 j v (by rw[← Array.getElem?_toList];exact e1))
  exact⟨t,by rw[List.getD_eq_getElem?_getD,e2];rfl⟩
 refine wpAny_bind (wpAny_newList ?_ (by omega))
 have hoL:(h'.push (seqObj "list" acc.toList.toArray 0)).get? h'.objs.size=some (seqObj "list" acc.toList.toArray 0):=Heap.get?_push_size _ rfl
 refine(show wpAny _ _ _ _ _ { s with heap:=h'.push (seqObj "list" acc.toList.toArray 0),toks:=tk } from ?_)
 refine wpAny_bind (wpAny_holding (wpAny_call_entry slot_list_sort ⟨_,hoL,rfl⟩ entry_list_sort (list_sort_tree hoL hI (by omega) fun out ns' a1 a2 a3=>⟨_,rfl,?_⟩) (args_list_sort _)))
 refine wpAny_pure ⟨_,rfl,h h'.objs.size _ tk out ns' (fun b o e=>?_) ?_ a1 a2 a3 (sortedHeap_at hoL)⟩
 ·have e1:=hk' b o e
  have lt:=Heap.lt_size e1
  rw[sortedHeap_old (Nat.ne_of_lt lt) (by rw[size_push'];exact Nat.lt_succ_of_lt lt)]
  exact Heap.get?_push_of_some _ e1
 ·cases z:s.heap.get? h'.objs.size with
  |none=>rfl
  |some o=>exact absurd (Heap.lt_size (hk' _ _ z)) (Nat.lt_irrefl _)
end
section
variable {X:Cx}
def Vq (td:TE):TE:=fun σ H Q=>td σ H fun x H1=>∃ d:Addr,x=.ref d∧H1 d=some (.dK [])∧∀ l:Addr,H1 l=none→Q (.ref l) (upd H1 l (.lst []))
theorem vp {o:Expr}{td:TE}{apos cpos p pos:Pos}(hc:X.calm=true) (hgl:Gl X "sorted") (hm:X.mg "sorted" = none) (hv:bootBuiltins "sorted" = some (.builtin "sorted")) (ho:Bx (PE X o td)) (hbase:attributeBase o "items" X.env (eval o X.env)=eval o X.env:=by rfl) (hline:(apos.endLine == cpos.line)=true:=by rfl) (hs:starEach [.Call (.Attribute o "items" apos) [] [] cpos] X.env=[(false,eval (.Call (.Attribute o "items" apos) [] [] cpos) X.env)]:=by rfl):Bx (PE X (.Call (.Name "sorted" p) [.Call (.Attribute o "items" apos) [] [] cpos] [] pos) (Vq td)):=by
 have ho:=ho.of
 refine⟨?_⟩
 intro pins s σ H Q I h
 refine wpAny_Call_Name_kw (ld_blt I hgl hm hv ?_ (by decide) (by decide))
 refine Calls.callWith_builtin rfl (Calls.evalArgs_plain ?_)
 show wpAny _ _ (spliced ((false,eval (.Call (.Attribute o "items" apos) [] [] cpos) X.env)::backTo pos [])) _ _ s
 refine Calls.spliced_cons (wpAny_Call_method0_late hbase hline (thn (ho pins s σ H _ I h) fun v s1 hq0=>?_))
 obtain⟨x,H1,I1,rx,d,ex,e,q⟩:=hq0
 subst ex
 obtain rfl:v=Value.ref d:=rx
 obtain⟨t1,t2,_⟩:=wZ I1 (.inl ⟨_,.inl e⟩)
 obtain⟨z,hd,vs,rel,dd⟩:=xS I1.hok e
 cases rel
 refine⟨"dict", "dict.items",PySem.F.plainAttrs_dict,PySem.F.slot_dict_items,PySem.F.type_dict_items,t1,t2,Calls.callWith_builtin rfl (PySem.evalArgs_none ?_)⟩
 refine call_meetsIn PySem.F.slot_dict_items dd.typeIs PySem.F.entry_dict_items (PySem.F.args_dict_items_1 _) (meets_dict_items (zu X.prog X.w) d hd) ⟨⟨[],dd⟩,?_⟩
 obtain⟨ep,da⟩:=dd.dictAt
 refine Calls.spliced_nil ?_
 have I2:=I1.kept (t':=s1.toks) (h':=s1.heap.push { cls:=.type "dict_items",data:=.fields #[.ref d] }) fun b u q=>Heap.get?_push_of_some _ q
 refine xx (ns:=[]) (s:={ s1 with heap:=s1.heap.push { cls:=.type "dict_items",data:=.fields #[.ref d] } }) (zaH (r:=s1.heap.objs.size) (d:=d) ep) (I1.ok.hd hc) ⟨⟨_,Heap.get?_push_size _ rfl,rfl,rfl⟩,da.push _⟩ rfl (fun i v e=>e.elim) (by decide) fun D h' tk out ms k1 k2 a1 a2 a3 k3=>?_
 obtain⟨c,k3⟩:=k3
 cases a2.eq_nil
 exact⟨.ref D,_,Srt.laidF (o:=.lst []) I2 k1 k2 ⟨Nat.zero_le _,out.toList,c,wt a1,by rw[Array.toArray_toList];exact k3⟩,rfl,q D (I2.hok.untr k2)⟩
theorem Vo {c:Expr}{a b:List Stmt}{tc:TT}{ta tb:XK→TS}{pos:Pos}(hc:Bx (PT X.nox c tc)) (ha:Bx (PX X a ta)) (hb:Bx (PX X b tb)):Bx (PX X [.If c a b pos] (fun E=>zyN tc (ta E) (tb E))):=by
 have hc:=hc.of
 have ha:=ha.of
 have hb:=hb.of
 refine⟨?_⟩
 intro pins s σ H D E I q
 have key:wpAny (model X.prog X.w) X.A (exec (.If c a b pos) X.env) (SP X pins D) (XP X pins σ E) s:=by
  refine wpAny_If (wpAny_mono (hc pins s σ H _ (I.wish _) q) (fun d s1 hq=>?_) fun _ _ z=>False.elim z)
  obtain⟨H1,I1,q1⟩:=hq
  cases d with
  |true=>exact ha pins s1 σ H1 D E I1.unwish q1
  |false=>exact hb pins s1 σ H1 D E I1.unwish q1
 refine wpAny_execs_cons (wpAny_mono key (fun f s1 hq=>?_) fun _ _ z=>z)
 cases f with
 |next=>exact wpAny_execs_nil hq
 |_=>exact hq
end
end L2
namespace K04
open PySem L2
inductive Ex where
 |num (i:Int)
 |name (x:Str)
 |two (w:Str) (e f:Ex)
 |mod (e:Ex) (n:Int)
 |less (e f g h:Ex)
def Ex.dep:Ex→Nat
 |.num _=>1
 |.name _=>1
 |.two _ e f=>max e.dep f.dep+1
 |.mod e _=>e.dep+1
 |.less e f g h=>max (max e.dep f.dep) (max g.dep h.dep)+1
theorem Ex.dep_pos:∀ e:Ex,1≤e.dep
 |.num _=>Nat.le_refl _
 |.name _=>Nat.le_refl _
 |.two _ _ _=>Nat.le_add_left _ _
 |.mod _ _=>Nat.le_add_left _ _
 |.less _ _ _ _=>Nat.le_add_left _ _
def Ex.val (ρ:Str→Int):Ex→Int
 |.num i=>i
 |.name x=>ρ x
 |.two w e f=>if w = "add" then e.val ρ+f.val ρ else if w = "sub" then e.val ρ-f.val ρ else if w = "min" then(if f.val ρ<e.val ρ then f.val ρ else e.val ρ) else(if f.val ρ>e.val ρ then f.val ρ else e.val ρ)
 |.mod e n=>e.val ρ%n
 |.less e f g h=>if e.val ρ<f.val ρ then g.val ρ else h.val ρ
abbrev zyI (w:Str):Prop:=w = "add" ∨ w = "sub" ∨ w = "min" ∨ w = "max"
def Ex.ok (names:List Str):Ex→Prop
 |.num i=>-100000000000000000000<i∧i<100000000000000000000
 |.name x=>x∈names
 |.two w e f=>zyI w∧e.ok names∧f.ok names
 |.mod e n=>(1≤n∧n≤1000000000)∧e.ok names
 |.less e f g h=>e.ok names∧f.ok names∧g.ok names∧h.ok names
def Ext (l:Addr) (H H':Hp):Prop:=∀ b o,H b=some o→b≠l→H' b=some o
theorem Ext.trans {l:Addr}{H H1 H2:Hp}(a:Ext l H H1) (b:Ext l H1 H2):Ext l H H2:=fun c o e n=>b c o (a c o e n) n
theorem Ext.same {l:Addr}{H H':Hp}(a:Same H H'):Ext l H H':=fun c o e _=>a c o e
theorem Ext.new {l p:Addr}{H:Hp}{o:HO}(h:H p=none):Ext l H (upd H p o):=fun c u e _=>by rw[ze (ne_of_none e h)];exact e
theorem Ext.at {l:Addr}{H:Hp}{o:HO}:Ext l H (upd H l o):=fun c u e n=>by rw[ze n];exact e
theorem Same.new {p:Addr}{H:Hp}{o:HO}(h:H p=none):Same H (upd H p o):=fun c u e=>by rw[ze (ne_of_none e h)];exact e
def Told (H:Hp):Ex→V→Prop
 |.num i,v=>∃ p,v=.ref p∧H p=some (.tup [.str "num",.int i])
 |.name x,v=>∃ p,v=.ref p∧H p=some (.tup [.str "name",.str x])
 |.two w e f,v=>∃ p a b,v=.ref p∧H p=some (.tup [.str w,a,b])∧Told H e a∧Told H f b
 |.mod e n,v=>∃ p a,v=.ref p∧H p=some (.tup [.str "mod",a,.int n])∧Told H e a
 |.less e f g h,v=>∃ p a b c d,v=.ref p∧H p=some (.tup [.str "less",a,b,c,d])∧Told H e a∧Told H f b∧Told H g c∧Told H h d
theorem Told.mono {H H':Hp}(k:∀ b xs,H b=some (.tup xs)→H' b=some (.tup xs)):∀ {e:Ex}{v:V},Told H e v→Told H' e v
 |.num _,_,⟨p,e,h⟩=>⟨p,e,k _ _ h⟩
 |.name _,_,⟨p,e,h⟩=>⟨p,e,k _ _ h⟩
 |.two _ _ _,_,⟨p,a,b,e,h,t1,t2⟩=>⟨p,a,b,e,k _ _ h,t1.mono k,t2.mono k⟩
 |.mod _ _,_,⟨p,a,e,h,t1⟩=>⟨p,a,e,k _ _ h,t1.mono k⟩
 |.less _ _ _ _,_,⟨p,a,b,c,d,e,h,t1,t2,t3,t4⟩=>⟨p,a,b,c,d,e,k _ _ h,t1.mono k,t2.mono k,t3.mono k,t4.mono k⟩
theorem Told.same {H H':Hp}(k:Same H H'){e:Ex}{v:V}(t:Told H e v):Told H' e v:=t.mono fun b xs h=>k b _ h
theorem eqV_refl {x:V}(h:xa x=true):eqV x x=true:=by
 cases x<;>simp[xa] at h<;>simp[eqV]
def rho (kvs:List (Key×V)) (x:Str):Int:=match yL kvs (Sum.inr x) with
 |some (.int i)=>i
 |_=>0
def Has (names:List Str) (kvs:List (Key×V)):Prop:=∀ x∈names,∃ i,yL kvs (Sum.inr x:Key)=some (.int i)
theorem Has.at {names:List Str}{kvs:List (Key×V)}(h:Has names kvs){x:Str}(hx:x∈names):yL kvs (Sum.inr x:Key)=some (.int (rho kvs x)):=by
 obtain⟨i,e⟩:=h x hx
 unfold rho
 rw[e]
theorem Same.made {H:Hp}{x dx C:Addr}{fs fs':List (Str×V)}(nx:H x=none) (ndx:H dx=none):Same H (upd (upd (upd H dx (.own x)) x (.ins C dx fs')) x (.ins C dx fs)):=fun b o e=>by
 rw[ze (ne_of_none e nx),ze (ne_of_none e nx),ze (ne_of_none e ndx)]
 exact e
theorem X9 {w:Str}(h:zyI w):decide (V.str w=V.str "num")=false∧decide (V.str w=V.str "name")=false∧decide (V.str w=V.str "mod")=false∧decide (V.str w=V.str "less")=false:=by
 rcases h with rfl | rfl | rfl | rfl<;>decide +kernel
theorem znR {x y d:Int}(h0:0≤d) (h3:d<2):∃ v,atI [V.int x,V.int y] d=some (.int v)∧(v=x∨v=y):=by
 have:d=0∨d=1:=by omega
 rcases this with rfl | rfl
 ·exact⟨x,rfl,.inl rfl⟩
 ·exact⟨y,rfl,.inr rfl⟩
theorem ztv:(10:Int) ^ (20:Int).toNat=100000000000000000000:=by decide
theorem zGV:(10:Int) ^ (9:Int).toNat=1000000000:=by decide
theorem ztw {xs:List Str}{d:Int}(h0:0≤d) (h1:d<(xs.map V.str).length):∃ x,x∈xs∧atI (xs.map V.str) d=some (V.str x):=by
 rw[List.length_map] at h1
 have hd:d.toNat<xs.length:=by omega
 refine⟨xs[d.toNat],List.getElem_mem hd,?_⟩
 unfold atI ixN
 rw[List.length_map,if_pos h0,if_pos h1]
 show(xs.map V.str)[d.toNat]?=_
 simp[hd]
theorem znQ {d:Int}(h0:0≤d) (h4:d<4):∃ x,zyI x∧atI [V.str "add",V.str "sub",V.str "min",V.str "max"] d=some (V.str x):=by
 have:d=0∨d=1∨d=2∨d=3:=by omega
 rcases this with rfl | rfl | rfl | rfl
 ·exact⟨"add",.inl rfl,rfl⟩
 ·exact⟨"sub",.inr (.inl rfl),rfl⟩
 ·exact⟨"min",.inr (.inr (.inl rfl)),rfl⟩
 ·exact⟨"max",.inr (.inr (.inr rfl)),rfl⟩
theorem zyC {i:Nat}{v:V}{τ:St}{H:Hp}{A B:St→Hp→Prop}(h:A (τ.set i (some v)) H):Yr i v τ H fun τ2 H4=>zrI τ2 H4 fun b H5=>if b=true then A τ2 H5 else B τ2 H5:=by
 show if true=true then A (τ.set i (some v)) H else B (τ.set i (some v)) H
 exact Yi h
def zyy:V→Bool
 |.int _=>true
 |.bl _=>true
 |_=>false
def zFJ:V→Bool
 |.bl _=>true
 |_=>false
def zpk:V→Bool
 |.str _=>true
 |_=>false
def Lf (K:PySem.W.Frag) (H:Hp) (v:V):Prop:=∃ t,TyOf K H v t∧PySem.W.kitOne K t (.type "int")=some (zyy v)∧PySem.W.kitOne K t (.type "bool")=some (zFJ v)∧PySem.W.kitOne K t (.type "str")=some (zpk v)
def whole:V→Bool
 |.int _=>true
 |_=>false
def ua:V→Bool
 |.int i=>decide ((if i<0 then -i else i)<100000000000000000000)
 |_=>false
def xT (ws:List Str):V→Bool
 |.str x=>inV (.str x) (ws.map V.str)
 |_=>false
def zba:V→Bool
 |.int i=>decide (1≤i)&&decide (i≤1000000000)
 |_=>false
theorem Y0 (v:V):whole v=(zyy v&&!zFJ v):=by cases v<;>rfl
theorem wD {v:V}(h:whole v=true):∃ i,v=.int i:=by
 cases v<;>simp[whole] at h
 exact⟨_,rfl⟩
theorem XG {v:V}(h:zpk v=true):∃ x,v=.str x:=by
 cases v<;>simp[zpk] at h
 exact⟨_,rfl⟩
theorem inV_str {x:Str}:∀ {ws:List Str},inV (.str x) (ws.map V.str)=true↔x∈ws
 |[]=>by simp[inV]
 |w::ws=>by
  have ih:=inV_str (x:=x) (ws:=ws)
  unfold inV at ih ⊢
  rw[List.map_cons,List.any_cons,Bool.or_eq_true,List.mem_cons,ih]
  constructor
  ·rintro(h | h)
   ·left
    have:V.str w=V.str x:=by simpa[eqV] using h
    cases this
    rfl
   ·exact .inr h
  ·rintro(h | h)
   ·left
    subst h
    exact eqV_refl rfl
   ·exact .inr h
theorem flat_strs (ws:List Str):(ws.map V.str).all xa=true:=by
 rw[List.all_eq_true]
 intro v hv
 obtain⟨x,_,rfl⟩:=List.mem_map.mp hv
 rfl
inductive Gx where
 |num (v:V)
 |name (v:V)
 |two (w:V) (e f:Gx)
 |mod (e:Gx) (n:V)
 |less (e f g h:Gx)
 |oth (v:V)
abbrev twoWs:List Str:=["add", "sub", "min", "max"]
def Gx.sound (names:List Str):Nat→Gx→Bool
 |0,_=>false
 |_+1,.num v=>ua v
 |_+1,.name v=>xT names v
 |n+1,.two w e f=>xT twoWs w&&([e,f].all (Gx.sound names n))
 |n+1,.mod e v=>zba v&&Gx.sound names n e
 |n+1,.less e f g h=>[e,f,g,h].all (Gx.sound names n)
 |_+1,.oth _=>false
def Ex.gx:Ex→Gx
 |.num i=>.num (.int i)
 |.name x=>.name (.str x)
 |.two w e f=>.two (.str w) e.gx f.gx
 |.mod e n=>.mod e.gx (.int n)
 |.less e f g h=>.less e.gx f.gx g.gx h.gx
theorem Ex.sound {names:List Str}:∀ {n:Nat}{e:Ex},e.ok names→e.dep≤n→e.gx.sound names n=true
 |0,e,_,d=>by have:=e.dep_pos;omega
 |n+1,.num i,o,d=>by
  obtain⟨o1,o2⟩:=o
  show decide _=true
  refine decide_eq_true ?_
  split<;>omega
 |n+1,.name x,o,d=>inV_str.mpr o
 |n+1,.two w e f,o,d=>by
  obtain⟨hw,o1,o2⟩:=o
  have d:max e.dep f.dep+1≤n+1:=d
  have h1:=Ex.sound (n:=n) o1 (by omega)
  have h2:=Ex.sound (n:=n) o2 (by omega)
  show(inV (.str w) (twoWs.map V.str)&&([e.gx,f.gx].all _))=true
  have hw':inV (.str w) (twoWs.map V.str)=true:=inV_str.mpr (by rcases hw with rfl | rfl | rfl | rfl<;>simp)
  rw[hw']
  simp[h1,h2]
 |n+1,.mod e i,o,d=>by
  obtain⟨⟨i1,i2⟩,o1⟩:=o
  have d:e.dep+1≤n+1:=d
  have h1:=Ex.sound (n:=n) o1 (by omega)
  show((decide (1≤i)&&decide (i≤1000000000))&&e.gx.sound names n)=true
  simp[h1,i1,i2]
 |n+1,.less e f g h,o,d=>by
  obtain⟨o1,o2,o3,o4⟩:=o
  have d:max (max e.dep f.dep) (max g.dep h.dep)+1≤n+1:=d
  have h1:=Ex.sound (n:=n) o1 (by omega)
  have h2:=Ex.sound (n:=n) o2 (by omega)
  have h3:=Ex.sound (n:=n) o3 (by omega)
  have h4:=Ex.sound (n:=n) o4 (by omega)
  show([e.gx,f.gx,g.gx,h.gx].all _)=true
  simp[h1,h2,h3,h4]
def Ex.words:Ex→List Str
 |.num i=>[toString i]
 |.name x=>[x]
 |.two w e f=>w::(e.words++f.words)
 |.mod e n => "mod" :: (e.words++[(toString n:Str)])
 |.less e f g h => "less" :: (e.words++(f.words++(g.words++h.words)))
def Ex.size:Ex→Nat
 |.num _=>1
 |.name _=>1
 |.two _ e f=>1+e.size+f.size
 |.mod e _=>2+e.size
 |.less e f g h=>1+e.size+f.size+g.size+h.size
theorem Ex.words_len:∀ e:Ex,e.words.length=e.size
 |.num _=>rfl
 |.name _=>rfl
 |.two _ e f=>by simp[Ex.words,Ex.size,Ex.words_len e,Ex.words_len f];omega
 |.mod e _=>by simp[Ex.words,Ex.size,Ex.words_len e];omega
 |.less e f g h=>by simp[Ex.words,Ex.size,Ex.words_len e,Ex.words_len f,Ex.words_len g,Ex.words_len h];omega
def top (i:Nat):Stmt:=PySem.Challenge.pw_beatless_k40_one_hand_alone.main.body.getD i (.Pass ⟨0,0,0,0⟩)
abbrev VS:Stmt:=top 11
abbrev VR:Stmt:=top 13
abbrev VQ:Stmt:=top 31
abbrev VP:Stmt:=top 32
abbrev VO:Stmt:=top 33
abbrev VN:Stmt:=top 34
abbrev VM:Stmt:=top 35
abbrev Y9:Stmt:=top 36
abbrev VL:Stmt:=top 41
abbrev znm:Stmt:=top 42
abbrev VJ:Stmt:=top 43
abbrev VI:Stmt:=top 44
abbrev VH:Stmt:=top 48
abbrev VG:Stmt:=top 49
abbrev VF:Stmt:=top 50
abbrev VE:Stmt:=top 51
abbrev VD:Stmt:=top 52
abbrev VC:Stmt:=top 53
abbrev VB:Stmt:=top 54
abbrev VA:Stmt:=top 55
abbrev Vz:Stmt:=top 56
abbrev Y8:Stmt:=top 57
abbrev Vy:Stmt:=top 58
abbrev Vx:Stmt:=inClass (top 14) 0
abbrev Vw:Stmt:=inClass (top 14) 1
abbrev Vv:Stmt:=inClass (top 14) 8
abbrev Ui:Stmt:=inClass (top 14) 9
abbrev Uh:Stmt:=inClass (top 16) 0
abbrev Ug:Stmt:=inClass (top 16) 1
abbrev Uf:Stmt:=inClass (top 16) 3
abbrev Ue:Stmt:=inClass (top 16) 4
abbrev Ud:Stmt:=inClass (top 16) 5
abbrev Uc:Stmt:=inClass (top 16) 6
abbrev Ub:Stmt:=inClass (top 16) 10
abbrev Ua:Stmt:=inClass (top 16) 11
abbrev V9:Stmt:=inClass (top 16) 12
abbrev V8:Stmt:=inClass (top 16) 13
abbrev V7:Stmt:=inClass (top 16) 14
abbrev Xa:Stmt:=inClass (top 16) 15
abbrev V6:Stmt:=inClass (top 16) 16
abbrev V5:Stmt:=inClass (top 16) 17
abbrev V4:Stmt:=inClass (top 16) 18
abbrev V3:Stmt:=inClass (top 16) 19
abbrev V2:Stmt:=inClass (top 19) 0
abbrev V1:Stmt:=inClass (top 19) 1
abbrev V0:Stmt:=inClass (top 19) 3
abbrev VZ:Stmt:=inClass (top 20) 0
abbrev VY:Stmt:=inClass (top 20) 1
abbrev VX:Stmt:=inClass (top 20) 3
abbrev VW:Stmt:=inClass (top 21) 0
abbrev VU:Stmt:=inClass (top 21) 1
abbrev VT:Stmt:=inClass (top 21) 3
abbrev Zv:Stmt:=inClass (top 22) 0
abbrev Zu:Stmt:=inClass (top 22) 1
abbrev Zs:Stmt:=inClass (top 22) 3
abbrev Zr:Stmt:=inClass (top 23) 0
abbrev Zq:Stmt:=inClass (top 23) 1
abbrev Zp:Stmt:=inClass (top 23) 3
abbrev Zo:Stmt:=inClass (top 37) 0
abbrev v7:Stmt:=inClass (top 37) 1
abbrev We:Stmt:=inClass (top 37) 2
abbrev v6:Stmt:=inClass (top 37) 3
abbrev Zn:Stmt:=inClass (top 45) 0
abbrev Zm:Stmt:=inClass (top 45) 1
abbrev Wd:Stmt:=inClass (top 45) 2
abbrev Zl:Stmt:=inClass (top 45) 3
abbrev Zk:Stmt:=inClass (top 45) 5
theorem zs7:FnScope ["value"] ["value"] (defScope VS):=⟨rfl,rfl,rfl,by decide +kernel,rfl,by decide +kernel,by decide +kernel⟩
theorem zs6:FnScope ["value"] ["value"] (defScope VR):=⟨rfl,rfl,rfl,by decide +kernel,rfl,by decide +kernel,by decide +kernel⟩
theorem zs5:FnScope ["value"] ["value"] (defScope VQ):=⟨rfl,rfl,rfl,by decide +kernel,rfl,by decide +kernel,by decide +kernel⟩
theorem zs4:FnScope ["word", "words"] ["word", "words"] (defScope VP):=⟨rfl,rfl,rfl,by decide +kernel,rfl,by decide +kernel,by decide +kernel⟩
theorem zs3:FnScope ["number"] ["number"] (defScope VO):=⟨rfl,rfl,rfl,by decide +kernel,rfl,by decide +kernel,by decide +kernel⟩
theorem sc_qf:FnScope ["parts", "names", "deep", "part"] ["parts", "names", "deep"] (defScope VN):=⟨rfl,rfl,rfl,by decide +kernel,rfl,by decide +kernel,by decide +kernel⟩
theorem zs2:FnScope ["expr", "names", "deep"] ["expr", "names", "deep"] (defScope VM):=⟨rfl,rfl,rfl,by decide +kernel,rfl,by decide +kernel,by decide +kernel⟩
theorem zs1:FnScope ["exprs"] ["exprs"] (defScope Y9):=⟨rfl,rfl,rfl,by decide +kernel,rfl,by decide +kernel,by decide +kernel⟩
theorem sc_qi:FnScope ["hands", "ahead", "hand"] ["hands"] (defScope VL):=⟨rfl,rfl,rfl,by decide +kernel,rfl,by decide +kernel,by decide +kernel⟩
theorem sc_qk:FnScope ["lines", "hands", "seen", "line"] ["lines", "hands"] (defScope VJ):=⟨rfl,rfl,rfl,by decide +kernel,rfl,by decide +kernel,by decide +kernel⟩
theorem sc_ql:FnScope ["hands", "lines", "near", "hand", "one", "other"] ["hands", "lines"] (defScope VI):=⟨rfl,rfl,rfl,by decide +kernel,rfl,by decide +kernel,by decide +kernel⟩
theorem zs0:FnScope ["_law_cell"] ["_law_cell"] (defScope VH):=⟨rfl,rfl,rfl,by decide +kernel,rfl,by decide +kernel,by decide +kernel⟩
theorem sc_qn:FnScope ["_law_well_here", "_law_many", "_law_found", "_law_number"] ["_law_well_here", "_law_many"] (defScope VG):=⟨rfl,rfl,rfl,by decide +kernel,rfl,by decide +kernel,by decide +kernel⟩
theorem sc_qo:FnScope ["_law_well_here", "_law_names", "_law_deep", "_law_way", "_law_one", "_law_other"] ["_law_well_here", "_law_names", "_law_deep"] (defScope VF):=⟨rfl,rfl,rfl,by decide +kernel,rfl,by decide +kernel,by decide +kernel⟩
theorem sc_qp:FnScope ["_law_well_here", "_law_sends", "_law_tips", "_law_start", "_law_send", "_law_some", "_law_when", "_law_plain", "_law_renew"] ["_law_well_here"] (defScope VE):=⟨rfl,rfl,rfl,by decide +kernel,rfl,by decide +kernel,by decide +kernel⟩
theorem zsZ:FnScope ["_law_told_here"] ["_law_told_here"] (defScope VD):=⟨rfl,rfl,rfl,by decide +kernel,rfl,by decide +kernel,by decide +kernel⟩
theorem zsY:FnScope ["_law_told_here"] ["_law_told_here"] (defScope VC):=⟨rfl,rfl,rfl,by decide +kernel,rfl,by decide +kernel,by decide +kernel⟩
theorem sc_qs:FnScope ["_law_told_here", "_law_names", "_law_one", "_law_other", "_law_some"] ["_law_told_here", "_law_names"] (defScope VB):=⟨rfl,rfl,rfl,by decide +kernel,rfl,by decide +kernel,by decide +kernel⟩
theorem sc_qt:FnScope ["_law_told_here", "_law_worth", "_law_hand", "_law_turn", "_law_lines", "_law_numbers", "_law_names"] ["_law_told_here", "_law_worth", "_law_hand", "_law_turn", "_law_lines", "_law_numbers"] (defScope VA):=⟨rfl,rfl,rfl,by decide +kernel,rfl,by decide +kernel,by decide +kernel⟩
theorem sc_qu:FnScope ["_law_seat", "_law_turn", "_law_heard", "_law_found", "e"] ["_law_seat", "_law_turn", "_law_heard"] (defScope Vz):=⟨rfl,rfl,rfl,by decide +kernel,rfl,by decide +kernel,by decide +kernel⟩
theorem sc_qv:FnScope ["_law_well_here", "_law_told_here", "_law_hand", "_law_rounds", "_law_hands", "_law_web", "_law_way", "_law_seat", "_law_worth", "_law_turn", "_law_heard", "_law_bad"] ["_law_well_here"] (defScope Y8):=⟨rfl,rfl,rfl,by decide +kernel,rfl,by decide +kernel,by decide +kernel⟩
theorem sc_qw:FnScope ["_law_script", "_law_cell"] ["_law_script"] (defScope Vy):=⟨rfl,rfl,rfl,by decide +kernel,rfl,by decide +kernel,by decide +kernel⟩
theorem zsX:FnScope ["self", "parents", "bridges"] ["self", "parents", "bridges"] (defScope Vx):=⟨rfl,rfl,rfl,by decide +kernel,rfl,by decide +kernel,by decide +kernel⟩
theorem sc_qy:FnScope ["self", "hand", "each", "parent"] ["self", "hand"] (defScope Vw):=⟨rfl,rfl,rfl,by decide +kernel,rfl,by decide +kernel,by decide +kernel⟩
theorem zsW:FnScope ["self", "hand"] ["self", "hand"] (defScope Vv):=⟨rfl,rfl,rfl,by decide +kernel,rfl,by decide +kernel,by decide +kernel⟩
theorem sc_qA:FnScope ["self", "hand", "ends", "one", "other"] ["self", "hand"] (defScope Ui):=⟨rfl,rfl,rfl,by decide +kernel,rfl,by decide +kernel,by decide +kernel⟩
theorem sc_qB:FnScope ["self", "web", "way", "program", "rounds", "hand", "parent"] ["self", "web", "way", "program", "rounds", "hand"] (defScope Uh):=⟨rfl,rfl,rfl,by decide +kernel,rfl,by decide +kernel,by decide +kernel⟩
theorem ztp:FnScope ["self"] ["self"] (defScope Ug):=⟨rfl,rfl,rfl,by decide +kernel,rfl,by decide +kernel,by decide +kernel⟩
theorem zto:FnScope ["self"] ["self"] (defScope Uf):=⟨rfl,rfl,rfl,by decide +kernel,rfl,by decide +kernel,by decide +kernel⟩
theorem znK:FnScope ["self", "turn"] ["self", "turn"] (defScope Ue):=⟨rfl,rfl,rfl,by decide +kernel,rfl,by decide +kernel,by decide +kernel⟩
theorem znJ:FnScope ["self", "turn"] ["self", "turn"] (defScope Ud):=⟨rfl,rfl,rfl,by decide +kernel,rfl,by decide +kernel,by decide +kernel⟩
theorem ztn:FnScope ["self"] ["self"] (defScope Uc):=⟨rfl,rfl,rfl,by decide +kernel,rfl,by decide +kernel,by decide +kernel⟩
theorem ztm:FnScope ["self", "kind"] ["self", "kind"] (defScope Ub):=⟨rfl,rfl,rfl,by decide +kernel,rfl,by decide +kernel,by decide +kernel⟩
theorem ztl:FnScope ["self", "kind", "many"] ["self", "kind", "many"] (defScope Ua):=⟨rfl,rfl,rfl,by decide +kernel,rfl,by decide +kernel,by decide +kernel⟩
theorem ztk:FnScope ["self", "kind", "others"] ["self", "kind", "others"] (defScope V9):=⟨rfl,rfl,rfl,by decide +kernel,rfl,by decide +kernel,by decide +kernel⟩
theorem sc_qK:FnScope ["self", "words", "other", "number"] ["self"] (defScope V8):=⟨rfl,rfl,rfl,by decide +kernel,rfl,by decide +kernel,by decide +kernel⟩
theorem sc_qL:FnScope ["self", "letters"] ["self"] (defScope V7):=⟨rfl,rfl,rfl,by decide +kernel,rfl,by decide +kernel,by decide +kernel⟩
theorem ztj:FnScope ["self", "kind", "step"] ["self", "kind", "step"] (defScope Xa):=⟨rfl,rfl,rfl,by decide +kernel,rfl,by decide +kernel,by decide +kernel⟩
theorem zti:FnScope ["self"] ["self"] (defScope V6):=⟨rfl,rfl,rfl,by decide +kernel,rfl,by decide +kernel,by decide +kernel⟩
theorem zth:FnScope ["self"] ["self"] (defScope V5):=⟨rfl,rfl,rfl,by decide +kernel,rfl,by decide +kernel,by decide +kernel⟩
theorem ztg:FnScope ["self"] ["self"] (defScope V4):=⟨rfl,rfl,rfl,by decide +kernel,rfl,by decide +kernel,by decide +kernel⟩
theorem sc_qQ:FnScope ["self", "pairs", "numbers", "worth"] ["self"] (defScope V3):=⟨rfl,rfl,rfl,by decide +kernel,rfl,by decide +kernel,by decide +kernel⟩
theorem ztf:FnScope ["self", "value"] ["self", "value"] (defScope V2):=⟨rfl,rfl,rfl,by decide +kernel,rfl,by decide +kernel,by decide +kernel⟩
theorem zte:FnScope ["self", "worths"] ["self", "worths"] (defScope V1):=⟨rfl,rfl,rfl,by decide +kernel,rfl,by decide +kernel,by decide +kernel⟩
theorem ztd:FnScope ["self"] ["self"] (defScope V0):=⟨rfl,rfl,rfl,by decide +kernel,rfl,by decide +kernel,by decide +kernel⟩
theorem ztc:FnScope ["self", "word"] ["self", "word"] (defScope VZ):=⟨rfl,rfl,rfl,by decide +kernel,rfl,by decide +kernel,by decide +kernel⟩
theorem ztb:FnScope ["self", "worths"] ["self", "worths"] (defScope VY):=⟨rfl,rfl,rfl,by decide +kernel,rfl,by decide +kernel,by decide +kernel⟩
theorem zta:FnScope ["self"] ["self"] (defScope VX):=⟨rfl,rfl,rfl,by decide +kernel,rfl,by decide +kernel,by decide +kernel⟩
theorem zs9:FnScope ["self", "word", "one", "other"] ["self", "word", "one", "other"] (defScope VW):=⟨rfl,rfl,rfl,by decide +kernel,rfl,by decide +kernel,by decide +kernel⟩
theorem sc_qY:FnScope ["self", "worths", "one", "other"] ["self", "worths"] (defScope VU):=⟨rfl,rfl,rfl,by decide +kernel,rfl,by decide +kernel,by decide +kernel⟩
theorem zs8:FnScope ["self"] ["self"] (defScope VT):=⟨rfl,rfl,rfl,by decide +kernel,rfl,by decide +kernel,by decide +kernel⟩
theorem znI:FnScope ["self", "inner", "number"] ["self", "inner", "number"] (defScope Zv):=⟨rfl,rfl,rfl,by decide +kernel,rfl,by decide +kernel,by decide +kernel⟩
theorem znH:FnScope ["self", "worths"] ["self", "worths"] (defScope Zu):=⟨rfl,rfl,rfl,by decide +kernel,rfl,by decide +kernel,by decide +kernel⟩
theorem znG:FnScope ["self"] ["self"] (defScope Zs):=⟨rfl,rfl,rfl,by decide +kernel,rfl,by decide +kernel,by decide +kernel⟩
theorem znF:FnScope ["self", "one", "other", "third", "fourth"] ["self", "one", "other", "third", "fourth"] (defScope Zr):=⟨rfl,rfl,rfl,by decide +kernel,rfl,by decide +kernel,by decide +kernel⟩
theorem znE:FnScope ["self", "worths"] ["self", "worths"] (defScope Zq):=⟨rfl,rfl,rfl,by decide +kernel,rfl,by decide +kernel,by decide +kernel⟩
theorem znD:FnScope ["self"] ["self"] (defScope Zp):=⟨rfl,rfl,rfl,by decide +kernel,rfl,by decide +kernel,by decide +kernel⟩
theorem znC:FnScope ["self", "start", "send", "when", "renew"] ["self", "start", "send", "when", "renew"] (defScope Zo):=⟨rfl,rfl,rfl,by decide +kernel,rfl,by decide +kernel,by decide +kernel⟩
theorem znB:FnScope ["self", "hand", "lines"] ["self", "hand", "lines"] (defScope v7):=⟨rfl,rfl,rfl,by decide +kernel,rfl,by decide +kernel,by decide +kernel⟩
theorem sc_qa9:FnScope ["self", "worth", "hand", "turn", "lines", "heard", "worths"] ["self", "worth", "hand", "turn", "lines", "heard"] (defScope v6):=⟨rfl,rfl,rfl,by decide +kernel,rfl,by decide +kernel,by decide +kernel⟩
theorem znA:FnScope ["self", "hands", "lines"] ["self", "hands", "lines"] (defScope Zn):=⟨rfl,rfl,rfl,by decide +kernel,rfl,by decide +kernel,by decide +kernel⟩
theorem znz:FnScope ["self"] ["self"] (defScope Zm):=⟨rfl,rfl,rfl,by decide +kernel,rfl,by decide +kernel,by decide +kernel⟩
theorem zny:FnScope ["self", "hand"] ["self", "hand"] (defScope Zl):=⟨rfl,rfl,rfl,by decide +kernel,rfl,by decide +kernel,by decide +kernel⟩
theorem znx:FnScope ["self", "hand"] ["self", "hand"] (defScope Zk):=⟨rfl,rfl,rfl,by decide +kernel,rfl,by decide +kernel,by decide +kernel⟩
set_option genInjectivity false in
set_option genSizeOf false in
structure Ad where
 f_qa:Addr
 d_qa:FuncData
 f_qb:Addr
 d_qb:FuncData
 f_qc:Addr
 d_qc:FuncData
 f_qd:Addr
 d_qd:FuncData
 f_qe:Addr
 d_qe:FuncData
 f_qf:Addr
 d_qf:FuncData
 f_qg:Addr
 d_qg:FuncData
 f_qh:Addr
 d_qh:FuncData
 f_qi:Addr
 d_qi:FuncData
 f_qj:Addr
 d_qj:FuncData
 f_qk:Addr
 d_qk:FuncData
 f_ql:Addr
 d_ql:FuncData
 f_qm:Addr
 d_qm:FuncData
 f_qn:Addr
 d_qn:FuncData
 f_qo:Addr
 d_qo:FuncData
 f_qp:Addr
 d_qp:FuncData
 f_qq:Addr
 d_qq:FuncData
 f_qr:Addr
 d_qr:FuncData
 f_qs:Addr
 d_qs:FuncData
 f_qt:Addr
 d_qt:FuncData
 f_qu:Addr
 d_qu:FuncData
 f_qv:Addr
 d_qv:FuncData
 f_qw:Addr
 d_qw:FuncData
 f_qx:Addr
 d_qx:FuncData
 f_qy:Addr
 d_qy:FuncData
 f_qz:Addr
 d_qz:FuncData
 f_qA:Addr
 d_qA:FuncData
 f_qB:Addr
 d_qB:FuncData
 f_qC:Addr
 d_qC:FuncData
 f_qD:Addr
 d_qD:FuncData
 f_qE:Addr
 d_qE:FuncData
 f_qF:Addr
 d_qF:FuncData
 f_qG:Addr
 d_qG:FuncData
 f_qH:Addr
 d_qH:FuncData
 f_qI:Addr
 d_qI:FuncData
 f_qJ:Addr
 d_qJ:FuncData
 f_qK:Addr
 d_qK:FuncData
 f_qL:Addr
 d_qL:FuncData
 f_qM:Addr
 d_qM:FuncData
 f_qN:Addr
 d_qN:FuncData
 f_qO:Addr
 d_qO:FuncData
 f_qP:Addr
 d_qP:FuncData
 f_qQ:Addr
 d_qQ:FuncData
 f_qR:Addr
 d_qR:FuncData
 f_qS:Addr
 d_qS:FuncData
 f_qT:Addr
 d_qT:FuncData
 f_qU:Addr
 d_qU:FuncData
 f_qV:Addr
 d_qV:FuncData
 f_qW:Addr
 d_qW:FuncData
 f_qX:Addr
 d_qX:FuncData
 f_qY:Addr
 d_qY:FuncData
 f_qZ:Addr
 d_qZ:FuncData
 f_qa0:Addr
 d_qa0:FuncData
 f_qa1:Addr
 d_qa1:FuncData
 f_qa2:Addr
 d_qa2:FuncData
 f_qa3:Addr
 d_qa3:FuncData
 f_qa4:Addr
 d_qa4:FuncData
 f_qa5:Addr
 d_qa5:FuncData
 f_qa6:Addr
 d_qa6:FuncData
 f_qa7:Addr
 d_qa7:FuncData
 f_qa8:Addr
 d_qa8:FuncData
 f_qa9:Addr
 d_qa9:FuncData
 f_qb0:Addr
 d_qb0:FuncData
 f_qb1:Addr
 d_qb1:FuncData
 f_qb2:Addr
 d_qb2:FuncData
 f_qb3:Addr
 d_qb3:FuncData
 f_qb4:Addr
 d_qb4:FuncData
 c_Way:Addr
 c_Seat:Addr
 c_Num:Addr
 c_Name:Addr
 c_Two:Addr
 c_Mod:Addr
 c_Less:Addr
 c_Program:Addr
 c_Web:Addr
 c_NoRound:Addr
 c_BeatlessError:Addr
 c_NoHand:Addr
 c_NoLetter:Addr
 c_NoWay:Addr
 c_Fallen:Addr
 t_START_NAMES:Addr
 t_SEND_NAMES:Addr
 t_RENEW_NAMES:Addr
 t_TWO_WORDS:Addr
 t_MOST_WORDS:Tok
 t_MOST_DEEP:Tok
 t_MOST_HANDS:Tok
 t_LAST_HAND:Tok
structure Txt (w:World) (K:PySem.W.Frag) (mg:Str→Option Value) (a:Ad):Prop where
 n_len:mg "len" = none
 n_int:mg "int" = none
 n_min:mg "min" = none
 n_max:mg "max" = none
 n_range:mg "range" = none
 n_isinstance:mg "isinstance" = none
 n_list:mg "list" = none
 n_dict:mg "dict" = none
 n_abs:mg "abs" = none
 n_sorted:mg "sorted" = none
 n_str:mg "str" = none
 n_sum:mg "sum" = none
 n_bool:mg "bool" = none
 n_tuple:mg "tuple" = none
 n_set:mg "set" = none
 n_ValueError:mg "ValueError" = none
 F_qa:Fun K "is_whole" "is_whole" VS a.f_qa a.d_qa
 b_qa:Binds K a.d_qa ["value"] []
 g_qa:mg "is_whole" = some (.ref a.f_qa)
 F_qb:Fun K "copied" "copied" VR a.f_qb a.d_qb
 b_qb:Binds K a.d_qb ["value"] []
 g_qb:mg "copied" = some (.ref a.f_qb)
 F_qc:Fun K "is_short_number" "is_short_number" VQ a.f_qc a.d_qc
 b_qc:Binds K a.d_qc ["value"] []
 g_qc:mg "is_short_number" = some (.ref a.f_qc)
 F_qd:Fun K "is_word_of" "is_word_of" VP a.f_qd a.d_qd
 b_qd:Binds K a.d_qd ["word", "words"] []
 g_qd:mg "is_word_of" = some (.ref a.f_qd)
 F_qe:Fun K "is_divisor" "is_divisor" VO a.f_qe a.d_qe
 b_qe:Binds K a.d_qe ["number"] []
 g_qe:mg "is_divisor" = some (.ref a.f_qe)
 F_qf:Fun K "are_sound" "are_sound" VN a.f_qf a.d_qf
 b_qf:Binds K a.d_qf ["parts", "names", "deep"] []
 g_qf:mg "are_sound" = some (.ref a.f_qf)
 F_qg:Fun K "is_sound" "is_sound" VM a.f_qg a.d_qg
 b_qg:Binds K a.d_qg ["expr", "names", "deep"] []
 g_qg:mg "is_sound" = some (.ref a.f_qg)
 F_qh:Fun K "count_words" "count_words" Y9 a.f_qh a.d_qh
 b_qh:Binds K a.d_qh ["exprs"] []
 g_qh:mg "count_words" = some (.ref a.f_qh)
 F_qi:Fun K "are_hands" "are_hands" VL a.f_qi a.d_qi
 b_qi:Binds K a.d_qi ["hands"] []
 g_qi:mg "are_hands" = some (.ref a.f_qi)
 F_qj:Fun K "is_line" "is_line" znm a.f_qj a.d_qj
 b_qj:Binds K a.d_qj ["line", "hands"] []
 g_qj:mg "is_line" = some (.ref a.f_qj)
 F_qk:Fun K "are_lines" "are_lines" VJ a.f_qk a.d_qk
 b_qk:Binds K a.d_qk ["lines", "hands"] []
 g_qk:mg "are_lines" = some (.ref a.f_qk)
 F_ql:Fun K "near_by_hand" "near_by_hand" VI a.f_ql a.d_ql
 b_ql:Binds K a.d_ql ["hands", "lines"] []
 g_ql:mg "near_by_hand" = some (.ref a.f_ql)
 F_qm:Fun K "_law_well" "_law_well" VH a.f_qm a.d_qm
 b_qm:Binds K a.d_qm ["_law_cell"] []
 g_qm:mg "_law_well" = some (.ref a.f_qm)
 F_qn:Fun K "_law_draw" "_law_draw" VG a.f_qn a.d_qn
 b_qn:Binds K a.d_qn ["_law_well_here", "_law_many"] []
 g_qn:mg "_law_draw" = some (.ref a.f_qn)
 F_qo:Fun K "_law_expr" "_law_expr" VF a.f_qo a.d_qo
 b_qo:Binds K a.d_qo ["_law_well_here", "_law_names", "_law_deep"] []
 g_qo:mg "_law_expr" = some (.ref a.f_qo)
 F_qp:Fun K "_law_told" "_law_told" VE a.f_qp a.d_qp
 b_qp:Binds K a.d_qp ["_law_well_here"] []
 g_qp:mg "_law_told" = some (.ref a.f_qp)
 F_qq:Fun K "_law_made" "_law_made" VD a.f_qq a.d_qq
 b_qq:Binds K a.d_qq ["_law_told_here"] []
 g_qq:mg "_law_made" = some (.ref a.f_qq)
 F_qr:Fun K "_law_program" "_law_program" VC a.f_qr a.d_qr
 b_qr:Binds K a.d_qr ["_law_told_here"] []
 g_qr:mg "_law_program" = some (.ref a.f_qr)
 F_qs:Fun K "_law_value" "_law_value" VB a.f_qs a.d_qs
 b_qs:Binds K a.d_qs ["_law_told_here", "_law_names"] []
 g_qs:mg "_law_value" = some (.ref a.f_qs)
 F_qt:Fun K "_law_renewed" "_law_renewed" VA a.f_qt a.d_qt
 b_qt:Binds K a.d_qt ["_law_told_here", "_law_worth", "_law_hand", "_law_turn", "_law_lines", "_law_numbers"] []
 g_qt:mg "_law_renewed" = some (.ref a.f_qt)
 F_qu:Fun K "_law_classes" "_law_classes" Vz a.f_qu a.d_qu
 b_qu:Binds K a.d_qu ["_law_seat", "_law_turn", "_law_heard"] []
 g_qu:mg "_law_classes" = some (.ref a.f_qu)
 F_qv:Fun K "_law_right" "_law_right" Y8 a.f_qv a.d_qv
 b_qv:Binds K a.d_qv ["_law_well_here"] []
 g_qv:mg "_law_right" = some (.ref a.f_qv)
 F_qw:Fun K "law" "law" Vy a.f_qw a.d_qw
 b_qw:Binds K a.d_qw ["_law_script"] []
 b0_qw:∀ (s:Shared) (u:Value),BindsTo s a.d_qw ⟨[u],[]⟩ [("_law_script",u)]
 g_qw:mg "law" = some (.ref a.f_qw)
 F_qx:Fun K "__init__" "Way.__init__" Vx a.f_qx a.d_qx
 b_qx:Binds K a.d_qx ["self", "parents", "bridges"] []
 F_qy:Fun K "parent_of" "Way.parent_of" Vw a.f_qy a.d_qy
 b_qy:Binds K a.d_qy ["self", "hand"] []
 mt_qy:Meth K a.c_Way "parent_of" a.f_qy
 F_qz:Fun K "children" "Way.children" Vv a.f_qz a.d_qz
 b_qz:Binds K a.d_qz ["self", "hand"] []
 mt_qz:Meth K a.c_Way "children" a.f_qz
 F_qA:Fun K "bridges_at" "Way.bridges_at" Ui a.f_qA a.d_qA
 b_qA:Binds K a.d_qA ["self", "hand"] []
 mt_qA:Meth K a.c_Way "bridges_at" a.f_qA
 F_qB:Fun K "__init__" "Seat.__init__" Uh a.f_qB a.d_qB
 b_qB:Binds K a.d_qB ["self", "web", "way", "program", "rounds", "hand"] []
 F_qC:Fun K "begin" "Seat.begin" Ug a.f_qC a.d_qC
 b_qC:Binds K a.d_qC ["self"] []
 mt_qC:Meth K a.c_Seat "begin" a.f_qC
 F_qD:Fun K "ended" "Seat.ended" Uf a.f_qD a.d_qD
 b_qD:Binds K a.d_qD ["self"] []
 mt_qD:Meth K a.c_Seat "ended" a.f_qD
 F_qE:Fun K "worth" "Seat.worth" Ue a.f_qE a.d_qE
 b_qE:Binds K a.d_qE ["self", "turn"] []
 mt_qE:Meth K a.c_Seat "worth" a.f_qE
 F_qF:Fun K "heard" "Seat.heard" Ud a.f_qF a.d_qF
 b_qF:Binds K a.d_qF ["self", "turn"] []
 mt_qF:Meth K a.c_Seat "heard" a.f_qF
 F_qG:Fun K "last_worth" "Seat.last_worth" Uc a.f_qG a.d_qG
 b_qG:Binds K a.d_qG ["self"] []
 mt_qG:Meth K a.c_Seat "last_worth" a.f_qG
 F_qH:Fun K "come" "Seat.come" Ub a.f_qH a.d_qH
 b_qH:Binds K a.d_qH ["self", "kind"] []
 mt_qH:Meth K a.c_Seat "come" a.f_qH
 F_qI:Fun K "has_come" "Seat.has_come" Ua a.f_qI a.d_qI
 b_qI:Binds K a.d_qI ["self", "kind", "many"] []
 mt_qI:Meth K a.c_Seat "has_come" a.f_qI
 F_qJ:Fun K "tell_each" "Seat.tell_each" V9 a.f_qJ a.d_qJ
 b_qJ:Binds K a.d_qJ ["self", "kind", "others"] []
 mt_qJ:Meth K a.c_Seat "tell_each" a.f_qJ
 F_qK:Fun K "begin_round" "Seat.begin_round" V8 a.f_qK a.d_qK
 b_qK:Binds K a.d_qK ["self"] []
 mt_qK:Meth K a.c_Seat "begin_round" a.f_qK
 F_qL:Fun K "go_as_far_as_can_be" "Seat.go_as_far_as_can_be" V7 a.f_qL a.d_qL
 b_qL:Binds K a.d_qL ["self"] []
 mt_qL:Meth K a.c_Seat "go_as_far_as_can_be" a.f_qL
 F_qM:Fun K "is_let" "Seat.is_let" Xa a.f_qM a.d_qM
 b_qM:Binds K a.d_qM ["self", "kind", "step"] []
 mt_qM:Meth K a.c_Seat "is_let" a.f_qM
 F_qN:Fun K "tell_through" "Seat.tell_through" V6 a.f_qN a.d_qN
 b_qN:Binds K a.d_qN ["self"] []
 mt_qN:Meth K a.c_Seat "tell_through" a.f_qN
 F_qO:Fun K "tell_all" "Seat.tell_all" V5 a.f_qO a.d_qO
 b_qO:Binds K a.d_qO ["self"] []
 mt_qO:Meth K a.c_Seat "tell_all" a.f_qO
 F_qP:Fun K "tell_clear" "Seat.tell_clear" V4 a.f_qP a.d_qP
 b_qP:Binds K a.d_qP ["self"] []
 mt_qP:Meth K a.c_Seat "tell_clear" a.f_qP
 F_qQ:Fun K "end_round" "Seat.end_round" V3 a.f_qQ a.d_qQ
 b_qQ:Binds K a.d_qQ ["self"] []
 mt_qQ:Meth K a.c_Seat "end_round" a.f_qQ
 F_qR:Fun K "__init__" "Num.__init__" V2 a.f_qR a.d_qR
 b_qR:Binds K a.d_qR ["self", "value"] []
 F_qS:Fun K "reckon" "Num.reckon" V1 a.f_qS a.d_qS
 b_qS:Binds K a.d_qS ["self", "worths"] []
 mt_qS:Meth K a.c_Num "reckon" a.f_qS
 F_qT:Fun K "words" "Num.words" V0 a.f_qT a.d_qT
 b_qT:Binds K a.d_qT ["self"] []
 mt_qT:Meth K a.c_Num "words" a.f_qT
 F_qU:Fun K "__init__" "Name.__init__" VZ a.f_qU a.d_qU
 b_qU:Binds K a.d_qU ["self", "word"] []
 F_qV:Fun K "reckon" "Name.reckon" VY a.f_qV a.d_qV
 b_qV:Binds K a.d_qV ["self", "worths"] []
 mt_qV:Meth K a.c_Name "reckon" a.f_qV
 F_qW:Fun K "words" "Name.words" VX a.f_qW a.d_qW
 b_qW:Binds K a.d_qW ["self"] []
 mt_qW:Meth K a.c_Name "words" a.f_qW
 F_qX:Fun K "__init__" "Two.__init__" VW a.f_qX a.d_qX
 b_qX:Binds K a.d_qX ["self", "word", "one", "other"] []
 F_qY:Fun K "reckon" "Two.reckon" VU a.f_qY a.d_qY
 b_qY:Binds K a.d_qY ["self", "worths"] []
 mt_qY:Meth K a.c_Two "reckon" a.f_qY
 F_qZ:Fun K "words" "Two.words" VT a.f_qZ a.d_qZ
 b_qZ:Binds K a.d_qZ ["self"] []
 mt_qZ:Meth K a.c_Two "words" a.f_qZ
 F_qa0:Fun K "__init__" "Mod.__init__" Zv a.f_qa0 a.d_qa0
 b_qa0:Binds K a.d_qa0 ["self", "inner", "number"] []
 F_qa1:Fun K "reckon" "Mod.reckon" Zu a.f_qa1 a.d_qa1
 b_qa1:Binds K a.d_qa1 ["self", "worths"] []
 mt_qa1:Meth K a.c_Mod "reckon" a.f_qa1
 F_qa2:Fun K "words" "Mod.words" Zs a.f_qa2 a.d_qa2
 b_qa2:Binds K a.d_qa2 ["self"] []
 mt_qa2:Meth K a.c_Mod "words" a.f_qa2
 F_qa3:Fun K "__init__" "Less.__init__" Zr a.f_qa3 a.d_qa3
 b_qa3:Binds K a.d_qa3 ["self", "one", "other", "third", "fourth"] []
 F_qa4:Fun K "reckon" "Less.reckon" Zq a.f_qa4 a.d_qa4
 b_qa4:Binds K a.d_qa4 ["self", "worths"] []
 mt_qa4:Meth K a.c_Less "reckon" a.f_qa4
 F_qa5:Fun K "words" "Less.words" Zp a.f_qa5 a.d_qa5
 b_qa5:Binds K a.d_qa5 ["self"] []
 mt_qa5:Meth K a.c_Less "words" a.f_qa5
 F_qa6:Fun K "__init__" "Program.__init__" Zo a.f_qa6 a.d_qa6
 b_qa6:Binds K a.d_qa6 ["self", "start", "send", "when", "renew"] []
 F_qa7:Fun K "first_worth" "Program.first_worth" v7 a.f_qa7 a.d_qa7
 b_qa7:Binds K a.d_qa7 ["self", "hand", "lines"] []
 mt_qa7:Meth K a.c_Program "first_worth" a.f_qa7
 F_qa8:Fun K "word_to" "Program.word_to" We a.f_qa8 a.d_qa8
 b_qa8:Binds K a.d_qa8 ["self", "worth", "hand", "turn", "lines", "other"] []
 mt_qa8:Meth K a.c_Program "word_to" a.f_qa8
 F_qa9:Fun K "next_worth" "Program.next_worth" v6 a.f_qa9 a.d_qa9
 b_qa9:Binds K a.d_qa9 ["self", "worth", "hand", "turn", "lines", "heard"] []
 mt_qa9:Meth K a.c_Program "next_worth" a.f_qa9
 F_qb0:Fun K "__init__" "Web.__init__" Zn a.f_qb0 a.d_qb0
 b_qb0:Binds K a.d_qb0 ["self", "hands", "lines"] []
 F_qb1:Fun K "hands" "Web.hands" Zm a.f_qb1 a.d_qb1
 b_qb1:Binds K a.d_qb1 ["self"] []
 mt_qb1:Meth K a.c_Web "hands" a.f_qb1
 F_qb2:Fun K "lines" "Web.lines" Wd a.f_qb2 a.d_qb2
 b_qb2:Binds K a.d_qb2 ["self"] []
 mt_qb2:Meth K a.c_Web "lines" a.f_qb2
 F_qb3:Fun K "has_hand" "Web.has_hand" Zl a.f_qb3 a.d_qb3
 b_qb3:Binds K a.d_qb3 ["self", "hand"] []
 mt_qb3:Meth K a.c_Web "has_hand" a.f_qb3
 F_qb4:Fun K "neighbours" "Web.neighbours" Zk a.f_qb4 a.d_qb4
 b_qb4:Binds K a.d_qb4 ["self", "hand"] []
 mt_qb4:Meth K a.c_Web "neighbours" a.f_qb4
 g_Way:mg "Way" = some (.ref a.c_Way)
 cl_Way:Cls K a.c_Way
 mk_Way:Mk K a.c_Way a.f_qx
 ty_Way:∀ (H:Hp) (p dx:Addr) (fs:List (Str×V)),H p=some (.ins a.c_Way dx fs)→TyOf K H (.ref p) (.ref a.c_Way)
 na_Way_own_parents:NoAttr K a.c_Way "own_parents"
 na_Way_own_bridges:NoAttr K a.c_Way "own_bridges"
 g_Seat:mg "Seat" = some (.ref a.c_Seat)
 cl_Seat:Cls K a.c_Seat
 mk_Seat:Mk K a.c_Seat a.f_qB
 ty_Seat:∀ (H:Hp) (p dx:Addr) (fs:List (Str×V)),H p=some (.ins a.c_Seat dx fs)→TyOf K H (.ref p) (.ref a.c_Seat)
 na_Seat_web:NoAttr K a.c_Seat "web"
 na_Seat_way:NoAttr K a.c_Seat "way"
 na_Seat_program:NoAttr K a.c_Seat "program"
 na_Seat_rounds:NoAttr K a.c_Seat "rounds"
 na_Seat_me:NoAttr K a.c_Seat "me"
 na_Seat_near:NoAttr K a.c_Seat "near"
 na_Seat_above:NoAttr K a.c_Seat "above"
 na_Seat_below:NoAttr K a.c_Seat "below"
 na_Seat_across:NoAttr K a.c_Seat "across"
 na_Seat_worths:NoAttr K a.c_Seat "worths"
 na_Seat_pairs_heard:NoAttr K a.c_Seat "pairs_heard"
 na_Seat_mail:NoAttr K a.c_Seat "mail"
 na_Seat_turn:NoAttr K a.c_Seat "turn"
 na_Seat_awaited:NoAttr K a.c_Seat "awaited"
 na_Seat_did:NoAttr K a.c_Seat "did"
 g_Num:mg "Num" = some (.ref a.c_Num)
 cl_Num:Cls K a.c_Num
 mk_Num:Mk K a.c_Num a.f_qR
 ty_Num:∀ (H:Hp) (p dx:Addr) (fs:List (Str×V)),H p=some (.ins a.c_Num dx fs)→TyOf K H (.ref p) (.ref a.c_Num)
 na_Num_value:NoAttr K a.c_Num "value"
 g_Name:mg "Name" = some (.ref a.c_Name)
 cl_Name:Cls K a.c_Name
 mk_Name:Mk K a.c_Name a.f_qU
 ty_Name:∀ (H:Hp) (p dx:Addr) (fs:List (Str×V)),H p=some (.ins a.c_Name dx fs)→TyOf K H (.ref p) (.ref a.c_Name)
 na_Name_word:NoAttr K a.c_Name "word"
 g_Two:mg "Two" = some (.ref a.c_Two)
 cl_Two:Cls K a.c_Two
 mk_Two:Mk K a.c_Two a.f_qX
 ty_Two:∀ (H:Hp) (p dx:Addr) (fs:List (Str×V)),H p=some (.ins a.c_Two dx fs)→TyOf K H (.ref p) (.ref a.c_Two)
 na_Two_word:NoAttr K a.c_Two "word"
 na_Two_one:NoAttr K a.c_Two "one"
 na_Two_other:NoAttr K a.c_Two "other"
 g_Mod:mg "Mod" = some (.ref a.c_Mod)
 cl_Mod:Cls K a.c_Mod
 mk_Mod:Mk K a.c_Mod a.f_qa0
 ty_Mod:∀ (H:Hp) (p dx:Addr) (fs:List (Str×V)),H p=some (.ins a.c_Mod dx fs)→TyOf K H (.ref p) (.ref a.c_Mod)
 na_Mod_inner:NoAttr K a.c_Mod "inner"
 na_Mod_number:NoAttr K a.c_Mod "number"
 g_Less:mg "Less" = some (.ref a.c_Less)
 cl_Less:Cls K a.c_Less
 mk_Less:Mk K a.c_Less a.f_qa3
 ty_Less:∀ (H:Hp) (p dx:Addr) (fs:List (Str×V)),H p=some (.ins a.c_Less dx fs)→TyOf K H (.ref p) (.ref a.c_Less)
 na_Less_one:NoAttr K a.c_Less "one"
 na_Less_other:NoAttr K a.c_Less "other"
 na_Less_third:NoAttr K a.c_Less "third"
 na_Less_fourth:NoAttr K a.c_Less "fourth"
 g_Program:mg "Program" = some (.ref a.c_Program)
 cl_Program:Cls K a.c_Program
 mk_Program:Mk K a.c_Program a.f_qa6
 ty_Program:∀ (H:Hp) (p dx:Addr) (fs:List (Str×V)),H p=some (.ins a.c_Program dx fs)→TyOf K H (.ref p) (.ref a.c_Program)
 na_Program_start:NoAttr K a.c_Program "start"
 na_Program_send:NoAttr K a.c_Program "send"
 na_Program_when:NoAttr K a.c_Program "when"
 na_Program_renew:NoAttr K a.c_Program "renew"
 g_Web:mg "Web" = some (.ref a.c_Web)
 cl_Web:Cls K a.c_Web
 mk_Web:Mk K a.c_Web a.f_qb0
 ty_Web:∀ (H:Hp) (p dx:Addr) (fs:List (Str×V)),H p=some (.ins a.c_Web dx fs)→TyOf K H (.ref p) (.ref a.c_Web)
 na_Web_own_hands:NoAttr K a.c_Web "own_hands"
 na_Web_own_lines:NoAttr K a.c_Web "own_lines"
 na_Web_near:NoAttr K a.c_Web "near"
 k_Num_Num:PySem.W.kitOne K (.ref a.c_Num) (.ref a.c_Num)=some true
 k_Name_Num:PySem.W.kitOne K (.ref a.c_Name) (.ref a.c_Num)=some false
 k_Name_Name:PySem.W.kitOne K (.ref a.c_Name) (.ref a.c_Name)=some true
 k_Two_Num:PySem.W.kitOne K (.ref a.c_Two) (.ref a.c_Num)=some false
 k_Two_Name:PySem.W.kitOne K (.ref a.c_Two) (.ref a.c_Name)=some false
 k_Two_Two:PySem.W.kitOne K (.ref a.c_Two) (.ref a.c_Two)=some true
 k_Mod_Num:PySem.W.kitOne K (.ref a.c_Mod) (.ref a.c_Num)=some false
 k_Mod_Name:PySem.W.kitOne K (.ref a.c_Mod) (.ref a.c_Name)=some false
 k_Mod_Two:PySem.W.kitOne K (.ref a.c_Mod) (.ref a.c_Two)=some false
 k_Mod_Mod:PySem.W.kitOne K (.ref a.c_Mod) (.ref a.c_Mod)=some true
 k_Less_Num:PySem.W.kitOne K (.ref a.c_Less) (.ref a.c_Num)=some false
 k_Less_Name:PySem.W.kitOne K (.ref a.c_Less) (.ref a.c_Name)=some false
 k_Less_Two:PySem.W.kitOne K (.ref a.c_Less) (.ref a.c_Two)=some false
 k_Less_Mod:PySem.W.kitOne K (.ref a.c_Less) (.ref a.c_Mod)=some false
 k_Less_Less:PySem.W.kitOne K (.ref a.c_Less) (.ref a.c_Less)=some true
 k_tint_tint:PySem.W.kitOne K (.type "int") (.type "int")=some true
 k_tint_tbool:PySem.W.kitOne K (.type "int") (.type "bool")=some false
 k_tstr_tstr:PySem.W.kitOne K (.type "str") (.type "str")=some true
 k_ttuple_ttuple:PySem.W.kitOne K (.type "tuple") (.type "tuple")=some true
 k_tint_ttuple:PySem.W.kitOne K (.type "int") (.type "tuple")=some false
 k_tstr_ttuple:PySem.W.kitOne K (.type "str") (.type "tuple")=some false
 k_tint_tstr:PySem.W.kitOne K (.type "int") (.type "str")=some false
 k_tstr_tint:PySem.W.kitOne K (.type "str") (.type "int")=some false
 k_tstr_tbool:PySem.W.kitOne K (.type "str") (.type "bool")=some false
 k_Program_Program:PySem.W.kitOne K (.ref a.c_Program) (.ref a.c_Program)=some true
 k_tNoneType_tbool:PySem.W.kitOne K (.type "NoneType") (.type "bool")=some false
 k_tlist_tlist:PySem.W.kitOne K (.type "list") (.type "list")=some true
 k_ttuple_tlist:PySem.W.kitOne K (.type "tuple") (.type "list")=some false
 k_tdict_tlist:PySem.W.kitOne K (.type "dict") (.type "list")=some false
 k_tdict_ttuple:PySem.W.kitOne K (.type "dict") (.type "tuple")=some false
 k_tdict_tdict:PySem.W.kitOne K (.type "dict") (.type "dict")=some true
 k_tint_tlist:PySem.W.kitOne K (.type "int") (.type "list")=some false
 k_tint_tdict:PySem.W.kitOne K (.type "int") (.type "dict")=some false
 k_tNoneType_tlist:PySem.W.kitOne K (.type "NoneType") (.type "list")=some false
 k_tNoneType_ttuple:PySem.W.kitOne K (.type "NoneType") (.type "tuple")=some false
 k_tNoneType_tdict:PySem.W.kitOne K (.type "NoneType") (.type "dict")=some false
 k_tNoneType_tint:PySem.W.kitOne K (.type "NoneType") (.type "int")=some false
 k_Way_Way:PySem.W.kitOne K (.ref a.c_Way) (.ref a.c_Way)=some true
 k_tbool_tbool:PySem.W.kitOne K (.type "bool") (.type "bool")=some true
 k_NoRound_NoHand:PySem.W.kitOne K (.ref a.c_NoRound) (.ref a.c_NoHand)=some false
 k_NoRound_NoLetter:PySem.W.kitOne K (.ref a.c_NoRound) (.ref a.c_NoLetter)=some false
 k_NoRound_NoWay:PySem.W.kitOne K (.ref a.c_NoRound) (.ref a.c_NoWay)=some false
 k_NoRound_Fallen:PySem.W.kitOne K (.ref a.c_NoRound) (.ref a.c_Fallen)=some false
 k_NoRound_tValueError:PySem.W.kitOne K (.ref a.c_NoRound) (.type "ValueError")=some true
 k_NoRound_NoRound:PySem.W.kitOne K (.ref a.c_NoRound) (.ref a.c_NoRound)=some true
 k_tbool_tint:PySem.W.kitOne K (.type "bool") (.type "int")=some true
 k_ttuple_tint:PySem.W.kitOne K (.type "tuple") (.type "int")=some false
 k_tlist_tint:PySem.W.kitOne K (.type "list") (.type "int")=some false
 k_tbool_tstr:PySem.W.kitOne K (.type "bool") (.type "str")=some false
 k_tNoneType_tstr:PySem.W.kitOne K (.type "NoneType") (.type "str")=some false
 k_ttuple_tbool:PySem.W.kitOne K (.type "tuple") (.type "bool")=some false
 k_ttuple_tstr:PySem.W.kitOne K (.type "tuple") (.type "str")=some false
 k_tlist_tbool:PySem.W.kitOne K (.type "list") (.type "bool")=some false
 k_tlist_tstr:PySem.W.kitOne K (.type "list") (.type "str")=some false
 g_START_NAMES:mg "START_NAMES" = some (.ref a.t_START_NAMES)
 s_START_NAMES:∀ H:Hp,SqT K H a.t_START_NAMES [V.str "me",V.str "lines"]
 g_SEND_NAMES:mg "SEND_NAMES" = some (.ref a.t_SEND_NAMES)
 s_SEND_NAMES:∀ H:Hp,SqT K H a.t_SEND_NAMES [V.str "worth",V.str "me",V.str "round",V.str "lines",V.str "to"]
 g_RENEW_NAMES:mg "RENEW_NAMES" = some (.ref a.t_RENEW_NAMES)
 s_RENEW_NAMES:∀ H:Hp,SqT K H a.t_RENEW_NAMES [V.str "worth",V.str "me",V.str "round",V.str "lines",V.str "sum",V.str "least",V.str "most",V.str "count"]
 g_TWO_WORDS:mg "TWO_WORDS" = some (.ref a.t_TWO_WORDS)
 s_TWO_WORDS:∀ H:Hp,SqT K H a.t_TWO_WORDS [V.str "add",V.str "sub",V.str "min",V.str "max"]
 g_MOST_WORDS:mg "MOST_WORDS" = some (.int 60 a.t_MOST_WORDS)
 g_MOST_DEEP:mg "MOST_DEEP" = some (.int 8 a.t_MOST_DEEP)
 g_MOST_HANDS:mg "MOST_HANDS" = some (.int 12 a.t_MOST_HANDS)
 g_LAST_HAND:mg "LAST_HAND" = some (.int 99 a.t_LAST_HAND)
 g_NoRound:mg "NoRound" = some (.ref a.c_NoRound)
 xc_NoRound:XCls K a.c_NoRound
 g_BeatlessError:mg "BeatlessError" = some (.ref a.c_BeatlessError)
 xc_BeatlessError:XCls K a.c_BeatlessError
 g_NoHand:mg "NoHand" = some (.ref a.c_NoHand)
 g_NoLetter:mg "NoLetter" = some (.ref a.c_NoLetter)
 g_NoWay:mg "NoWay" = some (.ref a.c_NoWay)
 g_Fallen:mg "Fallen" = some (.ref a.c_Fallen)
 xi_NoRound:XIs K a.c_NoRound
 xu_NoRound_BeatlessError:zbc K a.c_NoRound a.c_BeatlessError=some true
def Made (a:Ad) (H:Hp):Ex→V→Prop
 |.num i,v=>∃ p dx,v=.ref p∧H p=some (.ins a.c_Num dx [("value",.int i)])
 |.name x,v=>∃ p dx,v=.ref p∧H p=some (.ins a.c_Name dx [("word",.str x)])
 |.two w e f,v=>∃ p dx u1 u2,v=.ref p∧H p=some (.ins a.c_Two dx [("word",.str w),("one",u1),("other",u2)])∧Made a H e u1∧Made a H f u2
 |.mod e n,v=>∃ p dx u1,v=.ref p∧H p=some (.ins a.c_Mod dx [("inner",u1),("number",.int n)])∧Made a H e u1
 |.less e f g h,v=>∃ p dx u1 u2 u3 u4,v=.ref p∧H p=some (.ins a.c_Less dx [("one",u1),("other",u2),("third",u3),("fourth",u4)])∧Made a H e u1∧Made a H f u2∧Made a H g u3∧Made a H h u4
theorem Made.mono {a:Ad}{H H':Hp}(k:∀ b C dx fs,H b=some (.ins C dx fs)→H' b=some (.ins C dx fs)):∀ {e:Ex}{v:V},Made a H e v→Made a H' e v
 |.num _,_,⟨p,dx,e,h⟩=>⟨p,dx,e,k _ _ _ _ h⟩
 |.name _,_,⟨p,dx,e,h⟩=>⟨p,dx,e,k _ _ _ _ h⟩
 |.two _ _ _,_,⟨p,dx,u1,u2,e,h,t1,t2⟩=>⟨p,dx,u1,u2,e,k _ _ _ _ h,t1.mono k,t2.mono k⟩
 |.mod _ _,_,⟨p,dx,u1,e,h,t1⟩=>⟨p,dx,u1,e,k _ _ _ _ h,t1.mono k⟩
 |.less _ _ _ _,_,⟨p,dx,u1,u2,u3,u4,e,h,t1,t2,t3,t4⟩=>⟨p,dx,u1,u2,u3,u4,e,k _ _ _ _ h,t1.mono k,t2.mono k,t3.mono k,t4.mono k⟩
theorem Made.same {a:Ad}{H H':Hp}(k:Same H H'){e:Ex}{v:V}(t:Made a H e v):Made a H' e v:=t.mono fun b C dx fs h=>k b _ h
section
variable {P:Program}{w:World}{K:PySem.W.Frag}{mg:Str→Option Value}{base:Heap}{a:Ad}
def zpy (C:Addr) (x:Str):Sp:=fun vs H Q _=>∃ (p dx:Addr) (v:V),vs=[.ref p,v]∧H p=some (.ins C dx [])∧Q .non (upd H p (.ins C dx [(x,v)]))
def zDF (C:Addr) (x y:Str):Sp:=fun vs H Q _=>∃ (p dx:Addr) (v u:V),vs=[.ref p,v,u]∧H p=some (.ins C dx [])∧Q .non (upd H p (.ins C dx [(x,v),(y,u)]))
def zDE (C:Addr) (x y z:Str):Sp:=fun vs H Q _=>∃ (p dx:Addr) (v u t:V),vs=[.ref p,v,u,t]∧H p=some (.ins C dx [])∧Q .non (upd H p (.ins C dx [(x,v),(y,u),(z,t)]))
def zDD (C:Addr) (x y z o:Str):Sp:=fun vs H Q _=>∃ (p dx:Addr) (v u t r:V),vs=[.ref p,v,u,t,r]∧H p=some (.ins C dx [])∧Q .non (upd H p (.ins C dx [(x,v),(y,u),(z,t),(o,r)]))
theorem vA (T:Txt w K mg a):FnOk P w K mg base CX0 1 a.f_qR a.d_qR ["self", "value"] (zpy a.c_Num "value"):=by
 refine T.F_qR.ok ztf (fun vs H Q E h=>?_) (fun cdv A outer s H vs Q E hr h=>?_)
 ·obtain⟨p,dx,v,rfl,_⟩:=h
  rfl
 ·obtain⟨p,dx,v,rfl,hp,k⟩:=h
  refine zv (w_pss_one (w_ps_fld (w_pv 0) (w_pv 1) rfl)) ?_
  refine⟨_,rfl,_,rfl,p,a.c_Num,dx,_,rfl,hp,T.cl_Num,T.na_Num_value,(by show 0<1000;decide),?_⟩
  exact k
theorem wU (T:Txt w K mg a):FnOk P w K mg base CX0 1 a.f_qU a.d_qU ["self", "word"] (zpy a.c_Name "word"):=by
 refine T.F_qU.ok ztc (fun vs H Q E h=>?_) (fun cdv A outer s H vs Q E hr h=>?_)
 ·obtain⟨p,dx,v,rfl,_⟩:=h
  rfl
 ·obtain⟨p,dx,v,rfl,hp,k⟩:=h
  refine zv (w_pss_one (w_ps_fld (w_pv 0) (w_pv 1) rfl)) ?_
  refine⟨_,rfl,_,rfl,p,a.c_Name,dx,_,rfl,hp,T.cl_Name,T.na_Name_word,(by show 0<1000;decide),?_⟩
  exact k
theorem vz (T:Txt w K mg a):FnOk P w K mg base CX0 1 a.f_qX a.d_qX ["self", "word", "one", "other"] (zDE a.c_Two "word" "one" "other"):=by
 refine T.F_qX.ok zs9 (fun vs H Q E h=>?_) (fun cdv A outer s H vs Q E hr h=>?_)
 ·obtain⟨p,dx,v,u,t,rfl,_⟩:=h
  rfl
 ·obtain⟨p,dx,v,u,t,rfl,hp,k⟩:=h
  refine zv (w_pss_cons (w_ps_fld (w_pv 0) (w_pv 1) rfl)
   (w_pss_cons (w_ps_fld (w_pv 0) (w_pv 2) rfl)
   (w_pss_one (w_ps_fld (w_pv 0) (w_pv 3) rfl)))) ?_
  refine⟨_,rfl,_,rfl,p,a.c_Two,dx,_,rfl,hp,T.cl_Two,T.na_Two_word,(by show 0<1000;decide),?_⟩
  refine⟨_,rfl,_,rfl,p,a.c_Two,dx,_,rfl,upd_same,T.cl_Two,T.na_Two_one,(by show 1<1000;decide),?_⟩
  refine⟨_,rfl,_,rfl,p,a.c_Two,dx,_,rfl,upd_same,T.cl_Two,T.na_Two_other,(by show 2<1000;decide),?_⟩
  rw[yn,yn]
  exact k
theorem vB (T:Txt w K mg a):FnOk P w K mg base CX0 1 a.f_qa0 a.d_qa0 ["self", "inner", "number"] (zDF a.c_Mod "inner" "number"):=by
 refine T.F_qa0.ok znI (fun vs H Q E h=>?_) (fun cdv A outer s H vs Q E hr h=>?_)
 ·obtain⟨p,dx,v,u,rfl,_⟩:=h
  rfl
 ·obtain⟨p,dx,v,u,rfl,hp,k⟩:=h
  refine zv (w_pss_cons (w_ps_fld (w_pv 0) (w_pv 1) rfl)
   (w_pss_one (w_ps_fld (w_pv 0) (w_pv 2) rfl))) ?_
  refine⟨_,rfl,_,rfl,p,a.c_Mod,dx,_,rfl,hp,T.cl_Mod,T.na_Mod_inner,(by show 0<1000;decide),?_⟩
  refine⟨_,rfl,_,rfl,p,a.c_Mod,dx,_,rfl,upd_same,T.cl_Mod,T.na_Mod_number,(by show 1<1000;decide),?_⟩
  rw[yn]
  exact k
theorem wW (T:Txt w K mg a):FnOk P w K mg base CX0 1 a.f_qa3 a.d_qa3 ["self", "one", "other", "third", "fourth"] (zDD a.c_Less "one" "other" "third" "fourth"):=by
 refine T.F_qa3.ok znF (fun vs H Q E h=>?_) (fun cdv A outer s H vs Q E hr h=>?_)
 ·obtain⟨p,dx,v,u,t,r,rfl,_⟩:=h
  rfl
 ·obtain⟨p,dx,v,u,t,r,rfl,hp,k⟩:=h
  refine zv (w_pss_cons (w_ps_fld (w_pv 0) (w_pv 1) rfl)
   (w_pss_cons (w_ps_fld (w_pv 0) (w_pv 2) rfl)
   (w_pss_cons (w_ps_fld (w_pv 0) (w_pv 3) rfl)
   (w_pss_one (w_ps_fld (w_pv 0) (w_pv 4) rfl))))) ?_
  refine⟨_,rfl,_,rfl,p,a.c_Less,dx,_,rfl,hp,T.cl_Less,T.na_Less_one,(by show 0<1000;decide),?_⟩
  refine⟨_,rfl,_,rfl,p,a.c_Less,dx,_,rfl,upd_same,T.cl_Less,T.na_Less_other,(by show 1<1000;decide),?_⟩
  refine⟨_,rfl,_,rfl,p,a.c_Less,dx,_,rfl,upd_same,T.cl_Less,T.na_Less_third,(by show 2<1000;decide),?_⟩
  refine⟨_,rfl,_,rfl,p,a.c_Less,dx,_,rfl,upd_same,T.cl_Less,T.na_Less_fourth,(by show 3<1000;decide),?_⟩
  rw[yn,yn,yn]
  exact k
def zQ (a:Ad) (n:Nat) (Kd:Ex→Prop):Sp:=fun vs H Q _=>∃ (e:Ex) (r:V) (d:Addr) (kvs:List (Key×V)) (names:List Str),vs=[r,.ref d]∧Kd e∧Made a H e r∧e.dep≤n∧e.ok names∧H d=some (.dK kvs)∧Has names kvs∧Q (.int (e.val (rho kvs))) H
abbrev XH (e:Ex):Prop:=∃ i,e=.num i
abbrev uj (e:Ex):Prop:=∃ x,e=.name x
abbrev XF (e:Ex):Prop:=∃ w e1 e2,e=.two w e1 e2
abbrev XI (e:Ex):Prop:=∃ e1 n,e=.mod e1 n
abbrev ul (e:Ex):Prop:=∃ e1 e2 e3 e4,e=.less e1 e2 e3 e4
structure Reckons (P:Program) (w:World) (K:PySem.W.Frag) (mg:Str→Option Value) (base:Heap) (a:Ad) (n:Nat):Prop where
 num:FnOk P w K mg base CX0 (n+1) a.f_qS a.d_qS ["self", "worths"] (zQ a n XH)
 name:FnOk P w K mg base CX0 (n+1) a.f_qV a.d_qV ["self", "worths"] (zQ a n uj)
 two:FnOk P w K mg base CX0 (n+1) a.f_qY a.d_qY ["self", "worths"] (zQ a n XF)
 mod:FnOk P w K mg base CX0 (n+1) a.f_qa1 a.d_qa1 ["self", "worths"] (zQ a n XI)
 less:FnOk P w K mg base CX0 (n+1) a.f_qa4 a.d_qa4 ["self", "worths"] (zQ a n ul)
theorem Reckons.call {n:Nat}(R:Reckons P w K mg base a n) (T:Txt w K mg a){A:Around}(hr:Room (n+1) A){H:Hp}{e:Ex}{x:V}{d:Addr}{kvs:List (Key×V)}{names:List Str}(hM:Made a H e x) (hd:e.dep≤n) (ho:e.ok names) (h1:H d=some (.dK kvs)) (h2:Has names kvs) :
  ∃ (p C dx:Addr) (fs:List (Str×V)) (f:Addr) (fd:FuncData) (ps:List Str) (k:Nat) (sp:Sp),x=.ref p∧H p=some (.ins C dx fs)∧fs.lookup ("reckon" : Str)=none∧Cls K C∧Meth K C "reckon" f∧FnOk P w K mg base CX0 k f fd ps sp∧Room k A∧Binds K fd ps [] ∧
   ∀ Q:VK,Q (.int (e.val (rho kvs))) H→sp (x::([.ref d]++[])) H Q E0:=by
 cases e with
 |num i =>
  obtain⟨p,dx,rfl,hp⟩:=id hM
  exact⟨p,_,dx,_,_,_,_,_,_,rfl,hp,rfl,T.cl_Num,T.mt_qS,R.num,hr,T.b_qS,fun Q q=>⟨_,_,_,_,_,rfl,⟨_,rfl⟩,hM,hd,ho,h1,h2,q⟩⟩
 |name i =>
  obtain⟨p,dx,rfl,hp⟩:=id hM
  exact⟨p,_,dx,_,_,_,_,_,_,rfl,hp,rfl,T.cl_Name,T.mt_qV,R.name,hr,T.b_qV,fun Q q=>⟨_,_,_,_,_,rfl,⟨_,rfl⟩,hM,hd,ho,h1,h2,q⟩⟩
 |two i e1 e2 =>
  obtain⟨p,dx,u1,u2,rfl,hp,_⟩:=id hM
  exact⟨p,_,dx,_,_,_,_,_,_,rfl,hp,rfl,T.cl_Two,T.mt_qY,R.two,hr,T.b_qY,fun Q q=>⟨_,_,_,_,_,rfl,⟨_,_,_,rfl⟩,hM,hd,ho,h1,h2,q⟩⟩
 |mod e1 i =>
  obtain⟨p,dx,u1,rfl,hp,_⟩:=id hM
  exact⟨p,_,dx,_,_,_,_,_,_,rfl,hp,rfl,T.cl_Mod,T.mt_qa1,R.mod,hr,T.b_qa1,fun Q q=>⟨_,_,_,_,_,rfl,⟨_,_,rfl⟩,hM,hd,ho,h1,h2,q⟩⟩
 |less e1 e2 e3 e4 =>
  obtain⟨p,dx,u1,u2,u3,u4,rfl,hp,_⟩:=id hM
  exact⟨p,_,dx,_,_,_,_,_,_,rfl,hp,rfl,T.cl_Less,T.mt_qa4,R.less,hr,T.b_qa4,fun Q q=>⟨_,_,_,_,_,rfl,⟨_,_,_,_,rfl⟩,hM,hd,ho,h1,h2,q⟩⟩
theorem wm (T:Txt w K mg a) (n:Nat):FnOk P w K mg base CX0 (n+1) a.f_qS a.d_qS ["self", "worths"] (zQ a n XH):=by
 refine T.F_qS.ok zte (fun vs H Q E h=>?_) (fun cdv A outer s H vs Q E hr h=>?_)
 ·obtain⟨e,r,d,kvs,names,rfl,_⟩:=h
  rfl
 ·obtain⟨e,r,d,kvs,names,rfl,⟨i,rfl⟩,⟨p,dx,rfl,hp⟩,_,_,_,_,k⟩:=h
  refine zv (w_pss_one (w_ps_ret (zd (w_pv 0) rfl))) ?_
  exact⟨_,rfl,p,_,dx,_,_,rfl,hp,T.cl_Num,T.na_Num_value,rfl,k⟩
theorem xO (T:Txt w K mg a) (n:Nat):FnOk P w K mg base CX0 (n+1) a.f_qV a.d_qV ["self", "worths"] (zQ a n uj):=by
 refine T.F_qV.ok ztb (fun vs H Q E h=>?_) (fun cdv A outer s H vs Q E hr h=>?_)
 ·obtain⟨e,r,d,kvs,names,rfl,_⟩:=h
  rfl
 ·obtain⟨e,r,d,kvs,names,rfl,⟨x,rfl⟩,⟨p,dx,rfl,hp⟩,_,ho,hd,hh,k⟩:=h
  have hu:=yi hr
  refine zv (w_pss_one (w_ps_ret (w_pe_dget hu (w_pv 1) (zd (w_pv 0) rfl) (fun _ _=>rfl)))) ?_
  refine⟨_,rfl,_,rfl,p,_,dx,_,_,rfl,hp,T.cl_Name,T.na_Name_word,rfl,d,_,rfl,?_,k⟩
  have:=hh.at (show x∈names from ho)
  exact this ▸ DGet.k (k:=Sum.inr x) hd
theorem wl (T:Txt w K mg a){n:Nat}(R:Reckons P w K mg base a n):FnOk P w K mg base CX0 (n+2) a.f_qY a.d_qY ["self", "worths"] (zQ a (n+1) XF):=by
 refine T.F_qY.ok sc_qY (fun vs H Q E h=>?_) (fun cdv A outer s H vs Q E hr h=>?_)
 ·obtain⟨e,r,d,kvs,names,rfl,_⟩:=h
  rfl
 ·obtain⟨e,r,d,kvs,names,rfl,⟨wd,e1,e2,rfl⟩,⟨p,dx,u1,u2,rfl,hp,m1,m2⟩,hdep,⟨hw,o1,o2⟩,hd,hh,k⟩:=h
  have d1:e1.dep≤n:=by have:=Nat.le_max_left e1.dep e2.dep;have:max e1.dep e2.dep+1≤n+1:=hdep;omega
  have d2:e2.dep≤n:=by have:=Nat.le_max_right e1.dep e2.dep;have:max e1.dep e2.dep+1≤n+1:=hdep;omega
  refine zv (w_pss_cons (zl (i:=2) sc_qY.nd rfl (Or.inl rfl) (zi (zd (w_pv 0) rfl) (za (w_pv 1) w_pa_nil)))
   (w_pss_cons (zl (i:=3) sc_qY.nd rfl (Or.inl rfl) (zi (zd (w_pv 0) rfl) (za (w_pv 1) w_pa_nil)))
   (w_pss_cons (w_ps_if (w_pt_cmpR yh (zd (w_pv 0) rfl) w_pe_str (zq _))
    (w_pss_one (w_ps_ret (zj yC (w_pv 2) (w_pv 3))))
    zg)
   (w_pss_cons (w_ps_if (w_pt_cmpR yh (zd (w_pv 0) rfl) w_pe_str (zq _))
    (w_pss_one (w_ps_ret (zj yp (w_pv 2) (w_pv 3))))
    zg)
   (w_pss_cons (w_ps_if (w_pt_cmpR yh (zd (w_pv 0) rfl) w_pe_str (zq _))
    (w_pss_one (w_ps_ret (w_pe_callB (YD rfl) (by rfl) T.n_min bt_min (za (w_pv 2) (za (w_pv 3) w_pa_nil)))))
    zg)
   (w_pss_one (w_ps_ret (w_pe_callB (YF rfl) (by rfl) T.n_max bt_max (za (w_pv 2) (za (w_pv 3) w_pa_nil)))))))))) ?_
  -- one=self.one.reckon(worths)
  refine⟨_,rfl,p,_,dx,_,_,rfl,hp,T.cl_Two,T.na_Two_one,rfl,?_⟩
  obtain⟨p1,c1,x1,f1,f2,f3,f4,f5,f6,q1,q2,q3,q4,q5,q6,q7,q8,q9⟩:=R.call T hr m1 d1 o1 hd hh
  refine⟨p1,c1,x1,f1,f2,f3,f4,f5,f6,q1,q2,q3,q4,q5,q6,q7,q8,_,rfl,q9 _ ?_⟩
  -- other=self.other.reckon(worths)
  refine⟨_,rfl,p,_,dx,_,_,rfl,hp,T.cl_Two,T.na_Two_other,rfl,?_⟩
  obtain⟨p1,c1,x1,f1,f2,f3,f4,f5,f6,q1,q2,q3,q4,q5,q6,q7,q8,q9⟩:=R.call T hr m2 d2 o2 hd hh
  refine⟨p1,c1,x1,f1,f2,f3,f4,f5,f6,q1,q2,q3,q4,q5,q6,q7,q8,_,rfl,q9 _ ?_⟩
  have k':Q (.int (if wd = "add" then e1.val (rho kvs)+e2.val (rho kvs) else if wd = "sub" then e1.val (rho kvs)-e2.val (rho kvs) else if wd = "min" then(if e2.val (rho kvs)<e1.val (rho kvs) then e2.val (rho kvs) else e1.val (rho kvs)) else(if e2.val (rho kvs)>e1.val (rho kvs) then e2.val (rho kvs) else e1.val (rho kvs)))) H:=k
  generalize e1.val (rho kvs)=x1 at k' ⊢
  generalize e2.val (rho kvs)=x2 at k' ⊢
  -- if self.word == 'add':
  refine⟨_,rfl,p,_,dx,_,_,rfl,hp,T.cl_Two,T.na_Two_word,rfl,rfl,_,rfl,?_⟩
  refine ui (fun q=>?_) (fun q=>?_)
  ·have q':wd = "add" := by simpa using q
   rw[if_pos q'] at k'
   exact⟨_,rfl,_,rfl,_,_,rfl,rfl,k'⟩
  have q':¬ wd = "add" := by simpa using q
  rw[if_neg q'] at k'
  refine⟨_,rfl,p,_,dx,_,_,rfl,hp,T.cl_Two,T.na_Two_word,rfl,rfl,_,rfl,?_⟩
  refine ui (fun q=>?_) (fun q=>?_)
  ·have q':wd = "sub" := by simpa using q
   rw[if_pos q'] at k'
   exact⟨_,rfl,_,rfl,_,_,rfl,rfl,k'⟩
  have q':¬ wd = "sub" := by simpa using q
  rw[if_neg q'] at k'
  refine⟨_,rfl,p,_,dx,_,_,rfl,hp,T.cl_Two,T.na_Two_word,rfl,rfl,_,rfl,?_⟩
  refine ui (fun q=>?_) (fun q=>?_)
  ·have q':wd = "min" := by simpa using q
   rw[if_pos q'] at k'
   exact⟨_,rfl,_,rfl,_,_,rfl,k'⟩
  have q':¬ wd = "min" := by simpa using q
  rw[if_neg q'] at k'
  exact⟨_,rfl,_,rfl,_,_,rfl,k'⟩
theorem wo (T:Txt w K mg a){n:Nat}(R:Reckons P w K mg base a n):FnOk P w K mg base CX0 (n+2) a.f_qa1 a.d_qa1 ["self", "worths"] (zQ a (n+1) XI):=by
 refine T.F_qa1.ok znH (fun vs H Q E h=>?_) (fun cdv A outer s H vs Q E hr h=>?_)
 ·obtain⟨e,r,d,kvs,names,rfl,_⟩:=h
  rfl
 ·obtain⟨e,r,d,kvs,names,rfl,⟨e1,i,rfl⟩,⟨p,dx,u1,rfl,hp,m1⟩,hdep,⟨⟨hi,_⟩,o1⟩,hd,hh,k⟩:=h
  have d1:e1.dep≤n:=by have:e1.dep+1≤n+1:=hdep;omega
  refine zv (w_pss_one (w_ps_ret (zj xB (zi (zd (w_pv 0) rfl) (za (w_pv 1) w_pa_nil)) (zd (w_pv 0) rfl)))) ?_
  refine⟨_,rfl,p,_,dx,_,_,rfl,hp,T.cl_Mod,T.na_Mod_inner,rfl,?_⟩
  obtain⟨p1,c1,x1,f1,f2,f3,f4,f5,f6,q1,q2,q3,q4,q5,q6,q7,q8,q9⟩:=R.call T hr m1 d1 o1 hd hh
  refine⟨p1,c1,x1,f1,f2,f3,f4,f5,f6,q1,q2,q3,q4,q5,q6,q7,q8,_,rfl,q9 _ ?_⟩
  exact⟨_,rfl,p,_,dx,_,_,rfl,hp,T.cl_Mod,T.na_Mod_number,rfl,_,_,rfl,rfl,(by omega),k⟩
theorem xP (T:Txt w K mg a){n:Nat}(R:Reckons P w K mg base a n):FnOk P w K mg base CX0 (n+2) a.f_qa4 a.d_qa4 ["self", "worths"] (zQ a (n+1) ul):=by
 refine T.F_qa4.ok znE (fun vs H Q E h=>?_) (fun cdv A outer s H vs Q E hr h=>?_)
 ·obtain⟨e,r,d,kvs,names,rfl,_⟩:=h
  rfl
 ·obtain⟨e,r,d,kvs,names,rfl,⟨e1,e2,e3,e4,rfl⟩,⟨p,dx,u1,u2,u3,u4,rfl,hp,m1,m2,m3,m4⟩,hdep,⟨o1,o2,o3,o4⟩,hd,hh,k⟩:=h
  have hdep:max (max e1.dep e2.dep) (max e3.dep e4.dep)+1≤n+1:=hdep
  have d1:e1.dep≤n:=by omega
  have d2:e2.dep≤n:=by omega
  have d3:e3.dep≤n:=by omega
  have d4:e4.dep≤n:=by omega
  refine zv (w_pss_cons (w_ps_if (w_pt_cmpR Xl (zi (zd (w_pv 0) rfl) (za (w_pv 1) w_pa_nil)) (zi (zd (w_pv 0) rfl) (za (w_pv 1) w_pa_nil)) (zq _))
    (w_pss_one (w_ps_ret (zi (zd (w_pv 0) rfl) (za (w_pv 1) w_pa_nil))))
    zg)
   (w_pss_one (w_ps_ret (zi (zd (w_pv 0) rfl) (za (w_pv 1) w_pa_nil))))) ?_
  refine⟨_,rfl,p,_,dx,_,_,rfl,hp,T.cl_Less,T.na_Less_one,rfl,?_⟩
  obtain⟨p1,c1,x1,f1,f2,f3,f4,f5,f6,q1,q2,q3,q4,q5,q6,q7,q8,q9⟩:=R.call T hr m1 d1 o1 hd hh
  refine⟨p1,c1,x1,f1,f2,f3,f4,f5,f6,q1,q2,q3,q4,q5,q6,q7,q8,_,rfl,q9 _ ?_⟩
  refine⟨_,rfl,p,_,dx,_,_,rfl,hp,T.cl_Less,T.na_Less_other,rfl,?_⟩
  obtain⟨p1,c1,x1,f1,f2,f3,f4,f5,f6,q1,q2,q3,q4,q5,q6,q7,q8,q9⟩:=R.call T hr m2 d2 o2 hd hh
  refine⟨p1,c1,x1,f1,f2,f3,f4,f5,f6,q1,q2,q3,q4,q5,q6,q7,q8,_,rfl,q9 _ ?_⟩
  have k':Q (.int (if e1.val (rho kvs)<e2.val (rho kvs) then e3.val (rho kvs) else e4.val (rho kvs))) H:=k
  refine⟨_,_,rfl,rfl,_,rfl,?_⟩
  refine ui (fun q=>?_) (fun q=>?_)
  ·have q':e1.val (rho kvs)<e2.val (rho kvs):=of_decide_eq_true q
   rw[if_pos q'] at k'
   refine⟨_,rfl,p,_,dx,_,_,rfl,hp,T.cl_Less,T.na_Less_third,rfl,?_⟩
   obtain⟨p1,c1,x1,f1,f2,f3,f4,f5,f6,q1,q2,q3,q4,q5,q6,q7,q8,q9⟩:=R.call T hr m3 d3 o3 hd hh
   exact⟨p1,c1,x1,f1,f2,f3,f4,f5,f6,q1,q2,q3,q4,q5,q6,q7,q8,_,rfl,q9 _ k'⟩
  ·have q':¬ e1.val (rho kvs)<e2.val (rho kvs):=fun z=>q (decide_eq_true z)
   rw[if_neg q'] at k'
   refine⟨_,rfl,p,_,dx,_,_,rfl,hp,T.cl_Less,T.na_Less_fourth,rfl,?_⟩
   obtain⟨p1,c1,x1,f1,f2,f3,f4,f5,f6,q1,q2,q3,q4,q5,q6,q7,q8,q9⟩:=R.call T hr m4 d4 o4 hd hh
   exact⟨p1,c1,x1,f1,f2,f3,f4,f5,f6,q1,q2,q3,q4,q5,q6,q7,q8,_,rfl,q9 _ k'⟩
theorem wX {f:Addr}{fd:FuncData}{ps:List Str}{Kd:Ex→Prop}{k:Nat}(hl:ps.length=2):FnOk P w K mg base CX0 k f fd ps (zQ a 0 Kd) :=
 ⟨fun vs H Q E h=>by
  obtain⟨e,r,d,kvs,names,rfl,_⟩:=h
  exact hl.symm,fun A outer s H args us vs Q E _ _ _ _ h=>by
  obtain⟨e,r,d,kvs,names,_,_,_,hd,_⟩:=h
  have:=e.dep_pos
  omega⟩
theorem xy (T:Txt w K mg a):∀ n,Reckons P w K mg base a n
 |0=>⟨wX rfl,wX rfl,wX rfl,wX rfl,wX rfl⟩
 |n+1=>⟨wm T (n+1),xO T (n+1),wl T (xy T n),wo T (xy T n),xP T (xy T n)⟩
def v8 (K:PySem.W.Frag) (f:V→Bool):Sp:=fun vs H Q _=>∃ v,vs=[v]∧Lf K H v∧Q (.bl (f v)) H
theorem zE (T:Txt w K mg a):FnOk P w K mg base CX0 1 a.f_qa a.d_qa ["value"] (v8 K whole):=by
 refine T.F_qa.ok zs7 (fun vs H Q E h=>?_) (fun cdv A outer s H vs Q E hr h=>?_)
 ·obtain⟨v,rfl,_⟩:=h
  rfl
 ·obtain⟨v,rfl,⟨t,ty,k1,k2,_⟩,k⟩:=h
  refine zv (w_pss_one (w_ps_ret (zW (w_pe_callB zJ (by rfl) T.n_isinstance zm (za (w_pv 0) (za (zT T.n_int YK) w_pa_nil))) (yj (Y5 (w_pe_callB zJ (by rfl) T.n_isinstance zm (za (w_pv 0) (za (zT T.n_bool YM) w_pa_nil)))))))) ?_
  rw[Y0] at k
  refine⟨_,rfl,_,_,_,_,_,rfl,rfl,ty,k1,_,rfl,?_⟩
  by_cases q:zyy v=true
  ·rw[q] at k
   exact iteB q ⟨_,rfl,_,_,_,_,_,rfl,rfl,ty,k2,_,rfl,k⟩
  ·have q:=Bool.eq_false_iff.mpr q
   rw[q] at k
   exact zG q k
theorem vx (T:Txt w K mg a):FnOk P w K mg base CX0 2 a.f_qc a.d_qc ["value"] (v8 K ua):=by
 have c_qa:Callee P w K mg base "is_whole" a.f_qa a.d_qa ["value"] 1 (v8 K whole):=⟨zE T,T.g_qa,T.F_qa.kp,T.b_qa⟩
 refine T.F_qc.ok zs5 (fun vs H Q E h=>?_) (fun cdv A outer s H vs Q E hr h=>?_)
 ·obtain⟨v,rfl,_⟩:=h
  rfl
 ·obtain⟨v,rfl,lf,k⟩:=h
  refine zv (w_pss_one (w_ps_ret (zW (zk c_qa hr.m (za (w_pv 0) w_pa_nil)) (yj (zP Xl (w_pe_callB XY (by rfl) T.n_abs zpv (za (w_pv 0) w_pa_nil)) (zj xz w_pe_int w_pe_int) (zq _)))))) ?_
  refine⟨_,rfl,v,rfl,lf,_,rfl,?_⟩
  by_cases q:whole v=true
  ·obtain⟨i,rfl⟩:=wD q
   refine iteB q ⟨_,rfl,i,rfl,_,_,rfl,rfl,⟨by decide,by decide,by decide⟩,_,_,rfl,rfl,?_⟩
   rw[ztv]
   exact k
  ·have q:=Bool.eq_false_iff.mpr q
   refine zG q ?_
   have e:ua v=false:=by cases v<;>first | rfl | simp[whole] at q
   rw[e] at k
   exact k
theorem wk (T:Txt w K mg a):FnOk P w K mg base CX0 2 a.f_qe a.d_qe ["number"] (v8 K zba):=by
 have c_qa:Callee P w K mg base "is_whole" a.f_qa a.d_qa ["value"] 1 (v8 K whole):=⟨zE T,T.g_qa,T.F_qa.kp,T.b_qa⟩
 refine T.F_qe.ok zs3 (fun vs H Q E h=>?_) (fun cdv A outer s H vs Q E hr h=>?_)
 ·obtain⟨v,rfl,_⟩:=h
  rfl
 ·obtain⟨v,rfl,lf,k⟩:=h
  refine zv (w_pss_one (w_ps_ret (zW (zk c_qa hr.m (za (w_pv 0) w_pa_nil)) (zW (zP Xm (w_pv 0) w_pe_int (zq _)) (yj (zP UE (w_pv 0) (zj xz w_pe_int w_pe_int) (zq _))))))) ?_
  refine⟨_,rfl,v,rfl,lf,_,rfl,?_⟩
  by_cases q:whole v=true
  ·obtain⟨i,rfl⟩:=wD q
   have k':Q (.bl (decide (1≤i)&&decide (i≤1000000000))) H:=k
   refine iteB q ⟨_,rfl,_,_,rfl,rfl,_,rfl,?_⟩
   by_cases q1:(1:Int)≤i
   ·refine iteB (decide_eq_true q1) ⟨_,rfl,_,_,rfl,rfl,⟨by decide,by decide,by decide⟩,_,_,rfl,rfl,?_⟩
    rw[decide_eq_true q1,Bool.true_and] at k'
    rw[zGV]
    exact k'
   ·refine zG (decide_eq_false q1) ?_
    rw[decide_eq_false q1,Bool.false_and] at k'
    exact k'
  ·have q:=Bool.eq_false_iff.mpr q
   refine zG q ?_
   have e:zba v=false:=by cases v<;>first | rfl | simp[whole] at q
   rw[e] at k
   exact k
def Wf (K:PySem.W.Frag):Sp:=fun vs H Q _=>∃ (v:V) (p:Addr) (ws:List Str),vs=[v,.ref p]∧Lf K H v∧SqT K H p (ws.map V.str)∧Q (.bl (xT ws v)) H
theorem uE (T:Txt w K mg a):FnOk P w K mg base CX0 1 a.f_qd a.d_qd ["word", "words"] (Wf K):=by
 refine T.F_qd.ok zs4 (fun vs H Q E h=>?_) (fun cdv A outer s H vs Q E hr h=>?_)
 ·obtain⟨v,p,ws,rfl,_⟩:=h
  rfl
 ·obtain⟨v,p,ws,rfl,⟨t,ty,_,_,k3⟩,hp,k⟩:=h
  refine zv (w_pss_one (w_ps_ret (zW (w_pe_callB zJ (by rfl) T.n_isinstance zm (za (w_pv 0) (za (zT T.n_str YJ) w_pa_nil))) (yj (zP ZN (w_pv 0) (w_pv 1) (by with_unfolding_all rfl)))))) ?_
  refine⟨_,rfl,_,_,_,_,_,rfl,rfl,ty,k3,_,rfl,?_⟩
  by_cases q:zpk v=true
  ·obtain⟨x,rfl⟩:=XG q
   exact iteB q ⟨_,rfl,_,rfl,p,_,rfl,.inr hp,rfl,flat_strs ws,k⟩
  ·have q:=Bool.eq_false_iff.mpr q
   refine zG q ?_
   have e:xT ws v=false:=by cases v<;>first | rfl | simp[zpk] at q
   rw[e] at k
   exact k
theorem TyOf.same {K:PySem.W.Frag}{H H':Hp}{v:V}{t:Value}(s:Same H H') (h:TyOf K H v t):TyOf K H' v t:=by
 cases h with
 |non=>exact .non
 |bl x=>exact .bl x
 |int i=>exact .int i
 |str x=>exact .str x
 |flt x=>exact .flt x
 |lst e=>exact .lst (s _ _ e)
 |frz e=>exact .frz (s _ _ e)
 |tup e=>exact .tup (s _ _ e)
 |dK e=>exact .dK (s _ _ e)
 |dT e=>exact .dT (s _ _ e)
 |ins e cl ha hn htk hm=>exact .ins (s _ _ e) cl ha hn htk hm
theorem Lf.same {K:PySem.W.Frag}{H H':Hp}{v:V}(s:Same H H') (h:Lf K H v):Lf K H' v:=by
 obtain⟨t,ty,k⟩:=h
 exact⟨t,TyOf.same s ty,k⟩
def GMade (K:PySem.W.Frag) (a:Ad) (H:Hp):Gx→V→Prop
 |.num v,r=>∃ p dx,r=.ref p∧H p=some (.ins a.c_Num dx [("value",v)])∧Lf K H v
 |.name v,r=>∃ p dx,r=.ref p∧H p=some (.ins a.c_Name dx [("word",v)])∧Lf K H v
 |.two wd e f,r=>∃ p dx u1 u2,r=.ref p∧H p=some (.ins a.c_Two dx [("word",wd),("one",u1),("other",u2)])∧Lf K H wd∧GMade K a H e u1∧GMade K a H f u2
 |.mod e n,r=>∃ p dx u1,r=.ref p∧H p=some (.ins a.c_Mod dx [("inner",u1),("number",n)])∧Lf K H n∧GMade K a H e u1
 |.less e f g h,r=>∃ p dx u1 u2 u3 u4,r=.ref p∧H p=some (.ins a.c_Less dx [("one",u1),("other",u2),("third",u3),("fourth",u4)])∧GMade K a H e u1∧GMade K a H f u2∧GMade K a H g u3∧GMade K a H h u4
 |.oth v,r=>r=v∧∃ t,TyOf K H v t∧PySem.W.kitOne K t (.ref a.c_Num)=some false∧PySem.W.kitOne K t (.ref a.c_Name)=some false∧PySem.W.kitOne K t (.ref a.c_Two)=some false∧PySem.W.kitOne K t (.ref a.c_Mod)=some false∧PySem.W.kitOne K t (.ref a.c_Less)=some false
theorem GMade.same {H H':Hp}(s:Same H H'):∀ {g:Gx}{r:V},GMade K a H g r→GMade K a H' g r
 |.num _,_,⟨p,dx,e,h,l⟩=>⟨p,dx,e,s _ _ h,l.same s⟩
 |.name _,_,⟨p,dx,e,h,l⟩=>⟨p,dx,e,s _ _ h,l.same s⟩
 |.two _ _ _,_,⟨p,dx,u1,u2,e,h,l,t1,t2⟩=>⟨p,dx,u1,u2,e,s _ _ h,l.same s,t1.same s,t2.same s⟩
 |.mod _ _,_,⟨p,dx,u1,e,h,l,t1⟩=>⟨p,dx,u1,e,s _ _ h,l.same s,t1.same s⟩
 |.less _ _ _ _,_,⟨p,dx,u1,u2,u3,u4,e,h,t1,t2,t3,t4⟩=>⟨p,dx,u1,u2,u3,u4,e,s _ _ h,t1.same s,t2.same s,t3.same s,t4.same s⟩
 |.oth _,_,⟨e,t,ty,k⟩=>⟨e,t,TyOf.same s ty,k⟩
theorem lf_int (T:Txt w K mg a){H:Hp}(i:Int):Lf K H (.int i):=⟨_,.int i,T.k_tint_tint,T.k_tint_tbool,T.k_tint_tstr⟩
theorem Yc (T:Txt w K mg a){H:Hp}(x:Str):Lf K H (.str x):=⟨_,.str x,T.k_tstr_tint,T.k_tstr_tbool,T.k_tstr_tstr⟩
theorem Made.gx (T:Txt w K mg a){H:Hp}:∀ {e:Ex}{r:V},Made a H e r→GMade K a H e.gx r
 |.num i,_,⟨p,dx,e,h⟩=>⟨p,dx,e,h,lf_int T i⟩
 |.name x,_,⟨p,dx,e,h⟩=>⟨p,dx,e,h,Yc T x⟩
 |.two w _ _,_,⟨p,dx,u1,u2,e,h,t1,t2⟩=>⟨p,dx,u1,u2,e,h,Yc T w,t1.gx T,t2.gx T⟩
 |.mod _ n,_,⟨p,dx,u1,e,h,t1⟩=>⟨p,dx,u1,e,h,lf_int T n,t1.gx T⟩
 |.less _ _ _ _,_,⟨p,dx,u1,u2,u3,u4,e,h,t1,t2,t3,t4⟩=>⟨p,dx,u1,u2,u3,u4,e,h,t1.gx T,t2.gx T,t3.gx T,t4.gx T⟩
def GMs (K:PySem.W.Frag) (a:Ad) (H:Hp) (rs:List V) (gs:List Gx):Prop:=rs.length=gs.length∧∀ (i:Nat) r,rs[i]?=some r→∃ g,gs[i]?=some g∧GMade K a H g r
def yA (K:PySem.W.Frag) (a:Ad) (n:Nat):Sp:=fun vs H Q _=>∃ (g:Gx) (r:V) (nm:Addr) (names:List Str) (d:Int),vs=[r,.ref nm,.int d]∧GMade K a H g r∧(∀ H,SqT K H nm (names.map V.str))∧0≤d∧d<n∧∀ H',Same H H'→Q (.bl (g.sound names d.toNat)) H'
def Ul (K:PySem.W.Frag) (a:Ad) (n:Nat):Sp:=fun vs H Q _=>∃ (l:Addr) (rs:List V) (gs:List Gx) (nm:Addr) (names:List Str) (d:Int),vs=[.ref l,.ref nm,.int d]∧H l=some (.lst rs)∧GMs K a H rs gs∧(∀ H,SqT K H nm (names.map V.str))∧0≤d∧d<n∧∀ H',Same H H'→Q (.bl (gs.all (Gx.sound names d.toNat))) H'
theorem Wo (T:Txt w K mg a){n:Nat}(I:FnOk P w K mg base CX0 (2*n+1) a.f_qg a.d_qg ["expr", "names", "deep"] (yA K a n)):FnOk P w K mg base CX0 (2*n+2) a.f_qf a.d_qf ["parts", "names", "deep"] (Ul K a n):=by
 have c_qg:Callee P w K mg base "is_sound" a.f_qg a.d_qg ["expr", "names", "deep"] (2*n+1) (yA K a n):=⟨I,T.g_qg,T.F_qg.kp,T.b_qg⟩
 refine T.F_qf.ok sc_qf (fun vs H Q E h=>?_) (fun cdv A outer s H vs Q E hr h=>?_)
 ·obtain⟨l,rs,gs,nm,names,d,rfl,_⟩:=h
  rfl
 ·obtain⟨l,rs,gs,nm,names,d,rfl,hl,⟨hlen,hgm⟩,hn,d0,d1,k⟩:=h
  refine zv (w_pss_cons (zO PassesOwn.never rfl (zC (w_pv 0)) (zr (i:=3) sc_qf.nd rfl (Or.inl rfl))
    (w_pss_one (w_ps_if (zy (zo (zk c_qg hr.m (za (w_pv 3) (za (w_pv 1) (za (w_pv 2) w_pa_nil))))))
     (w_pss_one (w_ps_ret zn))
     zg)))
   (w_pss_one (w_ps_ret zn))) ?_
  refine⟨_,rfl,l,rfl,⟨_,SqL.of hl⟩,?_⟩
  refine zX (K:=K) (a:=l) (xs:=rs) (fun i σ H'=>∃ o,σ=[some (.ref l),some (.ref nm),some (.int d),o]∧Same H H'∧(gs.take i).all (Gx.sound names d.toNat)=true) ?_ ?_ ?_ ?_
  ·exact⟨none,rfl,Same.refl H,by simp⟩
  ·rintro i σ H' _ ⟨o,_,sm,_⟩
   exact SqL.of (sm _ _ hl)
  ·rintro i x σ H' hi ⟨o,rfl,sm,ha⟩
   obtain⟨g,hg,gm⟩:=hgm i x hi
   refine⟨_,rfl,_,rfl,_,rfl,g,x,nm,names,d,rfl,gm.same sm,hn,d0,d1,fun H1 s1=>⟨_,rfl,?_⟩⟩
   have hi':i<gs.length:=(List.getElem?_eq_some_iff.mp hg).1
   by_cases q:g.sound names d.toNat=true
   ·refine zG (by rw[q];rfl) ?_
    refine⟨_,rfl,sm.trans s1,?_⟩
    rw[List.take_add_one,hg,List.all_append,ha]
    simp[q]
   ·have q:=Bool.eq_false_iff.mpr q
    refine iteB (by rw[q];rfl) ?_
    have e:gs.all (Gx.sound names d.toNat)=false:=by
     rw[List.all_eq_false]
     exact⟨g,List.mem_of_getElem? hg,by rw[q];simp⟩
    have:=k H1 (sm.trans s1)
    rw[e] at this
    exact this
  ·rintro σ H' ⟨o,rfl,sm,ha⟩
   rw[hlen,List.take_length] at ha
   have:=k H' sm
   rw[ha] at this
   exact this
theorem zFL {H:Hp}{u1 u2:V}{g1 g2:Gx}(h1:GMade K a H g1 u1) (h2:GMade K a H g2 u2):GMs K a H [u1,u2] [g1,g2]:=⟨rfl,fun i r e=>by
 match i,e with
 |0,e=>cases e;exact⟨_,rfl,h1⟩
 |1,e=>cases e;exact⟨_,rfl,h2⟩
 |_+2,e=>simp at e⟩
theorem zHm {H:Hp}{u1 u2 u3 u4:V}{g1 g2 g3 g4:Gx}(h1:GMade K a H g1 u1) (h2:GMade K a H g2 u2) (h3:GMade K a H g3 u3) (h4:GMade K a H g4 u4):GMs K a H [u1,u2,u3,u4] [g1,g2,g3,g4]:=⟨rfl,fun i r e=>by
 match i,e with
 |0,e=>cases e;exact⟨_,rfl,h1⟩
 |1,e=>cases e;exact⟨_,rfl,h2⟩
 |2,e=>cases e;exact⟨_,rfl,h3⟩
 |3,e=>cases e;exact⟨_,rfl,h4⟩
 |_+4,e=>simp at e⟩
theorem vw (T:Txt w K mg a){n:Nat}(I:FnOk P w K mg base CX0 (2*n+1) a.f_qg a.d_qg ["expr", "names", "deep"] (yA K a n)):FnOk P w K mg base CX0 (2*n+3) a.f_qg a.d_qg ["expr", "names", "deep"] (yA K a (n+1)):=by
 have c_qg:Callee P w K mg base "is_sound" a.f_qg a.d_qg ["expr", "names", "deep"] (2*n+1) (yA K a n):=⟨I,T.g_qg,T.F_qg.kp,T.b_qg⟩
 have c_qf:Callee P w K mg base "are_sound" a.f_qf a.d_qf ["parts", "names", "deep"] (2*n+2) (Ul K a n):=⟨Wo T I,T.g_qf,T.F_qf.kp,T.b_qf⟩
 have c_qc:Callee P w K mg base "is_short_number" a.f_qc a.d_qc ["value"] 2 (v8 K ua):=⟨vx T,T.g_qc,T.F_qc.kp,T.b_qc⟩
 have c_qe:Callee P w K mg base "is_divisor" a.f_qe a.d_qe ["number"] 2 (v8 K zba):=⟨wk T,T.g_qe,T.F_qe.kp,T.b_qe⟩
 have c_qd:Callee P w K mg base "is_word_of" a.f_qd a.d_qd ["word", "words"] 1 (Wf K):=⟨uE T,T.g_qd,T.F_qd.kp,T.b_qd⟩
 refine T.F_qg.ok zs2 (fun vs H Q E h=>?_) (fun cdv A outer s H vs Q E hr h=>?_)
 ·obtain⟨g,r,nm,names,d,rfl,_⟩:=h
  rfl
 ·obtain⟨g,r,nm,names,d,rfl,gm,hn,d0,d1,k⟩:=h
  refine zv (w_pss_cons (w_ps_if (w_pt_cmpR yh (w_pv 2) w_pe_int (zq _))
    (w_pss_one (w_ps_ret zn))
    zg)
   (w_pss_cons (w_ps_if (zo (w_pe_callB zJ (by rfl) T.n_isinstance zm (za (w_pv 0) (za (zS T.g_Num) w_pa_nil))))
    (w_pss_one (w_ps_ret (zk c_qc hr.m (zb (zd (w_pv 0) rfl) w_pa_nil))))
    zg)
   (w_pss_cons (w_ps_if (zo (w_pe_callB zJ (by rfl) T.n_isinstance zm (za (w_pv 0) (za (zS T.g_Name) w_pa_nil))))
    (w_pss_one (w_ps_ret (zk c_qd hr.m (zb (zd (w_pv 0) rfl) (za (w_pv 1) w_pa_nil)))))
    zg)
   (w_pss_cons (w_ps_if (zo (w_pe_callB zJ (by rfl) T.n_isinstance zm (za (w_pv 0) (za (zS T.g_Two) w_pa_nil))))
    (w_pss_one (w_ps_ret (zW (zk c_qd hr.m (zb (zd (w_pv 0) rfl) (za (zL (v:=.ref a.t_TWO_WORDS) rfl T.g_TWO_WORDS rfl) w_pa_nil))) (yj (zk c_qf hr.m (zb (zh (zb (zd (w_pv 0) rfl) (zb (zd (w_pv 0) rfl) w_pa_nil))) (za (w_pv 1) (zU (zj yp (w_pv 2) w_pe_int) w_pa_nil))))))))
    zg)
   (w_pss_cons (w_ps_if (zo (w_pe_callB zJ (by rfl) T.n_isinstance zm (za (w_pv 0) (za (zS T.g_Mod) w_pa_nil))))
    (w_pss_one (w_ps_ret (zW (zk c_qe hr.m (zb (zd (w_pv 0) rfl) w_pa_nil)) (yj (zk c_qg hr.m (zb (zd (w_pv 0) rfl) (za (w_pv 1) (zU (zj yp (w_pv 2) w_pe_int) w_pa_nil))))))))
    zg)
   (w_pss_cons (w_ps_if (zo (w_pe_callB zJ (by rfl) T.n_isinstance zm (za (w_pv 0) (za (zS T.g_Less) w_pa_nil))))
    (w_pss_one (w_ps_ret (zk c_qf hr.m (zb (zh (zb (zd (w_pv 0) rfl) (zb (zd (w_pv 0) rfl) (zb (zd (w_pv 0) rfl) (zb (zd (w_pv 0) rfl) w_pa_nil))))) (za (w_pv 1) (zU (zj yp (w_pv 2) w_pe_int) w_pa_nil))))))
    zg)
   (w_pss_one (w_ps_ret zn)))))))) ?_
  refine⟨_,rfl,rfl,_,rfl,?_⟩
  refine ui (fun q=>?_) (fun q=>?_)
  ·have e:d=0:=by simpa using q
   subst e
   exact k H (Same.refl H)
  have hd:d≠0:=fun e=>q (by subst e;rfl)
  have e1:d.toNat=(d-1).toNat+1:=by omega
  rw[e1] at k
  have b0:0≤d-1:=by omega
  have b1:d-1<n:=by omega
  cases g with
  |num v =>
   obtain⟨p,dx,rfl,hp,lf⟩:=gm
   refine⟨_,rfl,_,_,_,_,_,rfl,rfl,T.ty_Num H p dx _ hp,T.k_Num_Num,_,rfl,Yi ?_⟩
   exact⟨_,rfl,p,_,dx,_,_,rfl,hp,T.cl_Num,T.na_Num_value,rfl,v,rfl,lf,k H (Same.refl H)⟩
  |name v =>
   obtain⟨p,dx,rfl,hp,lf⟩:=gm
   refine⟨_,rfl,_,_,_,_,_,rfl,rfl,T.ty_Name H p dx _ hp,T.k_Name_Num,_,rfl,vi ?_⟩
   refine⟨_,rfl,_,_,_,_,_,rfl,rfl,T.ty_Name H p dx _ hp,T.k_Name_Name,_,rfl,Yi ?_⟩
   exact⟨_,rfl,p,_,dx,_,_,rfl,hp,T.cl_Name,T.na_Name_word,rfl,_,rfl,v,nm,names,rfl,lf,hn H,k H (Same.refl H)⟩
  |two wd g1 g2 =>
   obtain⟨p,dx,u1,u2,rfl,hp,lf,m1,m2⟩:=gm
   refine⟨_,rfl,_,_,_,_,_,rfl,rfl,T.ty_Two H p dx _ hp,T.k_Two_Num,_,rfl,vi ?_⟩
   refine⟨_,rfl,_,_,_,_,_,rfl,rfl,T.ty_Two H p dx _ hp,T.k_Two_Name,_,rfl,vi ?_⟩
   refine⟨_,rfl,_,_,_,_,_,rfl,rfl,T.ty_Two H p dx _ hp,T.k_Two_Two,_,rfl,Yi ?_⟩
   refine⟨_,rfl,p,_,dx,_,_,rfl,hp,T.cl_Two,T.na_Two_word,rfl,wd,_,twoWs,rfl,lf,T.s_TWO_WORDS H,_,rfl,?_⟩
   have k':∀ H',Same H H'→Q (.bl (xT twoWs wd&&([g1,g2].all (Gx.sound names (d-1).toNat)))) H':=k
   by_cases qw:xT twoWs wd=true
   ·rw[qw] at k'
    refine iteB qw ?_
    refine⟨_,rfl,p,_,dx,_,_,rfl,hp,T.cl_Two,T.na_Two_one,rfl,_,rfl,p,_,dx,_,_,rfl,hp,T.cl_Two,T.na_Two_other,rfl,(by show 2≤sizeLine;decide),fun lp hlp=>?_⟩
    have s1:=Same.new (o:=HO.lst [u1,u2]) hlp
    exact⟨_,rfl,_,rfl,_,_,rfl,rfl,lp,_,_,nm,names,d-1,rfl,upd_same,zFL (m1.same s1) (m2.same s1),hn,b0,b1,fun H2 s2=>k' H2 (s1.trans s2)⟩
   ·have qw:=Bool.eq_false_iff.mpr qw
    rw[qw] at k'
    exact zG qw (k' H (Same.refl H))
  |mod g1 v =>
   obtain⟨p,dx,u1,rfl,hp,lf,m1⟩:=gm
   refine⟨_,rfl,_,_,_,_,_,rfl,rfl,T.ty_Mod H p dx _ hp,T.k_Mod_Num,_,rfl,vi ?_⟩
   refine⟨_,rfl,_,_,_,_,_,rfl,rfl,T.ty_Mod H p dx _ hp,T.k_Mod_Name,_,rfl,vi ?_⟩
   refine⟨_,rfl,_,_,_,_,_,rfl,rfl,T.ty_Mod H p dx _ hp,T.k_Mod_Two,_,rfl,vi ?_⟩
   refine⟨_,rfl,_,_,_,_,_,rfl,rfl,T.ty_Mod H p dx _ hp,T.k_Mod_Mod,_,rfl,Yi ?_⟩
   refine⟨_,rfl,p,_,dx,_,_,rfl,hp,T.cl_Mod,T.na_Mod_number,rfl,v,rfl,lf,_,rfl,?_⟩
   have k':∀ H',Same H H'→Q (.bl (zba v&&g1.sound names (d-1).toNat)) H':=k
   by_cases qw:zba v=true
   ·rw[qw] at k'
    refine iteB qw ?_
    exact⟨_,rfl,p,_,dx,_,_,rfl,hp,T.cl_Mod,T.na_Mod_inner,rfl,_,rfl,_,rfl,_,_,rfl,rfl,g1,u1,nm,names,d-1,rfl,m1,hn,b0,b1,k'⟩
   ·have qw:=Bool.eq_false_iff.mpr qw
    rw[qw] at k'
    exact zG qw (k' H (Same.refl H))
  |less g1 g2 g3 g4 =>
   obtain⟨p,dx,u1,u2,u3,u4,rfl,hp,m1,m2,m3,m4⟩:=gm
   refine⟨_,rfl,_,_,_,_,_,rfl,rfl,T.ty_Less H p dx _ hp,T.k_Less_Num,_,rfl,vi ?_⟩
   refine⟨_,rfl,_,_,_,_,_,rfl,rfl,T.ty_Less H p dx _ hp,T.k_Less_Name,_,rfl,vi ?_⟩
   refine⟨_,rfl,_,_,_,_,_,rfl,rfl,T.ty_Less H p dx _ hp,T.k_Less_Two,_,rfl,vi ?_⟩
   refine⟨_,rfl,_,_,_,_,_,rfl,rfl,T.ty_Less H p dx _ hp,T.k_Less_Mod,_,rfl,vi ?_⟩
   refine⟨_,rfl,_,_,_,_,_,rfl,rfl,T.ty_Less H p dx _ hp,T.k_Less_Less,_,rfl,Yi ?_⟩
   refine⟨_,rfl,p,_,dx,_,_,rfl,hp,T.cl_Less,T.na_Less_one,rfl,_,rfl,p,_,dx,_,_,rfl,hp,T.cl_Less,T.na_Less_other,rfl,_,rfl,p,_,dx,_,_,rfl,hp,T.cl_Less,T.na_Less_third,rfl,_,rfl,p,_,dx,_,_,rfl,hp,T.cl_Less,T.na_Less_fourth,rfl,(by show 4≤sizeLine;decide),fun lp hlp=>?_⟩
   have s1:=Same.new (o:=HO.lst [u1,u2,u3,u4]) hlp
   exact⟨_,rfl,_,rfl,_,_,rfl,rfl,lp,_,_,nm,names,d-1,rfl,upd_same,zHm (m1.same s1) (m2.same s1) (m3.same s1) (m4.same s1),hn,b0,b1,fun H2 s2=>k H2 (s1.trans s2)⟩
  |oth v =>
   obtain⟨rfl,t,ty,n1,n2,n3,n4,n5⟩:=gm
   refine⟨_,rfl,_,_,_,_,_,rfl,rfl,ty,n1,_,rfl,vi ?_⟩
   refine⟨_,rfl,_,_,_,_,_,rfl,rfl,ty,n2,_,rfl,vi ?_⟩
   refine⟨_,rfl,_,_,_,_,_,rfl,rfl,ty,n3,_,rfl,vi ?_⟩
   refine⟨_,rfl,_,_,_,_,_,rfl,rfl,ty,n4,_,rfl,vi ?_⟩
   refine⟨_,rfl,_,_,_,_,_,rfl,rfl,ty,n5,_,rfl,vi ?_⟩
   exact k H (Same.refl H)
theorem znu {k:Nat}:FnOk P w K mg base CX0 k a.f_qg a.d_qg ["expr", "names", "deep"] (yA K a 0) :=
 ⟨fun vs H Q E h=>by
  obtain⟨g,r,nm,names,d,rfl,_⟩:=h
  rfl,fun A outer s H args us vs Q E _ _ _ _ h=>by
  obtain⟨g,r,nm,names,d,_,_,_,d0,d1,_⟩:=h
  exact absurd d1 (by simp;omega)⟩
theorem ZD (T:Txt w K mg a):∀ n,FnOk P w K mg base CX0 (2*n+1) a.f_qg a.d_qg ["expr", "names", "deep"] (yA K a n)
 |0=>znu
 |n+1=>vw T (ZD T n)
theorem wv {i:Int}(h : -100000000000000000000<i∧i<100000000000000000000):i.natAbs.log2<1920:=by
 by_cases h0:i.natAbs=0
 ·rw[h0];decide
 ·have:=(Nat.log2_lt h0 (k:=67)).mpr (Nat.lt_of_le_of_lt (show i.natAbs≤100000000000000000000 by omega) (by decide))
  omega
def yd (a:Ad) (n:Nat) (Kd:Ex→Prop):Sp:=fun vs H Q _=>∃ (e:Ex) (r:V) (names:List Str),vs=[r]∧Kd e∧Made a H e r∧e.ok names∧e.dep≤n∧e.size≤sizeLine∧∀ p H',H' p=some (.lst (e.words.map V.str))→Same H H'→Q (.ref p) H'
structure Wordss (P:Program) (w:World) (K:PySem.W.Frag) (mg:Str→Option Value) (base:Heap) (a:Ad) (n:Nat):Prop where
 num:FnOk P w K mg base CX0 (n+1) a.f_qT a.d_qT ["self"] (yd a n XH)
 name:FnOk P w K mg base CX0 (n+1) a.f_qW a.d_qW ["self"] (yd a n uj)
 two:FnOk P w K mg base CX0 (n+1) a.f_qZ a.d_qZ ["self"] (yd a n XF)
 mod:FnOk P w K mg base CX0 (n+1) a.f_qa2 a.d_qa2 ["self"] (yd a n XI)
 less:FnOk P w K mg base CX0 (n+1) a.f_qa5 a.d_qa5 ["self"] (yd a n ul)
theorem Wordss.call {n:Nat}(R:Wordss P w K mg base a n) (T:Txt w K mg a){A:Around}(hr:Room (n+1) A){H:Hp}{e:Ex}{x:V}{names:List Str}(hM:Made a H e x) (ho:e.ok names) (hd:e.dep≤n) (hs:e.size≤sizeLine) :
  ∃ (p C dx:Addr) (fs:List (Str×V)) (f:Addr) (fd:FuncData) (ps:List Str) (k:Nat) (sp:Sp),x=.ref p∧H p=some (.ins C dx fs)∧fs.lookup ("words" : Str)=none∧Cls K C∧Meth K C "words" f∧FnOk P w K mg base CX0 k f fd ps sp∧Room k A∧Binds K fd ps [] ∧
   ∀ Q:VK,(∀ p H',H' p=some (.lst (e.words.map V.str))→Same H H'→Q (.ref p) H')→sp (x::([]++[])) H Q E0:=by
 cases e with
 |num i =>
  obtain⟨p,dx,rfl,hp⟩:=id hM
  exact⟨p,_,dx,_,_,_,_,_,_,rfl,hp,rfl,T.cl_Num,T.mt_qT,R.num,hr,T.b_qT,fun Q q=>⟨_,_,names,rfl,⟨_,rfl⟩,hM,ho,hd,hs,q⟩⟩
 |name i =>
  obtain⟨p,dx,rfl,hp⟩:=id hM
  exact⟨p,_,dx,_,_,_,_,_,_,rfl,hp,rfl,T.cl_Name,T.mt_qW,R.name,hr,T.b_qW,fun Q q=>⟨_,_,names,rfl,⟨_,rfl⟩,hM,ho,hd,hs,q⟩⟩
 |two i e1 e2 =>
  obtain⟨p,dx,u1,u2,rfl,hp,_⟩:=id hM
  exact⟨p,_,dx,_,_,_,_,_,_,rfl,hp,rfl,T.cl_Two,T.mt_qZ,R.two,hr,T.b_qZ,fun Q q=>⟨_,_,names,rfl,⟨_,_,_,rfl⟩,hM,ho,hd,hs,q⟩⟩
 |mod e1 i =>
  obtain⟨p,dx,u1,rfl,hp,_⟩:=id hM
  exact⟨p,_,dx,_,_,_,_,_,_,rfl,hp,rfl,T.cl_Mod,T.mt_qa2,R.mod,hr,T.b_qa2,fun Q q=>⟨_,_,names,rfl,⟨_,_,rfl⟩,hM,ho,hd,hs,q⟩⟩
 |less e1 e2 e3 e4 =>
  obtain⟨p,dx,u1,u2,u3,u4,rfl,hp,_⟩:=id hM
  exact⟨p,_,dx,_,_,_,_,_,_,rfl,hp,rfl,T.cl_Less,T.mt_qa5,R.less,hr,T.b_qa5,fun Q q=>⟨_,_,names,rfl,⟨_,_,_,_,rfl⟩,hM,ho,hd,hs,q⟩⟩
theorem wR (T:Txt w K mg a) (n:Nat):FnOk P w K mg base CX0 (n+1) a.f_qT a.d_qT ["self"] (yd a n XH):=by
 refine T.F_qT.ok ztd (fun vs H Q E h=>?_) (fun cdv A outer s H vs Q E hr h=>?_)
 ·obtain⟨e,r,names,rfl,_⟩:=h
  rfl
 ·obtain⟨e,r,names,rfl,⟨i,rfl⟩,⟨p,dx,rfl,hp⟩,ho,_,_,k⟩:=h
  refine zv (w_pss_one (w_ps_ret (zh (zt (zz xf (by rfl) T.n_str YJ (zb (zd (w_pv 0) rfl) w_pa_nil)) w_pa_nil)))) ?_
  refine⟨_,rfl,p,_,dx,_,_,rfl,hp,T.cl_Num,T.na_Num_value,rfl,i,rfl,wv ho,(by show 1≤sizeLine;decide),fun q hq=>?_⟩
  exact k _ _ upd_same (Same.new hq)
theorem wn (T:Txt w K mg a) (n:Nat):FnOk P w K mg base CX0 (n+1) a.f_qW a.d_qW ["self"] (yd a n uj):=by
 refine T.F_qW.ok zta (fun vs H Q E h=>?_) (fun cdv A outer s H vs Q E hr h=>?_)
 ·obtain⟨e,r,names,rfl,_⟩:=h
  rfl
 ·obtain⟨e,r,names,rfl,⟨i,rfl⟩,⟨p,dx,rfl,hp⟩,ho,_,_,k⟩:=h
  refine zv (w_pss_one (w_ps_ret (zh (zb (zd (w_pv 0) rfl) w_pa_nil)))) ?_
  refine⟨_,rfl,p,_,dx,_,_,rfl,hp,T.cl_Name,T.na_Name_word,rfl,(by show 1≤sizeLine;decide),fun q hq=>?_⟩
  exact k _ _ upd_same (Same.new hq)
theorem wQ (T:Txt w K mg a){n:Nat}(R:Wordss P w K mg base a n):FnOk P w K mg base CX0 (n+2) a.f_qZ a.d_qZ ["self"] (yd a (n+1) XF):=by
 refine T.F_qZ.ok zs8 (fun vs H Q E h=>?_) (fun cdv A outer s H vs Q E hr h=>?_)
 ·obtain⟨e,r,names,rfl,_⟩:=h
  rfl
 ·obtain⟨e,r,names,rfl,⟨wd,e1,e2,rfl⟩,⟨p,dx,u1,u2,rfl,hp,m1,m2⟩,⟨_,o1,o2⟩,hdep,hz,k⟩:=h
  have hdep:max e1.dep e2.dep+1≤n+1:=hdep
  have hz:1+e1.size+e2.size≤sizeLine:=hz
  have l1:=e1.words_len
  have l2:=e2.words_len
  refine zv (w_pss_one (w_ps_ret (zj yq (zj yq (zh (zb (zd (w_pv 0) rfl) w_pa_nil)) (w_pe_meth0D (zd (w_pv 0) rfl))) (w_pe_meth0D (zd (w_pv 0) rfl))))) ?_
  refine⟨_,rfl,p,_,dx,_,_,rfl,hp,T.cl_Two,T.na_Two_word,rfl,(by show 1≤sizeLine;decide),fun q0 hq0=>?_⟩
  have s0:=Same.new (o:=HO.lst [V.str wd]) hq0
  refine⟨_,rfl,p,_,dx,_,_,rfl,s0 _ _ hp,T.cl_Two,T.na_Two_one,rfl,?_⟩
  obtain⟨p1,c1,x1,f1,f2,f3,f4,f5,f6,q1,q2,q3,q4,q5,q6,q7,q8,q9⟩:=R.call T hr (m1.same s0) o1 (by omega) (by omega)
  refine⟨p1,c1,x1,f1,f2,f3,f4,f5,f6,q1,q2,q3,q4,q5,q6,q7,q8,q9 _ fun w1 H1 t1 s1=>?_⟩
  refine⟨q0,w1,_,_,rfl,rfl,s1 _ _ upd_same,t1,(by simp[l1];omega),fun q2 hq2=>?_⟩
  have s2:=s0.trans (s1.trans (Same.new (o:=HO.lst ([V.str wd]++e1.words.map V.str)) hq2))
  refine⟨_,rfl,p,_,dx,_,_,rfl,s2 _ _ hp,T.cl_Two,T.na_Two_other,rfl,?_⟩
  obtain⟨p1,c1,x1,f1,f2,f3,f4,f5,f6,z1,z2,z3,z4,z5,z6,z7,z8,z9⟩:=R.call T hr (m2.same s2) o2 (by omega) (by omega)
  refine⟨p1,c1,x1,f1,f2,f3,f4,f5,f6,z1,z2,z3,z4,z5,z6,z7,z8,z9 _ fun w2 H2 t2 s3=>?_⟩
  refine⟨q2,w2,_,_,rfl,rfl,s3 _ _ upd_same,t2,(by simp[l1,l2];omega),fun q4 hq4=>?_⟩
  refine k _ _ ?_ (s2.trans (s3.trans (Same.new hq4)))
  rw[upd_same]
  simp[Ex.words]
theorem wV (T:Txt w K mg a){n:Nat}(R:Wordss P w K mg base a n):FnOk P w K mg base CX0 (n+2) a.f_qa2 a.d_qa2 ["self"] (yd a (n+1) XI):=by
 refine T.F_qa2.ok znG (fun vs H Q E h=>?_) (fun cdv A outer s H vs Q E hr h=>?_)
 ·obtain⟨e,r,names,rfl,_⟩:=h
  rfl
 ·obtain⟨e,r,names,rfl,⟨e1,i,rfl⟩,⟨p,dx,u1,rfl,hp,m1⟩,⟨⟨i1,i2⟩,o1⟩,hdep,hz,k⟩:=h
  have hdep:e1.dep+1≤n+1:=hdep
  have hz:2+e1.size≤sizeLine:=hz
  have l1:=e1.words_len
  refine zv (w_pss_one (w_ps_ret (zj yq (zj yq (zh (zf w_pe_str w_pa_nil)) (w_pe_meth0D (zd (w_pv 0) rfl))) (zh (zt (zz xf (by rfl) T.n_str YJ (zb (zd (w_pv 0) rfl) w_pa_nil)) w_pa_nil))))) ?_
  refine⟨by show 1≤sizeLine;decide,fun q0 hq0=>?_⟩
  have s0:=Same.new (o:=HO.lst [V.str "mod"]) hq0
  refine⟨_,rfl,p,_,dx,_,_,rfl,s0 _ _ hp,T.cl_Mod,T.na_Mod_inner,rfl,?_⟩
  obtain⟨p1,c1,x1,f1,f2,f3,f4,f5,f6,q1,q2,q3,q4,q5,q6,q7,q8,q9⟩:=R.call T hr (m1.same s0) o1 (by omega) (by omega)
  refine⟨p1,c1,x1,f1,f2,f3,f4,f5,f6,q1,q2,q3,q4,q5,q6,q7,q8,q9 _ fun w1 H1 t1 s1=>?_⟩
  refine⟨q0,w1,_,_,rfl,rfl,s1 _ _ upd_same,t1,(by simp[l1];omega),fun q2 hq2=>?_⟩
  have s2:=s0.trans (s1.trans (Same.new (o:=HO.lst ([V.str "mod"]++e1.words.map V.str)) hq2))
  refine⟨_,rfl,p,_,dx,_,_,rfl,s2 _ _ hp,T.cl_Mod,T.na_Mod_number,rfl,i,rfl,wv (by omega),(by show 1≤sizeLine;decide),fun q3 hq3=>?_⟩
  refine⟨q2,q3,_,_,rfl,rfl,(Same.new hq3) _ _ upd_same,upd_same,(by simp[l1];omega),fun q4 hq4=>?_⟩
  refine k _ _ ?_ (s2.trans ((Same.new hq3).trans (Same.new hq4)))
  rw[upd_same]
  simp[Ex.words]
theorem wq (T:Txt w K mg a){n:Nat}(R:Wordss P w K mg base a n):FnOk P w K mg base CX0 (n+2) a.f_qa5 a.d_qa5 ["self"] (yd a (n+1) ul):=by
 refine T.F_qa5.ok znD (fun vs H Q E h=>?_) (fun cdv A outer s H vs Q E hr h=>?_)
 ·obtain⟨e,r,names,rfl,_⟩:=h
  rfl
 ·obtain⟨e,r,names,rfl,⟨e1,e2,e3,e4,rfl⟩,⟨p,dx,u1,u2,u3,u4,rfl,hp,m1,m2,m3,m4⟩,⟨o1,o2,o3,o4⟩,hdep,hz,k⟩:=h
  have hdep:max (max e1.dep e2.dep) (max e3.dep e4.dep)+1≤n+1:=hdep
  have hz:1+e1.size+e2.size+e3.size+e4.size≤sizeLine:=hz
  have l1:=e1.words_len
  have l2:=e2.words_len
  have l3:=e3.words_len
  have l4:=e4.words_len
  refine zv (w_pss_one (w_ps_ret (zj yq (zj yq (zj yq (zj yq (zh (zf w_pe_str w_pa_nil)) (w_pe_meth0D (zd (w_pv 0) rfl))) (w_pe_meth0D (zd (w_pv 0) rfl))) (w_pe_meth0D (zd (w_pv 0) rfl))) (w_pe_meth0D (zd (w_pv 0) rfl))))) ?_
  refine⟨by show 1≤sizeLine;decide,fun q0 hq0=>?_⟩
  have s0:=Same.new (o:=HO.lst [V.str "less"]) hq0
  refine⟨_,rfl,p,_,dx,_,_,rfl,s0 _ _ hp,T.cl_Less,T.na_Less_one,rfl,?_⟩
  obtain⟨p1,c1,x1,f1,f2,f3,f4,f5,f6,z1,z2,z3,z4,z5,z6,z7,z8,z9⟩:=R.call T hr (m1.same s0) o1 (by omega) (by omega)
  refine⟨p1,c1,x1,f1,f2,f3,f4,f5,f6,z1,z2,z3,z4,z5,z6,z7,z8,z9 _ fun w1 H1 t1 y1=>?_⟩
  refine⟨q0,w1,_,_,rfl,rfl,y1 _ _ upd_same,t1,(by simp[l1,l2,l3,l4];omega),fun q1 hq1=>?_⟩
  have s1:=s0.trans (y1.trans (Same.new (o:=HO.lst ([V.str "less"]++e1.words.map V.str)) hq1))
  refine⟨_,rfl,p,_,dx,_,_,rfl,s1 _ _ hp,T.cl_Less,T.na_Less_other,rfl,?_⟩
  obtain⟨p1,c1,x1,f1,f2,f3,f4,f5,f6,z1,z2,z3,z4,z5,z6,z7,z8,z9⟩:=R.call T hr (m2.same s1) o2 (by omega) (by omega)
  refine⟨p1,c1,x1,f1,f2,f3,f4,f5,f6,z1,z2,z3,z4,z5,z6,z7,z8,z9 _ fun w2 H2 t2 y2=>?_⟩
  refine⟨q1,w2,_,_,rfl,rfl,y2 _ _ upd_same,t2,(by simp[l1,l2,l3,l4];omega),fun q2 hq2=>?_⟩
  have s2:=s1.trans (y2.trans (Same.new (o:=HO.lst (([V.str "less"]++e1.words.map V.str)++e2.words.map V.str)) hq2))
  refine⟨_,rfl,p,_,dx,_,_,rfl,s2 _ _ hp,T.cl_Less,T.na_Less_third,rfl,?_⟩
  obtain⟨p1,c1,x1,f1,f2,f3,f4,f5,f6,z1,z2,z3,z4,z5,z6,z7,z8,z9⟩:=R.call T hr (m3.same s2) o3 (by omega) (by omega)
  refine⟨p1,c1,x1,f1,f2,f3,f4,f5,f6,z1,z2,z3,z4,z5,z6,z7,z8,z9 _ fun w3 H3 t3 y3=>?_⟩
  refine⟨q2,w3,_,_,rfl,rfl,y3 _ _ upd_same,t3,(by simp[l1,l2,l3,l4];omega),fun q3 hq3=>?_⟩
  have s3:=s2.trans (y3.trans (Same.new (o:=HO.lst ((([V.str "less"]++e1.words.map V.str)++e2.words.map V.str)++e3.words.map V.str)) hq3))
  refine⟨_,rfl,p,_,dx,_,_,rfl,s3 _ _ hp,T.cl_Less,T.na_Less_fourth,rfl,?_⟩
  obtain⟨p1,c1,x1,f1,f2,f3,f4,f5,f6,z1,z2,z3,z4,z5,z6,z7,z8,z9⟩:=R.call T hr (m4.same s3) o4 (by omega) (by omega)
  refine⟨p1,c1,x1,f1,f2,f3,f4,f5,f6,z1,z2,z3,z4,z5,z6,z7,z8,z9 _ fun w4 H4 t4 y4=>?_⟩
  refine⟨q3,w4,_,_,rfl,rfl,y4 _ _ upd_same,t4,(by simp[l1,l2,l3,l4];omega),fun q4 hq4=>?_⟩
  refine k _ _ ?_ (s3.trans (y4.trans (Same.new hq4)))
  rw[upd_same]
  simp[Ex.words]
theorem xD {f:Addr}{fd:FuncData}{ps:List Str}{Kd:Ex→Prop}{k:Nat}(hl:ps.length=1):FnOk P w K mg base CX0 k f fd ps (yd a 0 Kd) :=
 ⟨fun vs H Q E h=>by
  obtain⟨e,r,names,rfl,_⟩:=h
  exact hl.symm,fun A outer s H args us vs Q E _ _ _ _ h=>by
  obtain⟨e,r,names,_,_,_,_,hd,_⟩:=h
  have:=e.dep_pos
  omega⟩
theorem vV (T:Txt w K mg a):∀ n,Wordss P w K mg base a n
 |0=>⟨xD rfl,xD rfl,xD rfl,xD rfl,xD rfl⟩
 |n+1=>⟨wR T (n+1),wn T (n+1),wQ T (vV T n),wV T (vV T n),wq T (vV T n)⟩
def zaP (a:Ad) (H:Hp) (n:Nat) (rs:List V) (es:List Ex):Prop:=rs.length=es.length∧∀ (i:Nat) r,rs[i]?=some r→∃ e names,es[i]?=some e∧Made a H e r∧e.ok names∧e.dep≤n∧e.size≤sizeLine
def xN (es:List Ex):LI:=es.map fun e=>(e.size:Int)
def ZC (a:Ad) (n:Nat):Sp:=fun vs H Q _=>∃ (l:Addr) (rs:List V) (es:List Ex),vs=[.ref l]∧H l=some (.lst rs)∧rs.length≤1000∧zaP a H n rs es∧∀ H',Same H H'→Q (.int (xN es).sum) H'
theorem Xu (T:Txt w K mg a) (n:Nat):FnOk P w K mg base CX0 (n+2) a.f_qh a.d_qh ["exprs"] (ZC a n):=by
 have WW:Wordss P w K mg base a n:=vV T n
 refine T.F_qh.ok zs1 (fun vs H Q E h=>?_) (fun cdv A outer s H vs Q E hr h=>?_)
 ·obtain⟨l,rs,es,rfl,_⟩:=h
  rfl
 ·obtain⟨l,rs,es,rfl,hl,hz,⟨hlen,hm⟩,k⟩:=h
  refine zv (w_pss_one (w_ps_ret (w_pe_callB (call_sumI rfl) (by rfl) T.n_sum YI (zb (ya rfl (N':=["expr"]) (t:=1) (caps:=[]) ⟨rfl,rfl,rfl⟩ (zC (w_pv 0)) (fun _=>(zr (i:=0) (show(["expr"]:List Str).Nodup by decide +kernel) rfl (Or.inl rfl))) (fun _=>zY) (fun _=>(w_pe_callB zw (by rfl) T.n_len ym (zt (w_pe_meth0D (w_pv 0)) w_pa_nil)))) w_pa_nil)))) ?_
  refine⟨_,rfl,l,rfl,⟨_,SqL.of hl⟩,fun D hD _=>?_⟩
  refine yF (K:=K) (a:=l) (xs:=rs) (fun i zs τ H'=>∃ o,τ=[o]∧i≤rs.length∧zs=((xN es).take i).map V.int∧H' D=some (.lst zs)∧Same H H') ?_ ?_ ?_ ?_
  ·exact⟨none,rfl,Nat.zero_le _,by simp,upd_same,Same.new hD⟩
  ·rintro i zs τ H' ⟨o,_,_,_,_,sm⟩
   exact SqL.of (sm _ _ hl)
  ·rintro i x zs τ H' hi ⟨o,rfl,_,rfl,hD',sm⟩
   obtain⟨e,names,he,m,ok,dd,sz⟩:=hm i x hi
   have hi':i<rs.length:=(List.getElem?_eq_some_iff.mp hi).1
   refine zyC ?_
   refine⟨_,rfl,?_⟩
   obtain⟨p1,c1,x1,f1,f2,f3,f4,f5,f6,z1,z2,z3,z4,z5,z6,z7,z8,z9⟩:=WW.call T (A:=A.deeper (PyProof.Rows.envOfC "count_words" (defScope Y9) s.heap.objs.size a.f_qh cdv)) hr (m.same sm) ok dd sz
   refine⟨p1,c1,x1,f1,f2,f3,f4,f5,f6,z1,z2,z3,z4,z5,z6,z7,z8,z9 _ fun p H1 t1 s1=>?_⟩
   have ez:(xN es)[i]?=some ((e.size:Nat):Int):=by unfold xN;rw[List.getElem?_map,he];rfl
   refine⟨p,_,rfl,.inl (SqL.of t1),s1 _ _ hD',?_,some x,rfl,hi',?_,upd_same,?_⟩
   ·rw[List.length_map]
    exact zB (Nat.le_trans (List.length_take_le _ _) (by omega))
   ·rw[List.take_add_one,ez,List.map_append,List.length_map,e.words_len]
    rfl
   ·have s2:=sm.trans s1
    intro b o e
    have hb:b≠D:=ne_of_none e hD
    rw[ze hb]
    exact s2 b o e
  ·rintro zs τ H' ⟨o,rfl,_,rfl,hD',sm⟩
   have el:(xN es).take rs.length=xN es:=List.take_of_length_le (by unfold xN;rw[List.length_map,hlen];exact Nat.le_refl _)
   rw[el] at hD'
   exact⟨D,xN es,rfl,SqL.of hD',k H' sm⟩
abbrev yw:List Str:=["me", "lines"]
abbrev ye:List Str:=["worth", "me", "round", "lines", "to"]
abbrev zR:List Str:=["worth", "me", "round", "lines", "sum", "least", "most", "count"]
def zFP (a:Ad) (H:Hp) (e1 e2 e3 e4:Ex) (r1 r2 r3 r4:V):Prop :=
 (Made a H e1 r1∧e1.ok yw∧e1.dep≤8)∧(Made a H e2 r2∧e2.ok ye∧e2.dep≤8)∧(Made a H e3 r3∧e3.ok ye∧e3.dep≤8)∧(Made a H e4 r4∧e4.ok zR∧e4.dep≤8)∧e1.size+e2.size+e3.size+e4.size≤60
def Wk (a:Ad):Sp:=fun vs H Q _=>∃ (p dx:Addr) (r1 r2 r3 r4:V) (e1 e2 e3 e4:Ex),vs=[.ref p,r1,r2,r3,r4]∧H p=some (.ins a.c_Program dx [])∧zFP a H e1 e2 e3 e4 r1 r2 r3 r4 ∧
 ∀ H',Same H H'→Q .non (upd H' p (.ins a.c_Program dx [("start",r1),("send",r2),("when",r3),("renew",r4)]))
theorem UJ (T:Txt w K mg a):FnOk P w K mg base CX0 22 a.f_qa6 a.d_qa6 ["self", "start", "send", "when", "renew"] (Wk a):=by
 have c_qg:Callee P w K mg base "is_sound" a.f_qg a.d_qg ["expr", "names", "deep"] 19 (yA K a 9):=⟨ZD T 9,T.g_qg,T.F_qg.kp,T.b_qg⟩
 have c_qf:Callee P w K mg base "are_sound" a.f_qf a.d_qf ["parts", "names", "deep"] 20 (Ul K a 9):=⟨Wo T (ZD T 9),T.g_qf,T.F_qf.kp,T.b_qf⟩
 have c_qh:Callee P w K mg base "count_words" a.f_qh a.d_qh ["exprs"] 10 (ZC a 8):=⟨Xu T 8,T.g_qh,T.F_qh.kp,T.b_qh⟩
 refine T.F_qa6.ok znC (fun vs H Q E h=>?_) (fun cdv A outer s H vs Q E hr h=>?_)
 ·obtain⟨p,dx,r1,r2,r3,r4,e1,e2,e3,e4,rfl,_⟩:=h
  rfl
 ·obtain⟨p,dx,r1,r2,r3,r4,e1,e2,e3,e4,rfl,hp,⟨⟨m1,o1,d1⟩,⟨m2,o2,d2⟩,⟨m3,o3,d3⟩,⟨m4,o4,d4⟩,hz⟩,k⟩:=h
  have q1:e1.gx.sound yw (8:Int).toNat=true:=Ex.sound o1 d1
  have q2:e2.gx.sound ye (8:Int).toNat=true:=Ex.sound o2 d2
  have q3:e3.gx.sound ye (8:Int).toNat=true:=Ex.sound o3 d3
  have q4:e4.gx.sound zR (8:Int).toNat=true:=Ex.sound o4 d4
  refine zv (w_pss_cons (w_ps_if (zy (zo (zk c_qg hr.m (za (w_pv 1) (za (zL (v:=.ref a.t_START_NAMES) rfl T.g_START_NAMES rfl) (za (zL (v:=.int 8) rfl T.g_MOST_DEEP ⟨_,rfl⟩) w_pa_nil))))))
    (w_pss_one zK)
    zg)
   (w_pss_cons (w_ps_if (zy (zo (zk c_qf hr.m (zb (zh (za (w_pv 2) (za (w_pv 3) w_pa_nil))) (za (zL (v:=.ref a.t_SEND_NAMES) rfl T.g_SEND_NAMES rfl) (za (zL (v:=.int 8) rfl T.g_MOST_DEEP ⟨_,rfl⟩) w_pa_nil))))))
    (w_pss_one zK)
    zg)
   (w_pss_cons (w_ps_if (zy (zo (zk c_qg hr.m (za (w_pv 4) (za (zL (v:=.ref a.t_RENEW_NAMES) rfl T.g_RENEW_NAMES rfl) (za (zL (v:=.int 8) rfl T.g_MOST_DEEP ⟨_,rfl⟩) w_pa_nil))))))
    (w_pss_one zK)
    zg)
   (w_pss_cons (w_ps_if (w_pt_cmpR uD (zk c_qh hr.m (zb (zh (za (w_pv 1) (za (w_pv 2) (za (w_pv 3) (za (w_pv 4) w_pa_nil))))) w_pa_nil)) (zL (v:=.int 60) rfl T.g_MOST_WORDS ⟨_,rfl⟩) (zq _))
    (w_pss_one zK)
    zg)
   (w_pss_cons (w_ps_fld (w_pv 0) (w_pv 1) rfl)
   (w_pss_cons (w_ps_fld (w_pv 0) (w_pv 2) rfl)
   (w_pss_cons (w_ps_fld (w_pv 0) (w_pv 3) rfl)
   (w_pss_one (w_ps_fld (w_pv 0) (w_pv 4) rfl))))))))) ?_
  refine⟨_,rfl,e1.gx,r1,_,yw,8,rfl,m1.gx T,T.s_START_NAMES,by decide,by decide,fun H1 s1=>⟨_,rfl,zG (by rw[q1];rfl) ?_⟩⟩
  refine⟨_,rfl,_,rfl,(by show 2≤sizeLine;decide),fun lp hlp=>?_⟩
  have s2:=s1.trans (Same.new (o:=HO.lst [r2,r3]) hlp)
  refine⟨lp,_,_,_,ye,8,rfl,upd_same,zFL ((m2.same s2).gx T) ((m3.same s2).gx T),T.s_SEND_NAMES,by decide,by decide,fun H3 s3=>⟨_,rfl,zG (by rw[List.all_cons,List.all_cons,q2,q3];rfl) ?_⟩⟩
  have s3:=s2.trans s3
  refine⟨_,rfl,e4.gx,r4,_,zR,8,rfl,(m4.same s3).gx T,T.s_RENEW_NAMES,by decide,by decide,fun H4 s4=>⟨_,rfl,zG (by rw[q4];rfl) ?_⟩⟩
  have s4:=s3.trans s4
  refine⟨_,rfl,_,rfl,_,rfl,_,rfl,(by show 4≤sizeLine;decide),fun lq hlq=>?_⟩
  have s5:=s4.trans (Same.new (o:=HO.lst [r1,r2,r3,r4]) hlq)
  have big:60≤sizeLine:=by decide
  refine⟨lq,_,[e1,e2,e3,e4],rfl,upd_same,by simp,⟨rfl,fun i r hi=>?_⟩,fun H6 s6=>⟨_,_,rfl,rfl,_,rfl,zG ?_ ?_⟩⟩
  ·match i,hi with
   |0,hi=>cases hi;exact⟨e1,_,rfl,m1.same s5,o1,d1,by omega⟩
   |1,hi=>cases hi;exact⟨e2,_,rfl,m2.same s5,o2,d2,by omega⟩
   |2,hi=>cases hi;exact⟨e3,_,rfl,m3.same s5,o3,d3,by omega⟩
   |3,hi=>cases hi;exact⟨e4,_,rfl,m4.same s5,o4,d4,by omega⟩
   |_+4,hi=>simp at hi
  ·refine decide_eq_false ?_
   show ¬ ((xN [e1,e2,e3,e4]).sum>60)
   simp[xN]
   omega
  ·have s6:=s5.trans s6
   refine⟨_,rfl,_,rfl,p,a.c_Program,dx,_,rfl,s6 _ _ hp,T.cl_Program,T.na_Program_start,(by show 0<1000;decide),?_⟩
   refine⟨_,rfl,_,rfl,p,a.c_Program,dx,_,rfl,upd_same,T.cl_Program,T.na_Program_send,(by show 1<1000;decide),?_⟩
   refine⟨_,rfl,_,rfl,p,a.c_Program,dx,_,rfl,upd_same,T.cl_Program,T.na_Program_when,(by show 2<1000;decide),?_⟩
   refine⟨_,rfl,_,rfl,p,a.c_Program,dx,_,rfl,upd_same,T.cl_Program,T.na_Program_renew,(by show 3<1000;decide),?_⟩
   rw[yn,yn,yn]
   exact k H6 s6
def Zy (a:Ad) (n:Nat):Sp:=fun vs H Q _=>∃ (e:Ex) (v:V) (names:List Str),vs=[v]∧Told H e v∧e.dep≤n∧e.ok names∧∀ r H',Made a H' e r→Same H H'→Q r H'
theorem ZP (T:Txt w K mg a):∀ n,FnOk P w K mg base CX0 (n+2) a.f_qq a.d_qq ["_law_told_here"] (Zy a n)
 |0=>⟨fun vs H Q E h=>by
   obtain⟨e,v,names,rfl,_⟩:=h
   rfl,fun A outer s H args us vs Q E _ _ _ _ h=>by
   obtain⟨e,v,names,_,_,hd,_⟩:=h
   have:=e.dep_pos
   omega⟩
 |n+1=>by
  have c_qq:Callee P w K mg base "_law_made" a.f_qq a.d_qq ["_law_told_here"] (n+2) (Zy a n):=⟨ZP T n,T.g_qq,T.F_qq.kp,T.b_qq⟩
  have m_Num:Maker P w K mg base "Num" a.c_Num a.f_qR a.d_qR ["self", "value"] 1 (zpy a.c_Num "value"):=⟨vA T,T.g_Num,T.mk_Num,T.b_qR⟩
  have m_Name:Maker P w K mg base "Name" a.c_Name a.f_qU a.d_qU ["self", "word"] 1 (zpy a.c_Name "word"):=⟨wU T,T.g_Name,T.mk_Name,T.b_qU⟩
  have m_Two:Maker P w K mg base "Two" a.c_Two a.f_qX a.d_qX ["self", "word", "one", "other"] 1 (zDE a.c_Two "word" "one" "other"):=⟨vz T,T.g_Two,T.mk_Two,T.b_qX⟩
  have m_Mod:Maker P w K mg base "Mod" a.c_Mod a.f_qa0 a.d_qa0 ["self", "inner", "number"] 1 (zDF a.c_Mod "inner" "number"):=⟨vB T,T.g_Mod,T.mk_Mod,T.b_qa0⟩
  have m_Less:Maker P w K mg base "Less" a.c_Less a.f_qa3 a.d_qa3 ["self", "one", "other", "third", "fourth"] 1 (zDD a.c_Less "one" "other" "third" "fourth"):=⟨wW T,T.g_Less,T.mk_Less,T.b_qa3⟩
  refine T.F_qq.ok zsZ (fun vs H Q E h=>?_) (fun cdv A outer s H vs Q E hr h=>?_)
  ·obtain⟨e,v,names,rfl,_⟩:=h
   rfl
  ·obtain⟨e,v,names,rfl,ht,hdep,ho,k⟩:=h
   refine zv (w_pss_cons (w_ps_if (w_pt_cmpR yh (w_pe_ix ix_tup (w_pv 0) w_pe_int (fun _ _=>rfl)) w_pe_str (zq _))
    (w_pss_one (w_ps_ret (yU m_Num hr.m (zb (w_pe_ix ix_tup (w_pv 0) w_pe_int (fun _ _=>rfl)) w_pa_nil))))
    zg)
   (w_pss_cons (w_ps_if (w_pt_cmpR yh (w_pe_ix ix_tup (w_pv 0) w_pe_int (fun _ _=>rfl)) w_pe_str (zq _))
    (w_pss_one (w_ps_ret (yU m_Name hr.m (zb (w_pe_ix ix_tup (w_pv 0) w_pe_int (fun _ _=>rfl)) w_pa_nil))))
    zg)
   (w_pss_cons (w_ps_if (w_pt_cmpR yh (w_pe_ix ix_tup (w_pv 0) w_pe_int (fun _ _=>rfl)) w_pe_str (zq _))
    (w_pss_one (w_ps_ret (yU m_Mod hr.m (zt (zk c_qq hr.m (zb (w_pe_ix ix_tup (w_pv 0) w_pe_int (fun _ _=>rfl)) w_pa_nil)) (zb (w_pe_ix ix_tup (w_pv 0) w_pe_int (fun _ _=>rfl)) w_pa_nil)))))
    zg)
   (w_pss_cons (w_ps_if (w_pt_cmpR yh (w_pe_ix ix_tup (w_pv 0) w_pe_int (fun _ _=>rfl)) w_pe_str (zq _))
    (w_pss_one (w_ps_ret (yU m_Less hr.m (zt (zk c_qq hr.m (zb (w_pe_ix ix_tup (w_pv 0) w_pe_int (fun _ _=>rfl)) w_pa_nil)) (zt (zk c_qq hr.m (zb (w_pe_ix ix_tup (w_pv 0) w_pe_int (fun _ _=>rfl)) w_pa_nil)) (zt (zk c_qq hr.m (zb (w_pe_ix ix_tup (w_pv 0) w_pe_int (fun _ _=>rfl)) w_pa_nil)) (zt (zk c_qq hr.m (zb (w_pe_ix ix_tup (w_pv 0) w_pe_int (fun _ _=>rfl)) w_pa_nil)) w_pa_nil)))))))
    zg)
   (w_pss_one (w_ps_ret (yU m_Two hr.m (zb (w_pe_ix ix_tup (w_pv 0) w_pe_int (fun _ _=>rfl)) (zt (zk c_qq hr.m (zb (w_pe_ix ix_tup (w_pv 0) w_pe_int (fun _ _=>rfl)) w_pa_nil)) (zt (zk c_qq hr.m (zb (w_pe_ix ix_tup (w_pv 0) w_pe_int (fun _ _=>rfl)) w_pa_nil)) w_pa_nil)))))))))) ?_
   cases e with
   |num i =>
    obtain⟨p,rfl,hp⟩:=ht
    refine⟨_,rfl,p,_,0,_,rfl,rfl,SqT.of hp,rfl,rfl,_,rfl,iteB (by decide +kernel) ?_⟩
    refine⟨_,rfl,p,_,1,_,rfl,rfl,SqT.of hp,rfl,fun x dx nx ndx nex=>⟨x,dx,_,rfl,upd_same,rfl,?_⟩⟩
    exact k _ _ ⟨x,dx,rfl,upd_same⟩ (Same.made nx ndx)
   |name i =>
    obtain⟨p,rfl,hp⟩:=ht
    refine⟨_,rfl,p,_,0,_,rfl,rfl,SqT.of hp,rfl,rfl,_,rfl,zG (by decide +kernel) ?_⟩
    refine⟨_,rfl,p,_,0,_,rfl,rfl,SqT.of hp,rfl,rfl,_,rfl,iteB (by decide +kernel) ?_⟩
    refine⟨_,rfl,p,_,1,_,rfl,rfl,SqT.of hp,rfl,fun x dx nx ndx nex=>⟨x,dx,_,rfl,upd_same,rfl,?_⟩⟩
    exact k _ _ ⟨x,dx,rfl,upd_same⟩ (Same.made nx ndx)
   |mod e1 i =>
    obtain⟨p,u1,rfl,hp,t1⟩:=ht
    obtain⟨_,o1⟩:=ho
    have hdep:e1.dep+1≤n+1:=hdep
    refine⟨_,rfl,p,_,0,_,rfl,rfl,SqT.of hp,rfl,rfl,_,rfl,zG (by decide +kernel) ?_⟩
    refine⟨_,rfl,p,_,0,_,rfl,rfl,SqT.of hp,rfl,rfl,_,rfl,zG (by decide +kernel) ?_⟩
    refine⟨_,rfl,p,_,0,_,rfl,rfl,SqT.of hp,rfl,rfl,_,rfl,iteB (by decide +kernel) ?_⟩
    refine⟨_,rfl,p,_,1,_,rfl,rfl,SqT.of hp,rfl,e1,_,names,rfl,t1,by omega,o1,fun r1 H1 m1 s1=>?_⟩
    refine⟨_,rfl,p,_,2,_,rfl,rfl,SqT.of (s1 _ _ hp),rfl,fun x dx nx ndx nex=>⟨x,dx,_,_,rfl,upd_same,rfl,?_⟩⟩
    exact k _ _ ⟨x,dx,r1,rfl,upd_same,m1.same (Same.made nx ndx)⟩ (s1.trans (Same.made nx ndx))
   |less e1 e2 e3 e4 =>
    obtain⟨p,u1,u2,u3,u4,rfl,hp,t1,t2,t3,t4⟩:=ht
    obtain⟨o1,o2,o3,o4⟩:=ho
    have hdep:max (max e1.dep e2.dep) (max e3.dep e4.dep)+1≤n+1:=hdep
    refine⟨_,rfl,p,_,0,_,rfl,rfl,SqT.of hp,rfl,rfl,_,rfl,zG (by decide +kernel) ?_⟩
    refine⟨_,rfl,p,_,0,_,rfl,rfl,SqT.of hp,rfl,rfl,_,rfl,zG (by decide +kernel) ?_⟩
    refine⟨_,rfl,p,_,0,_,rfl,rfl,SqT.of hp,rfl,rfl,_,rfl,zG (by decide +kernel) ?_⟩
    refine⟨_,rfl,p,_,0,_,rfl,rfl,SqT.of hp,rfl,rfl,_,rfl,iteB (by decide +kernel) ?_⟩
    refine⟨_,rfl,p,_,1,_,rfl,rfl,SqT.of hp,rfl,e1,_,names,rfl,t1,by omega,o1,fun r1 H1 m1 s1=>?_⟩
    refine⟨_,rfl,p,_,2,_,rfl,rfl,SqT.of (s1 _ _ hp),rfl,e2,_,names,rfl,t2.same s1,by omega,o2,fun r2 H2 m2 s2=>?_⟩
    have s12:=s1.trans s2
    refine⟨_,rfl,p,_,3,_,rfl,rfl,SqT.of (s12 _ _ hp),rfl,e3,_,names,rfl,t3.same s12,by omega,o3,fun r3 H3 m3 s3=>?_⟩
    have s123:=s12.trans s3
    refine⟨_,rfl,p,_,4,_,rfl,rfl,SqT.of (s123 _ _ hp),rfl,e4,_,names,rfl,t4.same s123,by omega,o4,fun r4 H4 m4 s4=>?_⟩
    refine fun x dx nx ndx nex=>⟨x,dx,_,_,_,_,rfl,upd_same,rfl,?_⟩
    have s5:Same H4 _:=Same.made (C:=a.c_Less) (fs:=[("one",r1),("other",r2),("third",r3),("fourth",r4)]) (fs':=[]) nx ndx
    exact k _ _ ⟨x,dx,r1,r2,r3,r4,rfl,upd_same,m1.same (s2.trans (s3.trans (s4.trans s5))),m2.same (s3.trans (s4.trans s5)),m3.same (s4.trans s5),m4.same s5⟩ (s123.trans (s4.trans s5))
   |two wd e1 e2 =>
    obtain⟨p,u1,u2,rfl,hp,t1,t2⟩:=ht
    obtain⟨hw,o1,o2⟩:=ho
    have hdep:max e1.dep e2.dep+1≤n+1:=hdep
    obtain⟨w1,w2,w3,w4⟩:=X9 hw
    refine⟨_,rfl,p,_,0,_,rfl,rfl,SqT.of hp,rfl,rfl,_,rfl,zG w1 ?_⟩
    refine⟨_,rfl,p,_,0,_,rfl,rfl,SqT.of hp,rfl,rfl,_,rfl,zG w2 ?_⟩
    refine⟨_,rfl,p,_,0,_,rfl,rfl,SqT.of hp,rfl,rfl,_,rfl,zG w3 ?_⟩
    refine⟨_,rfl,p,_,0,_,rfl,rfl,SqT.of hp,rfl,rfl,_,rfl,zG w4 ?_⟩
    refine⟨_,rfl,p,_,0,_,rfl,rfl,SqT.of hp,rfl,?_⟩
    refine⟨_,rfl,p,_,1,_,rfl,rfl,SqT.of hp,rfl,e1,_,names,rfl,t1,by omega,o1,fun r1 H1 m1 s1=>?_⟩
    refine⟨_,rfl,p,_,2,_,rfl,rfl,SqT.of (s1 _ _ hp),rfl,e2,_,names,rfl,t2.same s1,by omega,o2,fun r2 H2 m2 s2=>?_⟩
    refine fun x dx nx ndx nex=>⟨x,dx,_,_,_,rfl,upd_same,rfl,?_⟩
    have s5:Same H2 _:=Same.made (C:=a.c_Two) (fs:=[("word",V.str wd),("one",r1),("other",r2)]) (fs':=[]) nx ndx
    exact k _ _ ⟨x,dx,r1,r2,rfl,upd_same,m1.same (s2.trans s5),m2.same s5⟩ ((s1.trans s2).trans s5)
theorem Ex.val_congr {names:List Str}{ρ ρ':Str→Int}(h:∀ x∈names,ρ x=ρ' x):∀ {e:Ex},e.ok names→e.val ρ=e.val ρ'
 |.num _,_=>rfl
 |.name x,o=>h x o
 |.two w e f,⟨_,o1,o2⟩=>by
  show(if w = "add" then _ else _)=(if w = "add" then _ else _)
  rw[Ex.val_congr h o1,Ex.val_congr h o2]
 |.mod e n,⟨_,o1⟩=>by
  show e.val ρ%n=e.val ρ'%n
  rw[Ex.val_congr h o1]
 |.less e f g k,⟨o1,o2,o3,o4⟩=>by
  show(if e.val ρ<f.val ρ then g.val ρ else k.val ρ)=(if e.val ρ'<f.val ρ' then g.val ρ' else k.val ρ')
  rw[Ex.val_congr h o1,Ex.val_congr h o2,Ex.val_congr h o3,Ex.val_congr h o4]
abbrev ky (x:Str):Key:=Sum.inr x
abbrev kvF (hand lines:Int):List (Key×V):=[(ky "me",.int hand),(ky "lines",.int lines)]
abbrev kvR (worth hand turn lines sum mn mx ct:Int):List (Key×V):=[(ky "worth",.int worth),(ky "me",.int hand),(ky "round",.int turn),(ky "lines",.int lines),(ky "sum",.int sum),(ky "least",.int mn),(ky "most",.int mx),(ky "count",.int ct)]
theorem zFK {h l:Int}:Has yw (kvF h l):=fun x hx=>by
 simp only[List.mem_cons,List.not_mem_nil,or_false] at hx
 rcases hx with rfl | rfl
 ·exact⟨h,rfl⟩
 ·exact⟨l,rfl⟩
theorem zHl {q h t l s mn mx c:Int}:Has zR (kvR q h t l s mn mx c):=fun x hx=>by
 simp only[List.mem_cons,List.not_mem_nil,or_false] at hx
 rcases hx with rfl | rfl | rfl | rfl | rfl | rfl | rfl | rfl
 ·exact⟨q,rfl⟩
 ·exact⟨h,rfl⟩
 ·exact⟨t,rfl⟩
 ·exact⟨l,rfl⟩
 ·exact⟨s,rfl⟩
 ·exact⟨mn,rfl⟩
 ·exact⟨mx,rfl⟩
 ·exact⟨c,rfl⟩
def zHt (ns:LI) (m:Int):Prop:=(ns=[]∧m=0)∨(m∈ns∧∀ y∈ns,m≤y)
def zHs (ns:LI) (m:Int):Prop:=(ns=[]∧m=0)∨(m∈ns∧∀ y∈ns,y≤m)
theorem Reckons.call2 {n:Nat}(R:Reckons P w K mg base a n) (T:Txt w K mg a){A:Around}(hr:Room (n+1) A){H:Hp}{e:Ex}{x:V}{names:List Str}(hM:Made a H e x) (hd:e.dep≤n) (ho:e.ok names) :
  ∃ (p C dx:Addr) (fs:List (Str×V)) (f:Addr) (fd:FuncData) (ps:List Str) (k:Nat) (sp:Sp),x=.ref p∧H p=some (.ins C dx fs)∧fs.lookup ("reckon" : Str)=none∧Cls K C∧Meth K C "reckon" f∧FnOk P w K mg base CX0 k f fd ps sp∧Room k A∧Binds K fd ps [] ∧
   ∀ (H1:Hp) (d:Addr) (kvs:List (Key×V)),Same H H1→H1 d=some (.dK kvs)→Has names kvs→∀ Q:VK,Q (.int (e.val (rho kvs))) H1→sp (x::([.ref d]++[])) H1 Q E0:=by
 cases e with
 |num i =>
  obtain⟨p,dx,rfl,hp⟩:=id hM
  exact⟨p,_,dx,_,_,_,_,_,_,rfl,hp,rfl,T.cl_Num,T.mt_qS,R.num,hr,T.b_qS,fun H1 d kvs sm h1 h2 Q q=>⟨_,_,_,_,_,rfl,⟨_,rfl⟩,hM.same sm,hd,ho,h1,h2,q⟩⟩
 |name i =>
  obtain⟨p,dx,rfl,hp⟩:=id hM
  exact⟨p,_,dx,_,_,_,_,_,_,rfl,hp,rfl,T.cl_Name,T.mt_qV,R.name,hr,T.b_qV,fun H1 d kvs sm h1 h2 Q q=>⟨_,_,_,_,_,rfl,⟨_,rfl⟩,hM.same sm,hd,ho,h1,h2,q⟩⟩
 |two i e1 e2 =>
  obtain⟨p,dx,u1,u2,rfl,hp,_⟩:=id hM
  exact⟨p,_,dx,_,_,_,_,_,_,rfl,hp,rfl,T.cl_Two,T.mt_qY,R.two,hr,T.b_qY,fun H1 d kvs sm h1 h2 Q q=>⟨_,_,_,_,_,rfl,⟨_,_,_,rfl⟩,hM.same sm,hd,ho,h1,h2,q⟩⟩
 |mod e1 i =>
  obtain⟨p,dx,u1,rfl,hp,_⟩:=id hM
  exact⟨p,_,dx,_,_,_,_,_,_,rfl,hp,rfl,T.cl_Mod,T.mt_qa1,R.mod,hr,T.b_qa1,fun H1 d kvs sm h1 h2 Q q=>⟨_,_,_,_,_,rfl,⟨_,_,rfl⟩,hM.same sm,hd,ho,h1,h2,q⟩⟩
 |less e1 e2 e3 e4 =>
  obtain⟨p,dx,u1,u2,u3,u4,rfl,hp,_⟩:=id hM
  exact⟨p,_,dx,_,_,_,_,_,_,rfl,hp,rfl,T.cl_Less,T.mt_qa4,R.less,hr,T.b_qa4,fun H1 d kvs sm h1 h2 Q q=>⟨_,_,_,_,_,rfl,⟨_,_,_,_,rfl⟩,hM.same sm,hd,ho,h1,h2,q⟩⟩
def ProgAt (a:Ad) (H:Hp) (e1 e2 e3 e4:Ex) (r:V):Prop:=∃ (p dx:Addr) (r1 r2 r3 r4:V),r=.ref p∧H p=some (.ins a.c_Program dx [("start",r1),("send",r2),("when",r3),("renew",r4)])∧zFP a H e1 e2 e3 e4 r1 r2 r3 r4
def Uk (a:Ad):Sp:=fun vs H Q _=>∃ (r:V) (e1 e2 e3 e4:Ex) (hand lines:Int),vs=[r,.int hand,.int lines]∧ProgAt a H e1 e2 e3 e4 r∧∀ H',Same H H'→Q (.int (e1.val (rho (kvF hand lines)))) H'
def zns (a:Ad):Sp:=fun vs H Q _=>∃ (r:V) (e1 e2 e3 e4:Ex) (worth hand turn lines:Int) (hl:Addr) (ns:LI),vs=[r,.int worth,.int hand,.int turn,.int lines,.ref hl]∧ProgAt a H e1 e2 e3 e4 r∧H hl=some (.lst (ns.map V.int)) ∧
 ∀ H' mn mx,Same H H'→zHt ns mn→zHs ns mx→Q (.int (e4.val (rho (kvR worth hand turn lines ns.sum mn mx ns.length)))) H'
theorem Xs (T:Txt w K mg a):FnOk P w K mg base CX0 10 a.f_qa7 a.d_qa7 ["self", "hand", "lines"] (Uk a):=by
 have RR:Reckons P w K mg base a 8:=xy T 8
 refine T.F_qa7.ok znB (fun vs H Q E h=>?_) (fun cdv A outer s H vs Q E hr h=>?_)
 ·obtain⟨r,e1,e2,e3,e4,hand,lines,rfl,_⟩:=h
  rfl
 ·obtain⟨r,e1,e2,e3,e4,hand,lines,rfl,⟨p,dx,r1,r2,r3,r4,rfl,hp,⟨m1,o1,d1⟩,_⟩,k⟩:=h
  refine zv (w_pss_one (w_ps_ret (zi (zd (w_pv 0) rfl) (zb (w_pe_disp (w_pps_cons w_pe_str (w_pv 1) (w_pps_cons w_pe_str (w_pv 2) zZ)) rfl rfl (by intro z;cases z) (by decide)) w_pa_nil)))) ?_
  refine⟨_,rfl,p,_,dx,_,_,rfl,hp,T.cl_Program,T.na_Program_start,rfl,?_⟩
  obtain⟨p1,c1,x1,f1,f2,f3,f4,f5,f6,q1,q2,q3,q4,q5,q6,q7,q8,q9⟩:=RR.call2 T (A:=A.deeper (PyProof.Rows.envOfC "Program.first_worth" (defScope v7) s.heap.objs.size a.f_qa7 cdv)) hr m1 d1 o1
  refine⟨p1,c1,x1,f1,f2,f3,f4,f5,f6,q1,q2,q3,q4,q5,q6,q7,q8,fun pd hpd=>⟨_,rfl,_,rfl,upd_same,kvF hand lines,rfl,(by show 2≤15;decide),?_⟩⟩
  have sm:Same H (upd (upd H pd (.dK [])) pd (.dK (mergeK [] (kvF hand lines)))):=fun b o e=>by
   have hb:=ne_of_none e hpd
   rw[ze hb,ze hb]
   exact e
  exact q9 _ pd (kvF hand lines) sm upd_same zFK _ (k _ sm)
theorem UK (T:Txt w K mg a):FnOk P w K mg base CX0 10 a.f_qa9 a.d_qa9 ["self", "worth", "hand", "turn", "lines", "heard"] (zns a):=by
 have RR:Reckons P w K mg base a 8:=xy T 8
 refine T.F_qa9.ok sc_qa9 (fun vs H Q E h=>?_) (fun cdv A outer s H vs Q E hr h=>?_)
 ·obtain⟨r,e1,e2,e3,e4,worth,hand,turn,lines,hl,ns,rfl,_⟩:=h
  rfl
 ·obtain⟨r,e1,e2,e3,e4,worth,hand,turn,lines,hl,ns,rfl,⟨p,dx,r1,r2,r3,r4,rfl,hp,_,_,_,⟨m4,o4,d4⟩,_⟩,hh,k⟩:=h
  have hu:=yi hr
  refine zv (w_pss_cons (zl (i:=6) sc_qa9.nd rfl (Or.inl rfl) (w_pe_disp (w_pps_cons w_pe_str (w_pv 1) (w_pps_cons w_pe_str (w_pv 2) (w_pps_cons w_pe_str (w_pv 3) (w_pps_cons w_pe_str (w_pv 4) zZ)))) rfl rfl (by intro z;cases z) (by decide)))
   (w_pss_cons (w_ps_dput hu (w_pv 6) w_pe_str (w_pe_callB (call_sumI rfl) (by rfl) T.n_sum YI (za (w_pv 5) w_pa_nil)) rfl)
   (w_pss_cons (w_ps_dput hu (w_pv 6) w_pe_str (Zb rfl (by rfl) T.n_min (za (w_pv 5) w_pa_nil) w_pe_int) rfl)
   (w_pss_cons (w_ps_dput hu (w_pv 6) w_pe_str (Zc rfl (by rfl) T.n_max (za (w_pv 5) w_pa_nil) w_pe_int) rfl)
   (w_pss_cons (w_ps_dput hu (w_pv 6) w_pe_str (w_pe_callB zw (by rfl) T.n_len ym (za (w_pv 5) w_pa_nil)) rfl)
   (w_pss_one (w_ps_ret (zi (zd (w_pv 0) rfl) (za (w_pv 6) w_pa_nil))))))))) ?_
  refine fun pd hpd=>⟨_,rfl,_,rfl,_,rfl,_,rfl,upd_same,[(ky "worth",.int worth),(ky "me",.int hand),(ky "round",.int turn),(ky "lines",.int lines)],rfl,(by show 4≤15;decide),?_⟩
  have hne:hl≠pd:=ne_of_none hh hpd
  have up:∀ {Hx:Hp}{o:HO},Hx hl=some (.lst (ns.map V.int))→upd Hx pd o hl=some (.lst (ns.map V.int)):=fun h=>by rw[ze hne];exact h
  have h1:=up (o:=.dK (mergeK [] [(ky "worth",.int worth),(ky "me",.int hand),(ky "round",.int turn),(ky "lines",.int lines)])) (up (o:=.dK []) hh)
  refine⟨_,rfl,hl,ns,rfl,SqL.of h1,_,rfl,pd,_,rfl,DPut.k (k:=ky "sum") upd_same (zB (by show 4≤1000;decide)),?_⟩
  refine⟨_,rfl,hl,ns,0,rfl,rfl,SqL.of (up h1),fun mn hmn=>⟨_,rfl,pd,_,rfl,DPut.k (k:=ky "least") upd_same (zB (by show 5≤1000;decide)),?_⟩⟩
  refine⟨_,rfl,hl,ns,0,rfl,rfl,SqL.of (up (up h1)),fun mx hmx=>⟨_,rfl,pd,_,rfl,DPut.k (k:=ky "most") upd_same (zB (by show 6≤1000;decide)),?_⟩⟩
  refine⟨_,rfl,hl,_,rfl,.inl (SqL.of (up (up (up h1)))),_,rfl,pd,_,rfl,DPut.k (k:=ky "count") upd_same (zB (by show 7≤1000;decide)),?_⟩
  rw[List.length_map]
  simp only[yn]
  have hdd:upd H pd (.dK (putK (putK (putK (putK (mergeK [] [(ky "worth",.int worth),(ky "me",.int hand),(ky "round",.int turn),(ky "lines",.int lines)]) (ky "sum") (.int ns.sum)) (ky "least") (.int mn)) (ky "most") (.int mx)) (ky "count") (.int ns.length))) pd=some (.dK (kvR worth hand turn lines ns.sum mn mx ns.length)):=upd_same
  have sm:=Same.new (o:=.dK (putK (putK (putK (putK (mergeK [] [(ky "worth",.int worth),(ky "me",.int hand),(ky "round",.int turn),(ky "lines",.int lines)]) (ky "sum") (.int ns.sum)) (ky "least") (.int mn)) (ky "most") (.int mx)) (ky "count") (.int ns.length))) hpd
  generalize upd H pd (.dK (putK (putK (putK (putK (mergeK [] [(ky "worth",.int worth),(ky "me",.int hand),(ky "round",.int turn),(ky "lines",.int lines)]) (ky "sum") (.int ns.sum)) (ky "least") (.int mn)) (ky "most") (.int mx)) (ky "count") (.int ns.length)))=H1 at sm hdd ⊢
  refine⟨_,rfl,p,_,dx,_,_,rfl,sm _ _ hp,T.cl_Program,T.na_Program_renew,rfl,?_⟩
  obtain⟨p1,c1,x1,f1,f2,f3,f4,f5,f6,q1,q2,q3,q4,q5,q6,q7,q8,q9⟩:=RR.call2 T (A:=A.deeper (PyProof.Rows.envOfC "Program.next_worth" (defScope v6) s.heap.objs.size a.f_qa9 cdv)) hr (m4.same sm) d4 o4
  exact⟨p1,c1,x1,f1,f2,f3,f4,f5,f6,q1,q2,q3,q4,q5,q6,q7,q8,_,rfl,q9 H1 pd _ (Same.refl H1) hdd zHl _ (k H1 mn mx sm hmn hmx)⟩
def WlAt (H:Hp) (l:Addr):Prop:=∃ i j k:Int,H l=some (.lst [.int i,.int j,.int k])
theorem WlAt.ne {H:Hp}{l p:Addr}(s:WlAt H l) (h:H p=none):p≠l:=fun z=>by
 obtain⟨i,j,k,e⟩:=s
 rw[← z,h] at e
 cases e
theorem WlAt.same {H H':Hp}{l:Addr}(s:WlAt H l) (k:Same H H'):WlAt H' l:=by
 obtain⟨i,j,m,e⟩:=s
 exact⟨i,j,m,k _ _ e⟩
theorem WlAt.new {H:Hp}{l p:Addr}{o:HO}(s:WlAt H l) (h:H p=none):WlAt (upd H p o) l:=s.same (Same.new h)
theorem Told.extX {l:Addr}{H H':Hp}(s:WlAt H l) (k:Ext l H H'){e:Ex}{v:V}(t:Told H e v):Told H' e v:=t.mono fun b xs h=>k b _ h fun z=>by
 obtain⟨i,j,m,e⟩:=s
 rw[z,e] at h
 cases h
theorem Ex.ok_sub {ns ms:List Str}(h:∀ x∈ns,x∈ms):∀ e:Ex,e.ok ns→e.ok ms
 |.num _,o=>o
 |.name _,o=>h _ o
 |.two _ e1 e2,o=>⟨o.1,ok_sub h e1 o.2.1,ok_sub h e2 o.2.2⟩
 |.mod e1 _,o=>⟨o.1,ok_sub h e1 o.2⟩
 |.less e1 e2 e3 e4,o=>⟨ok_sub h e1 o.1,ok_sub h e2 o.2.1,ok_sub h e3 o.2.2.1,ok_sub h e4 o.2.2.2⟩
def szB:Nat→Nat
 |0=>1
 |d+1=>1+4*szB d
theorem Zj:∀ d,1≤szB d
 |0=>by decide
 |d+1=>by show 1≤1+4*szB d;omega
def Wg:Sp:=fun vs H Q _=>∃ c:Int,vs=[.int c]∧∀ (q:Addr) (H':Hp),H q=none→WlAt H' q→Same H H'→Q (.ref q) H'
theorem UG (T:Txt w K mg a):FnOk P w K mg base CX0 1 a.f_qm a.d_qm ["_law_cell"] Wg:=by
 refine T.F_qm.ok zs0 (fun vs H Q E h=>?_) (fun cdv A outer s H vs Q E hr h=>?_)
 ·obtain⟨c,rfl,_⟩:=h
  rfl
 ·obtain⟨c,rfl,k⟩:=h
  refine zv (w_pss_one (w_ps_ret (zh (zU (zj xA (w_pv 0) (zz vc (by rfl) T.n_int YK (zb (zP Xm (w_pv 0) (zj xz w_pe_int w_pe_int) (zq _)) w_pa_nil))) (zU (zj xB (w_pv 0) w_pe_int) (zf w_pe_int w_pa_nil)))))) ?_
  refine⟨_,rfl,_,rfl,_,_,rfl,rfl,⟨by decide,by decide,by decide⟩,_,_,rfl,rfl,?_⟩
  refine .inr ⟨_,rfl,_,_,rfl,rfl,.inr (by split<;>decide),_,rfl,_,_,rfl,rfl,(by show(0:Int)<2147483647;decide),(by show 3≤sizeLine;decide),fun p hp=>?_⟩
  exact k _ _ hp ⟨_,_,_,upd_same⟩ (Same.new hp)
def v9:Sp:=fun vs H Q _=>∃ (l:Addr) (n:Int),vs=[.ref l,.int n]∧WlAt H l∧(0<n∧n<100000000000000000000)∧∀ (d:Int) (H':Hp),0≤d→d<n→WlAt H' l→Ext l H H'→Q (.int d) H'
theorem vy (T:Txt w K mg a):FnOk P w K mg base CX0 1 a.f_qn a.d_qn ["_law_well_here", "_law_many"] v9:=by
 refine T.F_qn.ok sc_qn (fun vs H Q E h=>?_) (fun cdv A outer s H vs Q E hr h=>?_)
 ·obtain⟨l,n,rfl,_⟩:=h
  rfl
 ·obtain⟨l,n,rfl,⟨i,j,m,hl⟩,⟨hn,hb⟩,k⟩:=h
  refine zv (w_pss_cons (w_ps_if (w_pt_cmpR uD (w_pe_ix zI (w_pv 0) w_pe_int (fun _ _=>rfl)) w_pe_int (zq _))
    (w_pss_cons (zl (i:=2) sc_qn.nd rfl (Or.inl rfl) (zj xB (w_pe_ix zI (w_pv 0) w_pe_int (fun _ _=>rfl)) (w_pv 1)))
    (w_pss_cons (vW (zj yV (w_pe_ix zI (w_pv 0) w_pe_int (fun _ _=>rfl)) (w_pv 1)) (vX (w_pv 0) w_pe_int ub))
    (w_pss_one (w_ps_ret (w_pv 2)))))
    zg)
   (w_pss_cons (vW (zj yC (w_pe_ix zI (w_pv 0) w_pe_int (fun _ _=>rfl)) w_pe_int) (vX (w_pv 0) w_pe_int ub))
   (w_pss_cons (zl (i:=3) sc_qn.nd rfl (Or.inl rfl) (zj xB (zj xA (zj yC (zj yC (w_pe_ix zI (w_pv 0) w_pe_int (fun _ _=>rfl)) (zj xA w_pe_int (w_pe_ix zI (w_pv 0) w_pe_int (fun _ _=>rfl)))) w_pe_int) w_pe_int) w_pe_int))
   (w_pss_cons (zl (i:=3) sc_qn.nd rfl (Or.inl rfl) (zj xB (zj xA (w_pv 3) (zj yC (zj yV (w_pv 3) w_pe_int) w_pe_int)) w_pe_int))
   (w_pss_one (w_ps_ret (zj xB (zj xB (zj xA (w_pv 3) (zj yC (zj yV (w_pv 3) w_pe_int) w_pe_int)) w_pe_int) (w_pv 1)))))))) ?_
  refine⟨_,rfl,l,_,_,_,rfl,rfl,SqL.of hl,rfl,_,_,rfl,rfl,_,rfl,?_⟩
  refine ui (fun z=>?_) (fun z=>?_)
  ·refine⟨_,rfl,l,_,_,_,rfl,rfl,SqL.of hl,rfl,_,rfl,_,_,rfl,rfl,hn,_,rfl,l,_,_,_,rfl,rfl,SqL.of hl,rfl,_,rfl,_,_,rfl,rfl,⟨hn,?_⟩,_,rfl,l,_,_,_,rfl,rfl,hl,rfl,_,rfl,?_⟩
   ·exact Nat.lt_trans (wv ⟨by omega,hb⟩) (by decide)
   ·exact k _ _ (Int.emod_nonneg _ (Int.ne_of_gt hn)) (Int.emod_lt_of_pos _ hn) ⟨_,_,_,upd_same⟩ Ext.at
  ·have p31:(0:Int)<2147483647:=by decide
   have md:∀ x:Int,-(2 ^ 64)<x%2147483647∧x%2147483647<2 ^ 64:=fun x=>by omega
   refine⟨_,rfl,l,_,_,_,rfl,rfl,SqL.of hl,rfl,_,_,rfl,rfl,_,rfl,l,_,_,_,rfl,rfl,hl,rfl,?_⟩
   refine⟨_,rfl,l,_,_,_,rfl,rfl,SqL.of upd_same,rfl,_,rfl,l,_,_,_,rfl,rfl,SqL.of upd_same,rfl,_,_,rfl,rfl,.inl ⟨by decide,by decide⟩,_,_,rfl,rfl,_,_,rfl,rfl,_,_,rfl,rfl,.inr ⟨by decide,by decide⟩,_,_,rfl,rfl,p31,?_⟩
   refine⟨_,rfl,_,rfl,_,_,rfl,rfl,⟨by decide,by decide⟩,_,_,rfl,rfl,_,_,rfl,rfl,.inl (md _),_,_,rfl,rfl,p31,?_⟩
   refine⟨_,rfl,_,rfl,_,_,rfl,rfl,⟨by decide,by decide⟩,_,_,rfl,rfl,_,_,rfl,rfl,.inl (md _),_,_,rfl,rfl,(by show(0:Int)<2147483399;decide),_,rfl,_,_,rfl,rfl,hn,?_⟩
   exact k _ _ (Int.emod_nonneg _ (Int.ne_of_gt hn)) (Int.emod_lt_of_pos _ hn) ⟨_,_,_,upd_same⟩ Ext.at
def ZB (n:Nat):Sp:=fun vs H Q _=>∃ (l nm:Addr) (names:List Str) (d:Nat),vs=[.ref l,.ref nm,.int (d:Int)]∧WlAt H l∧H nm=some (.lst (names.map V.str))∧nm≠l∧(0<names.length∧names.length≤100)∧d<n ∧
 ∀ (e:Ex) (v:V) (H':Hp),Told H' e v→e.ok names→e.dep≤d+1→e.size≤szB d→WlAt H' l→Ext l H H'→Q v H'
theorem ZR (T:Txt w K mg a):∀ n,FnOk P w K mg base CX0 (n+2) a.f_qo a.d_qo ["_law_well_here", "_law_names", "_law_deep"] (ZB n)
 |0=>⟨fun vs H Q E h=>by
   obtain⟨l,nm,names,deep,rfl,_⟩:=h
   rfl,fun A outer s H args us vs Q E _ _ _ _ h=>by
   obtain⟨l,nm,names,deep,_,_,_,_,_,h1,_⟩:=h
   omega⟩
 |n+1=>by
  have c_qn:Callee P w K mg base "_law_draw" a.f_qn a.d_qn ["_law_well_here", "_law_many"] 1 v9:=⟨vy T,T.g_qn,T.F_qn.kp,T.b_qn⟩
  have c_qo:Callee P w K mg base "_law_expr" a.f_qo a.d_qo ["_law_well_here", "_law_names", "_law_deep"] (n+2) (ZB n):=⟨ZR T n,T.g_qo,T.F_qo.kp,T.b_qo⟩
  refine T.F_qo.ok sc_qo (fun vs H Q E h=>?_) (fun cdv A outer s H vs Q E hr h=>?_)
  ·obtain⟨l,nm,names,deep,rfl,_⟩:=h
   rfl
  ·obtain⟨l,nm,names,d,rfl,hs,hnm,hne,⟨hn0,hn1⟩,hd,k⟩:=h
   refine zv (w_pss_cons (zl (i:=3) sc_qo.nd rfl (Or.inl rfl) (zk c_qn hr.m (za (w_pv 0) (zf w_pe_int w_pa_nil))))
   (w_pss_cons (w_ps_if (w_pt (w_pw_or (w_pt_cmpR yh (w_pv 2) w_pe_int (zq _)) (zD (w_pt_cmpR Xl (w_pv 3) w_pe_int (zq _)))))
    (w_pss_cons (w_ps_if (w_pt_cmpR yh (zk c_qn hr.m (za (w_pv 0) (zf w_pe_int w_pa_nil))) w_pe_int (zq _))
     (w_pss_one (w_ps_ret (zx (zf w_pe_str (zb (w_pe_ix zI (zh (zU (zj yp (zk c_qn hr.m (za (w_pv 0) (zf w_pe_int w_pa_nil))) w_pe_int) (zU (zj yp (zk c_qn hr.m (za (w_pv 0) (zU (zj xz w_pe_int w_pe_int) w_pa_nil))) (zj xA w_pe_int (zj xz w_pe_int w_pe_int))) w_pa_nil))) (zj yV (zk c_qn hr.m (za (w_pv 0) (zf w_pe_int w_pa_nil))) w_pe_int) (fun _ _=>rfl)) w_pa_nil)))))
     zg)
    (w_pss_one (w_ps_ret (zx (zf w_pe_str (zb (w_pe_ix zI (w_pv 1) (zk c_qn hr.m (za (w_pv 0) (zt (w_pe_callB zw (by rfl) T.n_len ym (za (w_pv 1) w_pa_nil)) w_pa_nil))) (fun _ _=>rfl)) w_pa_nil))))))
    zg)
   (w_pss_cons (zl (i:=4) sc_qo.nd rfl (Or.inl rfl) (zk c_qo hr.m (za (w_pv 0) (za (w_pv 1) (zU (zj yp (w_pv 2) w_pe_int) w_pa_nil)))))
   (w_pss_cons (w_ps_if (w_pt_cmpR yh (w_pv 3) w_pe_int (zq _))
    (w_pss_one (w_ps_ret (zx (zf w_pe_str (za (w_pv 4) (zU (zj yC w_pe_int (zk c_qn hr.m (za (w_pv 0) (zb (w_pe_ix zI (zh (zf w_pe_int (zU (zj xz w_pe_int w_pe_int) w_pa_nil))) (zk c_qn hr.m (za (w_pv 0) (zf w_pe_int w_pa_nil))) (fun _ _=>rfl)) w_pa_nil)))) w_pa_nil))))))
    zg)
   (w_pss_cons (zl (i:=5) sc_qo.nd rfl (Or.inl rfl) (zk c_qo hr.m (za (w_pv 0) (za (w_pv 1) (zU (zj yp (w_pv 2) w_pe_int) w_pa_nil)))))
   (w_pss_cons (w_ps_if (w_pt_cmpR yh (w_pv 3) w_pe_int (zq _))
    (w_pss_one (w_ps_ret (zx (zf w_pe_str (za (w_pv 4) (za (w_pv 5) (zt (zk c_qo hr.m (za (w_pv 0) (za (w_pv 1) (zU (zj yp (w_pv 2) w_pe_int) w_pa_nil)))) (zt (zk c_qo hr.m (za (w_pv 0) (za (w_pv 1) (zU (zj yp (w_pv 2) w_pe_int) w_pa_nil)))) w_pa_nil))))))))
    zg)
   (w_pss_one (w_ps_ret (zx (zb (w_pe_ix zI (zh (zf w_pe_str (zf w_pe_str (zf w_pe_str (zf w_pe_str w_pa_nil))))) (zk c_qn hr.m (za (w_pv 0) (zf w_pe_int w_pa_nil))) (fun _ _=>rfl)) (za (w_pv 4) (za (w_pv 5) w_pa_nil)))))))))))) ?_
   refine⟨_,rfl,l,8,rfl,hs,by decide,fun kd H1 k0 k1 s1 x1=>?_⟩
   have hnm1:=x1 _ _ hnm hne
   have zp:=Zj d
   refine⟨_,rfl,rfl,_,rfl,?_⟩
   refine ui (fun z=>Yi ?gA) (fun z=>⟨_,rfl,_,_,rfl,rfl,_,rfl,ui (fun z2=>?gB) (fun z2=>?gC)⟩)
   case gC =>
    have hl1:¬ d=0:=fun z0=>z (by subst z0;rfl)
    obtain⟨c,rfl⟩:∃ c,d=c+1:=⟨d-1,by omega⟩
    have zc:=Zj c
    have ed:((c+1:Nat):Int)-1=(c:Int):=by omega
    refine⟨_,rfl,_,rfl,_,rfl,_,_,rfl,rfl,l,nm,names,c,(by rw[← ed];rfl),s1,hnm1,hne,⟨hn0,hn1⟩,by omega,fun e1 v1 H2 t1 o1 de1 z1 s2 x2=>?_⟩
    have X2:=x1.trans x2
    refine⟨_,rfl,rfl,_,rfl,?_⟩
    refine ui (fun _=>?_) (fun _=>?_)
    ·refine⟨_,rfl,_,rfl,_,_,rfl,rfl,⟨by decide,by decide,by decide⟩,(by show 2≤sizeLine;decide),fun p1 hp1=>?_⟩
     have n1:=s2.ne hp1
     refine⟨_,rfl,l,2,rfl,s2.new hp1,by decide,fun d1 H3 g1 g2 s3 x3=>?_⟩
     obtain⟨v2,a2,b2⟩:=znR (x:=9) (y:=(10:Int) ^ Int.toNat 9) g1 g2
     have p9:(10:Int) ^ Int.toNat 9=1000000000:=by decide
     rw[p9] at b2
     refine⟨p1,_,d1,_,rfl,rfl,SqL.of (x3 _ _ upd_same n1),a2,l,v2,rfl,s3,by omega,fun d2 H4 g3 g4 s4 x4=>?_⟩
     refine⟨_,_,rfl,rfl,(by show 3≤sizeLine;decide),fun p hp=>?_⟩
     exact k (.mod e1 (1+d2)) _ _ ⟨p,v1,rfl,upd_same,(((t1.same (Same.new hp1)).extX (s2.new hp1) x3).extX s3 x4).same (Same.new hp)⟩ ⟨⟨by omega,by omega⟩,o1⟩ (by show e1.dep+1≤c+1+1;omega) (by show 2+e1.size≤1+4*szB c;omega) (s4.new hp) ((X2.trans ((Ext.new hp1).trans x3)).trans (x4.trans (Ext.new hp)))
    refine⟨_,rfl,_,rfl,_,rfl,_,_,rfl,rfl,l,nm,names,c,(by rw[← ed];rfl),s2,X2 _ _ hnm hne,hne,⟨hn0,hn1⟩,by omega,fun e2 v2 H3 t2 o2 de2 z2 s3 x3=>?_⟩
    have X3:=X2.trans x3
    refine⟨_,rfl,rfl,_,rfl,?_⟩
    refine ui (fun _=>?_) (fun _=>?_)
    ·refine⟨_,rfl,_,rfl,_,rfl,_,rfl,_,rfl,_,_,rfl,rfl,l,nm,names,c,(by rw[← ed];rfl),s3,X3 _ _ hnm hne,hne,⟨hn0,hn1⟩,by omega,fun e3 v3 H4 t3 o3 de3 z3 s4 x4=>?_⟩
     refine⟨_,rfl,_,rfl,_,rfl,_,_,rfl,rfl,l,nm,names,c,(by rw[← ed];rfl),s4,(X3.trans x4) _ _ hnm hne,hne,⟨hn0,hn1⟩,by omega,fun e4 v4 H5 t4 o4 de4 z4 s5 x5=>?_⟩
     refine⟨(by show 5≤sizeLine;decide),fun p hp=>?_⟩
     have y:=Same.new (o:=HO.tup [V.str "less",v1,v2,v3,v4]) hp
     exact k (.less e1 e2 e3 e4) _ _ ⟨p,v1,v2,v3,v4,rfl,upd_same,(((t1.extX s2 x3).extX s3 x4).extX s4 x5).same y,((t2.extX s3 x4).extX s4 x5).same y,(t3.extX s4 x5).same y,t4.same y⟩ ⟨o1,o2,o3,o4⟩ (by show max (max e1.dep e2.dep) (max e3.dep e4.dep)+1≤c+1+1;omega) (by show 1+e1.size+e2.size+e3.size+e4.size≤1+4*szB c;omega) (s5.same y) ((X3.trans (x4.trans x5)).trans (Ext.same y))
    refine⟨by show 4≤sizeLine;decide,fun p1 hp1=>?_⟩
    have n1:=s3.ne hp1
    refine⟨_,rfl,l,4,rfl,s3.new hp1,by decide,fun d1 H4 g1 g2 s4 x4=>?_⟩
    obtain⟨wd,hw,aw⟩:=znQ g1 g2
    refine⟨p1,_,_,_,rfl,rfl,SqL.of (x4 _ _ upd_same n1),aw,_,rfl,_,rfl,(by show 3≤sizeLine;decide),fun p hp=>?_⟩
    have y5:=Same.new (o:=HO.tup [V.str wd,v1,v2]) hp
    exact k (.two wd e1 e2) _ _ ⟨p,v1,v2,rfl,upd_same,(((t1.extX s2 x3).same (Same.new hp1)).extX (s3.new hp1) x4).same y5,((t2.same (Same.new hp1)).extX (s3.new hp1) x4).same y5⟩ ⟨hw,o1,o2⟩ (by show max e1.dep e2.dep+1≤c+1+1;omega) (by show 1+e1.size+e2.size≤1+4*szB c;omega) (s4.new hp) ((X3.trans ((Ext.new hp1).trans x4)).trans (Ext.new hp))
   all_goals
    refine⟨_,rfl,l,3,rfl,s1,by decide,fun d0 H0 _ _ s0 x0=>?_⟩
    have X0:=x1.trans x0
    refine⟨rfl,_,rfl,?_⟩
    refine ui (fun _=>?_) (fun _=>?_)
    ·refine⟨_,rfl,l,9,rfl,s0,by decide,fun d1 H2 a1 b1 s2 x2=>?_⟩
     refine⟨_,_,rfl,rfl,_,rfl,_,_,rfl,rfl,⟨by decide,by decide,by decide⟩,l,_,rfl,s2,by decide,fun d2 H3 a2 b2 s3 x3=>?_⟩
     refine⟨_,_,rfl,rfl,⟨by decide,by decide,by decide⟩,_,_,rfl,rfl,.inr ⟨by decide,by decide⟩,_,_,rfl,rfl,(by show 2≤sizeLine;decide),fun p1 hp1=>?_⟩
     have n1:=s3.ne hp1
     refine⟨_,rfl,l,4,rfl,s3.new hp1,by decide,fun d3 H4 a3 b3 s4 x4=>?_⟩
     have q3:0≤d3/3:=Int.ediv_nonneg a3 (by decide)
     have q4:d3/3<2:=by omega
     obtain⟨v1,e1,f1⟩:=znR (x:=d1-4) (y:=d2-5*10 ^ Int.toNat 18) q3 q4
     refine⟨_,_,rfl,rfl,⟨by show(0:Int)<3;decide,by show(3:Int).natAbs.log2<9000;decide⟩,p1,_,_,_,rfl,rfl,SqL.of (x4 _ _ upd_same n1),e1,(by show 2≤sizeLine;decide),fun p hp=>?_⟩
     refine k (.num v1) _ _ ⟨p,rfl,upd_same⟩ ?_ (Nat.le_add_left _ _) zp (s4.new hp) (((X0.trans x2).trans (x3.trans (Ext.new hp1))).trans (x4.trans (Ext.new hp)))
     have p18:(5:Int)*(10:Int) ^ Int.toNat 18=5000000000000000000:=by decide
     have p19:(10:Int) ^ Int.toNat 19=10000000000000000000:=by decide
     have b2:d2<(10:Int) ^ Int.toNat 19:=b2
     rw[p19] at b2
     rw[p18] at f1
     show -100000000000000000000<v1∧v1<100000000000000000000
     omega
    ·refine⟨_,rfl,_,rfl,_,rfl,nm,_,rfl,.inl (SqL.of (x0 _ _ hnm1 hne)),l,_,rfl,s0,(by rw[List.length_map];omega),fun d2 H2 g1 g2 s2 x2=>?_⟩
     obtain⟨x,hx,ea⟩:=ztw g1 g2
     refine⟨nm,_,d2,_,rfl,rfl,SqL.of (x2 _ _ (x0 _ _ hnm1 hne) hne),ea,(by show 2≤sizeLine;decide),fun p hp=>?_⟩
     exact k (.name x) _ _ ⟨p,rfl,upd_same⟩ hx (Nat.le_add_left _ _) zp (s2.new hp) ((X0.trans x2).trans (Ext.new hp))
theorem al {H H':Hp}{p:Addr}{o:HO}(e:upd H p o=H') (hp:H p=none):H' p=some o∧Same H H':=by
 subst e
 exact⟨upd_same,Same.new hp⟩
theorem Xi {xs:List V}{d:Int}(h0:0≤d) (h1:d<xs.length):∃ x,x∈xs∧atI xs d=some x:=by
 obtain⟨n,rfl⟩:∃ n:Nat,d=n:=⟨d.toNat,by omega⟩
 have hn:n<xs.length:=by omega
 exact⟨xs[n],List.getElem_mem hn,zaN (by simp[hn])⟩
theorem _root_.L2.Same.updF {p:Addr}{H H':Hp}{o:HO}(x:Same H H') (h:H p=none):Same H (L2.upd H' p o):=fun b u e=>by
 rw[ze (ne_of_none e h)]
 exact x b u e
def TdN (H:Hp) (ns:List Str) (m:Nat) (v:V):Prop:=∃ e:Ex,Told H e v∧e.ok ns∧e.dep≤3∧e.size≤m
theorem TdN.ext {l:Addr}{H H':Hp}{ns:List Str}{m:Nat}{v:V}(t:TdN H ns m v) (s:WlAt H l) (k:Ext l H H'):TdN H' ns m v:=by
 obtain⟨e,t,h⟩:=t
 exact⟨e,t.extX s k,h⟩
theorem TdN.same {H H':Hp}{ns:List Str}{m:Nat}{v:V}(t:TdN H ns m v) (k:Same H H'):TdN H' ns m v:=by
 obtain⟨e,t,h⟩:=t
 exact⟨e,t.same k,h⟩
abbrev sendL:List Str:=["worth", "me", "round", "lines", "to", "worth"]
abbrev tipsL:List Str:=["worth", "me", "round", "lines", "sum", "least", "most", "count", "sum", "worth"]
def zyK (H:Hp) (v1 v2 v3 v4:V):Prop:=TdN H yw 5 v1∧TdN H ye 21 v2∧TdN H ye 5 v3∧TdN H zR 21 v4
def Wi:Sp:=fun vs H Q _=>∃ l:Addr,vs=[.ref l]∧WlAt H l∧∀ (q:Addr) (v1 v2 v3 v4:V) (H':Hp),H' q=some (.tup [v1,v2,v3,v4])→zyK H' v1 v2 v3 v4→WlAt H' l→Ext l H H'→Q (.ref q) H'
theorem UH (T:Txt w K mg a):FnOk P w K mg base CX0 6 a.f_qp a.d_qp ["_law_well_here"] Wi:=by
 have c_qn:Callee P w K mg base "_law_draw" a.f_qn a.d_qn ["_law_well_here", "_law_many"] 1 v9:=⟨vy T,T.g_qn,T.F_qn.kp,T.b_qn⟩
 have c_qo:Callee P w K mg base "_law_expr" a.f_qo a.d_qo ["_law_well_here", "_law_names", "_law_deep"] 5 (ZB 3):=⟨ZR T 3,T.g_qo,T.F_qo.kp,T.b_qo⟩
 refine T.F_qp.ok sc_qp (fun vs H Q E h=>?_) (fun cdv A outer s H vs Q E hr h=>?_)
 ·obtain⟨l,rfl,_⟩:=h
  rfl
 ·obtain⟨l,rfl,s0,k⟩:=h
  refine zv (w_pss_cons (zl (i:=1) sc_qp.nd rfl (Or.inl rfl) (zh (zf w_pe_str (zf w_pe_str (zf w_pe_str (zf w_pe_str (zf w_pe_str (zf w_pe_str w_pa_nil))))))))
   (w_pss_cons (zl (i:=2) sc_qp.nd rfl (Or.inl rfl) (zh (zf w_pe_str (zf w_pe_str (zf w_pe_str (zf w_pe_str (zf w_pe_str (zf w_pe_str (zf w_pe_str (zf w_pe_str (zf w_pe_str (zf w_pe_str w_pa_nil))))))))))))
   (w_pss_cons (zl (i:=3) sc_qp.nd rfl (Or.inl rfl) (zk c_qo hr.m (za (w_pv 0) (zb (zh (zf w_pe_str (zf w_pe_str w_pa_nil))) (zf w_pe_int w_pa_nil)))))
   (w_pss_cons (zl (i:=4) sc_qp.nd rfl (Or.inl rfl) (w_pe_ix zI (zh (yo (zx (zf w_pe_str (zf w_pe_str w_pa_nil))) (zt (zk c_qo hr.m (za (w_pv 0) (za (w_pv 1) (zf w_pe_int w_pa_nil)))) w_pa_nil))) (zk c_qn hr.m (za (w_pv 0) (zf w_pe_int w_pa_nil))) (fun _ _=>rfl)))
   (w_pss_cons (zl (i:=5) sc_qp.nd rfl (Or.inl rfl) (zh (yo (zx (zf w_pe_str (zf w_pe_int w_pa_nil))) (yo (zx (zf w_pe_str (yo (zx (zf w_pe_str (zf w_pe_str w_pa_nil))) (yo (zx (zf w_pe_str (zf w_pe_str w_pa_nil))) w_pa_nil)))) (zt (zk c_qo hr.m (za (w_pv 0) (za (w_pv 1) (zf w_pe_int w_pa_nil)))) (yo (zx (zf w_pe_str (zf w_pe_int w_pa_nil))) w_pa_nil))))))
   (w_pss_cons (zl (i:=6) sc_qp.nd rfl (Or.inl rfl) (w_pe_ix zI (w_pv 5) (zk c_qn hr.m (za (w_pv 0) (zf w_pe_int w_pa_nil))) (fun _ _=>rfl)))
   (w_pss_cons (zl (i:=7) sc_qp.nd rfl (Or.inl rfl) (zx (zf w_pe_str (yo (zx (zf w_pe_str (zf w_pe_str w_pa_nil))) (yo (zx (zf w_pe_str (zf w_pe_str w_pa_nil))) w_pa_nil)))))
   (w_pss_cons (zl (i:=8) sc_qp.nd rfl (Or.inl rfl) (w_pe_ix zI (zh (za (w_pv 7) (zt (zk c_qo hr.m (za (w_pv 0) (za (w_pv 2) (zf w_pe_int w_pa_nil)))) (yo (zx (zf w_pe_str (za (w_pv 7) (zf w_pe_int w_pa_nil)))) (zt (zk c_qo hr.m (za (w_pv 0) (za (w_pv 2) (zf w_pe_int w_pa_nil)))) w_pa_nil))))) (zk c_qn hr.m (za (w_pv 0) (zf w_pe_int w_pa_nil))) (fun _ _=>rfl)))
   (w_pss_one (w_ps_ret (zx (za (w_pv 3) (za (w_pv 4) (za (w_pv 6) (za (w_pv 8) w_pa_nil))))))))))))))) ?_
  have sub2:∀ x∈sendL,x∈ye:=by decide
  have sub4:∀ x∈tipsL,x∈zR:=by decide
  refine⟨(by show 6≤sizeLine;decide),fun q1 h1=>?_⟩
  generalize hE:L2.upd H q1 _=H1
  obtain⟨E1,y1⟩:=al hE h1
  clear hE
  have n1:=s0.ne h1
  have s1:=s0.same y1
  refine⟨(by show 10≤sizeLine;decide),fun q2 h2=>?_⟩
  generalize hE:L2.upd H1 q2 _=H2
  obtain⟨E2,y2⟩:=al hE h2
  clear hE
  have n2:=s1.ne h2
  have s2:=s1.same y2
  replace E1:H2 q1=some (HO.lst (sendL.map V.str)):=y2 _ _ E1
  have X:Ext l H H2:=Ext.same (y1.trans y2)
  refine⟨_,rfl,(by show 2≤sizeLine;decide),fun q3 h3=>?_⟩
  refine⟨l,q3,yw,1,rfl,s2.new h3,upd_same,s2.ne h3,by decide,by decide,fun e1 v1 H3 t1 o1 d1 z1 s3 x3=>?_⟩
  replace x3:=(Ext.new h3).trans x3
  replace E1:=x3 _ _ E1 n1
  replace E2:H3 q2=some (HO.lst (tipsL.map V.str)):=x3 _ _ E2 n2
  replace X:=X.trans x3
  have T1:TdN H3 yw 5 v1:=⟨e1,t1,o1,by omega,z1⟩
  -- send
  refine⟨(by show 2≤sizeLine;decide),fun p1 g1=>?_⟩
  generalize hE:L2.upd H3 p1 _=H4
  obtain⟨F1,y4⟩:=al hE g1
  clear hE
  refine⟨_,rfl,_,rfl,l,q1,sendL,2,rfl,s3.same y4,y4 _ _ E1,n1,by decide,by decide,fun e2 v2 H5 t2 o2 d2 z2 s5 x5=>?_⟩
  replace F1:=x5 _ _ F1 (s3.ne g1)
  refine⟨(by show 2≤sizeLine;decide),fun p2 g2=>?_⟩
  generalize hE:L2.upd H5 p2 _=H6
  obtain⟨F2,y6⟩:=al hE g2
  clear hE
  refine⟨_,rfl,l,2,rfl,s5.same y6,by decide,fun dd H7 a1 b1 s7 x7=>?_⟩
  have X7:Ext l H5 H7:=(Ext.same y6).trans x7
  obtain⟨u2,m2,at2⟩:=Xi (xs:=[V.ref p1,v2]) a1 b1
  have T2:TdN H7 ye 21 u2:=by
   rw[List.mem_cons,List.mem_singleton] at m2
   rcases m2 with rfl | rfl
   ·exact⟨.name "worth",⟨p1,rfl,X7 _ _ F1 (s3.ne g1)⟩,(by decide:("worth" : Str)∈ye),(by show 1≤3;decide),(by show 1≤21;decide)⟩
   ·exact⟨e2,t2.extX s5 X7,Ex.ok_sub sub2 e2 o2,d2,z2⟩
  have x7':Ext l H3 H7:=(Ext.same y4).trans (x5.trans X7)
  replace E1:=x7' _ _ E1 n1
  replace E2:=x7' _ _ E2 n2
  replace T1:=T1.ext s3 x7'
  replace X:=X.trans x7'
  refine⟨p2,_,_,_,rfl,rfl,SqL.of (x7 _ _ F2 (s5.ne g2)),at2,?_⟩
  -- when
  refine⟨(by show 2≤sizeLine;decide),fun p3 g3=>?_⟩
  generalize hE:L2.upd H7 p3 _=H8
  obtain⟨F3,y8⟩:=al hE g3
  clear hE
  refine⟨(by show 2≤sizeLine;decide),fun p4 g4=>?_⟩
  generalize hE:L2.upd H8 p4 _=H9
  obtain⟨F4,y9⟩:=al hE g4
  clear hE
  refine⟨(by show 2≤sizeLine;decide),fun p5 g5=>?_⟩
  generalize hE:L2.upd H9 p5 _=H10
  obtain⟨F5,y10⟩:=al hE g5
  clear hE
  refine⟨(by show 3≤sizeLine;decide),fun p6 g6=>?_⟩
  generalize hE:L2.upd H10 p6 _=H11
  obtain⟨F6,y11⟩:=al hE g6
  clear hE
  have Y:Same H7 H11:=((y8.trans y9).trans y10).trans y11
  have s11:=s7.same Y
  refine⟨_,rfl,_,rfl,l,q1,sendL,1,rfl,s11,Y _ _ E1,n1,by decide,by decide,fun e3 v3 H12 t3 o3 d3 z3 s12 x12=>?_⟩
  refine⟨(by show 2≤sizeLine;decide),fun p7 g7=>?_⟩
  generalize hE:L2.upd H12 p7 _=H13
  obtain⟨F7,y13⟩:=al hE g7
  clear hE
  refine⟨(by show 4≤sizeLine;decide),fun p8 g8=>?_⟩
  generalize hE:L2.upd H13 p8 _=H14
  obtain⟨F8,y14⟩:=al hE g8
  clear hE
  have s14:=s12.same (y13.trans y14)
  refine⟨_,rfl,_,rfl,l,4,rfl,s14,by decide,fun dw H15 a2 b2 s15 x15=>?_⟩
  have X12:Ext l H12 H15:=(Ext.same (y13.trans y14)).trans x15
  have X11:Ext l H11 H15:=x12.trans X12
  obtain⟨u3,m3,at3⟩:=Xi (xs:=[V.ref p3,V.ref p6,v3,V.ref p7]) a2 b2
  have T3:TdN H15 ye 5 u3:=by
   simp only[List.mem_cons,List.not_mem_nil,or_false] at m3
   have one : -100000000000000000000<(1:Int)∧(1:Int)<100000000000000000000:=by decide
   rcases m3 with rfl | rfl | rfl | rfl
   ·exact⟨.num 1,⟨p3,rfl,X11 _ _ ((y9.trans (y10.trans y11)) _ _ F3) (s7.ne g3)⟩,one,(by show 1≤3;decide),(by show 1≤5;decide)⟩
   ·refine⟨.two "sub" (.name "to") (.name "me"),⟨p6,_,_,rfl,X11 _ _ F6 ?_,⟨p4,rfl,X11 _ _ ((y10.trans y11) _ _ F4) ?_⟩,⟨p5,rfl,X11 _ _ (y11 _ _ F5) ?_⟩⟩,⟨.inr (.inl rfl),(by decide:("to" : Str)∈ye),(by decide:("me" : Str)∈ye)⟩,(by show 2≤3;decide),(by show 3≤5;decide)⟩
    ·exact(s7.same ((y8.trans y9).trans y10)).ne g6
    ·exact(s7.same y8).ne g4
    ·exact(s7.same (y8.trans y9)).ne g5
   ·exact⟨e3,t3.extX s12 X12,Ex.ok_sub sub2 e3 o3,by omega,z3⟩
   ·exact⟨.num 1,⟨p7,rfl,x15 _ _ (y14 _ _ F7) (s12.ne g7)⟩,one,(by show 1≤3;decide),(by show 1≤5;decide)⟩
  have x15':Ext l H7 H15:=(Ext.same Y).trans X11
  replace E2:=x15' _ _ E2 n2
  replace T1:=T1.ext s7 x15'
  replace T2:=T2.ext s7 x15'
  replace X:=X.trans x15'
  refine⟨p8,_,_,_,rfl,rfl,SqL.of (x15 _ _ F8 ((s12.same y13).ne g8)),at3,?_⟩
  -- reckon
  refine⟨(by show 2≤sizeLine;decide),fun p9 g9=>?_⟩
  generalize hE:L2.upd H15 p9 _=H16
  obtain⟨F9,y16⟩:=al hE g9
  clear hE
  refine⟨(by show 2≤sizeLine;decide),fun p10 g10=>?_⟩
  generalize hE:L2.upd H16 p10 _=H17
  obtain⟨F10,y17⟩:=al hE g10
  clear hE
  refine⟨(by show 3≤sizeLine;decide),fun p11 g11=>?_⟩
  generalize hE:L2.upd H17 p11 _=H18
  obtain⟨F11,y18⟩:=al hE g11
  clear hE
  have Y2:Same H15 H18:=(y16.trans y17).trans y18
  have s18:=s15.same Y2
  have pl:Told H18 (.two "add" (.name "worth") (.name "sum")) (.ref p11):=⟨p11,_,_,rfl,F11,⟨p9,rfl,(y17.trans y18) _ _ F9⟩,⟨p10,rfl,y18 _ _ F10⟩⟩
  refine⟨_,rfl,_,rfl,_,rfl,l,q2,tipsL,2,rfl,s18,Y2 _ _ E2,n2,by decide,by decide,fun e4 v4 H19 t4 o4 d4 z4 s19 x19=>?_⟩
  refine⟨_,rfl,(by show 3≤sizeLine;decide),fun p12 g12=>?_⟩
  generalize hE:L2.upd H19 p12 _=H20
  obtain⟨F12,y20⟩:=al hE g12
  clear hE
  have s20:=s19.same y20
  have X20:Ext l H18 H20:=x19.trans (Ext.same y20)
  refine⟨_,rfl,_,rfl,l,q2,tipsL,2,rfl,s20,X20 _ _ (Y2 _ _ E2) n2,n2,by decide,by decide,fun e5 v5 H21 t5 o5 d5 z5 s21 x21=>?_⟩
  refine⟨(by show 4≤sizeLine;decide),fun p13 g13=>?_⟩
  generalize hE:L2.upd H21 p13 _=H22
  obtain⟨F13,y22⟩:=al hE g13
  clear hE
  refine⟨_,rfl,l,4,rfl,s21.same y22,by decide,fun dr H23 a3 b3 s23 x23=>?_⟩
  have X21:Ext l H21 H23:=(Ext.same y22).trans x23
  have X20':Ext l H20 H23:=x21.trans X21
  have X18:Ext l H18 H23:=X20.trans X20'
  obtain⟨u4,m4,at4⟩:=Xi (xs:=[V.ref p11,v4,V.ref p12,v5]) a3 b3
  have T4:TdN H23 zR 21 u4:=by
   simp only[List.mem_cons,List.not_mem_nil,or_false] at m4
   have on:(Ex.two "add" (.name "worth") (.name "sum")).ok zR:=⟨.inl rfl,(by decide:("worth" : Str)∈zR),(by decide:("sum" : Str)∈zR)⟩
   rcases m4 with rfl | rfl | rfl | rfl
   ·exact⟨_,pl.extX s18 X18,on,(by show 2≤3;decide),(by show 3≤21;decide)⟩
   ·exact⟨e4,t4.extX s19 ((Ext.same y20).trans X20'),Ex.ok_sub sub4 e4 o4,d4,z4⟩
   ·exact⟨.mod _ 97,⟨p12,_,rfl,X20' _ _ F12 (s19.ne g12),pl.extX s18 X18⟩,⟨by decide,on⟩,(by show 3≤3;decide),(by show 5≤21;decide)⟩
   ·exact⟨e5,t5.extX s21 X21,Ex.ok_sub sub4 e5 o5,d5,z5⟩
  have x23':Ext l H15 H23:=(Ext.same Y2).trans X18
  refine⟨p13,_,_,_,rfl,rfl,SqL.of (x23 _ _ F13 (s21.ne g13)),at4,_,rfl,_,rfl,_,rfl,_,rfl,(by show 4≤sizeLine;decide),fun q hq=>?_⟩
  have y:=Same.new (o:=HO.tup [v1,u2,u3,u4]) hq
  exact k q v1 u2 u3 u4 _ upd_same ⟨(T1.ext s15 x23').same y,(T2.ext s15 x23').same y,(T3.ext s15 x23').same y,T4.same y⟩ (s23.same y) ((X.trans x23').trans (Ext.same y))
def zDB (a:Ad):Sp:=fun vs H Q _=>∃ (q:Addr) (v1 v2 v3 v4:V) (e1 e2 e3 e4:Ex),vs=[.ref q]∧H q=some (.tup [v1,v2,v3,v4])∧((Told H e1 v1∧e1.ok yw∧e1.dep≤3∧e1.size≤5)∧(Told H e2 v2∧e2.ok ye∧e2.dep≤3∧e2.size≤21)∧(Told H e3 v3∧e3.ok ye∧e3.dep≤3∧e3.size≤5)∧(Told H e4 v4∧e4.ok zR∧e4.dep≤3∧e4.size≤21))∧∀ r H',ProgAt a H' e1 e2 e3 e4 r→Same H H'→Q r H'
theorem ztD (T:Txt w K mg a):FnOk P w K mg base CX0 24 a.f_qr a.d_qr ["_law_told_here"] (zDB a):=by
 have c_qq:Callee P w K mg base "_law_made" a.f_qq a.d_qq ["_law_told_here"] 5 (Zy a 3):=⟨ZP T 3,T.g_qq,T.F_qq.kp,T.b_qq⟩
 have m_Program:Maker P w K mg base "Program" a.c_Program a.f_qa6 a.d_qa6 ["self", "start", "send", "when", "renew"] 22 (Wk a):=⟨UJ T,T.g_Program,T.mk_Program,T.b_qa6⟩
 refine T.F_qr.ok zsY (fun vs H Q E h=>?_) (fun cdv A outer s H vs Q E hr h=>?_)
 ·obtain⟨q,v1,v2,v3,v4,e1,e2,e3,e4,rfl,_⟩:=h
  rfl
 ·obtain⟨q,v1,v2,v3,v4,e1,e2,e3,e4,rfl,hq,⟨⟨t1,o1,d1,z1⟩,⟨t2,o2,d2,z2⟩,⟨t3,o3,d3,z3⟩,⟨t4,o4,d4,z4⟩⟩,k⟩:=h
  refine zv (w_pss_one (w_ps_ret (yU m_Program hr.m (zt (zk c_qq hr.m (zb (w_pe_ix ix_tup (w_pv 0) w_pe_int (fun _ _=>rfl)) w_pa_nil)) (zt (zk c_qq hr.m (zb (w_pe_ix ix_tup (w_pv 0) w_pe_int (fun _ _=>rfl)) w_pa_nil)) (zt (zk c_qq hr.m (zb (w_pe_ix ix_tup (w_pv 0) w_pe_int (fun _ _=>rfl)) w_pa_nil)) (zt (zk c_qq hr.m (zb (w_pe_ix ix_tup (w_pv 0) w_pe_int (fun _ _=>rfl)) w_pa_nil)) w_pa_nil))))))) ?_
  refine⟨_,rfl,q,_,0,_,rfl,rfl,SqT.of hq,rfl,e1,_,_,rfl,t1,d1,o1,fun r1 H1 m1 s1=>?_⟩
  refine⟨_,rfl,q,_,1,_,rfl,rfl,SqT.of (s1 _ _ hq),rfl,e2,_,_,rfl,t2.same s1,d2,o2,fun r2 H2 m2 s2=>?_⟩
  have s12:=s1.trans s2
  refine⟨_,rfl,q,_,2,_,rfl,rfl,SqT.of (s12 _ _ hq),rfl,e3,_,_,rfl,t3.same s12,d3,o3,fun r3 H3 m3 s3=>?_⟩
  have s123:=s12.trans s3
  refine⟨_,rfl,q,_,3,_,rfl,rfl,SqT.of (s123 _ _ hq),rfl,e4,_,_,rfl,t4.same s123,d4,o4,fun r4 H4 m4 s4=>?_⟩
  refine fun x dx nx ndx nex=>?_
  have sN:Same H4 (L2.upd (L2.upd H4 dx (.own x)) x (.ins a.c_Program dx [])):=fun b o e=>by
   rw[ze (ne_of_none e nx),ze (ne_of_none e ndx)]
   exact e
  have m1:=m1.same ((s2.trans s3).trans s4)
  have m2:=m2.same (s3.trans s4)
  have m3:=m3.same s4
  refine⟨x,dx,r1,r2,r3,r4,e1,e2,e3,e4,rfl,upd_same,⟨⟨m1.same sN,o1,by omega⟩,⟨m2.same sN,o2,by omega⟩,⟨m3.same sN,o3,by omega⟩,⟨m4.same sN,o4,by omega⟩,by omega⟩,fun H5 s5=>⟨rfl,?_⟩⟩
  have s45:Same H4 (L2.upd H5 x (.ins a.c_Program dx [("start",r1),("send",r2),("when",r3),("renew",r4)])):=Same.updF (sN.trans s5) nx
  exact k _ _ ⟨x,dx,r1,r2,r3,r4,rfl,upd_same,⟨m1.same s45,o1,by omega⟩,⟨m2.same s45,o2,by omega⟩,⟨m3.same s45,o3,by omega⟩,⟨m4.same s45,o4,by omega⟩,by omega⟩ ((s123.trans s4).trans s45)
theorem znv {x y:Int}{ms:LI}(p:ms.Perm [x,y]) (h:ms.Pairwise (· ≤ ·)):ms=[if y<x then y else x,if y>x then y else x]:=by
 obtain⟨u,v,rfl⟩:∃ u v,ms=[u,v]:=by
  have hl:=p.length_eq
  match ms,hl with
  |[u,v],_=>exact⟨u,v,rfl⟩
 have hu:u∈[x,y]:=p.mem_iff.mp (by simp)
 have hv:v∈[x,y]:=p.mem_iff.mp (by simp)
 have hx:x∈[u,v]:=p.mem_iff.mpr (by simp)
 have hy:y∈[u,v]:=p.mem_iff.mpr (by simp)
 simp only[List.mem_cons,List.not_mem_nil,or_false,List.pairwise_cons] at *
 have h1:=h.1 v rfl
 by_cases q:y<x
 ·rw[if_pos q,if_neg (by omega)]
  have:u=y∧v=x:=by omega
  rw[this.1,this.2]
 ·rw[if_neg q]
  have:u=x∧v=y:=by omega
  rw[this.1,this.2]
  by_cases z:y>x
  ·rw[if_pos z]
  ·rw[if_neg z,show y=x by omega]
def wf (n:Nat):Sp:=fun vs H Q _=>∃ (e:Ex) (v:V) (d:Addr) (kvs:List (Key×V)) (names:List Str),vs=[v,.ref d]∧Told H e v∧e.dep≤n∧e.ok names∧H d=some (.dK kvs)∧Has names kvs∧∀ H',Same H H'→Q (.int (e.val (rho kvs))) H'
theorem wj (T:Txt w K mg a):∀ n,FnOk P w K mg base CX0 (n+1) a.f_qs a.d_qs ["_law_told_here", "_law_names"] (wf n)
 |0=>⟨fun vs H Q E h=>by
   obtain⟨e,v,d,kvs,names,rfl,_⟩:=h
   rfl,fun A outer s H args us vs Q E _ _ _ _ h=>by
   obtain⟨e,v,d,kvs,names,_,_,hd,_⟩:=h
   have:=e.dep_pos
   omega⟩
 |n+1=>by
  have c_qs:Callee P w K mg base "_law_value" a.f_qs a.d_qs ["_law_told_here", "_law_names"] (n+1) (wf n):=⟨wj T n,T.g_qs,T.F_qs.kp,T.b_qs⟩
  refine T.F_qs.ok sc_qs (fun vs H Q E h=>?_) (fun cdv A outer s H vs Q E hr h=>?_)
  ·obtain⟨e,v,d,kvs,names,rfl,_⟩:=h
   rfl
  ·obtain⟨e,v,d,kvs,names,rfl,ht,hdep,ho,hd,hh,k⟩:=h
   have hu:=yi hr
   refine zv (w_pss_cons (w_ps_if (w_pt_cmpR yh (w_pe_ix ix_tup (w_pv 0) w_pe_int (fun _ _=>rfl)) w_pe_str (zq _))
    (w_pss_one (w_ps_ret (w_pe_ix ix_tup (w_pv 0) w_pe_int (fun _ _=>rfl))))
    zg)
   (w_pss_cons (w_ps_if (w_pt_cmpR yh (w_pe_ix ix_tup (w_pv 0) w_pe_int (fun _ _=>rfl)) w_pe_str (zq _))
    (w_pss_one (w_ps_ret (w_pe_dget hu (w_pv 1) (w_pe_ix ix_tup (w_pv 0) w_pe_int (fun _ _=>rfl)) (fun _ _=>rfl))))
    zg)
   (w_pss_cons (zl (i:=2) sc_qs.nd rfl (Or.inl rfl) (zk c_qs hr.m (zb (w_pe_ix ix_tup (w_pv 0) w_pe_int (fun _ _=>rfl)) (za (w_pv 1) w_pa_nil))))
   (w_pss_cons (w_ps_if (w_pt_cmpR yh (w_pe_ix ix_tup (w_pv 0) w_pe_int (fun _ _=>rfl)) w_pe_str (zq _))
    (w_pss_one (w_ps_ret (zj yp (w_pv 2) (zj xA (w_pe_ix ix_tup (w_pv 0) w_pe_int (fun _ _=>rfl)) (zj yV (w_pv 2) (w_pe_ix ix_tup (w_pv 0) w_pe_int (fun _ _=>rfl)))))))
    zg)
   (w_pss_cons (zl (i:=3) sc_qs.nd rfl (Or.inl rfl) (zk c_qs hr.m (zb (w_pe_ix ix_tup (w_pv 0) w_pe_int (fun _ _=>rfl)) (za (w_pv 1) w_pa_nil))))
   (w_pss_cons (w_ps_if (w_pt_cmpR yh (w_pe_ix ix_tup (w_pv 0) w_pe_int (fun _ _=>rfl)) w_pe_str (zq _))
    (w_pss_one (w_ps_ret (zk c_qs hr.m (zb (w_pe_ix ix_tup (w_pv 0) (zj yC w_pe_int (zz vc (by rfl) T.n_int YK (zb (zP Xm (w_pv 2) (w_pv 3) (zq _)) w_pa_nil))) (fun _ _=>rfl)) (za (w_pv 1) w_pa_nil)))))
    zg)
   (w_pss_cons (zl (i:=4) sc_qs.nd rfl (Or.inl rfl) (w_pe_disp (w_pps_cons w_pe_str (zj yC (w_pv 2) (w_pv 3)) (w_pps_cons w_pe_str (zj yp (w_pv 2) (w_pv 3)) (w_pps_cons w_pe_str (w_pe_ix zI (w_pe_callB zN (by rfl) T.n_sorted zM (zb (zh (za (w_pv 2) (za (w_pv 3) w_pa_nil))) w_pa_nil)) w_pe_int (fun _ _=>rfl)) (w_pps_cons w_pe_str (w_pe_ix zI (w_pe_callB zN (by rfl) T.n_sorted zM (zb (zh (za (w_pv 2) (za (w_pv 3) w_pa_nil))) w_pa_nil)) w_pe_int (fun _ _=>rfl)) zZ)))) rfl rfl (by intro z;cases z) (by decide)))
   (w_pss_one (w_ps_ret (w_pe_dget hu (w_pv 4) (w_pe_ix ix_tup (w_pv 0) w_pe_int (fun _ _=>rfl)) (fun _ _=>rfl))))))))))) ?_
   cases e with
   |num i =>
    obtain⟨p,rfl,hp⟩:=ht
    refine⟨_,rfl,p,_,0,_,rfl,rfl,SqT.of hp,rfl,rfl,_,rfl,iteB (by decide +kernel) ?_⟩
    exact⟨_,rfl,p,_,1,_,rfl,rfl,SqT.of hp,rfl,k _ (Same.refl H)⟩
   |name x =>
    obtain⟨p,rfl,hp⟩:=ht
    refine⟨_,rfl,p,_,0,_,rfl,rfl,SqT.of hp,rfl,rfl,_,rfl,zG (by decide +kernel) ?_⟩
    refine⟨_,rfl,p,_,0,_,rfl,rfl,SqT.of hp,rfl,rfl,_,rfl,iteB (by decide +kernel) ?_⟩
    refine⟨_,rfl,_,rfl,p,_,1,_,rfl,rfl,SqT.of hp,rfl,d,_,rfl,?_,k _ (Same.refl H)⟩
    have:=hh.at (show x∈names from ho)
    exact this ▸ DGet.k (k:=Sum.inr x) hd
   |mod e1 i =>
    obtain⟨p,u1,rfl,hp,t1⟩:=ht
    obtain⟨⟨i1,i2⟩,o1⟩:=ho
    have hdep:e1.dep+1≤n+1:=hdep
    refine⟨_,rfl,p,_,0,_,rfl,rfl,SqT.of hp,rfl,rfl,_,rfl,zG (by decide +kernel) ?_⟩
    refine⟨_,rfl,p,_,0,_,rfl,rfl,SqT.of hp,rfl,rfl,_,rfl,zG (by decide +kernel) ?_⟩
    refine⟨_,rfl,p,_,1,_,rfl,rfl,SqT.of hp,rfl,_,rfl,e1,_,d,kvs,names,rfl,t1,by omega,o1,hd,hh,fun H1 s1=>?_⟩
    refine⟨_,rfl,p,_,0,_,rfl,rfl,SqT.of (s1 _ _ hp),rfl,rfl,_,rfl,iteB (by decide +kernel) ?_⟩
    refine⟨_,rfl,_,rfl,p,_,2,_,rfl,rfl,SqT.of (s1 _ _ hp),rfl,_,rfl,_,rfl,p,_,2,_,rfl,rfl,SqT.of (s1 _ _ hp),rfl,_,_,rfl,rfl,⟨by omega,Nat.lt_trans (wv ⟨by omega,by omega⟩) (by decide)⟩,_,_,rfl,rfl,.inl ⟨by omega,by omega⟩,_,_,rfl,rfl,?_⟩
    have k1:=k _ s1
    rw[show(Ex.mod e1 i).val (rho kvs)=e1.val (rho kvs)%i from rfl,Int.emod_def] at k1
    exact k1
   |less e1 e2 e3 e4 =>
    obtain⟨p,u1,u2,u3,u4,rfl,hp,t1,t2,t3,t4⟩:=ht
    obtain⟨o1,o2,o3,o4⟩:=ho
    have hdep:max (max e1.dep e2.dep) (max e3.dep e4.dep)+1≤n+1:=hdep
    refine⟨_,rfl,p,_,0,_,rfl,rfl,SqT.of hp,rfl,rfl,_,rfl,zG (by decide +kernel) ?_⟩
    refine⟨_,rfl,p,_,0,_,rfl,rfl,SqT.of hp,rfl,rfl,_,rfl,zG (by decide +kernel) ?_⟩
    refine⟨_,rfl,p,_,1,_,rfl,rfl,SqT.of hp,rfl,_,rfl,e1,_,d,kvs,names,rfl,t1,by omega,o1,hd,hh,fun H1 s1=>?_⟩
    refine⟨_,rfl,p,_,0,_,rfl,rfl,SqT.of (s1 _ _ hp),rfl,rfl,_,rfl,zG (by decide +kernel) ?_⟩
    refine⟨_,rfl,p,_,2,_,rfl,rfl,SqT.of (s1 _ _ hp),rfl,_,rfl,e2,_,d,kvs,names,rfl,t2.same s1,by omega,o2,s1 _ _ hd,hh,fun H2 s2=>?_⟩
    have s3:=s1.trans s2
    refine⟨_,rfl,p,_,0,_,rfl,rfl,SqT.of (s3 _ _ hp),rfl,rfl,_,rfl,iteB (by decide +kernel) ?_⟩
    have k':∀ H',Same H H'→Q (.int (if e1.val (rho kvs)<e2.val (rho kvs) then e3.val (rho kvs) else e4.val (rho kvs))) H':=k
    refine⟨_,rfl,_,rfl,_,rfl,_,_,rfl,rfl,.inr ⟨_,rfl,_,_,rfl,rfl,p,_,_,if e1.val (rho kvs)<e2.val (rho kvs) then u3 else u4,rfl,rfl,SqT.of (s3 _ _ hp),?_,_,rfl,if e1.val (rho kvs)<e2.val (rho kvs) then e3 else e4,_,d,kvs,names,rfl,?_,?_,?_,s3 _ _ hd,hh,fun H4 s4=>?_⟩⟩
    ·by_cases q:e1.val (rho kvs)<e2.val (rho kvs)
     ·have q2:decide (e2.val (rho kvs)≤e1.val (rho kvs))=false:=decide_eq_false (by omega)
      rw[if_pos q,q2]
      rfl
     ·have q2:decide (e2.val (rho kvs)≤e1.val (rho kvs))=true:=decide_eq_true (by omega)
      rw[if_neg q,q2]
      rfl
    ·by_cases q:e1.val (rho kvs)<e2.val (rho kvs)
     ·rw[if_pos q,if_pos q];exact t3.same s3
     ·rw[if_neg q,if_neg q];exact t4.same s3
    ·by_cases q:e1.val (rho kvs)<e2.val (rho kvs)
     ·rw[if_pos q];omega
     ·rw[if_neg q];omega
    ·by_cases q:e1.val (rho kvs)<e2.val (rho kvs)
     ·rw[if_pos q];exact o3
     ·rw[if_neg q];exact o4
    ·have k2:=k' H4 (s3.trans s4)
     by_cases q:e1.val (rho kvs)<e2.val (rho kvs)
     ·rw[if_pos q] at k2 ⊢;exact k2
     ·rw[if_neg q] at k2 ⊢;exact k2
   |two wd e1 e2 =>
    obtain⟨p,u1,u2,rfl,hp,t1,t2⟩:=ht
    obtain⟨hw,o1,o2⟩:=ho
    have hdep:max e1.dep e2.dep+1≤n+1:=hdep
    obtain⟨w1,w2,w3,w4⟩:=X9 hw
    refine⟨_,rfl,p,_,0,_,rfl,rfl,SqT.of hp,rfl,rfl,_,rfl,zG w1 ?_⟩
    refine⟨_,rfl,p,_,0,_,rfl,rfl,SqT.of hp,rfl,rfl,_,rfl,zG w2 ?_⟩
    refine⟨_,rfl,p,_,1,_,rfl,rfl,SqT.of hp,rfl,_,rfl,e1,_,d,kvs,names,rfl,t1,by omega,o1,hd,hh,fun H1 s1=>?_⟩
    refine⟨_,rfl,p,_,0,_,rfl,rfl,SqT.of (s1 _ _ hp),rfl,rfl,_,rfl,zG w3 ?_⟩
    refine⟨_,rfl,p,_,2,_,rfl,rfl,SqT.of (s1 _ _ hp),rfl,_,rfl,e2,_,d,kvs,names,rfl,t2.same s1,by omega,o2,s1 _ _ hd,hh,fun H2 s2=>?_⟩
    have k':∀ H',Same H H'→Q (.int (if wd = "add" then e1.val (rho kvs)+e2.val (rho kvs) else if wd = "sub" then e1.val (rho kvs)-e2.val (rho kvs) else if wd = "min" then(if e2.val (rho kvs)<e1.val (rho kvs) then e2.val (rho kvs) else e1.val (rho kvs)) else(if e2.val (rho kvs)>e1.val (rho kvs) then e2.val (rho kvs) else e1.val (rho kvs)))) H':=k
    generalize e1.val (rho kvs)=x1 at k' ⊢
    generalize e2.val (rho kvs)=x2 at k' ⊢
    have s3:=s1.trans s2
    have hp3:=s3 _ _ hp
    refine⟨_,rfl,p,_,0,_,rfl,rfl,SqT.of hp3,rfl,rfl,_,rfl,zG w4 ?_⟩
    refine fun pd hpd=>⟨_,rfl,_,rfl,_,_,rfl,rfl,_,rfl,_,rfl,_,_,rfl,rfl,_,rfl,_,rfl,(by show 2≤sizeLine;decide),fun l1 hl1=>?_⟩
    generalize hE:L2.upd _ l1 _=H3
    obtain⟨F1,y3⟩:=al hE hl1
    clear hE
    refine⟨l1,[x1,x2],rfl,SqL.of F1,(by show 2<64;decide),fun l2 ms hl2 pm pw=>?_⟩
    cases znv pm pw
    generalize hE:L2.upd _ l2 _=H4
    obtain⟨F2,y4⟩:=al hE hl2
    clear hE
    refine⟨l2,_,0,_,rfl,rfl,SqL.of F2,rfl,_,rfl,_,rfl,(by show 2≤sizeLine;decide),fun l3 hl3=>?_⟩
    generalize hE:L2.upd _ l3 _=H5
    obtain⟨F3,y5⟩:=al hE hl3
    clear hE
    refine⟨l3,[x1,x2],rfl,SqL.of F3,(by show 2<64;decide),fun l4 ms hl4 pm pw=>?_⟩
    cases znv pm pw
    generalize hE:L2.upd _ l4 _=H6
    obtain⟨F4,y6⟩:=al hE hl4
    clear hE
    have Y:=((y3.trans y4).trans y5).trans y6
    have hpd6:=Y _ _ (upd_same (H:=H2) (a:=pd) (o:=HO.dK []))
    have S6:Same H2 H6:=fun b o e=>Y _ _ ((ze (ne_of_none e hpd)).trans e)
    refine⟨l4,_,1,_,rfl,rfl,SqL.of F4,rfl,hpd6,[(ky "add",.int (x1+x2)),(ky "sub",.int (x1-x2)),(ky "min",.int (if x2<x1 then x2 else x1)),(ky "max",.int (if x2>x1 then x2 else x1))],rfl,by show 4≤15;decide,?_⟩
    have S7:Same H (L2.upd H6 pd (HO.dK (mergeK [] [(ky "add",.int (x1+x2)),(ky "sub",.int (x1-x2)),(ky "min",.int (if x2<x1 then x2 else x1)),(ky "max",.int (if x2>x1 then x2 else x1))]))):=Same.updF (s3.trans S6) (by
     cases z:H pd with
     |none=>rfl
     |some o=>rw[s3 _ _ z] at hpd;cases hpd)
    have k6:=k' _ S7
    refine⟨_,rfl,_,rfl,p,_,0,_,rfl,rfl,SqT.of (S7 _ _ hp),rfl,pd,_,rfl,?_,k6⟩
    have ev:yL (mergeK [] [(ky "add",.int (x1+x2)),(ky "sub",.int (x1-x2)),(ky "min",.int (if x2<x1 then x2 else x1)),(ky "max",.int (if x2>x1 then x2 else x1))]) (ky wd)=some (.int (if wd = "add" then x1+x2 else if wd = "sub" then x1-x2 else if wd = "min" then(if x2<x1 then x2 else x1) else(if x2>x1 then x2 else x1))):=by
     rcases hw with rfl | rfl | rfl | rfl<;>rfl
    exact ev ▸ DGet.k (k:=ky wd) upd_same
def znr:Sp:=fun vs H Q _=>∃ (q l:Addr) (v1 v2 v3 v4:V) (e:Ex) (worth hand turn lines:Int),vs=[.ref q,.int worth,.int hand,.int turn,.int lines,.ref l]∧H q=some (.tup [v1,v2,v3,v4])∧(Told H e v4∧e.ok zR∧e.dep≤3)∧H l=some (.lst []) ∧
 ∀ H',Same H H'→Q (.int (e.val (rho (kvR worth hand turn lines 0 0 0 0)))) H'
theorem zn0 (T:Txt w K mg a):FnOk P w K mg base CX0 5 a.f_qt a.d_qt ["_law_told_here", "_law_worth", "_law_hand", "_law_turn", "_law_lines", "_law_numbers"] znr:=by
 have c_qs:Callee P w K mg base "_law_value" a.f_qs a.d_qs ["_law_told_here", "_law_names"] 4 (wf 3):=⟨wj T 3,T.g_qs,T.F_qs.kp,T.b_qs⟩
 refine T.F_qt.ok sc_qt (fun vs H Q E h=>?_) (fun cdv A outer s H vs Q E hr h=>?_)
 ·obtain⟨q,l,v1,v2,v3,v4,e,worth,hand,turn,lines,rfl,_⟩:=h
  rfl
 ·obtain⟨q,l,v1,v2,v3,v4,e,worth,hand,turn,lines,rfl,hq,⟨t4,o4,d4⟩,hl,k⟩:=h
  have hu:=yi hr
  refine zv (w_pss_cons (zl (i:=6) sc_qt.nd rfl (Or.inl rfl) (w_pe_disp (w_pps_cons w_pe_str (w_pv 1) (w_pps_cons w_pe_str (w_pv 2) (w_pps_cons w_pe_str (w_pv 3) (w_pps_cons w_pe_str (w_pv 4) (w_pps_cons w_pe_str (w_pe_callB (call_sumI rfl) (by rfl) T.n_sum YI (za (w_pv 5) w_pa_nil)) (w_pps_cons w_pe_str (w_pe_callB zw (by rfl) T.n_len ym (za (w_pv 5) w_pa_nil)) zZ)))))) rfl rfl (by intro z;cases z) (by decide)))
   (w_pss_cons (w_ps_expr (w_pe_dupd (w_pv 6) (w_pe_disp (w_pps_cons w_pe_str (w_pe_ix zI (zj yq (w_pe_callB zN (by rfl) T.n_sorted zM (za (w_pv 5) w_pa_nil)) (zh (zf w_pe_int w_pa_nil))) w_pe_int (fun _ _=>rfl)) (w_pps_cons w_pe_str (w_pe_ix zI (zj yq (Y4 (w_pe_callB zN (by rfl) T.n_sorted zM (za (w_pv 5) w_pa_nil)) (vo Zf w_pe_int)) (zh (zf w_pe_int w_pa_nil))) w_pe_int (fun _ _=>rfl)) zZ)) rfl rfl (by intro z;cases z) (by decide)) ⟨rfl,rfl,rfl,rfl⟩))
   (w_pss_one (w_ps_ret (zk c_qs hr.m (zb (w_pe_ix ix_tup (w_pv 0) w_pe_int (fun _ _=>rfl)) (za (w_pv 6) w_pa_nil))))))) ?_
  refine fun pk hpk=>?_
  have n1:=Same.new (o:=HO.dK []) hpk
  refine⟨_,rfl,_,rfl,_,rfl,_,rfl,_,rfl,l,[],rfl,SqL.of (n1 _ _ hl),_,rfl,l,_,rfl,.inl (SqL.of (n1 _ _ hl)),upd_same,[(ky "worth",.int worth),(ky "me",.int hand),(ky "round",.int turn),(ky "lines",.int lines),(ky "sum",.int 0),(ky "count",.int 0)],rfl,(by show 6≤15;decide),?_⟩
  generalize hE:L2.upd (L2.upd H pk _) pk _=H2
  have F2:H2 pk=some (.dK [(ky "worth",.int worth),(ky "me",.int hand),(ky "round",.int turn),(ky "lines",.int lines),(ky "sum",.int 0),(ky "count",.int 0)]):=by
   rw[← hE]
   exact upd_same
  have y2:Same H H2:=fun b o e=>by
   have hb:=ne_of_none e hpk
   rw[← hE,ze hb,ze hb]
   exact e
  clear hE
  refine⟨_,rfl,pk,rfl,.inl ⟨_,.inl F2⟩,fun pe hpe=>?_⟩
  have nke:pk≠pe:=ne_of_none F2 hpe
  generalize hE:L2.upd H2 pe _=H3
  obtain⟨F3,y3⟩:=al hE hpe
  clear hE
  have l3:=(y2.trans y3) _ _ hl
  refine⟨_,rfl,l,[],rfl,SqL.of l3,by decide,fun p1 ms hp1 pm pw=>?_⟩
  cases pm.eq_nil
  generalize hE:L2.upd H3 p1 _=H4
  obtain⟨F4,y4⟩:=al hE hp1
  clear hE
  refine⟨(by show 1≤sizeLine;decide),fun p2 hp2=>?_⟩
  generalize hE:L2.upd H4 p2 _=H5
  obtain⟨F5,y5⟩:=al hE hp2
  clear hE
  refine⟨p1,p2,[],[.int 0],rfl,rfl,y5 _ _ F4,F5,(by show 1≤sizeLine;decide),fun p3 hp3=>?_⟩
  generalize hE:L2.upd H5 p3 _=H6
  obtain⟨F6,y6⟩:=al hE hp3
  clear hE
  have l6:=(y4.trans (y5.trans y6)) _ _ l3
  refine⟨p3,_,0,_,rfl,rfl,SqL.of F6,rfl,_,rfl,l,[],rfl,SqL.of l6,by decide,fun p4 ms hp4 pm pw=>?_⟩
  cases pm.eq_nil
  generalize hE:L2.upd H6 p4 _=H7
  obtain⟨F7,y7⟩:=al hE hp4
  clear hE
  refine⟨_,rfl,rfl,p4,_,rfl,SqL.of F7,fun p5 hp5=>?_⟩
  generalize hE:L2.upd H7 p5 _=H8
  obtain⟨F8,y8⟩:=al hE hp5
  clear hE
  refine⟨(by show 1≤sizeLine;decide),fun p6 hp6=>?_⟩
  generalize hE:L2.upd H8 p6 _=H9
  obtain⟨F9,y9⟩:=al hE hp6
  clear hE
  refine⟨p5,p6,[],[.int 0],rfl,rfl,y9 _ _ F8,F9,(by show 1≤sizeLine;decide),fun p7 hp7=>?_⟩
  generalize hE:L2.upd H9 p7 _=H10
  obtain⟨F10,y10⟩:=al hE hp7
  clear hE
  have Y:Same H3 H10:=((y4.trans (y5.trans y6)).trans (y7.trans y8)).trans (y9.trans y10)
  refine⟨p7,_,0,_,rfl,rfl,SqL.of F10,rfl,Y _ _ F3,[(ky "least",.int 0),(ky "most",.int 0)],rfl,(by show 2≤15;decide),pe,_,_,rfl,nke,(ze nke).trans ((y3.trans Y) _ _ F2),upd_same,(by show 6+2≤1000;decide),?_⟩
  generalize hE:L2.upd (L2.upd H10 pe _) pk _=H11
  have F11:H11 pk=some (.dK [(ky "worth",.int worth),(ky "me",.int hand),(ky "round",.int turn),(ky "lines",.int lines),(ky "sum",.int 0),(ky "count",.int 0),(ky "least",.int 0),(ky "most",.int 0)]):=by
   rw[← hE]
   exact upd_same
  have y11:Same H H11:=fun b o e=>by
   rw[← hE,ze (ne_of_none e hpk),ze (ne_of_none (y2 _ _ e) hpe)]
   exact(y2.trans (y3.trans Y)) _ _ e
  clear hE
  refine⟨_,rfl,q,_,3,_,rfl,rfl,SqT.of (y11 _ _ hq),rfl,_,rfl,e,v4,pk,_,zR,rfl,t4.same y11,d4,o4,F11,?_,fun G s12=>?_⟩
  ·intro x hx
   simp only[List.mem_cons,List.not_mem_nil,or_false] at hx
   rcases hx with rfl | rfl | rfl | rfl | rfl | rfl | rfl | rfl<;>exact⟨_,rfl⟩
  ·have k1:=k _ (y11.trans s12)
   rw[Ex.val_congr (ρ':=rho [(ky "worth",.int worth),(ky "me",.int hand),(ky "round",.int turn),(ky "lines",.int lines),(ky "sum",.int 0),(ky "count",.int 0),(ky "least",.int 0),(ky "most",.int 0)]) (fun x hx=>?_) o4] at k1
   ·exact k1
   ·simp only[List.mem_cons,List.not_mem_nil,or_false] at hx
    rcases hx with rfl | rfl | rfl | rfl | rfl | rfl | rfl | rfl<;>rfl
structure Hs (hs:LI):Prop where
 l1:1≤hs.length
 l12:hs.length≤12
 up:hs.Pairwise (· < ·)
 lo:∀ h∈hs,0≤h
 hi:∀ h∈hs,h≤99
theorem Y6 {as:LI}(h:as.Pairwise (· < ·)):as.Nodup:=h.imp fun {a b} z=>by omega
section
variable {κ:Type} [DecidableEq κ]
theorem xv {kvs:List (κ×V)}{k:κ}:(yL kvs k).isSome=decide (k∈kvs.map (·.1)):=by
 rw[← xj]
 by_cases h:k∈kvs.map (·.1)
 ·rw[decide_eq_true h,List.any_eq_true]
  obtain⟨p,hp,rfl⟩:=List.mem_map.mp h
  exact⟨p,hp,decide_eq_true rfl⟩
 ·rw[decide_eq_false h,List.any_eq_false]
  intro p hp e
  exact h (List.mem_map.mpr ⟨p,hp,of_decide_eq_true e⟩)
theorem valV_yes {kvs:List (κ×V)}{k:κ}(h:k∈kvs.map (·.1)):(yL kvs k).isSome=true:=by rw[xv];exact decide_eq_true h
theorem xw {kvs:List (κ×V)}{k:κ}(h:k∉kvs.map (·.1)):(yL kvs k).isSome=false:=by rw[xv];exact decide_eq_false h
theorem putK_new {kvs:List (κ×V)}{k:κ}{v:V}(h:k∉kvs.map (·.1)):putK kvs k v=kvs++[(k,v)]:=by
 unfold putK
 rw[if_neg]
 rw[xj,xv,decide_eq_true_iff]
 exact h
end
theorem zaB {α:Type}{xs:List α}{i:Nat}{x:α}(h:xs.Nodup) (e:xs[i]?=some x):x∉xs.take i:=by
 intro m
 obtain⟨j,hj,ej⟩:=List.getElem_of_mem m
 obtain⟨hi,ei⟩:=List.getElem?_eq_some_iff.mp e
 rw[List.getElem_take] at ej
 rw[List.length_take] at hj
 have:=(List.nodup_iff_pairwise_ne.mp h)
 exact List.pairwise_iff_getElem.mp this j i (by omega) hi (by omega) (ej.trans ei.symm)
def tab (ad:Int→Addr) (us:LI):List (Key×V):=us.map fun h=>(Sum.inl h,V.ref (ad h))
theorem Y7 {ad:Int→Addr}{us:LI}:(tab ad us).map (·.1)=us.map Sum.inl:=by
 unfold tab;rw[List.map_map];rfl
theorem Wa {ad:Int→Addr}{x:Int}:∀ {us:LI},x∈us→yL (tab ad us) (Sum.inl x:Key)=some (V.ref (ad x))
 |u::us,h=>by
  show yL ((Sum.inl u,V.ref (ad u))::tab ad us) _=_
  by_cases e:u=x
  ·subst e;rw[yH rfl]
  ·rw[yJ (fun z=>e (by injection z)),Wa]
   rcases List.mem_cons.mp h with z | z
   ·exact absurd z.symm e
   ·exact z
theorem Zh {H:Hp}{d:Addr}{ad:Int→Addr}{us:LI}{x:Int}(e:H d=some (.dK (tab ad us))) (h:x∈us):DGet H d (V.int x) (some (V.ref (ad x))):=by
 have:=DGet.k (k:=Sum.inl x) e
 rw[Wa h] at this
 exact this
theorem xK {x:Int}{us:LI}:(Sum.inl x:Key)∈us.map (Sum.inl:Int→Key)↔x∈us:=by
 rw[List.mem_map]
 exact⟨fun⟨y,h,e⟩=>by injection e with e;exact e ▸ h,fun h=>⟨x,h,rfl⟩⟩
def ztu (ad:Int→Addr) (y:Int) (p:Addr):Int→Addr:=fun x=>if x=y then p else ad x
theorem ZI {ad:Int→Addr}{x y:Int}{p:Addr}(e:x=y):ztu ad y p x=p:=if_pos e
theorem ZH {ad:Int→Addr}{x y:Int}{p:Addr}(e:¬ x=y):ztu ad y p x=ad x:=if_neg e
def ZA:Sp:=fun vs H Q _=>∃ (h:Addr) (hs:LI),vs=[.ref h]∧H h=some (.lst (hs.map V.int))∧Hs hs∧Q (.bl true) H
theorem Xr (T:Txt w K mg a):FnOk P w K mg base CX0 2 a.f_qi a.d_qi ["hands"] ZA:=by
 have c_qa:Callee P w K mg base "is_whole" a.f_qa a.d_qa ["value"] 1 (v8 K whole):=⟨zE T,T.g_qa,T.F_qa.kp,T.b_qa⟩
 refine T.F_qi.ok sc_qi (fun vs H Q E h=>?_) (fun cdv A outer s H vs Q E hr h=>?_)
 ·obtain⟨h,hs,rfl,_⟩:=h
  rfl
 ·obtain⟨h,hs,rfl,hh,W,k⟩:=h
  have w1:=W.l1
  have w12:=W.l12
  refine zv (w_pss_cons (w_ps_if (w_pt (w_pw_or (zy (zo (w_pe_callB zJ (by rfl) T.n_isinstance zm (za (w_pv 0) (za (zT T.n_list yS) w_pa_nil))))) (w_pw_or (w_pt_cmpR Xl (w_pe_callB zw (by rfl) T.n_len ym (za (w_pv 0) w_pa_nil)) w_pe_int (zq _)) (zD (w_pt_cmpR uD (w_pe_callB zw (by rfl) T.n_len ym (za (w_pv 0) w_pa_nil)) (zL (v:=.int 12) rfl T.g_MOST_HANDS ⟨_,rfl⟩) (zq _))))))
    (w_pss_one (w_ps_ret zn))
    zg)
   (w_pss_cons (zl (i:=1) sc_qi.nd rfl (Or.inl rfl) (vo Zf w_pe_int))
   (w_pss_cons (zO PassesOwn.never rfl (zC (w_pv 0)) (zr (i:=2) sc_qi.nd rfl (Or.inl rfl))
    (w_pss_cons (w_ps_if (w_pt (w_pw_or (zy (zo (zk c_qa hr.m (za (w_pv 2) w_pa_nil)))) (w_pw_or (w_pt_cmpR UE (w_pv 2) (w_pv 1) (zq _)) (zD (w_pt_cmpR uD (w_pv 2) (zL (v:=.int 99) rfl T.g_LAST_HAND ⟨_,rfl⟩) (zq _))))))
     (w_pss_one (w_ps_ret zn))
     zg)
    (w_pss_one (zl (i:=1) sc_qi.nd rfl (Or.inl rfl) (w_pv 2)))))
   (w_pss_one (w_ps_ret zn))))) ?_
  refine⟨_,rfl,_,_,_,_,_,rfl,rfl,.lst hh,T.k_tlist_tlist,_,rfl,zG rfl ?_⟩
  refine⟨_,rfl,h,_,rfl,.inl (SqL.of hh),_,_,rfl,rfl,_,rfl,zG (decide_eq_false (by rw[List.length_map];omega)) ?_⟩
  refine⟨_,rfl,h,_,rfl,.inl (SqL.of hh),_,_,rfl,rfl,_,rfl,zG (decide_eq_false (by rw[List.length_map];omega)) ?_⟩
  refine⟨1,rfl,_,rfl,h,rfl,⟨_,SqL.of hh⟩,?_⟩
  refine zX (K:=K) (a:=h) (xs:=hs.map V.int) (fun i σ H'=>H'=H∧∃ (m:Int) (o:Option V),σ=[some (.ref h),some (.int m),o]∧-1≤m∧∀ j x,i≤j→hs[j]?=some x→m<x) ?_ ?_ ?_ ?_
  ·refine⟨rfl,-1,none,rfl,Int.le_refl _,fun j x _ hx=>?_⟩
   have:=W.lo x (List.mem_of_getElem? hx)
   omega
  ·rintro i σ H' _ ⟨rfl,_⟩
   exact SqL.of hh
  ·rintro i x σ H' hi ⟨rfl,m,o,rfl,hm,hall⟩
   rw[List.getElem?_map] at hi
   obtain⟨y,hy,rfl⟩:=Option.map_eq_some_iff.mp hi
   have y1:=hall i y (Nat.le_refl _) hy
   have y2:=W.hi y (List.mem_of_getElem? hy)
   refine⟨_,rfl,_,rfl,lf_int T y,_,rfl,zG rfl ?_⟩
   refine⟨_,rfl,_,rfl,_,_,rfl,rfl,_,rfl,zG (decide_eq_false (by omega)) ?_⟩
   refine⟨_,rfl,_,_,rfl,rfl,_,rfl,zG (decide_eq_false (by omega)) ?_⟩
   refine⟨_,rfl,rfl,y,_,rfl,by omega,fun j z hj hz=>?_⟩
   have hlt:i<j:=by omega
   obtain⟨b1,e1⟩:=List.getElem?_eq_some_iff.mp hy
   obtain⟨b2,e2⟩:=List.getElem?_eq_some_iff.mp hz
   rw[← e1,← e2]
   exact List.pairwise_iff_getElem.mp W.up i j b1 b2 hlt
  ·rintro σ H' ⟨rfl,_⟩
   exact k
theorem no_fn {k:Nat}{f:Addr}{fd:FuncData}{ps:List Str}:FnOk P w K mg base CX0 k f fd ps (fun _ _ _ _=>False):=⟨fun _ _ _ _ h=>h.elim,fun _ _ _ _ _ _ _ _ _ _ _ _ _ h=>h.elim⟩
def Zz:Sp:=fun vs H Q _=>∃ l h:Addr,vs=[.ref l,.ref h]∧H l=some (.lst [])∧∀ H',Same H H'→Q (.bl true) H'
theorem Xp (T:Txt w K mg a):FnOk P w K mg base CX0 3 a.f_qk a.d_qk ["lines", "hands"] Zz:=by
 have c_qj:Callee P w K mg base "is_line" a.f_qj a.d_qj ["line", "hands"] 2 (fun _ _ _ _=>False):=⟨no_fn,T.g_qj,T.F_qj.kp,T.b_qj⟩
 refine T.F_qk.ok sc_qk (fun vs H Q E h=>?_) (fun cdv A outer s H vs Q E hr h=>?_)
 ·obtain⟨l,h,rfl,_⟩:=h
  rfl
 ·obtain⟨l,h,rfl,hl,k⟩:=h
  have hu:=yi hr
  refine zv (w_pss_cons (w_ps_if (zy (zo (w_pe_callB zJ (by rfl) T.n_isinstance zm (za (w_pv 0) (za (zT T.n_list yS) w_pa_nil)))))
    (w_pss_one (w_ps_ret zn))
    zg)
   (w_pss_cons (zl (i:=2) sc_qk.nd rfl (Or.inl rfl) uA)
   (w_pss_cons (zO PassesOwn.never rfl (zC (w_pv 0)) (zr (i:=3) sc_qk.nd rfl (Or.inl rfl))
    (w_pss_cons (w_ps_if (w_pt (w_pw_or (zy (zo (zk c_qj hr.m (za (w_pv 3) (za (w_pv 1) w_pa_nil))))) (zD (zV (yG hu (w_pv 3) (w_pv 2))))))
     (w_pss_one (w_ps_ret zn))
     zg)
    (w_pss_one (w_ps_dput hu (w_pv 2) (w_pv 3) zn rfl))))
   (w_pss_one (w_ps_ret zn))))) ?_
  refine⟨_,rfl,_,_,_,_,_,rfl,rfl,.lst hl,T.k_tlist_tlist,_,rfl,zG rfl ?_⟩
  refine fun d hd=>?_
  have s1:=Same.new (o:=HO.dT []) hd
  refine⟨_,rfl,l,rfl,⟨_,SqL.of (s1 _ _ hl)⟩,?_⟩
  refine zX (K:=K) (a:=l) (xs:=[]) (fun i σ H'=>Same H H') s1 (fun i σ H' _ sm=>SqL.of (sm _ _ hl)) (fun i x σ H' hi=>nomatch hi) fun σ H' sm=>?_
  exact k _ sm
def Wl:Sp:=fun vs H Q _=>∃ (h l:Addr) (hs:LI),vs=[.ref h,.ref l]∧H h=some (.lst (hs.map V.int))∧H l=some (.lst [])∧Hs hs ∧
 ∀ (d:Addr) (ad:Int→Addr) H',Same H H'→H' d=some (.dK (tab ad hs))→(∀ x∈hs,H' (ad x)=some (.lst []))→Q (.ref d) H'
theorem UL (T:Txt w K mg a):FnOk P w K mg base CX0 1 a.f_ql a.d_ql ["hands", "lines"] Wl:=by
 refine T.F_ql.ok sc_ql (fun vs H Q E h=>?_) (fun cdv A outer s H vs Q E hr h=>?_)
 ·obtain⟨h,l,hs,rfl,_⟩:=h
  rfl
 ·obtain⟨h,l,hs,rfl,hh,hl,W,k⟩:=h
  have l12:=W.l12
  have hu:=yi hr
  refine zv (w_pss_cons (zl (i:=2) sc_ql.nd rfl (Or.inl rfl) w_pe_dnewK)
   (w_pss_cons (zO PassesOwn.never rfl (zC (w_pv 0)) (zr (i:=3) sc_ql.nd rfl (Or.inl rfl))
    (w_pss_one (w_ps_dput hu (w_pv 2) (w_pv 3) (zh w_pa_nil) rfl)))
   (w_pss_cons (zO PassesOwn.never rfl (zC (w_pv 1)) (yT rfl (zH (zr (i:=4) sc_ql.nd rfl (Or.inl rfl)) (zH (zr (i:=5) sc_ql.nd rfl (Or.inl rfl)) yz)))
    (w_pss_cons (w_ps_expr (yb PySem.F.plainAttrs_list PySem.F.slot_list_append PySem.F.type_list_append yf (w_pe_dget hu (w_pv 2) (w_pv 4) (fun _ _=>rfl)) (za (w_pv 5) w_pa_nil)))
    (w_pss_one (w_ps_expr (yb PySem.F.plainAttrs_list PySem.F.slot_list_append PySem.F.type_list_append yf (w_pe_dget hu (w_pv 2) (w_pv 5) (fun _ _=>rfl)) (za (w_pv 4) w_pa_nil))))))
   (w_pss_one (w_ps_ret (w_pv 2)))))) ?_
  refine fun d hd=>?_
  refine⟨_,rfl,h,rfl,⟨_,SqL.of (Same.new hd _ _ hh)⟩,?_⟩
  refine zX (K:=K) (a:=h) (xs:=hs.map V.int) (fun i σ H'=>∃ (ad:Int→Addr) (o:Option V),σ=[some (.ref h),some (.ref l),some (.ref d),o,none,none]∧H' d=some (.dK (tab ad (hs.take i)))∧(∀ x∈hs.take i,H' (ad x)=some (.lst []))∧Same H H') ?_ ?_ ?_ ?_
  ·exact⟨fun _=>0,none,rfl,upd_same,fun x hx=>by simp at hx,Same.new hd⟩
  ·rintro i σ H' _ ⟨ad,o,_,_,_,sm⟩
   exact SqL.of (sm _ _ hh)
  ·rintro i x σ H' hi ⟨ad,o,rfl,hd',hat,sm⟩
   rw[List.getElem?_map] at hi
   obtain⟨y,hy,rfl⟩:=Option.map_eq_some_iff.mp hi
   have hnew:y∉hs.take i:=zaB (Y6 W.up) hy
   refine⟨(by show 0≤sizeLine;decide),fun p hp=>?_⟩
   have hpd:p≠d:=fun z=>by rw[z,hd'] at hp;cases hp
   have hd2:(upd H' p (.lst [])) d=some (.dK (tab ad (hs.take i))):=by rw[ze hpd.symm];exact hd'
   refine⟨_,rfl,_,rfl,d,_,rfl,DPut.k (k:=Sum.inl y) hd2 (zB ?_),?_⟩
   ·unfold tab
    rw[List.length_map,List.length_take];omega
   ·have et:hs.take (i+1)=hs.take i++[y]:=by rw[List.take_add_one,hy];rfl
    have hp0:H p=none:=sm.free hp
    refine⟨ztu ad y p,_,rfl,?_,?_,(sm.updF hp0).updF hd⟩
    ·rw[upd_same,K04.putK_new (by rw[Y7,xK];exact hnew),et]
     unfold tab
     rw[List.map_append,List.map_singleton,ZI rfl]
     congr 3
     refine List.map_congr_left fun z hz=>?_
     rw[ZH (fun e:z=y=>hnew (e ▸ hz))]
    ·intro z hz
     rw[et] at hz
     rcases List.mem_append.mp hz with hz | hz
     ·have e1:=hat z hz
      rw[ZH (fun e:z=y=>hnew (e ▸ hz)),ze (fun e=>by rw[e,hd'] at e1;cases e1),ze (fun e=>by rw[e,hp] at e1;cases e1)]
      exact e1
     ·rw[List.mem_singleton.mp hz,ZI rfl,ze hpd]
      exact upd_same
  ·rintro σ H' ⟨ad,o,rfl,hd',hat,sm⟩
   rw[List.length_map,List.take_length] at hd' hat
   refine⟨_,rfl,l,rfl,⟨_,SqL.of (sm _ _ hl)⟩,?_⟩
   refine zX (K:=K) (a:=l) (xs:=[]) (fun i σ' H2=>H2=H'∧σ'=[some (.ref h),some (.ref l),some (.ref d),o,none,none]) ⟨rfl,rfl⟩ (fun i σ' H2 _ e=>by rw[e.1];exact SqL.of (sm _ _ hl)) (fun i x σ H' hi=>nomatch hi) ?_
   rintro σ' H2 ⟨rfl,rfl⟩
   exact⟨_,rfl,k d ad _ sm hd' hat⟩
structure WebAt (a:Ad) (H:Hp) (p:Addr) (hs:LI) (dx oh ol d:Addr) (ad:Int→Addr):Prop where
 p:H p=some (.ins a.c_Web dx [("own_hands",.ref oh),("own_lines",.ref ol),("near",.ref d)])
 oh:H oh=some (.lst (hs.map V.int))
 d:H d=some (.dK (tab ad hs))
 nb:∀ x∈hs,H (ad x)=some (.lst [])
theorem WebAt.same {H H':Hp}{p dx oh ol d:Addr}{hs:LI}{ad:Int→Addr}(w:WebAt a H p hs dx oh ol d ad) (s:Same H H'):WebAt a H' p hs dx oh ol d ad:=⟨s _ _ w.p,s _ _ w.oh,s _ _ w.d,fun x hx=>s _ _ (w.nb x hx)⟩
def znp (a:Ad):Sp:=fun vs H Q _=>∃ (p dx h l:Addr) (hs:LI),vs=[.ref p,.ref h,.ref l]∧H p=some (.ins a.c_Web dx [])∧H h=some (.lst (hs.map V.int))∧H l=some (.lst [])∧Hs hs ∧
 ∀ (oh ol d:Addr) (ad:Int→Addr) H',Ext p H H'→WebAt a H' p hs dx oh ol d ad→Q .non H'
theorem znY (T:Txt w K mg a):FnOk P w K mg base CX0 4 a.f_qb0 a.d_qb0 ["self", "hands", "lines"] (znp a):=by
 have c_qi:Callee P w K mg base "are_hands" a.f_qi a.d_qi ["hands"] 2 ZA:=⟨Xr T,T.g_qi,T.F_qi.kp,T.b_qi⟩
 have c_qk:Callee P w K mg base "are_lines" a.f_qk a.d_qk ["lines", "hands"] 3 Zz:=⟨Xp T,T.g_qk,T.F_qk.kp,T.b_qk⟩
 have c_ql:Callee P w K mg base "near_by_hand" a.f_ql a.d_ql ["hands", "lines"] 1 Wl:=⟨UL T,T.g_ql,T.F_ql.kp,T.b_ql⟩
 refine T.F_qb0.ok znA (fun vs H Q E h=>?_) (fun cdv A outer s H vs Q E hr h=>?_)
 ·obtain⟨p,dx,h,l,hs,rfl,_⟩:=h
  rfl
 ·obtain⟨p,dx,h,l,hs,rfl,hp,hh,hl,W,k⟩:=h
  have np:∀ {b:Addr}{xs:List V},H b=some (.lst xs)→b≠p:=fun e z=>by rw[z,hp] at e;cases e
  refine zv (w_pss_cons (w_ps_if (zy (zo (zk c_qi hr.m (za (w_pv 1) w_pa_nil))))
    (w_pss_one zK)
    zg)
   (w_pss_cons (w_ps_if (zy (zo (zk c_qk hr.m (za (w_pv 2) (za (w_pv 1) w_pa_nil)))))
    (w_pss_one zK)
    zg)
   (w_pss_cons (w_ps_fld (w_pv 0) (zz yk (by rfl) T.n_list yS (za (w_pv 1) w_pa_nil)) rfl)
   (w_pss_cons (w_ps_fld (w_pv 0) (w_pe_callB zN (by rfl) T.n_sorted zM (za (w_pv 2) w_pa_nil)) rfl)
   (w_pss_one (w_ps_fld (w_pv 0) (zk c_ql hr.m (za (w_pv 1) (za (w_pv 2) w_pa_nil))) rfl)))))) ?_
  refine⟨_,rfl,h,hs,rfl,hh,W,_,rfl,zG rfl ?_⟩
  refine⟨_,rfl,_,rfl,l,h,rfl,hl,fun H1 s1=>⟨_,rfl,zG rfl ?_⟩⟩
  refine⟨_,rfl,h,_,rfl,.inl (SqL.of (s1 _ _ hh)),fun oh hoh=>?_⟩
  have ohp:oh≠p:=fun z=>by rw[z,s1 _ _ hp] at hoh;cases hoh
  refine⟨_,rfl,p,a.c_Web,dx,_,rfl,(ze ohp.symm).trans (s1 _ _ hp),T.cl_Web,T.na_Web_own_hands,(by show 0<1000;decide),?_⟩
  have x3:=((Ext.same (l:=p) s1).trans (Ext.new (l:=p) (o:=.lst (hs.map V.int)) hoh)).trans (Ext.at (l:=p) (o:=.ins a.c_Web dx [("own_hands",.ref oh)]))
  refine⟨_,rfl,l,[],rfl,SqL.of (x3 _ _ hl (np hl)),by decide,fun ol ms hol pm up=>?_⟩
  cases pm.eq_nil
  have olp:ol≠p:=fun z=>by rw[z,upd_same] at hol;cases hol
  refine⟨_,rfl,p,a.c_Web,dx,_,rfl,(ze olp.symm).trans upd_same,T.cl_Web,T.na_Web_own_lines,(by show 1<1000;decide),?_⟩
  have x35:=(Ext.new (l:=p) (o:=.lst []) hol).trans (Ext.at (l:=p) (o:=.ins a.c_Web dx [("own_hands",.ref oh),("own_lines",.ref ol)]))
  have x5:=x3.trans x35
  refine⟨_,rfl,_,rfl,h,l,hs,rfl,x5 _ _ hh (np hh),x5 _ _ hl (np hl),W,fun d ad H6 s6 hd had=>?_⟩
  have hp6:=s6 _ _ (upd_same (a:=p))
  refine⟨_,rfl,p,a.c_Web,dx,_,rfl,hp6,T.cl_Web,T.na_Web_near,(by show 2<1000;decide),?_⟩
  refine k oh ol d ad _ ((x5.trans (Ext.same s6)).trans Ext.at) ⟨upd_same,?_,?_,fun x hx=>?_⟩
  ·rw[ze ohp]
   exact s6 _ _ (x35 _ _ ((ze ohp).trans upd_same) ohp)
  ·rw[ze (fun z=>by rw[z,hp6] at hd;cases hd)]
   exact hd
  ·have e:=had x hx
   rw[ze (fun z=>by rw[z,hp6] at e;cases e)]
   exact e
def zsT (a:Ad):Sp:=fun vs H Q _=>∃ (p:Addr) (x:Int) (hs:LI) (dx oh ol d:Addr) (ad:Int→Addr),vs=[.ref p,.int x]∧WebAt a H p hs dx oh ol d ad∧x∈hs∧Q (.bl true) H
theorem zn3 (T:Txt w K mg a):FnOk P w K mg base CX0 2 a.f_qb3 a.d_qb3 ["self", "hand"] (zsT a):=by
 have c_qa:Callee P w K mg base "is_whole" a.f_qa a.d_qa ["value"] 1 (v8 K whole):=⟨zE T,T.g_qa,T.F_qa.kp,T.b_qa⟩
 refine T.F_qb3.ok zny (fun vs H Q E h=>?_) (fun cdv A outer s H vs Q E hr h=>?_)
 ·obtain⟨p,x,hs,dx,oh,ol,d,ad,rfl,_⟩:=h
  rfl
 ·obtain⟨p,x,hs,dx,oh,ol,d,ad,rfl,W,hx,k⟩:=h
  have hu:=yi hr
  refine zv (w_pss_one (w_ps_ret (zW (zk c_qa hr.m (za (w_pv 1) w_pa_nil)) (yj (vY (yG hu (w_pv 1) (zd (w_pv 0) rfl))))))) ?_
  refine⟨_,rfl,_,rfl,lf_int T x,_,rfl,Yi ?_⟩
  exact⟨_,rfl,_,rfl,p,_,dx,_,_,rfl,W.p,T.cl_Web,T.na_Web_near,rfl,d,some (V.ref (ad x)),rfl,Zh W.d hx,k⟩
def Xb (a:Ad):Sp:=fun vs H Q _=>∃ (p:Addr) (hs:LI) (dx oh ol d:Addr) (ad:Int→Addr),vs=[.ref p]∧WebAt a H p hs dx oh ol d ad∧∀ q,H q=none→Q (.ref q) (upd H q (.lst (hs.map V.int)))
theorem ZQ (T:Txt w K mg a):FnOk P w K mg base CX0 1 a.f_qb1 a.d_qb1 ["self"] (Xb a):=by
 refine T.F_qb1.ok znz (fun vs H Q E h=>?_) (fun cdv A outer s H vs Q E hr h=>?_)
 ·obtain⟨p,hs,dx,oh,ol,d,ad,rfl,_⟩:=h
  rfl
 ·obtain⟨p,hs,dx,oh,ol,d,ad,rfl,W,k⟩:=h
  refine zv (w_pss_one (w_ps_ret (zz yk (by rfl) T.n_list yS (zb (zd (w_pv 0) rfl) w_pa_nil)))) ?_
  exact⟨_,rfl,p,_,dx,_,_,rfl,W.p,T.cl_Web,T.na_Web_own_hands,rfl,oh,_,rfl,.inl (SqL.of W.oh),k⟩
def zGF (a:Ad):Sp:=fun vs H Q _=>∃ (p:Addr) (x:Int) (hs:LI) (dx oh ol d:Addr) (ad:Int→Addr),vs=[.ref p,.int x]∧WebAt a H p hs dx oh ol d ad∧x∈hs∧∀ (q:Addr),H q=none→Q (.ref q) (upd H q (.lst []))
theorem ztE (T:Txt w K mg a):FnOk P w K mg base CX0 3 a.f_qb4 a.d_qb4 ["self", "hand"] (zGF a):=by
 refine T.F_qb4.ok znx (fun vs H Q E h=>?_) (fun cdv A outer s H vs Q E hr h=>?_)
 ·obtain⟨p,x,hs,dx,oh,ol,d,ad,rfl,_⟩:=h
  rfl
 ·obtain⟨p,x,hs,dx,oh,ol,d,ad,rfl,W,hx,k⟩:=h
  have hu:=yi hr
  refine zv (w_pss_cons (w_ps_if (zy (zo (zi (w_pv 0) (za (w_pv 1) w_pa_nil))))
    (w_pss_one zK)
    zg)
   (w_pss_one (w_ps_ret (w_pe_callB zN (by rfl) T.n_sorted zM (zb (w_pe_dget hu (zd (w_pv 0) rfl) (w_pv 1) (fun _ _=>rfl)) w_pa_nil))))) ?_
  refine⟨_,rfl,p,_,dx,_,_,_,_,_,_,rfl,W.p,rfl,T.cl_Web,T.mt_qb3,zn3 (P:=P) (w:=w) T,hr.m,T.b_qb3,_,rfl,p,x,hs,dx,oh,ol,d,ad,rfl,W,hx,_,rfl,zG rfl ?_⟩
  refine⟨_,rfl,p,_,dx,_,_,rfl,W.p,T.cl_Web,T.na_Web_near,rfl,_,rfl,d,V.ref (ad x),rfl,Zh W.d hx,ad x,[],rfl,SqL.of (W.nb x hx),by decide,fun q ms hq pm sd=>?_⟩
  cases pm.eq_nil
  exact k q hq
theorem X1 {τ:St}{H:Hp}{A B:Hp→Prop}(h:A H):zrI τ H (fun b H5=>if b=true then A H5 else B H5):=by
 show(if true=true then A H else B H)
 rw[if_pos rfl]
 exact h
theorem uZ {x:Int}{v y:V}{H H':Hp}(h:yI (Sum.inl x,v) y H H'):∃ p,H p=none∧y=.ref p∧H'=upd H p (.tup [.int x,v]):=h
theorem merge_app:∀ {kvs acc:List (Key×V)},((acc++kvs).map (·.1)).Nodup→mergeK acc kvs=acc++kvs
 |[],acc,_=>by simp[mergeK]
 |kv::kvs,acc,h=>by
  have hn:kv.1∉acc.map (·.1):=by
   rw[List.map_append,List.nodup_append] at h
   intro z
   exact h.2.2 _ z _ (by simp) rfl
  show mergeK (putK acc kv.1 kv.2) kvs=_
  rw[putK_new hn,merge_app (by simpa using h)]
  simp
theorem ug {kvs:List (Key×V)}(h:(kvs.map (·.1)).Nodup):mergeK [] kvs=kvs:=by
 have:=merge_app (kvs:=kvs) (acc:=[]) (by simpa using h)
 simpa using this
theorem Vj {us:LI}(h:us.Nodup):(us.map (Sum.inl:Int→Key)).Nodup:=by
 rw[List.nodup_iff_pairwise_ne,List.pairwise_map]
 exact(List.nodup_iff_pairwise_ne.mp h).imp fun {a b} n z=>n (by injection z)
def tabN (us:LI):List (Key×V):=us.map fun x=>(Sum.inl x,V.non)
theorem tabN_len {us:LI}:(tabN us).length=us.length:=List.length_map _
theorem wJ {us:LI}:(tabN us).map (·.1)=us.map Sum.inl:=by
 unfold tabN;rw[List.map_map];rfl
theorem vv {us:LI}{i:Nat}{kv:Key×V}(h:(tabN us)[i]?=some kv):∃ x,us[i]?=some x∧kv=(Sum.inl x,.non):=by
 unfold tabN at h
 rw[List.getElem?_map] at h
 obtain⟨x,h1,h2⟩:=Option.map_eq_some_iff.mp h
 exact⟨x,h1,h2.symm⟩
def CpV (H:Hp) (n:Nat) (v:V) (Q:V→Hp→Prop):Prop :=
 (1≤n∧v=.non∧Q .non H) ∨
 (1≤n∧∃ l:Addr,v=.ref l∧H l=some (.lst [])∧∀ (l':Addr) (H':Hp),H l'=none→H' l'=some (.lst [])→Same H H'→Q (.ref l') H') ∨
 (2≤n∧∃ (d:Addr) (us:LI),v=.ref d∧H d=some (.dK (tabN us))∧us.Nodup∧us.length≤12∧∀ (d':Addr) (H':Hp),H d'=none→H' d'=some (.dK (tabN us))→Same H H'→Q (.ref d') H')
def zpz (n:Nat):Sp:=fun vs H Q _=>∃ v,vs=[v]∧CpV H n v Q
theorem xC (T:Txt w K mg a):∀ n,FnOk P w K mg base CX0 (n+2) a.f_qb a.d_qb ["value"] (zpz n)
 |0=>⟨fun vs H Q E h=>by
   obtain⟨v,rfl,_⟩:=h
   rfl,fun A outer s H args us vs Q E _ _ _ _ h=>by
   obtain⟨v,_,h⟩:=h
   rcases h with⟨h,_⟩ | ⟨h,_⟩ | ⟨h,_⟩<;>omega⟩
 |n+1=>by
  have c_qb:Callee P w K mg base "copied" a.f_qb a.d_qb ["value"] (n+2) (zpz n):=⟨xC T n,T.g_qb,T.F_qb.kp,T.b_qb⟩
  refine T.F_qb.ok zs6 (fun vs H Q E h=>?_) (fun cdv A outer s H vs Q E hr h=>?_)
  ·obtain⟨v,rfl,_⟩:=h
   rfl
  ·obtain⟨v,rfl,h⟩:=h
   refine zv (w_pss_cons (w_ps_if (zo (w_pe_callB zJ (by rfl) T.n_isinstance zm (za (w_pv 0) (za (zT T.n_list yS) w_pa_nil))))
    (w_pss_one (w_ps_ret (ya rfl (N':=["each"]) (t:=1) (caps:=[]) ⟨rfl,rfl,rfl⟩ (zC (w_pv 0)) (fun _=>(zr (i:=0) (show(["each"]:List Str).Nodup by decide +kernel) rfl (Or.inl rfl))) (fun _=>zY) (fun _=>(zk c_qb hr.m (za (w_pv 0) w_pa_nil))))))
    zg)
   (w_pss_cons (w_ps_if (zo (w_pe_callB zJ (by rfl) T.n_isinstance zm (za (w_pv 0) (za (zT T.n_tuple uv) w_pa_nil))))
    (w_pss_one (w_ps_ret (zz wA (by rfl) T.n_tuple uv (zb (ya rfl (N':=["each"]) (t:=1) (caps:=[]) ⟨rfl,rfl,rfl⟩ (Y3 (w_pv 0)) (fun _=>(zr (i:=0) (show(["each"]:List Str).Nodup by decide +kernel) rfl (Or.inl rfl))) (fun _=>zY) (fun _=>(zk c_qb hr.m (za (w_pv 0) w_pa_nil)))) w_pa_nil))))
    zg)
   (w_pss_cons (w_ps_if (zo (w_pe_callB zJ (by rfl) T.n_isinstance zm (za (w_pv 0) (za (zT T.n_dict vR) w_pa_nil))))
    (w_pss_one (w_ps_ret (zz (we rfl) (by rfl) T.n_dict vR (zb (wG (ya rfl (N':=["key", "each"]) (t:=2) (caps:=[]) ⟨rfl,rfl,rfl⟩ (yN (w_pv 0)) (fun _=>(yT rfl (zH (zr (i:=0) (show(["key", "each"]:List Str).Nodup by decide +kernel) rfl (Or.inl rfl)) (zH (zr (i:=1) (show(["key", "each"]:List Str).Nodup by decide +kernel) rfl (Or.inl rfl)) yz)))) (fun _=>zY) (fun _=>(zx (za (w_pv 0) (zt (zk c_qb hr.m (za (w_pv 1) w_pa_nil)) w_pa_nil)))))) w_pa_nil))))
    zg)
   (w_pss_one (w_ps_ret (w_pv 0)))))) ?_
   rcases h with⟨_,rfl,k⟩ | ⟨_,l,rfl,hl,k⟩ | ⟨h2,d,us,rfl,hd,nd,l12,k⟩
   ·refine⟨_,rfl,_,_,_,_,_,rfl,rfl,.non,T.k_tNoneType_tlist,_,rfl,zG rfl ?_⟩
    refine⟨_,rfl,_,_,_,_,_,rfl,rfl,.non,T.k_tNoneType_ttuple,_,rfl,zG rfl ?_⟩
    refine⟨_,rfl,_,_,_,_,_,rfl,rfl,.non,T.k_tNoneType_tdict,_,rfl,zG rfl ?_⟩
    exact⟨_,rfl,k⟩
   ·refine⟨_,rfl,_,_,_,_,_,rfl,rfl,.lst hl,T.k_tlist_tlist,_,rfl,Yi ?_⟩
    refine⟨_,rfl,l,rfl,⟨_,SqL.of hl⟩,fun D hD _=>?_⟩
    refine yF (K:=K) (a:=l) (xs:=[]) (fun m zs τ H'=>zs=[]∧H'=upd H D (.lst [])) ⟨rfl,rfl⟩ ?_ (fun m v zs τ H' hi=>nomatch hi) ?_
    ·rintro m zs τ H' ⟨_,rfl⟩
     exact SqL.of (Same.new hD _ _ hl)
    ·rintro zs τ H' ⟨rfl,rfl⟩
     exact k D _ hD upd_same (Same.new hD)
   ·refine⟨_,rfl,_,_,_,_,_,rfl,rfl,.dK hd,T.k_tdict_tlist,_,rfl,zG rfl ?_⟩
    refine⟨_,rfl,_,_,_,_,_,rfl,rfl,.dK hd,T.k_tdict_ttuple,_,rfl,zG rfl ?_⟩
    refine⟨_,rfl,_,_,_,_,_,rfl,rfl,.dK hd,T.k_tdict_tdict,_,rfl,Yi ?_⟩
    refine⟨_,rfl,d,_,rfl,hd,fun od S D hD _=>?_⟩
    have hDd:D≠d:=fun z=>by rw[z,upd_same] at hD;cases hD
    generalize hG1:upd H d (HO.frz od (HO.dK (tabN us)))=G1 at *
    have hq1:G1 d=some (.frz od (.dK (tabN us))):=by rw[← hG1];exact upd_same
    have x1:Ext d H G1:=by rw[← hG1];exact Ext.at
    refine comp_view (yl:=yI) (d:=d) (od:=od) (kvs:=tabN us) (fun i zs τ G'=>∃ (o1 o2:Option V) (qs:List Addr),τ=[o1,o2]∧zs=qs.map V.ref∧qs.length=i∧(∀ (j:Nat) (p:Addr) (x:Int),qs[j]?=some p→us[j]?=some x→G' p=some (.tup [.int x,.non]))∧G' D=some (.lst zs)∧Same G1 G') ?_ ?_ ?_ ?_
    ·exact⟨none,none,[],rfl,rfl,rfl,fun j q x h=>by simp at h,upd_same,Same.new hD⟩
    ·rintro i zs τ G' ⟨o1,o2,qs,_,_,_,_,_,sm⟩
     exact sm _ _ hq1
    ·rintro i kv v zs τ G' G'' hkv ⟨o1,o2,qs,rfl,rfl,lq,hqs,hD',sm⟩ hy
     obtain⟨x,hx,rfl⟩:∃ x,us[i]?=some x∧kv=(Sum.inl x,.non):=by
      unfold tabN at hkv
      rw[List.getElem?_map] at hkv
      obtain⟨x,h1,h2⟩:=Option.map_eq_some_iff.mp hkv
      exact⟨x,h1,h2.symm⟩
     obtain⟨p0,hp0,rfl,rfl⟩:=uZ hy
     have hil:i<us.length:=(List.getElem?_eq_some_iff.mp hx).1
     have n1:=Same.new (o:=HO.tup [V.int x,.non]) hp0
     refine⟨p0,_,rfl,SqT.of upd_same,rfl,_,_,rfl,_,_,rfl,rfl,X1 ?_⟩
     refine⟨_,rfl,_,rfl,_,rfl,.inl ⟨by omega,rfl,(by show 2≤sizeLine;decide),fun pt hpt=>?_⟩⟩
     have n2:=Same.new (o:=HO.tup [V.int x,.non]) hpt
     have n12:=n1.trans n2
     have npt:pt≠D:=fun z=>by rw[z] at hpt;have:=n1 _ _ hD';rw[hpt] at this;cases this
     have hDF:=n12 _ _ hD'
     refine⟨hDF,by rw[List.length_map,lq];exact zB (by omega),some (.int x),some .non,qs++[pt],rfl,by simp,by simp[lq],fun j p y hj hy'=>?_,upd_same,?_⟩
     ·by_cases hji:j<i
      ·rw[List.getElem?_append_left (by omega)] at hj
       have h1:=n12 _ _ (hqs j p y hj hy')
       rw[ze (fun z=>by rw[z,hDF] at h1;cases h1)]
       exact h1
      ·rw[List.getElem?_append_right (by omega)] at hj
       have:j=i:=by
        have:=(List.getElem?_eq_some_iff.mp hj).1
        simp at this
        omega
       subst this
       rw[lq,Nat.sub_self] at hj
       cases hj
       rw[hx] at hy'
       cases hy'
       rw[ze npt]
       exact upd_same
     ·exact Same.updF (sm.trans n12) hD
    ·rintro zs τ G2 ⟨o1,o2,qs,rfl,rfl,lq,hqs,hD2,sm⟩
     refine .inr ⟨d,od,tabN us,S,sm _ _ hq1,?_⟩
     rw[tabN_len] at lq
     have sG3:Same H (upd G2 d (HO.dK (tabN us))):=fun b o e=>by
      by_cases z:b=d
      ·rw[z,hd] at e;cases e;rw[z];exact upd_same
      ·rw[ze z];exact sm _ _ (x1 _ _ e z)
     have hD3:(upd G2 d (HO.dK (tabN us))) D=some (.lst (qs.map V.ref)):=by rw[ze hDd];exact hD2
     have hq3:∀ (j:Nat) (p:Addr) (x:Int),qs[j]?=some p→us[j]?=some x→(upd G2 d (HO.dK (tabN us))) p=some (.tup [.int x,.non]):=fun j p x h1 h2=>by
      have h3:=hqs j p x h1 h2
      rw[ze (fun z=>by rw[z,sm _ _ hq1] at h3;cases h3)]
      exact h3
     generalize upd G2 d (HO.dK (tabN us))=G3 at *
     refine⟨D,qs,tabN us,rfl,hD3,by rw[tabN_len];exact lq,by rw[tabN_len];omega,fun i q kv h1 h2=>?_,fun d' hd'=>?_⟩
     ·unfold tabN at h2
      rw[List.getElem?_map] at h2
      obtain⟨x,h3,h4⟩:=Option.map_eq_some_iff.mp h2
      subst h4
      exact hq3 i q x h1 h3
     rw[ug (by rw[wJ];exact Vj nd)]
     exact k d' _ (sG3.free hd') upd_same (sG3.trans (Same.new hd'))
structure WayAt (a:Ad) (H:Hp) (p:Addr) (us:LI) (dx dp ob:Addr):Prop where
 p:H p=some (.ins a.c_Way dx [("own_parents",.ref dp),("own_bridges",.ref ob)])
 dp:H dp=some (.dK (tabN us))
 ob:H ob=some (.lst [])
 l12:us.length≤12
theorem WayAt.same {H H':Hp}{p dx dp ob:Addr}{us:LI}(w:WayAt a H p us dx dp ob) (s:Same H H'):WayAt a H' p us dx dp ob:=⟨s _ _ w.p,s _ _ w.dp,s _ _ w.ob,w.l12⟩
def znq (a:Ad):Sp:=fun vs H Q _=>∃ (p dx d l:Addr) (us:LI),vs=[.ref p,.ref d,.ref l]∧H p=some (.ins a.c_Way dx [])∧H d=some (.dK (tabN us))∧us.Nodup∧us.length≤12∧H l=some (.lst [])∧∀ (dp ob:Addr) (H':Hp),Ext p H H'→WayAt a H' p us dx dp ob→Q .non H'
theorem znZ (T:Txt w K mg a):FnOk P w K mg base CX0 5 a.f_qx a.d_qx ["self", "parents", "bridges"] (znq a):=by
 have c_qb:Callee P w K mg base "copied" a.f_qb a.d_qb ["value"] (2+2) (zpz 2):=⟨xC T 2,T.g_qb,T.F_qb.kp,T.b_qb⟩
 refine T.F_qx.ok zsX (fun vs H Q E h=>?_) (fun cdv A outer s H vs Q E hr h=>?_)
 ·obtain⟨p,dx,d,l,us,rfl,_⟩:=h
  rfl
 ·obtain⟨p,dx,d,l,us,rfl,hp,hd,nd,l12,hl,k⟩:=h
  refine zv (w_pss_cons (w_ps_fld (w_pv 0) (zk c_qb hr.m (za (w_pv 1) w_pa_nil)) rfl)
   (w_pss_one (w_ps_fld (w_pv 0) (zk c_qb hr.m (za (w_pv 2) w_pa_nil)) rfl))) ?_
  refine⟨_,rfl,_,rfl,.inr (.inr ⟨by decide,d,us,rfl,hd,nd,l12,fun dp H1 hdp h1 s1=>?_⟩)⟩
  have ndp:dp≠p:=fun z=>by rw[z,hp] at hdp;cases hdp
  refine⟨_,rfl,p,a.c_Way,dx,_,rfl,s1 _ _ hp,T.cl_Way,T.na_Way_own_parents,(by show 0<1000;decide),?_⟩
  have x1:=(Ext.same (l:=p) s1).trans (Ext.at (l:=p) (o:=.ins a.c_Way dx [("own_parents",.ref dp)]))
  have nlp:l≠p:=fun z=>by rw[z,hp] at hl;cases hl
  refine⟨_,rfl,_,rfl,.inr (.inl ⟨by decide,l,rfl,x1 _ _ hl nlp,fun ob H2 hob h2 s2=>?_⟩)⟩
  refine⟨_,rfl,p,a.c_Way,dx,_,rfl,s2 _ _ upd_same,T.cl_Way,T.na_Way_own_bridges,(by show 1<1000;decide),?_⟩
  have nob:ob≠p:=fun z=>by rw[z,upd_same] at hob;cases hob
  refine k dp ob _ ((x1.trans (Ext.same s2)).trans Ext.at) ⟨upd_same,?_,?_,l12⟩
  ·rw[ze ndp]
   exact s2 _ _ ((ze ndp).trans h1)
  ·rw[ze nob]
   exact h2
def zGE (a:Ad):Sp:=fun vs H Q _=>∃ (p dx dp ob:Addr) (us:LI) (x:Int),vs=[.ref p,.int x]∧WayAt a H p us dx dp ob∧∀ H',Same H H'→Q .non H'
theorem ztC (T:Txt w K mg a):FnOk P w K mg base CX0 5 a.f_qy a.d_qy ["self", "hand"] (zGE a):=by
 have c_qa:Callee P w K mg base "is_whole" a.f_qa a.d_qa ["value"] 1 (v8 K whole):=⟨zE T,T.g_qa,T.F_qa.kp,T.b_qa⟩
 have c_qb:Callee P w K mg base "copied" a.f_qb a.d_qb ["value"] (2+2) (zpz 2):=⟨xC T 2,T.g_qb,T.F_qb.kp,T.b_qb⟩
 refine T.F_qy.ok sc_qy (fun vs H Q E h=>?_) (fun cdv A outer s H vs Q E hr h=>?_)
 ·obtain⟨p,dx,dp,ob,us,v,rfl,_⟩:=h
  rfl
 ·obtain⟨p,dx,dp,ob,us,v,rfl,W,k⟩:=h
  refine zv (w_pss_cons (u9 (zO PassesOwn.never rfl (yN (zd (w_pv 0) rfl)) (yT rfl (zH (zr (i:=2) sc_qy.nd rfl (Or.inl rfl)) (zH (zr (i:=3) sc_qy.nd rfl (Or.inl rfl)) yz)))
    (w_pss_one (w_ps_if (w_pt (Y1 (w_pt_cmpR yh (zk c_qa hr.m (za (w_pv 2) w_pa_nil)) (zk c_qa hr.m (za (w_pv 1) w_pa_nil)) (zq _)) (u6 (w_pt_cmpR yh (w_pv 2) (w_pv 1) (zq _)))))
     (w_pss_one (w_ps_ret (zk c_qb hr.m (za (w_pv 3) w_pa_nil))))
     zg))))
   (w_pss_one (w_ps_ret yv))) ?_
  refine⟨_,rfl,p,_,dx,_,_,rfl,W.p,T.cl_Way,T.na_Way_own_parents,rfl,dp,_,rfl,W.dp,fun od S=>?_⟩
  have hz1:=upd_same (H:=H) (a:=dp) (o:=HO.frz od (HO.dK (tabN us)))
  have x1:Ext dp H (upd H dp (HO.frz od (HO.dK (tabN us)))):=Ext.at
  generalize upd H dp (HO.frz od (HO.dK (tabN us)))=H1 at *
  have back:∀ {G:Hp},Same H1 G→Same H (upd G dp (HO.dK (tabN us))):=fun {G} sm b o e=>by
   by_cases z:b=dp
   ·rw[z,W.dp] at e;cases e;rw[z];exact upd_same
   ·rw[ze z];exact sm _ _ (x1 _ _ e z)
  refine XS (yl:=yI) (d:=dp) (od:=od) (kvs:=tabN us) (fun i σ H'=>∃ (o2 o3:Option V),σ=[some (.ref p),some (.int v),o2,o3]∧Same H1 H') ?_ ?_ ?_ ?_
  ·exact⟨none,none,rfl,fun _ _ h=>h⟩
  ·rintro i σ H' ⟨o2,o3,_,sm⟩
   exact sm _ _ hz1
  ·rintro i kv u σ G G' hkv ⟨o2,o3,rfl,sm⟩ hy
   obtain⟨x,hx,rfl⟩:=vv hkv
   obtain⟨p0,hp0,rfl,rfl⟩:=uZ hy
   have sm2:=sm.trans (Same.new (o:=HO.tup [V.int x,V.non]) hp0)
   refine⟨p0,_,rfl,SqT.of upd_same,rfl,_,_,rfl,_,_,rfl,rfl,?_⟩
   generalize upd G p0 (HO.tup [V.int x,V.non])=G2 at *
   refine⟨_,rfl,_,rfl,lf_int T x,_,rfl,_,rfl,lf_int T v,rfl,_,rfl,iteB (by rfl) ?_⟩
   refine⟨_,rfl,_,rfl,rfl,_,rfl,ui (fun _=>?_) (fun _=>⟨_,_,rfl,sm2⟩)⟩
   exact⟨_,rfl,_,rfl,.inl ⟨by decide,rfl,.inr ⟨dp,od,_,S,sm2 _ _ hz1,k _ (back sm2)⟩⟩⟩
  ·rintro σ H' ⟨o2,o3,rfl,sm⟩
   exact .inr ⟨dp,od,_,S,sm _ _ hz1,k _ (back sm)⟩
def zDH (a:Ad):Sp:=fun vs H Q _=>∃ (p dx dp ob:Addr) (us:LI) (x:Int),vs=[.ref p,.int x]∧WayAt a H p us dx dp ob∧∀ (l:Addr) (H':Hp),H l=none→H' l=some (.lst [])→Same H H'→Q (.ref l) H'
theorem ztK (T:Txt w K mg a):FnOk P w K mg base CX0 1 a.f_qz a.d_qz ["self", "hand"] (zDH a):=by
 refine T.F_qz.ok zsW (fun vs H Q E h=>?_) (fun cdv A outer s H vs Q E hr h=>?_)
 ·obtain⟨p,dx,dp,ob,us,x,rfl,_⟩:=h
  rfl
 ·obtain⟨p,dx,dp,ob,us,x,rfl,W,k⟩:=h
  refine zv (w_pss_one (w_ps_ret (w_pe_callB zN (by rfl) T.n_sorted zM (zb (wG (ya rfl (N':=["each", "parent", "hand"]) (t:=2) (caps:=[1]) ⟨rfl,rfl,rfl⟩ (yN (zd (w_pv 0) rfl)) (fun _=>(yT rfl (zH (zr (i:=0) (show(["each", "parent", "hand"]:List Str).Nodup by decide +kernel) rfl (Or.inl rfl)) (zH (zr (i:=1) (show(["each", "parent", "hand"]:List Str).Nodup by decide +kernel) rfl (Or.inl rfl)) yz)))) (fun _=>(u7 (w_pt_cmpR yh (w_pv 1) (w_pv 2) (zq _)))) (fun _=>(w_pv 0)))) w_pa_nil)))) ?_
  refine⟨_,rfl,p,_,dx,_,_,rfl,W.p,T.cl_Way,T.na_Way_own_parents,rfl,dp,_,rfl,W.dp,fun od S D hD _=>?_⟩
  have hz1:=upd_same (H:=H) (a:=dp) (o:=HO.frz od (HO.dK (tabN us)))
  have x1:Ext dp H (upd H dp (HO.frz od (HO.dK (tabN us)))):=Ext.at
  generalize upd H dp (HO.frz od (HO.dK (tabN us)))=H1 at *
  refine comp_view (yl:=yI) (d:=dp) (od:=od) (kvs:=tabN us) (fun i zs τ H'=>∃ (o1 o2:Option V),τ=[o1,o2,some (.int x)]∧zs=[]∧H' D=some (.lst [])∧Same H1 H') ?_ ?_ ?_ ?_
  ·exact⟨none,none,rfl,rfl,upd_same,Same.new hD⟩
  ·rintro i zs τ H' ⟨o1,o2,_,_,_,sm⟩
   exact sm _ _ hz1
  ·rintro i kv v zs τ G G' hkv ⟨o1,o2,rfl,rfl,hD',sm⟩ hy
   obtain⟨u,hu,rfl⟩:=vv hkv
   obtain⟨p0,hp0,rfl,rfl⟩:=uZ hy
   have n1:=Same.new (o:=HO.tup [V.int u,V.non]) hp0
   refine⟨p0,_,rfl,SqT.of upd_same,rfl,_,_,rfl,_,_,rfl,rfl,?_⟩
   exact⟨_,rfl,_,rfl,rfl,_,rfl,zG (by rfl) ⟨_,_,rfl,rfl,n1 _ _ hD',sm.trans n1⟩⟩
  ·rintro zs τ G ⟨o1,o2,rfl,rfl,hD',sm⟩
   refine .inr ⟨dp,od,_,S,sm _ _ hz1,?_⟩
   have nDd:D≠dp:=fun z=>by rw[z,sm _ _ hz1] at hD';cases hD'
   have s2:Same H (upd G dp (HO.dK (tabN us))):=fun b o e=>by
    by_cases z:b=dp
    ·rw[z,W.dp] at e;cases e;rw[z];exact upd_same
    ·rw[ze z];exact sm _ _ (x1 _ _ e z)
   refine⟨D,[],rfl,SqL.of (by rw[ze nDd];exact hD'),by decide,fun l ms hl pm sd=>?_⟩
   cases pm.eq_nil
   exact k l _ (s2.free hl) upd_same (s2.trans (Same.new hl))
theorem ztL (T:Txt w K mg a):FnOk P w K mg base CX0 1 a.f_qA a.d_qA ["self", "hand"] (zDH a):=by
 refine T.F_qA.ok sc_qA (fun vs H Q E h=>?_) (fun cdv A outer s H vs Q E hr h=>?_)
 ·obtain⟨p,dx,dp,ob,us,x,rfl,_⟩:=h
  rfl
 ·obtain⟨p,dx,dp,ob,us,x,rfl,W,k⟩:=h
  refine zv (w_pss_cons (zl (i:=2) sc_qA.nd rfl (Or.inl rfl) (zh w_pa_nil))
   (w_pss_cons (zO PassesOwn.never rfl (zC (zd (w_pv 0) rfl)) (yT rfl (zH (zr (i:=3) sc_qA.nd rfl (Or.inl rfl)) (zH (zr (i:=4) sc_qA.nd rfl (Or.inl rfl)) yz)))
    (xt (w_ps_if (w_pt_cmpR yh (w_pv 3) (w_pv 1) (zq _))
     (w_pss_one (w_ps_expr (yb PySem.F.plainAttrs_list PySem.F.slot_list_append PySem.F.type_list_append yf (w_pv 2) (za (w_pv 4) w_pa_nil))))
     zg)
    (w_pss_one (w_ps_if (w_pt_cmpR yh (w_pv 4) (w_pv 1) (zq _))
     (w_pss_one (w_ps_expr (yb PySem.F.plainAttrs_list PySem.F.slot_list_append PySem.F.type_list_append yf (w_pv 2) (za (w_pv 3) w_pa_nil))))
     zg))))
   (w_pss_one (w_ps_ret (w_pe_callB zN (by rfl) T.n_sorted zM (za (w_pv 2) w_pa_nil)))))) ?_
  refine⟨(by show 0≤sizeLine;decide),fun q hq=>?_⟩
  generalize hE:L2.upd H q _=H1
  obtain⟨F1,y1⟩:=al hE hq
  clear hE
  have W1:=W.same y1
  refine⟨_,rfl,p,_,dx,_,_,rfl,W1.p,T.cl_Way,T.na_Way_own_bridges,rfl,ob,rfl,⟨_,SqL.of W1.ob⟩,?_⟩
  refine zX (K:=K) (a:=ob) (xs:=[]) (fun i σ H'=>H'=H1∧σ=[some (.ref p),some (.int x),some (.ref q),none,none]) ⟨rfl,rfl⟩ (fun i σ' H2 _ e=>by rw[e.1];exact SqL.of W1.ob) (fun i x σ H' hi=>nomatch hi) ?_
  rintro σ H' ⟨rfl,rfl⟩
  refine⟨_,rfl,q,[],rfl,SqL.of F1,by decide,fun l ms hl pm sd=>?_⟩
  cases pm.eq_nil
  exact k l _ (y1.free hl) upd_same (y1.trans (Same.new hl))
structure Sx where
 p:Addr
 dx:Addr
 pw:Addr
 py:Addr
 an:Addr
 aa:Addr
 ab:Addr
 ac:Addr
 dw:Addr
 dh:Addr
 dm:Addr
 r:V
 R:Int
 m:Int
def Sx.fs (x:Sx) (t:Int) (dd:Addr):List (Str×V):=[("web",.ref x.pw),("way",.ref x.py),("program",x.r),("rounds",.int x.R),("me",.int x.m),("near",.ref x.an),("above",.ref x.aa),("below",.ref x.ab),("across",.ref x.ac),("worths",.ref x.dw),("pairs_heard",.ref x.dh),("mail",.ref x.dm),("turn",.int t),("awaited",.int 0),("did",.ref dd)]
def didT (dk:List Str):List (Key×V):=dk.map fun k=>(ky k,V.bl true)
structure Se (a:Ad) (H:Hp) (x:Sx) (t:Int) (dd:Addr) (dk:List Str):Prop where
 p:H x.p=some (.ins a.c_Seat x.dx (x.fs t dd))
 an:H x.an=some (.lst [])
 aa:H x.aa=some (.lst [])
 ab:H x.ab=some (.lst [])
 ac:H x.ac=some (.lst [])
 dm:H x.dm=some (.dK [])
 d:H dd=some (.dK (didT dk))
 nm:x.dm≠dd
theorem Se.same {a:Ad}{H H':Hp}{x:Sx}{t:Int}{dd:Addr}{dk:List Str}(S:Se a H x t dd dk) (s:Same H H'):Se a H' x t dd dk:=⟨s _ _ S.p,s _ _ S.an,s _ _ S.aa,s _ _ S.ab,s _ _ S.ac,s _ _ S.dm,s _ _ S.d,S.nm⟩
theorem Se.put {a:Ad}{H:Hp}{x:Sx}{t:Int}{dd:Addr}{dk dk':List Str}(S:Se a H x t dd dk):Se a (upd H dd (.dK (didT dk'))) x t dd dk':=by
 have nl:∀ {b:Addr}{xs:List V},H b=some (.lst xs)→b≠dd:=fun e z=>by rw[z,S.d] at e;cases e
 refine⟨?_,(ze (nl S.an)).trans S.an,(ze (nl S.aa)).trans S.aa,(ze (nl S.ab)).trans S.ab,(ze (nl S.ac)).trans S.ac,(ze S.nm).trans S.dm,upd_same,S.nm⟩
 have e:=S.p
 rw[ze (fun z=>by rw[z,S.d] at e;cases e)]
 exact e
def znt (a:Ad):Sp:=fun vs H Q _=>∃ (x:Sx) (t:Int) (dd:Addr) (dk:List Str) (k:Str),vs=[.ref x.p,.str k]∧Se a H x t dd dk∧∀ (d:Addr) (H':Hp),H' d=some (.dK [])→Same H H'→Q (.ref d) H'
theorem ZT (T:Txt w K mg a):FnOk P w K mg base CX0 1 a.f_qH a.d_qH ["self", "kind"] (znt a):=by
 refine T.F_qH.ok ztm (fun vs H Q E h=>?_) (fun cdv A outer s H vs Q E hr h=>?_)
 ·obtain⟨x,t,dd,dk,k,rfl,_⟩:=h
  rfl
 ·obtain⟨x,t,dd,dk,k,rfl,S,q⟩:=h
  have hu:=yi hr
  refine zv (w_pss_one (w_ps_ret (xX hu (xX hu (zd (w_pv 0) rfl) (zd (w_pv 0) rfl) w_pe_dnewK ⟨rfl,rfl,rfl,rfl⟩) (w_pv 1) w_pe_dnewK ⟨rfl,rfl,rfl,rfl⟩))) ?_
  refine⟨_,rfl,x.p,_,x.dx,_,_,rfl,S.p,T.cl_Seat,T.na_Seat_mail,rfl,x.dm,rfl,.inl ⟨_,.inl S.dm⟩,_,rfl,x.p,_,x.dx,_,_,rfl,S.p,T.cl_Seat,T.na_Seat_turn,rfl,fun d1 h1=>?_⟩
  generalize hE:L2.upd H d1 _=H1
  obtain⟨F1,y1⟩:=al hE h1
  clear hE
  refine⟨none,DGet.k (k:=Sum.inl t) (y1 _ _ S.dm),d1,rfl,.inl ⟨_,.inl F1⟩,_,rfl,fun d2 h2=>?_⟩
  generalize hE:L2.upd H1 d2 _=H2
  obtain⟨F2,y2⟩:=al hE h2
  clear hE
  exact⟨none,DGet.k (k:=Sum.inr k) (y2 _ _ F1),q d2 _ F2 (y1.trans y2)⟩
def zGJ (a:Ad):Sp:=fun vs H Q _=>∃ (x:Sx) (t:Int) (dd:Addr) (dk:List Str) (k:Str),vs=[.ref x.p,.str k,.int 0]∧Se a H x t dd dk∧∀ H',Same H H'→Q (.bl true) H'
theorem Xq (T:Txt w K mg a):FnOk P w K mg base CX0 2 a.f_qI a.d_qI ["self", "kind", "many"] (zGJ a):=by
 refine T.F_qI.ok ztl (fun vs H Q E h=>?_) (fun cdv A outer s H vs Q E hr h=>?_)
 ·obtain⟨x,t,dd,dk,k,rfl,_⟩:=h
  rfl
 ·obtain⟨x,t,dd,dk,k,rfl,S,q⟩:=h
  refine zv (w_pss_one (w_ps_ret (zP Xm (w_pe_callB YG (by rfl) T.n_len ym (zt (zi (w_pv 0) (za (w_pv 1) w_pa_nil)) w_pa_nil)) (w_pv 2) (zq _)))) ?_
  refine⟨_,rfl,x.p,_,x.dx,_,_,_,_,_,_,rfl,S.p,rfl,T.cl_Seat,T.mt_qH,ZT (P:=P) (w:=w) T,hr.m,T.b_qH,_,rfl,x,t,dd,dk,k,rfl,S,fun d H1 F1 y1=>?_⟩
  exact⟨d,_,rfl,F1,_,rfl,_,_,rfl,rfl,q _ y1⟩
def zGD (a:Ad):Sp:=fun vs H Q _=>∃ (x:Sx) (t:Int) (dd:Addr) (dk:List Str) (k:Str) (l:Addr),vs=[.ref x.p,.str k,.ref l]∧Se a H x t dd dk∧H l=some (.lst [])∧∀ (l':Addr) (H':Hp),H' l'=some (.lst [])→H l'=none→Same H H'→Q (.ref l') H'
theorem ZO (T:Txt w K mg a):FnOk P w K mg base CX0 1 a.f_qJ a.d_qJ ["self", "kind", "others"] (zGD a):=by
 refine T.F_qJ.ok ztk (fun vs H Q E h=>?_) (fun cdv A outer s H vs Q E hr h=>?_)
 ·obtain⟨x,t,dd,dk,k,l,rfl,_⟩:=h
  rfl
 ·obtain⟨x,t,dd,dk,k,l,rfl,S,hl,q⟩:=h
  refine zv (w_pss_one (w_ps_ret (ya rfl (N':=["other", "kind", "self"]) (t:=1) (caps:=[1,0]) ⟨rfl,rfl,rfl⟩ (zC (w_pv 2)) (fun _=>(zr (i:=0) (show(["other", "kind", "self"]:List Str).Nodup by decide +kernel) rfl (Or.inl rfl))) (fun _=>zY) (fun _=>(zx (za (w_pv 1) (zb (zd (w_pv 2) rfl) (za (w_pv 0) (zb (zd (w_pv 2) rfl) (zf yv w_pa_nil)))))))))) ?_
  refine⟨_,rfl,l,rfl,⟨_,SqL.of hl⟩,fun D hD _=>?_⟩
  refine yF (K:=K) (a:=l) (xs:=[]) (fun m zs τ H'=>zs=[]∧H'=upd H D (.lst [])) ⟨rfl,rfl⟩ ?_ (fun m v zs τ H' hi=>nomatch hi) ?_
  ·rintro m zs τ H' ⟨_,rfl⟩
   exact SqL.of (Same.new hD _ _ hl)
  ·rintro zs τ H' ⟨rfl,rfl⟩
   exact q D _ upd_same hD (Same.new hD)
def zGH (a:Ad):Sp:=fun vs H Q _=>∃ (x:Sx) (t:Int) (dd:Addr) (dk:List Str) (k st:Str),vs=[.ref x.p,.str k,.str st]∧Se a H x t dd dk∧st∈dk∧∀ H',Same H H'→Q (.bl true) H'
theorem did_mem {dk:List Str}{k:Str}:ky k∈(didT dk).map (·.1)↔k∈dk:=by
 unfold didT
 rw[List.map_map,List.mem_map]
 exact⟨fun⟨y,h1,h2⟩=>by injection h2 with h2;exact h2 ▸ h1,fun h=>⟨k,h,rfl⟩⟩
theorem zn1 (T:Txt w K mg a):FnOk P w K mg base CX0 3 a.f_qM a.d_qM ["self", "kind", "step"] (zGH a):=by
 refine T.F_qM.ok ztj (fun vs H Q E h=>?_) (fun cdv A outer s H vs Q E hr h=>?_)
 ·obtain⟨x,t,dd,dk,k,st,rfl,_⟩:=h
  rfl
 ·obtain⟨x,t,dd,dk,k,st,rfl,S,hk,q⟩:=h
  have hu:=yi hr
  have un:∀ n:Nat,n≤3→(A.deeper (PyProof.Rows.envOfC "Seat.is_let" (defScope Xa) s.heap.objs.size a.f_qM cdv)).units+n+2<cLine:=fun n hn=>by
   have:=hr.units
   omega
  refine zv (w_pss_one (w_ps_ret (xW (w_pt_cmpR (znX Wn znW) (zd (w_pv 0) rfl) (zh w_pa_nil) (zq _)) (vY (yG hu (w_pv 2) (zd (w_pv 0) rfl))) (zi (w_pv 0) (za (w_pv 1) (zf w_pe_int w_pa_nil)))))) ?_
  refine⟨_,rfl,x.p,_,x.dx,_,_,rfl,S.p,T.cl_Seat,T.na_Seat_above,rfl,(by show 0≤sizeLine;decide),fun q1 h1=>?_⟩
  generalize hE:L2.upd H q1 _=H1
  obtain⟨F1,y1⟩:=al hE h1
  clear hE
  have S1:=S.same y1
  refine .inl ⟨x.aa,q1,_,_,fun _=>true,0,rfl,rfl,.inl ⟨SqL.of S1.aa,SqL.of F1⟩,rfl,un 0 (by decide),(fun j x y hx=>nomatch hx),?_⟩
  refine⟨_,rfl,iteB rfl ?_⟩
  refine⟨_,rfl,_,rfl,x.p,_,x.dx,_,_,rfl,S1.p,T.cl_Seat,T.na_Seat_did,rfl,dd,_,rfl,DGet.k (k:=ky st) S1.d,?_⟩
  rw[valV_yes (did_mem.mpr hk)]
  exact q _ y1
theorem vM {dk:List Str}{k:Str}(h:k∉dk):putK (didT dk) (ky k) (V.bl true)=didT (dk++[k]):=by
 rw[putK_new (fun z=>h (did_mem.mp z))]
 unfold didT
 rw[List.map_append]
 rfl
def Zw (a:Ad) (need:List Str) (k:Str):Sp:=fun vs H Q _=>∃ (x:Sx) (t:Int) (dd:Addr) (dk:List Str),vs=[.ref x.p]∧Se a H x t dd dk∧k∉dk∧(∀ n∈need,n∈dk)∧dk.length≤3∧∀ (l:Addr) (H':Hp),H' l=some (.lst [])→Ext dd H H'→Se a H' x t dd (dk++[k])→Q (.ref l) H'
theorem ztz (T:Txt w K mg a):FnOk P w K mg base CX0 3 a.f_qN a.d_qN ["self"] (Zw a [] "through"):=by
 refine T.F_qN.ok zti (fun vs H Q E h=>?_) (fun cdv A outer s H vs Q E hr h=>?_)
 ·obtain⟨x,t,dd,dk,rfl,_⟩:=h
  rfl
 ·obtain⟨x,t,dd,dk,rfl,S,hk,_,l3,q⟩:=h
  have hu:=yi hr
  refine zv (w_pss_cons (w_ps_if (w_pt (w_pw_or (zV (yG hu w_pe_str (zd (w_pv 0) rfl))) (zD (zy (zo (zi (w_pv 0) (zf w_pe_str (zb (zd (w_pv 0) rfl) w_pa_nil))))))))
    (w_pss_one (w_ps_ret (zh w_pa_nil)))
    zg)
   (w_pss_cons (w_ps_if (zy (zo (zi (w_pv 0) (zf w_pe_str (zt (w_pe_callB zw (by rfl) T.n_len ym (zb (zd (w_pv 0) rfl) w_pa_nil)) w_pa_nil)))))
    (w_pss_one (w_ps_ret (zh w_pa_nil)))
    zg)
   (w_pss_cons (w_ps_dput hu (zd (w_pv 0) rfl) w_pe_str zn rfl)
   (w_pss_one (w_ps_ret (zi (w_pv 0) (zf w_pe_str (zb (zd (w_pv 0) rfl) w_pa_nil)))))))) ?_
  refine⟨_,rfl,x.p,_,x.dx,_,_,rfl,S.p,T.cl_Seat,T.na_Seat_did,rfl,dd,_,rfl,DGet.k (k:=ky "through") S.d,_,rfl,zG (xw (fun z=>hk (did_mem.mp z))) ?_⟩
  refine⟨_,rfl,x.p,_,x.dx,_,_,_,_,_,_,rfl,S.p,rfl,T.cl_Seat,T.mt_qI,Xq (P:=P) (w:=w) T,hr.m,T.b_qI,_,rfl,x.p,_,x.dx,_,_,rfl,S.p,T.cl_Seat,T.na_Seat_awaited,rfl,x,t,dd,dk,_,rfl,S,fun H1 y1=>⟨_,rfl,zG rfl ?_⟩⟩
  have S1:=S.same y1
  refine⟨_,rfl,x.p,_,x.dx,_,_,_,_,_,_,rfl,S1.p,rfl,T.cl_Seat,T.mt_qI,Xq (P:=P) (w:=w) T,hr.m,T.b_qI,_,rfl,x.p,_,x.dx,_,_,rfl,S1.p,T.cl_Seat,T.na_Seat_below,rfl,x.ab,_,rfl,.inl (SqL.of S1.ab),x,t,dd,dk,_,rfl,S1,fun H2 y2=>⟨_,rfl,zG rfl ?_⟩⟩
  have S2:=S1.same y2
  refine⟨_,rfl,x.p,_,x.dx,_,_,rfl,S2.p,T.cl_Seat,T.na_Seat_did,rfl,dd,_,rfl,DPut.k (k:=ky "through") S2.d (by unfold didT;rw[List.length_map];exact zB (by omega)),?_⟩
  rw[vM hk]
  have S3:=S2.put (dk':=dk++[("through" : Str)])
  have X3:Ext dd H _:=(Ext.same (y1.trans y2)).trans (Ext.at (l:=dd) (o:=.dK (didT (dk++[("through" : Str)]))))
  generalize L2.upd H2 dd (.dK (didT (dk++[("through" : Str)])))=H3 at *
  refine⟨_,rfl,x.p,_,x.dx,_,_,_,_,_,_,rfl,S3.p,rfl,T.cl_Seat,T.mt_qJ,ZO (P:=P) (w:=w) T,hr.m,T.b_qJ,_,rfl,x.p,_,x.dx,_,_,rfl,S3.p,T.cl_Seat,T.na_Seat_above,rfl,x,t,dd,_,_,x.aa,rfl,S3,S3.aa,fun l' H4 F4 _ y4=>?_⟩
  exact q l' H4 F4 (X3.trans (Ext.same y4)) (S3.same y4)
theorem ztB (T:Txt w K mg a):FnOk P w K mg base CX0 4 a.f_qO a.d_qO ["self"] (Zw a ["through"] "all"):=by
 refine T.F_qO.ok zth (fun vs H Q E h=>?_) (fun cdv A outer s H vs Q E hr h=>?_)
 ·obtain⟨x,t,dd,dk,rfl,_⟩:=h
  rfl
 ·obtain⟨x,t,dd,dk,rfl,S,hk,hn,l3,q⟩:=h
  have hu:=yi hr
  refine zv (w_pss_cons (w_ps_if (w_pt (w_pw_or (zV (yG hu w_pe_str (zd (w_pv 0) rfl))) (zD (zy (zo (zi (w_pv 0) (zf w_pe_str (zf w_pe_str w_pa_nil))))))))
    (w_pss_one (w_ps_ret (zh w_pa_nil)))
    zg)
   (w_pss_cons (w_ps_dput hu (zd (w_pv 0) rfl) w_pe_str zn rfl)
   (w_pss_one (w_ps_ret (zj yq (zi (w_pv 0) (zf w_pe_str (zb (zd (w_pv 0) rfl) w_pa_nil))) (zi (w_pv 0) (zf w_pe_str (zb (zd (w_pv 0) rfl) w_pa_nil)))))))) ?_
  refine⟨_,rfl,x.p,_,x.dx,_,_,rfl,S.p,T.cl_Seat,T.na_Seat_did,rfl,dd,_,rfl,DGet.k (k:=ky "all") S.d,_,rfl,zG (xw (fun z=>hk (did_mem.mp z))) ?_⟩
  refine⟨_,rfl,x.p,_,x.dx,_,_,_,_,_,_,rfl,S.p,rfl,T.cl_Seat,T.mt_qM,zn1 (P:=P) (w:=w) T,hr.m,T.b_qM,x,t,dd,dk,_,_,rfl,S,hn _ (by simp),fun H2 y2=>⟨_,rfl,zG rfl ?_⟩⟩
  have S2:=S.same y2
  refine⟨_,rfl,x.p,_,x.dx,_,_,rfl,S2.p,T.cl_Seat,T.na_Seat_did,rfl,dd,_,rfl,DPut.k (k:=ky "all") S2.d (by unfold didT;rw[List.length_map];exact zB (by omega)),?_⟩
  rw[vM hk]
  have S3:=S2.put (dk':=dk++[("all" : Str)])
  have X3:Ext dd H _:=(Ext.same y2).trans (Ext.at (l:=dd) (o:=.dK (didT (dk++[("all" : Str)]))))
  generalize L2.upd H2 dd (.dK (didT (dk++[("all" : Str)])))=H3 at *
  refine⟨_,rfl,x.p,_,x.dx,_,_,_,_,_,_,rfl,S3.p,rfl,T.cl_Seat,T.mt_qJ,ZO (P:=P) (w:=w) T,hr.m,T.b_qJ,_,rfl,x.p,_,x.dx,_,_,rfl,S3.p,T.cl_Seat,T.na_Seat_below,rfl,x,t,dd,_,_,x.ab,rfl,S3,S3.ab,fun l1 H4 F4 _ y4=>?_⟩
  have S4:=S3.same y4
  refine⟨_,rfl,x.p,_,x.dx,_,_,_,_,_,_,rfl,S4.p,rfl,T.cl_Seat,T.mt_qJ,ZO (P:=P) (w:=w) T,hr.m,T.b_qJ,_,rfl,x.p,_,x.dx,_,_,rfl,S4.p,T.cl_Seat,T.na_Seat_across,rfl,x,t,dd,_,_,x.ac,rfl,S4,S4.ac,fun l2 H5 F5 _ y5=>?_⟩
  refine⟨l1,l2,[],[],rfl,rfl,y5 _ _ F4,F5,(by show 0≤sizeLine;decide),fun l3 hl3=>?_⟩
  have y:=(y4.trans y5).trans (Same.new (o:=.lst []) hl3)
  exact q l3 _ upd_same (X3.trans (Ext.same y)) (S3.same y)
theorem ztA (T:Txt w K mg a):FnOk P w K mg base CX0 3 a.f_qP a.d_qP ["self"] (Zw a ["all"] "clear"):=by
 refine T.F_qP.ok ztg (fun vs H Q E h=>?_) (fun cdv A outer s H vs Q E hr h=>?_)
 ·obtain⟨x,t,dd,dk,rfl,_⟩:=h
  rfl
 ·obtain⟨x,t,dd,dk,rfl,S,hk,hn,l3,q⟩:=h
  have hu:=yi hr
  refine zv (w_pss_cons (w_ps_if (w_pt (w_pw_or (zV (yG hu w_pe_str (zd (w_pv 0) rfl))) (zD (zV (yc hu w_pe_str (zd (w_pv 0) rfl))))))
    (w_pss_one (w_ps_ret (zh w_pa_nil)))
    zg)
   (w_pss_cons (w_ps_if (w_pt (w_pw_or (zy (zo (zi (w_pv 0) (zf w_pe_str (zt (w_pe_callB zw (by rfl) T.n_len ym (zb (zd (w_pv 0) rfl) w_pa_nil)) w_pa_nil))))) (zD (zy (zo (zi (w_pv 0) (zf w_pe_str (zt (w_pe_callB zw (by rfl) T.n_len ym (zb (zd (w_pv 0) rfl) w_pa_nil)) w_pa_nil))))))))
    (w_pss_one (w_ps_ret (zh w_pa_nil)))
    zg)
   (w_pss_cons (w_ps_dput hu (zd (w_pv 0) rfl) w_pe_str zn rfl)
   (w_pss_one (w_ps_ret (zi (w_pv 0) (zf w_pe_str (zb (zd (w_pv 0) rfl) w_pa_nil)))))))) ?_
  refine⟨_,rfl,x.p,_,x.dx,_,_,rfl,S.p,T.cl_Seat,T.na_Seat_did,rfl,dd,_,rfl,DGet.k (k:=ky "clear") S.d,_,rfl,zG (xw (fun z=>hk (did_mem.mp z))) ?_⟩
  refine⟨_,rfl,x.p,_,x.dx,_,_,rfl,S.p,T.cl_Seat,T.na_Seat_did,rfl,dd,_,rfl,DGet.k (k:=ky "all") S.d,_,rfl,zG (by rw[valV_yes (did_mem.mpr (hn _ (by simp)))];rfl) ?_⟩
  refine⟨_,rfl,x.p,_,x.dx,_,_,_,_,_,_,rfl,S.p,rfl,T.cl_Seat,T.mt_qI,Xq (P:=P) (w:=w) T,hr.m,T.b_qI,_,rfl,x.p,_,x.dx,_,_,rfl,S.p,T.cl_Seat,T.na_Seat_across,rfl,x.ac,_,rfl,.inl (SqL.of S.ac),x,t,dd,dk,_,rfl,S,fun H1 y1=>⟨_,rfl,zG rfl ?_⟩⟩
  have S1:=S.same y1
  refine⟨_,rfl,x.p,_,x.dx,_,_,_,_,_,_,rfl,S1.p,rfl,T.cl_Seat,T.mt_qI,Xq (P:=P) (w:=w) T,hr.m,T.b_qI,_,rfl,x.p,_,x.dx,_,_,rfl,S1.p,T.cl_Seat,T.na_Seat_below,rfl,x.ab,_,rfl,.inl (SqL.of S1.ab),x,t,dd,dk,_,rfl,S1,fun H2 y2=>⟨_,rfl,zG rfl ?_⟩⟩
  have S2:=S1.same y2
  refine⟨_,rfl,x.p,_,x.dx,_,_,rfl,S2.p,T.cl_Seat,T.na_Seat_did,rfl,dd,_,rfl,DPut.k (k:=ky "clear") S2.d (by unfold didT;rw[List.length_map];exact zB (by omega)),?_⟩
  rw[vM hk]
  have S3:=S2.put (dk':=dk++[("clear" : Str)])
  have X3:Ext dd H _:=(Ext.same (y1.trans y2)).trans (Ext.at (l:=dd) (o:=.dK (didT (dk++[("clear" : Str)]))))
  generalize L2.upd H2 dd (.dK (didT (dk++[("clear" : Str)])))=H3 at *
  refine⟨_,rfl,x.p,_,x.dx,_,_,_,_,_,_,rfl,S3.p,rfl,T.cl_Seat,T.mt_qJ,ZO (P:=P) (w:=w) T,hr.m,T.b_qJ,_,rfl,x.p,_,x.dx,_,_,rfl,S3.p,T.cl_Seat,T.na_Seat_above,rfl,x,t,dd,_,_,x.aa,rfl,S3,S3.aa,fun l' H4 F4 _ y4=>?_⟩
  exact q l' H4 F4 (X3.trans (Ext.same y4)) (S3.same y4)
def wS (e1 e4:Ex) (m:Int):Nat→Int
 |0=>e1.val (rho (kvF m 0))
 |n+1=>e4.val (rho (kvR (wS e1 e4 m n) m ((n:Int)+1) 0 0 0 0 0))
def wT (f:Nat→Int) (n:Nat):List (Key×V):=(List.range n).map fun i:Nat=>(Sum.inl (i:Int),V.int (f i))
def hT (ad:Nat→Addr) (n:Nat):List (Key×V):=(List.range n).map fun i:Nat=>(Sum.inl ((i:Int)+1),V.ref (ad i))
structure Wh (H:Hp) (x:Sx) (n:Nat) (f:Nat→Int) (ad:Nat→Addr):Prop where
 dw:H x.dw=some (.dK (wT f (n+1)))
 dh:H x.dh=some (.dK (hT ad n))
 hl:∀ i,i<n→H (ad i)=some (.lst [])
 n1:x.dw≠x.dh
 n2:x.dw≠x.dm
 n3:x.dh≠x.dm
theorem Wh.same {H H':Hp}{x:Sx}{n:Nat}{f:Nat→Int}{ad:Nat→Addr}(W:Wh H x n f ad) (s:Same H H'):Wh H' x n f ad:=⟨s _ _ W.dw,s _ _ W.dh,fun i hi=>s _ _ (W.hl i hi),W.n1,W.n2,W.n3⟩
theorem Zd {H:Hp}{b:Addr}{o:HO}(h:H b=some o):L2.upd H b o=H:=funext fun c=>by
 by_cases z:c=b
 ·rw[z,upd_same,h]
 ·rw[ze z]
theorem vq {f:Nat→Int}{n:Nat}:(wT f n).map (·.1)=((List.range n).map fun i:Nat=>(i:Int)).map Sum.inl:=by
 unfold wT
 rw[List.map_map,List.map_map]
 rfl
theorem zbh {f:Nat→Int}{n i:Nat}(h:i<n):yL (wT f n) (Sum.inl (i:Int):Key)=some (.int (f i)):=by
 unfold wT
 suffices ∀ l:List Nat,i∈l→yL (l.map fun i:Nat=>((Sum.inl (i:Int):Key),V.int (f i))) (Sum.inl (i:Int))=some (.int (f i)) from this _ (List.mem_range.mpr h)
 intro l
 induction l with
 |nil=>exact fun h=>nomatch h
 |cons j l ih =>
  intro m
  rw[List.map_cons]
  by_cases e:j=i
  ·subst e;rw[yH rfl]
  ·rw[yJ (fun z=>e (by injection z with z;omega))]
   exact ih ((List.mem_cons.mp m).resolve_left fun z=>e z.symm)
theorem zbg {f:Nat→Int}{n:Nat}:putK (wT f n) (Sum.inl (n:Int)) (.int (f n))=wT f (n+1):=by
 rw[putK_new]
 ·unfold wT
  rw[List.range_succ,List.map_append]
  rfl
 ·rw[vq,xK]
  intro z
  obtain⟨i,h1,h2⟩:=List.mem_map.mp z
  have:=List.mem_range.mp h1
  omega
theorem Yp {ad:Nat→Addr}{n:Nat}:(hT ad n).map (·.1)=((List.range n).map fun i:Nat=>(i:Int)+1).map Sum.inl:=by
 unfold hT
 rw[List.map_map,List.map_map]
 rfl
theorem zyB {ad:Nat→Addr}{n i:Nat}(h:i<n):yL (hT ad n) (Sum.inl ((i:Int)+1):Key)=some (.ref (ad i)):=by
 unfold hT
 suffices ∀ l:List Nat,i∈l→yL (l.map fun i:Nat=>((Sum.inl ((i:Int)+1):Key),V.ref (ad i))) (Sum.inl ((i:Int)+1))=some (.ref (ad i)) from this _ (List.mem_range.mpr h)
 intro l
 induction l with
 |nil=>exact fun h=>nomatch h
 |cons j l ih =>
  intro m
  rw[List.map_cons]
  by_cases e:j=i
  ·subst e;rw[yH rfl]
  ·rw[yJ (fun z=>e (by injection z with z;omega))]
   exact ih ((List.mem_cons.mp m).resolve_left fun z=>e z.symm)
theorem zpm {ad:Nat→Addr}{n:Nat}{p:Addr}:putK (hT ad n) (Sum.inl ((n:Int)+1)) (.ref p)=hT (fun i=>if i=n then p else ad i) (n+1):=by
 rw[putK_new]
 ·unfold hT
  rw[List.range_succ,List.map_append,List.map_singleton]
  dsimp only
  rw[if_pos rfl]
  congr 1
  refine List.map_congr_left fun i hi=>?_
  have:=List.mem_range.mp hi
  rw[if_neg (by omega)]
 ·rw[Yp,xK]
  intro z
  obtain⟨i,h1,h2⟩:=List.mem_map.mp z
  have:=List.mem_range.mp h1
  omega
def zGM (a:Ad):Sp:=fun vs H Q _=>∃ (x:Sx) (t:Int) (dd:Addr) (dk:List Str),vs=[.ref x.p]∧Se a H x t dd dk∧∀ (l d:Addr) (H':Hp),H' l=some (.lst [])→H l=none→H d=none→Se a H' x t d []→Ext x.p H H'→Q (.ref l) H'
theorem zn4 (T:Txt w K mg a):FnOk P w K mg base CX0 12 a.f_qK a.d_qK ["self"] (zGM a):=by
 refine T.F_qK.ok sc_qK (fun vs H Q E h=>?_) (fun cdv A outer s H vs Q E hr h=>?_)
 ·obtain⟨x,t,dd,dk,rfl,_⟩:=h
  rfl
 ·obtain⟨x,t,dd,dk,rfl,S,q⟩:=h
  refine zv (w_pss_cons (w_ps_fld (w_pv 0) w_pe_dnewK rfl)
   (w_pss_cons (w_ps_if (w_pt_cmpR uD (zd (w_pv 0) rfl) (zd (w_pv 0) rfl) (zq _))
    (w_pss_one (w_ps_ret (zh w_pa_nil)))
    zg)
   (w_pss_cons (zl (i:=1) sc_qK.nd rfl (Or.inl rfl) (zh w_pa_nil))
   (w_pss_cons (zO PassesOwn.never rfl (zC (zd (w_pv 0) rfl)) (zr (i:=2) sc_qK.nd rfl (Or.inl rfl))
    (w_pss_cons (zl (i:=3) sc_qK.nd rfl (Or.inl rfl) (zi (zd (w_pv 0) rfl) (zt (w_pe_meth0D (w_pv 0)) (zb (zd (w_pv 0) rfl) (zb (zd (w_pv 0) rfl) (zt (w_pe_callB zw (by rfl) T.n_len ym (zb (zd (w_pv 0) rfl) w_pa_nil)) (za (w_pv 2) w_pa_nil)))))))
    (w_pss_one (w_ps_if (w_pt_cmpR UD (w_pv 3) yv (zq _))
     (w_pss_one (w_ps_expr (yb PySem.F.plainAttrs_list PySem.F.slot_list_append PySem.F.type_list_append yf (w_pv 1) (yo (zx (zf w_pe_str (zb (zd (w_pv 0) rfl) (za (w_pv 2) (zb (zd (w_pv 0) rfl) (za (w_pv 3) w_pa_nil)))))) w_pa_nil))))
     zg))))
   (w_pss_cons (w_ps_fld (w_pv 0) (w_pe_callB zw (by rfl) T.n_len ym (za (w_pv 1) w_pa_nil)) rfl)
   (w_pss_one (w_ps_ret (w_pv 1)))))))) ?_
  refine fun d hd=>?_
  generalize hE:L2.upd H d _=H1
  obtain⟨F1,y1⟩:=al hE hd
  clear hE
  have S1:=S.same y1
  have nd:d≠x.p:=fun z=>by rw[z,S.p] at hd;cases hd
  refine⟨_,rfl,x.p,a.c_Seat,x.dx,_,rfl,S1.p,T.cl_Seat,T.na_Seat_did,(by show 15<1000;decide),?_⟩
  have S2:Se a (L2.upd H1 x.p (.ins a.c_Seat x.dx (x.fs t d))) x t d []:=by
   have nl:∀ {b:Addr}{xs:List V},H1 b=some (.lst xs)→b≠x.p:=fun e z=>by rw[z,S1.p] at e;cases e
   have nk:∀ {b:Addr}{xs:List (Key×V)},H1 b=some (.dK xs)→b≠x.p:=fun e z=>by rw[z,S1.p] at e;cases e
   exact⟨upd_same,(ze (nl S1.an)).trans S1.an,(ze (nl S1.aa)).trans S1.aa,(ze (nl S1.ab)).trans S1.ab,(ze (nl S1.ac)).trans S1.ac,(ze (nk S1.dm)).trans S1.dm,(ze nd).trans F1,fun z=>by rw[← z,S.dm] at hd;cases hd⟩
  have X2:Ext x.p H (L2.upd H1 x.p (.ins a.c_Seat x.dx (x.fs t d))):=(Ext.same y1).trans Ext.at
  refine(show _ from ?_:zrL _ _ _ _ (L2.upd H1 x.p (.ins a.c_Seat x.dx (x.fs t d))))
  generalize L2.upd H1 x.p (.ins a.c_Seat x.dx (x.fs t d))=H2 at *
  have fr:∀ {b:Addr},H2 b=none→H b=none:=fun {b} h=>by
   cases z:H b with
   |none=>rfl
   |some o =>
    by_cases e:b=x.p
    ·rw[e,S2.p] at h;cases h
    ·rw[X2 _ _ z e] at h;cases h
  refine⟨_,rfl,x.p,_,x.dx,_,_,rfl,S2.p,T.cl_Seat,T.na_Seat_turn,rfl,_,rfl,x.p,_,x.dx,_,_,rfl,S2.p,T.cl_Seat,T.na_Seat_rounds,rfl,_,_,rfl,rfl,_,rfl,ui (fun _=>?_) (fun _=>?_)⟩
  ·refine⟨(by show 0≤sizeLine;decide),fun l hl=>?_⟩
   exact q l d _ upd_same (fr hl) hd (S2.same (Same.new hl)) (X2.trans (Ext.new hl))
  ·refine⟨(by show 0≤sizeLine;decide),fun l hl=>?_⟩
   generalize hE:L2.upd H2 l _=H3
   obtain⟨F3,y3⟩:=al hE hl
   clear hE
   have S3:=S2.same y3
   refine⟨_,rfl,x.p,_,x.dx,_,_,rfl,S3.p,T.cl_Seat,T.na_Seat_near,rfl,x.an,rfl,⟨_,SqL.of S3.an⟩,?_⟩
   refine zX (K:=K) (a:=x.an) (xs:=[]) (fun i σ H'=>H'=H3∧σ=[some (.ref x.p),some (.ref l),none,none]) ⟨rfl,rfl⟩ (fun i σ' H2 _ e=>by rw[e.1];exact SqL.of S3.an) (fun i x σ H' hi=>nomatch hi) ?_
   rintro σ H' ⟨rfl,rfl⟩
   refine⟨_,rfl,l,_,rfl,.inl (SqL.of F3),_,rfl,x.p,a.c_Seat,x.dx,_,rfl,S3.p,T.cl_Seat,T.na_Seat_awaited,(by show 15<1000;decide),?_⟩
   have e:L2.upd H' x.p (HO.ins a.c_Seat x.dx (wC "awaited" (V.int (([]:List V).length:Int)) (x.fs t d)))=H':=Zd S3.p
   rw[e]
   exact⟨_,rfl,q l d _ F3 (fr hl) hd S3 (X2.trans (Ext.same y3))⟩
def zGG (a:Ad):Sp:=fun vs H Q _=>∃ (x:Sx) (t:Int) (dd:Addr) (dk:List Str) (n:Nat) (f:Nat→Int) (ad:Nat→Addr),vs=[.ref x.p]∧Se a H x t dd dk∧Wh H x n f ad∧Q (.int (f n)) H
theorem ztF (T:Txt w K mg a):FnOk P w K mg base CX0 1 a.f_qG a.d_qG ["self"] (zGG a):=by
 refine T.F_qG.ok ztn (fun vs H Q E h=>?_) (fun cdv A outer s H vs Q E hr h=>?_)
 ·obtain⟨x,t,dd,dk,n,f,ad,rfl,_⟩:=h
  rfl
 ·obtain⟨x,t,dd,dk,n,f,ad,rfl,S,W,q⟩:=h
  have hu:=yi hr
  refine zv (w_pss_one (w_ps_ret (w_pe_dget hu (zd (w_pv 0) rfl) (w_pe_callB (YE rfl) (by rfl) T.n_max bt_max (zb (zd (w_pv 0) rfl) w_pa_nil)) (fun _ _=>rfl)))) ?_
  refine⟨_,rfl,x.p,_,x.dx,_,_,rfl,S.p,T.cl_Seat,T.na_Seat_worths,rfl,_,rfl,x.p,_,x.dx,_,_,rfl,S.p,T.cl_Seat,T.na_Seat_worths,rfl,x.dw,_,_,rfl,W.dw,vq,(by rw[List.range_succ];simp),fun m hm hx=>?_⟩
  obtain⟨i,h1,rfl⟩:=List.mem_map.mp hm
  have h2:=List.mem_range.mp h1
  have h3:=hx (n:Int) (List.mem_map.mpr ⟨n,List.mem_range.mpr (Nat.lt_succ_self n),rfl⟩)
  obtain rfl:i=n:=by omega
  exact⟨x.dw,_,rfl,zbh h2 ▸ DGet.k (k:=Sum.inl (i:Int)) W.dw,q⟩
def Fr3 (x:Sx) (H H':Hp):Prop:=∀ b o,H b=some o→b≠x.p→b≠x.dw→b≠x.dh→H' b=some o
theorem Made.keep {a:Ad}{H H':Hp}(k:∀ b C dx fs,0<fs.length→fs.length≤4→H b=some (.ins C dx fs)→H' b=some (.ins C dx fs)):∀ {e:Ex}{v:V},Made a H e v→Made a H' e v
 |.num _,_,⟨p,dx,e,h⟩=>⟨p,dx,e,k _ _ _ _ (by show 0<1;decide) (by show 1≤4;decide) h⟩
 |.name _,_,⟨p,dx,e,h⟩=>⟨p,dx,e,k _ _ _ _ (by show 0<1;decide) (by show 1≤4;decide) h⟩
 |.two _ _ _,_,⟨p,dx,x,y,e,h,t1,t2⟩=>⟨p,dx,x,y,e,k _ _ _ _ (by show 0<3;decide) (by show 3≤4;decide) h,Made.keep k t1,Made.keep k t2⟩
 |.mod _ _,_,⟨p,dx,x,e,h,t1⟩=>⟨p,dx,x,e,k _ _ _ _ (by show 0<2;decide) (by show 2≤4;decide) h,Made.keep k t1⟩
 |.less _ _ _ _,_,⟨p,dx,x,y,z,u,e,h,t1,t2,t3,t4⟩=>⟨p,dx,x,y,z,u,e,k _ _ _ _ (by show 0<4;decide) (by show 4≤4;decide) h,Made.keep k t1,Made.keep k t2,Made.keep k t3,Made.keep k t4⟩
theorem ProgAt.keep {a:Ad}{H H':Hp}{e1 e2 e3 e4:Ex}{r:V}(h:ProgAt a H e1 e2 e3 e4 r) (k:∀ b C dx fs,0<fs.length→fs.length≤4→H b=some (.ins C dx fs)→H' b=some (.ins C dx fs)):ProgAt a H' e1 e2 e3 e4 r:=by
 obtain⟨p,dx,r1,r2,r3,r4,e,hp,⟨m1,o1⟩,⟨m2,o2⟩,⟨m3,o3⟩,⟨m4,o4⟩,hz⟩:=h
 exact⟨p,dx,r1,r2,r3,r4,e,k _ _ _ _ (by show 0<4;decide) (by show 4≤4;decide) hp,⟨m1.keep k,o1⟩,⟨m2.keep k,o2⟩,⟨m3.keep k,o3⟩,⟨m4.keep k,o4⟩,hz⟩
theorem ProgAt.same {a:Ad}{H H':Hp}{e1 e2 e3 e4:Ex}{r:V}(h:ProgAt a H e1 e2 e3 e4 r) (s:Same H H'):ProgAt a H' e1 e2 e3 e4 r:=h.keep fun b C dx fs _ _ e=>s _ _ e
theorem Se.updD {a:Ad}{H:Hp}{x:Sx}{t:Int}{dd b:Addr}{dk:List Str}{kvs kvs':List (Key×V)}(S:Se a H x t dd dk) (hb:H b=some (.dK kvs)) (n1:b≠x.dm) (n2:b≠dd):Se a (upd H b (.dK kvs')) x t dd dk:=by
 have nl:∀ {c:Addr}{xs:List V},H c=some (.lst xs)→c≠b:=fun e z=>by rw[z,hb] at e;cases e
 refine⟨?_,(ze (nl S.an)).trans S.an,(ze (nl S.aa)).trans S.aa,(ze (nl S.ab)).trans S.ab,(ze (nl S.ac)).trans S.ac,(ze n1.symm).trans S.dm,(ze n2.symm).trans S.d,S.nm⟩
 have e:=S.p
 rw[ze (fun z=>by rw[z,hb] at e;cases e)]
 exact e
theorem Se.turn {a:Ad}{H:Hp}{x:Sx}{t t':Int}{dd:Addr}{dk:List Str}(S:Se a H x t dd dk):Se a (upd H x.p (.ins a.c_Seat x.dx (x.fs t' dd))) x t' dd dk:=by
 have nl:∀ {b:Addr}{xs:List V},H b=some (.lst xs)→b≠x.p:=fun e z=>by rw[z,S.p] at e;cases e
 have nk:∀ {b:Addr}{xs:List (Key×V)},H b=some (.dK xs)→b≠x.p:=fun e z=>by rw[z,S.p] at e;cases e
 exact⟨upd_same,(ze (nl S.an)).trans S.an,(ze (nl S.aa)).trans S.aa,(ze (nl S.ab)).trans S.ab,(ze (nl S.ac)).trans S.ac,(ze (nk S.dm)).trans S.dm,(ze (nk S.d)).trans S.d,S.nm⟩
theorem Wh.ext {a:Ad}{H H':Hp}{x:Sx}{t:Int}{dd:Addr}{dk:List Str}{n:Nat}{f:Nat→Int}{ad:Nat→Addr}(W:Wh H x n f ad) (S:Se a H x t dd dk) (s:Ext x.p H H'):Wh H' x n f ad:=by
 have nl:∀ {b:Addr}{xs:List V},H b=some (.lst xs)→b≠x.p:=fun e z=>by rw[z,S.p] at e;cases e
 have nk:∀ {b:Addr}{xs:List (Key×V)},H b=some (.dK xs)→b≠x.p:=fun e z=>by rw[z,S.p] at e;cases e
 exact⟨s _ _ W.dw (nk W.dw),s _ _ W.dh (nk W.dh),fun i hi=>s _ _ (W.hl i hi) (nl (W.hl i hi)),W.n1,W.n2,W.n3⟩
def zGL (a:Ad):Sp:=fun vs H Q _=>∃ (x:Sx) (n:Nat) (dd:Addr) (dk:List Str) (ad:Nat→Addr) (e1 e2 e3 e4:Ex),vs=[.ref x.p]∧Se a H x ((n:Int)+1) dd dk∧Wh H x n (wS e1 e4 x.m) ad∧ProgAt a H e1 e2 e3 e4 x.r∧dd≠x.dw∧dd≠x.dh∧n≤20 ∧
 ∀ (ad':Nat→Addr) (H':Hp),Se a H' x (((n+1:Nat):Int)+1) dd dk→Wh H' x (n+1) (wS e1 e4 x.m) ad'→Fr3 x H H'→Q .non H'
theorem ztI (T:Txt w K mg a):FnOk P w K mg base CX0 12 a.f_qQ a.d_qQ ["self"] (zGL a):=by
 refine T.F_qQ.ok sc_qQ (fun vs H Q E h=>?_) (fun cdv A outer s H vs Q E hr h=>?_)
 ·obtain⟨x,n,dd,dk,ad,e1,e2,e3,e4,rfl,_⟩:=h
  rfl
 ·obtain⟨x,n,dd,dk,ad,e1,e2,e3,e4,rfl,S,W,PA,nd1,nd2,n20,q⟩:=h
  have hu:=yi hr
  refine zv (w_pss_cons (zl (i:=1) sc_qQ.nd rfl (Or.inl rfl) (vp rfl (by rfl) T.n_sorted zM (zi (w_pv 0) (zf w_pe_str w_pa_nil))))
   (w_pss_cons (wF (i:=2) rfl sc_qQ.nd rfl (Or.inl rfl) (N':=["pair"]) (t:=1) (caps:=[]) ⟨rfl,rfl,rfl⟩ (zC (w_pv 1)) (fun _=>(zr (i:=0) (show(["pair"]:List Str).Nodup by decide +kernel) rfl (Or.inl rfl))) (fun _=>zY) (fun _=>(w_pe_ix ix_tup (w_pv 0) w_pe_int (fun _ _=>rfl))))
   (w_pss_cons (zl (i:=3) sc_qQ.nd rfl (Or.inl rfl) (zi (zd (w_pv 0) rfl) (zt (w_pe_meth0D (w_pv 0)) (zb (zd (w_pv 0) rfl) (zb (zd (w_pv 0) rfl) (zt (w_pe_callB zw (by rfl) T.n_len ym (zb (zd (w_pv 0) rfl) w_pa_nil)) (za (w_pv 2) w_pa_nil)))))))
   (w_pss_cons (w_ps_dput hu (zd (w_pv 0) rfl) (zd (w_pv 0) rfl) (w_pv 3) rfl)
   (w_pss_cons (w_ps_dput hu (zd (w_pv 0) rfl) (zd (w_pv 0) rfl) (w_pv 1) rfl)
   (w_pss_cons (w_ps_expr (uz (zd (w_pv 0) rfl) (zd (w_pv 0) rfl) yv ⟨rfl,rfl,rfl,rfl⟩))
   (w_pss_one (vk (w_pv 0) w_pe_int zpl)))))))) ?_
  refine⟨_,rfl,x.p,_,x.dx,_,_,_,_,_,_,rfl,S.p,rfl,T.cl_Seat,T.mt_qH,ZT (P:=P) (w:=w) T,hr.m,T.b_qH,x,_,dd,dk,_,rfl,S,fun d H1 F1 y1=>⟨d,rfl,F1,fun l1 h1=>?_⟩⟩
  generalize hE:L2.upd H1 l1 _=H2
  obtain⟨F2,y2⟩:=al hE h1
  clear hE
  refine⟨_,rfl,l1,rfl,⟨_,SqL.of F2⟩,fun D hD _=>?_⟩
  refine yF (K:=K) (a:=l1) (xs:=[]) (fun m zs τ H'=>zs=[]∧H'=upd H2 D (.lst [])) ⟨rfl,rfl⟩ ?_ (fun m v zs τ H' hi=>nomatch hi) ?_
  ·rintro m zs τ H' ⟨_,rfl⟩
   exact SqL.of (Same.new hD _ _ F2)
  rintro zs τ H' ⟨rfl,rfl⟩
  generalize hE:L2.upd H2 D _=H3
  obtain⟨F3,y3⟩:=al hE hD
  clear hE
  have Y:=(y1.trans y2).trans y3
  have S3:=S.same Y
  have W3:=W.same Y
  have PA3:=PA.same Y
  obtain⟨pp,pdx,r1,r2,r3,r4,er,hpp,PF⟩:=PA
  refine⟨_,rfl,x.p,_,x.dx,_,_,rfl,S3.p,T.cl_Seat,T.na_Seat_program,rfl,pp,_,pdx,_,_,_,_,_,_,er,Y _ _ hpp,rfl,T.cl_Program,T.mt_qa9,UK (P:=P) (w:=w) T,hr.m,T.b_qa9,?_⟩
  refine⟨_,rfl,x.p,_,x.dx,_,_,_,_,_,_,rfl,S3.p,rfl,T.cl_Seat,T.mt_qG,ztF (P:=P) (w:=w) T,hr.m,T.b_qG,x,_,dd,dk,n,_,ad,rfl,S3,W3,?_⟩
  refine⟨_,rfl,x.p,_,x.dx,_,_,rfl,S3.p,T.cl_Seat,T.na_Seat_me,rfl,_,rfl,x.p,_,x.dx,_,_,rfl,S3.p,T.cl_Seat,T.na_Seat_turn,rfl,_,rfl,x.p,_,x.dx,_,_,rfl,S3.p,T.cl_Seat,T.na_Seat_near,rfl,x.an,_,rfl,.inl (SqL.of S3.an),_,rfl,?_⟩
  refine⟨_,e1,e2,e3,e4,_,_,_,_,D,[],rfl,er ▸ PA3,F3,fun H4 mn mx y4 lm mm=>?_⟩
  have vm:mn=0∧mx=0:=⟨lm.elim (·.2) fun z=>(nomatch z.1),mm.elim (·.2) fun z=>(nomatch z.1)⟩
  rw[vm.1,vm.2]
  have S4:=S3.same y4
  have W4:=W3.same y4
  refine⟨_,rfl,_,rfl,x.p,_,x.dx,_,_,rfl,S4.p,T.cl_Seat,T.na_Seat_worths,rfl,_,rfl,x.p,_,x.dx,_,_,rfl,S4.p,T.cl_Seat,T.na_Seat_turn,rfl,x.dw,_,rfl,DPut.k (k:=Sum.inl ((n:Int)+1)) W4.dw (by unfold wT;rw[List.length_map,List.length_range];exact zB (by omega)),?_⟩
  have ew:putK (wT (wS e1 e4 x.m) (n+1)) (Sum.inl ((n:Int)+1)) (V.int (wS e1 e4 x.m (n+1)))=wT (wS e1 e4 x.m) (n+2):=zbg (n:=n+1)
  have e5:L2.upd H4 x.dw (HO.dK (putK (wT (wS e1 e4 x.m) (n+1)) (Sum.inl ((n:Int)+1)) (V.int (e4.val (rho (kvR (wS e1 e4 x.m n) x.m ((n:Int)+1) 0 0 0 0 0))))))=L2.upd H4 x.dw (.dK (wT (wS e1 e4 x.m) (n+2))):=by rw[← ew];rfl
  refine(show _ from ?_:zrL _ _ _ _ (L2.upd H4 x.dw (HO.dK (putK (wT (wS e1 e4 x.m) (n+1)) (Sum.inl ((n:Int)+1)) (V.int (e4.val (rho (kvR (wS e1 e4 x.m n) x.m ((n:Int)+1) 0 0 0 0 0))))))))
  rw[e5]
  have S5:=S4.updD (kvs':=wT (wS e1 e4 x.m) (n+2)) W4.dw W4.n2 nd1.symm
  have w5:=upd_same (H:=H4) (a:=x.dw) (o:=.dK (wT (wS e1 e4 x.m) (n+2)))
  have X5:Ext x.dw H4 _:=Ext.at (o:=.dK (wT (wS e1 e4 x.m) (n+2)))
  generalize L2.upd H4 x.dw (.dK (wT (wS e1 e4 x.m) (n+2)))=H5 at *
  have h5:=X5 _ _ W4.dh W4.n1.symm
  refine⟨_,rfl,_,rfl,x.p,_,x.dx,_,_,rfl,S5.p,T.cl_Seat,T.na_Seat_pairs_heard,rfl,_,rfl,x.p,_,x.dx,_,_,rfl,S5.p,T.cl_Seat,T.na_Seat_turn,rfl,x.dh,_,rfl,DPut.k (k:=Sum.inl ((n:Int)+1)) h5 (by unfold hT;rw[List.length_map,List.length_range];exact zB (by omega)),?_⟩
  rw[zpm]
  have S6:=S5.updD (kvs':=hT (fun i=>if i=n then l1 else ad i) (n+1)) h5 W4.n3 nd2.symm
  have h6:=upd_same (H:=H5) (a:=x.dh) (o:=.dK (hT (fun i=>if i=n then l1 else ad i) (n+1)))
  have X6:Ext x.dh H5 _:=Ext.at (o:=.dK (hT (fun i=>if i=n then l1 else ad i) (n+1)))
  generalize L2.upd H5 x.dh (.dK (hT (fun i=>if i=n then l1 else ad i) (n+1)))=H6 at *
  have nlw:∀ {b:Addr},H4 b=some (.lst [])→H6 b=some (.lst []):=fun {b} e=>X6 _ _ (X5 _ _ e (fun z=>by rw[z,W4.dw] at e;cases e)) (fun z=>by rw[z,W4.dh] at e;cases e)
  have W6:Wh H6 x (n+1) (wS e1 e4 x.m) (fun i=>if i=n then l1 else ad i):=by
   refine⟨X6 _ _ w5 W4.n1,h6,fun i hi=>?_,W4.n1,W4.n2,W4.n3⟩
   by_cases z:i=n
   ·rw[if_pos z];exact nlw ((y3.trans y4) _ _ F2)
   ·rw[if_neg z];exact nlw (W4.hl i (by omega))
  refine⟨_,rfl,x.p,_,x.dx,_,_,rfl,S6.p,T.cl_Seat,T.na_Seat_mail,rfl,x.dm,rfl,.inl ⟨_,.inl S6.dm⟩,_,rfl,x.p,_,x.dx,_,_,rfl,S6.p,T.cl_Seat,T.na_Seat_turn,rfl,[],Sum.inl ((n:Int)+1),S6.dm,rfl,(fun v z=>nomatch (z:none=some v)),fun _=>?_⟩
  refine⟨_,rfl,x.p,_,x.dx,_,_,rfl,S6.p,T.cl_Seat,T.na_Seat_turn,rfl,_,_,rfl,rfl,x.dx,_,S6.p,(by show 15<1000;decide),?_⟩
  refine q (fun i=>if i=n then l1 else ad i) _ (S6.turn (t':=((n+1:Nat):Int)+1)) (W6.ext S6 Ext.at) fun b o e m1 m2 m3=>?_
  rw[ze m1]
  exact X6 _ _ (X5 _ _ ((Y.trans y4) _ _ e) m2) m3
structure Lo (a:Ad) (H0 H:Hp) (x:Sx) (dd0 dd l:Addr) (dk:List Str) (n:Nat) (ad:Nat→Addr) (e1 e2 e3 e4:Ex):Prop where
 S:Se a H x ((n:Int)+1) dd dk
 W:Wh H x n (wS e1 e4 x.m) ad
 A:ProgAt a H e1 e2 e3 e4 x.r
 l:H l=some (.lst [])
 n1:dd≠x.dw
 n2:dd≠x.dh
 f:∀ b o,H0 b=some o→b≠x.p→b≠x.dw→b≠x.dh→b≠dd0→H b=some o
 o:dd=dd0∨H0 dd=none
theorem Lo.same {a:Ad}{H0 H H':Hp}{x:Sx}{dd0 dd l:Addr}{dk:List Str}{n:Nat}{ad:Nat→Addr}{e1 e2 e3 e4:Ex}(L:Lo a H0 H x dd0 dd l dk n ad e1 e2 e3 e4) (s:Same H H'):Lo a H0 H' x dd0 dd l dk n ad e1 e2 e3 e4 :=
 ⟨L.S.same s,L.W.same s,L.A.same s,s _ _ L.l,L.n1,L.n2,fun b o e m1 m2 m3 m4=>s _ _ (L.f b o e m1 m2 m3 m4),L.o⟩
theorem Lo.step {a:Ad}{H0 H H':Hp}{x:Sx}{dd0 dd l:Addr}{dk dk':List Str}{n:Nat}{ad:Nat→Addr}{e1 e2 e3 e4:Ex}(L:Lo a H0 H x dd0 dd l dk n ad e1 e2 e3 e4) (s:Ext dd H H') (S':Se a H' x ((n:Int)+1) dd dk'):Lo a H0 H' x dd0 dd l dk' n ad e1 e2 e3 e4:=by
 have nl:∀ {b:Addr}{xs:List V},H b=some (.lst xs)→b≠dd:=fun e z=>by rw[z,L.S.d] at e;cases e
 refine⟨S',⟨s _ _ L.W.dw L.n1.symm,s _ _ L.W.dh L.n2.symm,fun i hi=>s _ _ (L.W.hl i hi) (nl (L.W.hl i hi)),L.W.n1,L.W.n2,L.W.n3⟩,L.A.keep fun b C dx fs _ _ e=>s _ _ e (fun z=>by rw[z,L.S.d] at e;cases e),s _ _ L.l (nl L.l),L.n1,L.n2,fun b o e m1 m2 m3 m4=>?_,L.o⟩
 refine s _ _ (L.f b o e m1 m2 m3 m4) fun z=>?_
 rcases L.o with w | w
 ·exact m4 (z.trans w)
 ·rw[← z,e] at w;cases w
theorem Lo.ext {a:Ad}{H0 H:Hp}{x:Sx}{dd0 dd l:Addr}{dk:List Str}{n:Nat}{ad:Nat→Addr}{e1 e2 e3 e4:Ex}(L:Lo a H0 H x dd0 dd l dk n ad e1 e2 e3 e4):upd H l (.lst ([]++[]))=H:=Zd L.l
theorem Lo.fr {a:Ad}{H0 H H':Hp}{x:Sx}{dd0 dd l:Addr}{dk:List Str}{n:Nat}{ad ad':Nat→Addr}{e1 e2 e3 e4:Ex}(L:Lo a H0 H x dd0 dd l dk n ad e1 e2 e3 e4) (s:Fr3 x H H') (S':Se a H' x (((n+1:Nat):Int)+1) dd dk) (W':Wh H' x (n+1) (wS e1 e4 x.m) ad'):Lo a H0 H' x dd0 dd l dk (n+1) ad' e1 e2 e3 e4:=by
 have hp:=L.S.p
 have hl:=L.l
 refine⟨S',W',L.A.keep fun b C dx fs _ h4 e=>s _ _ e (fun z=>?_) (fun z=>by rw[z,L.W.dw] at e;cases e) (fun z=>by rw[z,L.W.dh] at e;cases e),s _ _ hl (fun z=>by rw[z,hp] at hl;cases hl) (fun z=>by rw[z,L.W.dw] at hl;cases hl) (fun z=>by rw[z,L.W.dh] at hl;cases hl),L.n1,L.n2,fun b o e m1 m2 m3 m4=>s _ _ (L.f b o e m1 m2 m3 m4) m1 m2 m3,L.o⟩
 rw[z,hp] at e
 cases e
 exact absurd h4 (by show ¬ 15≤4;decide)
theorem Lo.begun {a:Ad}{H0 H H':Hp}{x:Sx}{dd0 dd d l:Addr}{dk:List Str}{n:Nat}{ad:Nat→Addr}{e1 e2 e3 e4:Ex}(L:Lo a H0 H x dd0 dd l dk n ad e1 e2 e3 e4) (s:Ext x.p H H') (S':Se a H' x ((n:Int)+1) d []) (hd:H d=none):Lo a H0 H' x dd0 d l [] n ad e1 e2 e3 e4:=by
 have hp:=L.S.p
 have hl:=L.l
 refine⟨S',L.W.ext L.S s,L.A.keep fun b C dx fs _ h4 e=>s _ _ e (fun z=>?_),s _ _ hl (fun z=>by rw[z,hp] at hl;cases hl),(fun z=>by rw[z,L.W.dw] at hd;cases hd),(fun z=>by rw[z,L.W.dh] at hd;cases hd),fun b o e m1 m2 m3 m4=>s _ _ (L.f b o e m1 m2 m3 m4) m1,?_⟩
 ·rw[z,hp] at e
  cases e
  exact absurd h4 (by show ¬ 15≤4;decide)
 ·by_cases c:d=dd0
  ·exact .inl c
  ·cases z:H0 d with
   |none=>exact .inr rfl
   |some o =>
    rw[L.f d o z (fun z=>by rw[z,hp] at hd;cases hd) (fun z=>by rw[z,L.W.dw] at hd;cases hd) (fun z=>by rw[z,L.W.dh] at hd;cases hd) c] at hd
    cases hd
def zGK (a:Ad):Sp:=fun vs H Q _=>∃ (x:Sx) (n N:Nat) (dd:Addr) (ad:Nat→Addr) (e1 e2 e3 e4:Ex),vs=[.ref x.p]∧Se a H x ((n:Int)+1) dd []∧Wh H x n (wS e1 e4 x.m) ad∧ProgAt a H e1 e2 e3 e4 x.r∧dd≠x.dw∧dd≠x.dh∧x.R=N∧n≤N∧N≤12 ∧
 ∀ (l dd':Addr) (ad':Nat→Addr) (H':Hp),H' l=some (.lst [])→Lo a H H' x dd dd' l [] N ad' e1 e2 e3 e4→Q (.ref l) H'
theorem ztH (T:Txt w K mg a):FnOk P w K mg base CX0 13 a.f_qL a.d_qL ["self"] (zGK a):=by
 refine T.F_qL.ok sc_qL (fun vs H Q E h=>?_) (fun cdv A outer s H vs Q E hr h=>?_)
 ·obtain⟨x,n,N,dd,ad,e1,e2,e3,e4,rfl,_⟩:=h
  rfl
 ·obtain⟨x,n,N,dd,ad,e1,e2,e3,e4,rfl,S,W,PA,nd1,nd2,hR,hn,hN,q⟩:=h
  have hu:=yi hr
  refine zv (w_pss_cons (zl (i:=1) sc_qL.nd rfl (Or.inl rfl) (zh w_pa_nil))
   (w_pss_cons (uw PassesOwn.never (w_pt_cmpR UE (zd (w_pv 0) rfl) (zd (w_pv 0) rfl) (zq _))
    (w_pss_cons (w_ps_expr (yb PySem.F.plainAttrs_list PySem.F.slot_list_extend PySem.F.type_list_extend yD (w_pv 1) (zt (w_pe_meth0D (w_pv 0)) w_pa_nil)))
    (w_pss_cons (w_ps_expr (yb PySem.F.plainAttrs_list PySem.F.slot_list_extend PySem.F.type_list_extend yD (w_pv 1) (zt (w_pe_meth0D (w_pv 0)) w_pa_nil)))
    (w_pss_cons (w_ps_expr (yb PySem.F.plainAttrs_list PySem.F.slot_list_extend PySem.F.type_list_extend yD (w_pv 1) (zt (w_pe_meth0D (w_pv 0)) w_pa_nil)))
    (w_pss_cons (w_ps_if (zy (zo (zi (w_pv 0) (zf w_pe_str (zf w_pe_str w_pa_nil)))))
     (w_pss_one (w_ps_ret (w_pv 1)))
     zg)
    (w_pss_cons (w_ps_expr (yb PySem.F.plainAttrs_list PySem.F.slot_list_extend PySem.F.type_list_extend yD (w_pv 1) (zt (zi (w_pv 0) (zf w_pe_str (zb (zd (w_pv 0) rfl) w_pa_nil))) w_pa_nil)))
    (w_pss_cons (w_ps_expr (w_pe_meth0D (w_pv 0)))
    (w_pss_one (w_ps_expr (yb PySem.F.plainAttrs_list PySem.F.slot_list_extend PySem.F.type_list_extend yD (w_pv 1) (zt (w_pe_meth0D (w_pv 0)) w_pa_nil)))))))))))
   (w_pss_one (w_ps_ret (w_pv 1))))) ?_
  refine⟨(by show 0≤sizeLine;decide),fun l hl=>?_⟩
  generalize hE:L2.upd H l _=H1
  obtain⟨F1,y1⟩:=al hE hl
  clear hE
  refine⟨fun m σ H'=>∃ (i:Nat) (dd':Addr) (ad':Nat→Addr),σ=[some (.ref x.p),some (.ref l)]∧Lo a H H' x dd dd' l [] i ad' e1 e2 e3 e4∧i≤N∧m=N-i,⟨N-n,n,dd,ad,rfl,⟨S.same y1,W.same y1,PA.same y1,F1,nd1,nd2,fun b o e _ _ _ _=>y1 _ _ e,.inl rfl⟩,hn,rfl⟩,?_⟩
  rintro m σ G ⟨i,d1,ad1,rfl,L,hi,rfl⟩
  refine⟨_,rfl,x.p,_,x.dx,_,_,rfl,L.S.p,T.cl_Seat,T.na_Seat_turn,rfl,_,rfl,x.p,_,x.dx,_,_,rfl,L.S.p,T.cl_Seat,T.na_Seat_rounds,rfl,_,_,rfl,rfl,_,rfl,ui (fun z=>?_) (fun z=>?_)⟩
  ·have z:(i:Int)+1≤x.R:=of_decide_eq_true z
   refine⟨fun σ' H'=>∃ (dd':Addr) (ad':Nat→Addr),σ'=[some (.ref x.p),some (.ref l)]∧Lo a H H' x dd dd' l [] (i+1) ad' e1 e2 e3 e4,?_,?_⟩
   ·rintro σ' H' ⟨d2,ad2,rfl,L2⟩
    exact⟨N-(i+1),by omega,i+1,d2,ad2,rfl,L2,by omega,rfl⟩
   refine⟨_,rfl,.inl ⟨rfl,_,SqL.of L.l⟩,_,rfl,x.p,_,x.dx,_,_,_,_,_,_,rfl,L.S.p,rfl,T.cl_Seat,T.mt_qN,ztz (P:=P) (w:=w) T,hr.m,T.b_qN,x,_,d1,_,rfl,L.S,(fun z=>nomatch z),(fun n z=>nomatch z),(by decide),fun b1 G1 f1 x1 s1=>?_⟩
   have L1:=L.step x1 s1
   refine⟨l,b1,_,_,rfl,rfl,L1.l,f1,(by show 0≤sizeLine;decide),?_⟩
   rw[L1.ext]
   refine⟨_,rfl,.inl ⟨rfl,_,SqL.of L1.l⟩,_,rfl,x.p,_,x.dx,_,_,_,_,_,_,rfl,L1.S.p,rfl,T.cl_Seat,T.mt_qO,ztB (P:=P) (w:=w) T,hr.m,T.b_qO,x,_,d1,_,rfl,L1.S,(by decide),(by decide),(by decide),fun b2 G2 f2 x2 s2=>?_⟩
   have L2:=L1.step x2 s2
   refine⟨l,b2,_,_,rfl,rfl,L2.l,f2,(by show 0≤sizeLine;decide),?_⟩
   rw[L2.ext]
   refine⟨_,rfl,.inl ⟨rfl,_,SqL.of L2.l⟩,_,rfl,x.p,_,x.dx,_,_,_,_,_,_,rfl,L2.S.p,rfl,T.cl_Seat,T.mt_qP,ztA (P:=P) (w:=w) T,hr.m,T.b_qP,x,_,d1,_,rfl,L2.S,(by decide),(by decide),(by decide),fun b3 G3 f3 x3 s3=>?_⟩
   have L3:=L2.step x3 s3
   refine⟨l,b3,_,_,rfl,rfl,L3.l,f3,(by show 0≤sizeLine;decide),?_⟩
   rw[L3.ext]
   refine⟨_,rfl,x.p,_,x.dx,_,_,_,_,_,_,rfl,L3.S.p,rfl,T.cl_Seat,T.mt_qM,zn1 (P:=P) (w:=w) T,hr.m,T.b_qM,x,_,d1,_,_,_,rfl,L3.S,(by decide),fun G4 y4=>⟨_,rfl,zG rfl ?_⟩⟩
   have L4:=L3.same y4
   refine⟨_,rfl,.inl ⟨rfl,_,SqL.of L4.l⟩,_,rfl,x.p,_,x.dx,_,_,_,_,_,_,rfl,L4.S.p,rfl,T.cl_Seat,T.mt_qJ,ZO (P:=P) (w:=w) T,hr.m,T.b_qJ,_,rfl,x.p,_,x.dx,_,_,rfl,L4.S.p,T.cl_Seat,T.na_Seat_below,rfl,x,_,d1,_,_,x.ab,rfl,L4.S,L4.S.ab,fun b5 G5 f5 _ y5=>?_⟩
   have L5:=L4.same y5
   refine⟨l,b5,_,_,rfl,rfl,L5.l,f5,(by show 0≤sizeLine;decide),?_⟩
   rw[L5.ext]
   refine⟨_,rfl,x.p,_,x.dx,_,_,_,_,_,_,rfl,L5.S.p,rfl,T.cl_Seat,T.mt_qQ,ztI (P:=P) (w:=w) T,hr.m,T.b_qQ,x,i,d1,_,ad1,e1,e2,e3,e4,rfl,L5.S,L5.W,L5.A,L5.n1,L5.n2,by omega,fun ad6 G6 S6 W6 x6=>?_⟩
   have L6:=L5.fr x6 S6 W6
   refine⟨_,rfl,.inl ⟨rfl,_,SqL.of L6.l⟩,_,rfl,x.p,_,x.dx,_,_,_,_,_,_,rfl,L6.S.p,rfl,T.cl_Seat,T.mt_qK,zn4 (P:=P) (w:=w) T,hr.m,T.b_qK,x,_,d1,_,rfl,L6.S,fun b7 d7 G7 f7 _ hd7 S7 x7=>?_⟩
   have L7:=L6.begun x7 S7 hd7
   refine⟨l,b7,_,_,rfl,rfl,L7.l,f7,(by show 0≤sizeLine;decide),?_⟩
   rw[L7.ext]
   exact⟨d7,ad6,rfl,L7⟩
  ·have z:¬ (i:Int)+1≤x.R:=fun w=>z (decide_eq_true w)
   obtain rfl:i=N:=by omega
   exact⟨_,rfl,q l d1 ad1 _ L.l L⟩
def zsV (a:Ad):Sp:=fun vs H Q _=>∃ (x:Sx) (N:Nat) (dd:Addr) (ad:Nat→Addr) (e1 e2 e3 e4:Ex),vs=[.ref x.p]∧Se a H x 1 dd []∧Wh H x 0 (wS e1 e4 x.m) ad∧ProgAt a H e1 e2 e3 e4 x.r∧x.R=N∧N≤12 ∧
 ∀ (l dd':Addr) (ad':Nat→Addr) (H':Hp),H' l=some (.lst [])→Se a H' x ((N:Int)+1) dd' []→Wh H' x N (wS e1 e4 x.m) ad'→Fr3 x H H'→Q (.ref l) H'
theorem zn5 (T:Txt w K mg a):FnOk P w K mg base CX0 14 a.f_qC a.d_qC ["self"] (zsV a):=by
 refine T.F_qC.ok ztp (fun vs H Q E h=>?_) (fun cdv A outer s H vs Q E hr h=>?_)
 ·obtain⟨x,N,dd,ad,e1,e2,e3,e4,rfl,_⟩:=h
  rfl
 ·obtain⟨x,N,dd,ad,e1,e2,e3,e4,rfl,S,W,PA,hR,hN,q⟩:=h
  refine zv (w_pss_one (w_ps_ret (zj yq (w_pe_meth0D (w_pv 0)) (w_pe_meth0D (w_pv 0))))) ?_
  refine⟨_,rfl,x.p,_,x.dx,_,_,_,_,_,_,rfl,S.p,rfl,T.cl_Seat,T.mt_qK,zn4 (P:=P) (w:=w) T,hr.m,T.b_qK,x,_,dd,_,rfl,S,fun b d H1 f1 hb hd S1 x1=>?_⟩
  have hp:=S.p
  have PA1:ProgAt a H1 e1 e2 e3 e4 x.r:=PA.keep fun c C dx fs _ h4 e=>x1 _ _ e (fun z=>by
   rw[z,hp] at e
   cases e
   exact absurd h4 (by show ¬ 15≤4;decide))
  have W1:=W.ext S x1
  refine⟨_,rfl,x.p,_,x.dx,_,_,_,_,_,_,rfl,S1.p,rfl,T.cl_Seat,T.mt_qL,ztH (P:=P) (w:=w) T,hr.m,T.b_qL,x,0,N,d,ad,e1,e2,e3,e4,rfl,S1,W1,PA1,(fun z=>by rw[z,W.dw] at hd;cases hd),(fun z=>by rw[z,W.dh] at hd;cases hd),hR,Nat.zero_le _,hN,fun l d2 ad2 H2 f2 L=>?_⟩
  have nb:H2 b=some (.lst []):=L.f b _ f1 (fun z=>by rw[z,S.p] at hb;cases hb) (fun z=>by rw[z,W.dw] at hb;cases hb) (fun z=>by rw[z,W.dh] at hb;cases hb) (fun z=>by rw[z,S1.d] at f1;cases f1)
  refine⟨b,l,[],[],rfl,rfl,nb,f2,(by show 0≤sizeLine;decide),fun l3 hl3=>?_⟩
  have y:=Same.new (o:=.lst []) hl3
  refine q l3 d2 ad2 _ upd_same (L.S.same y) (L.W.same y) fun c o e m1 m2 m3=>y _ _ ?_
  exact L.f c o (x1 _ _ e m1) m1 m2 m3 (fun z=>by rw[z,hd] at e;cases e)
theorem fl {G G':Hp}{p:Addr}{o:HO}(e:upd G p o=G'):G' p=some o∧Ext p G G':=by
 subst e
 exact⟨upd_same,Ext.at⟩
def Wj (a:Ad):Sp:=fun vs H Q _=>∃ (p dx pw py:Addr) (r:V) (R m:Int) (hs us:LI) (wx oh ol dn yx dp ob:Addr) (ad:Int→Addr) (e1 e2 e3 e4:Ex),vs=[.ref p,.ref pw,.ref py,r,.int R,.int m]∧H p=some (.ins a.c_Seat dx [])∧WebAt a H pw hs wx oh ol dn ad∧m∈hs∧WayAt a H py us yx dp ob∧ProgAt a H e1 e2 e3 e4 r ∧
 ∀ (x:Sx) (dd:Addr) (H':Hp),x.p=p→x.r=r→x.R=R→x.m=m→Se a H' x 1 dd []→Wh H' x 0 (wS e1 e4 m) (fun _=>0)→Ext p H H'→H x.dw=none→H x.dh=none→Q .non H'
theorem UI (T:Txt w K mg a):FnOk P w K mg base CX0 12 a.f_qB a.d_qB ["self", "web", "way", "program", "rounds", "hand"] (Wj a):=by
 refine T.F_qB.ok sc_qB (fun vs H Q E h=>?_) (fun cdv A outer s H vs Q E hr h=>?_)
 ·obtain⟨p,dx,pw,py,r,R,m,hs,us,wx,oh,ol,dn,yx,dp,ob,ad,e1,e2,e3,e4,rfl,_⟩:=h
  rfl
 ·obtain⟨p,dx,pw,py,r,R,m,hs,us,wx,oh,ol,dn,yx,dp,ob,ad,e1,e2,e3,e4,rfl,hp,Wb,hm,Wy,PA,q⟩:=h
  refine zv (w_pss_cons (zl (i:=6) sc_qB.nd rfl (Or.inl rfl) (zi (w_pv 2) (za (w_pv 5) w_pa_nil)))
   (w_pss_cons (w_ps_fld (w_pv 0) (w_pv 1) rfl)
   (w_pss_cons (w_ps_fld (w_pv 0) (w_pv 2) rfl)
   (w_pss_cons (w_ps_fld (w_pv 0) (w_pv 3) rfl)
   (w_pss_cons (w_ps_fld (w_pv 0) (w_pv 4) rfl)
   (w_pss_cons (w_ps_fld (w_pv 0) (w_pv 5) rfl)
   (w_pss_cons (w_ps_fld (w_pv 0) (zi (w_pv 1) (za (w_pv 5) w_pa_nil)) rfl)
   (w_pss_cons (w_ps_fld (w_pv 0) (xW (w_pt_cmpR znV (w_pv 6) yv (zq _)) (zh w_pa_nil) (zh (za (w_pv 6) w_pa_nil))) rfl)
   (w_pss_cons (w_ps_fld (w_pv 0) (zi (w_pv 2) (za (w_pv 5) w_pa_nil)) rfl)
   (w_pss_cons (w_ps_fld (w_pv 0) (zi (w_pv 2) (za (w_pv 5) w_pa_nil)) rfl)
   (w_pss_cons (w_ps_fld (w_pv 0) (w_pe_disp (w_pps_cons w_pe_int (zi (w_pv 3) (za (w_pv 5) (zt (w_pe_callB zw (by rfl) T.n_len ym (zb (zd (w_pv 0) rfl) w_pa_nil)) w_pa_nil))) zZ) rfl rfl (by intro z;cases z) (by decide)) rfl)
   (w_pss_cons (w_ps_fld (w_pv 0) w_pe_dnewK rfl)
   (w_pss_cons (w_ps_fld (w_pv 0) w_pe_dnewK rfl)
   (w_pss_cons (w_ps_fld (w_pv 0) w_pe_int rfl)
   (w_pss_cons (w_ps_fld (w_pv 0) w_pe_int rfl)
   (w_pss_one (w_ps_fld (w_pv 0) w_pe_dnewK rfl))))))))))))))))) ?_
  have kp:∀ {H':Hp}{b:Addr}{o:HO},Ext p H H'→H b=some o→o≠.ins a.c_Seat dx []→H' b=some o:=fun s e n=>s _ _ e (fun z=>n (by rw[z,hp] at e;injection e with e;exact e.symm))
  have kWb:∀ {H':Hp},Ext p H H'→WebAt a H' pw hs wx oh ol dn ad:=fun s=>⟨kp s Wb.p (by intro z;injection z with _ _ z;cases z),kp s Wb.oh (by intro z;cases z),kp s Wb.d (by intro z;cases z),fun x hx=>kp s (Wb.nb x hx) (by intro z;cases z)⟩
  have kWy:∀ {H':Hp},Ext p H H'→WayAt a H' py us yx dp ob:=fun s=>⟨kp s Wy.p (by intro z;injection z with _ _ z;cases z),kp s Wy.dp (by intro z;cases z),kp s Wy.ob (by intro z;cases z),Wy.l12⟩
  have kPA:∀ {H':Hp},Ext p H H'→ProgAt a H' e1 e2 e3 e4 r:=fun s=>PA.keep fun b C dx' fs h0 _ e=>kp s e (by intro z;injection z with _ _ z;rw[z] at h0;exact absurd h0 (by decide))
  refine⟨_,rfl,py,_,yx,_,_,_,_,_,_,rfl,Wy.p,rfl,T.cl_Way,T.mt_qy,ztC (P:=P) (w:=w) T,hr.m,T.b_qy,_,rfl,py,yx,dp,ob,us,m,rfl,Wy,fun H1 y1=>?_⟩
  have hp1:=y1 _ _ hp
  refine⟨_,rfl,_,rfl,p,a.c_Seat,dx,_,rfl,hp1,T.cl_Seat,T.na_Seat_web,(by show 0<1000;decide),_,rfl,_,rfl,p,a.c_Seat,dx,_,rfl,upd_same,T.cl_Seat,T.na_Seat_way,(by show 1<1000;decide),_,rfl,_,rfl,p,a.c_Seat,dx,_,rfl,upd_same,T.cl_Seat,T.na_Seat_program,(by show 2<1000;decide),_,rfl,_,rfl,p,a.c_Seat,dx,_,rfl,upd_same,T.cl_Seat,T.na_Seat_rounds,(by show 3<1000;decide),_,rfl,_,rfl,p,a.c_Seat,dx,_,rfl,upd_same,T.cl_Seat,T.na_Seat_me,(by show 4<1000;decide),?_⟩
  generalize hE:L2.upd _ p _=H2
  have F2:H2 p=some (.ins a.c_Seat dx [("web",.ref pw),("way",.ref py),("program",r),("rounds",.int R),("me",.int m)]):=by
   rw[← hE];exact upd_same
  have X2:Ext p H H2:=fun b o e n=>by
   rw[← hE,ze n,ze n,ze n,ze n,ze n]
   exact y1 _ _ e
  clear hE
  have Wb2:=kWb X2
  refine⟨_,rfl,pw,_,wx,_,_,_,_,_,_,rfl,Wb2.p,rfl,T.cl_Web,T.mt_qb4,ztE (P:=P) (w:=w) T,hr.m,T.b_qb4,_,rfl,pw,m,hs,wx,oh,ol,dn,ad,rfl,Wb2,hm,fun an han=>?_⟩
  have nf:∀ {G:Hp}{b:Addr}{o:HO},G p=some o→G b=none→b≠p:=fun h1 h2 z=>by rw[z,h1] at h2;cases h2
  have nan:=nf F2 han
  generalize hE:L2.upd H2 an _=H3
  obtain⟨f3,y3⟩:=al hE han
  clear hE
  refine⟨_,rfl,p,a.c_Seat,dx,_,rfl,y3 _ _ F2,T.cl_Seat,T.na_Seat_near,(by show 5<1000;decide),?_⟩
  generalize hE:L2.upd H3 p _=H4
  obtain⟨F4,x4⟩:=fl hE
  clear hE
  refine⟨_,rfl,rfl,_,rfl,iteB rfl ⟨(by show 0≤sizeLine;decide),fun aa haa=>?_⟩⟩
  have naa:=nf F4 haa
  generalize hE:L2.upd H4 aa _=H5
  obtain⟨f5,y5⟩:=al hE haa
  clear hE
  refine⟨_,rfl,p,a.c_Seat,dx,_,rfl,y5 _ _ F4,T.cl_Seat,T.na_Seat_above,(by show 6<1000;decide),?_⟩
  generalize hE:L2.upd H5 p _=H6
  obtain⟨F6,x6⟩:=fl hE
  clear hE
  have X6:Ext p H H6:=((X2.trans (Ext.same y3)).trans x4).trans ((Ext.same y5).trans x6)
  have Wy6:=kWy X6
  refine⟨_,rfl,py,_,yx,_,_,_,_,_,_,rfl,Wy6.p,rfl,T.cl_Way,T.mt_qz,ztK (P:=P) (w:=w) T,hr.m,T.b_qz,_,rfl,py,yx,dp,ob,us,m,rfl,Wy6,fun ab H7 hab f7 y7=>?_⟩
  have nab:=nf F6 hab
  refine⟨_,rfl,p,a.c_Seat,dx,_,rfl,y7 _ _ F6,T.cl_Seat,T.na_Seat_below,(by show 7<1000;decide),?_⟩
  generalize hE:L2.upd H7 p _=H8
  obtain⟨F8,x8⟩:=fl hE
  clear hE
  have X8:Ext p H H8:=X6.trans ((Ext.same y7).trans x8)
  have Wy8:=kWy X8
  refine⟨_,rfl,py,_,yx,_,_,_,_,_,_,rfl,Wy8.p,rfl,T.cl_Way,T.mt_qA,ztL (P:=P) (w:=w) T,hr.m,T.b_qA,_,rfl,py,yx,dp,ob,us,m,rfl,Wy8,fun ac H9 hac f9 y9=>?_⟩
  have nac:=nf F8 hac
  refine⟨_,rfl,p,a.c_Seat,dx,_,rfl,y9 _ _ F8,T.cl_Seat,T.na_Seat_across,(by show 8<1000;decide),?_⟩
  generalize hE:L2.upd H9 p _=H10
  obtain⟨F10,x10⟩:=fl hE
  clear hE
  have X10:Ext p H H10:=X8.trans ((Ext.same y9).trans x10)
  refine fun dw hdw=>?_
  have ndw:=nf F10 hdw
  generalize hE:L2.upd H10 dw _=H11
  obtain⟨f11,y11⟩:=al hE hdw
  clear hE
  have X11:=X10.trans (Ext.same (l:=p) y11)
  have PA11:=kPA X11
  have F11:=y11 _ _ F10
  have an11:H11 an=some (.lst []):=y11 _ _ (x10 _ _ (y9 _ _ (x8 _ _ (y7 _ _ (x6 _ _ (y5 _ _ (x4 _ _ f3 nan)) nan)) nan)) nan)
  have aa11:H11 aa=some (.lst []):=y11 _ _ (x10 _ _ (y9 _ _ (x8 _ _ (y7 _ _ (x6 _ _ f5 naa)) naa)) naa)
  have ab11:H11 ab=some (.lst []):=y11 _ _ (x10 _ _ (y9 _ _ (x8 _ _ f7 nab)) nab)
  have ac11:H11 ac=some (.lst []):=y11 _ _ (x10 _ _ f9 nac)
  obtain⟨pp,pdx,r1,r2,r3,r4,er,hpp,PF⟩:=id PA11
  refine⟨_,rfl,pp,_,pdx,_,_,_,_,_,_,er,hpp,rfl,T.cl_Program,T.mt_qa7,Xs (P:=P) (w:=w) T,hr.m,T.b_qa7,_,rfl,_,rfl,p,_,dx,_,_,rfl,F11,T.cl_Seat,T.na_Seat_near,rfl,an,_,rfl,.inl (SqL.of an11),_,e1,e2,e3,e4,_,_,rfl,er ▸ PA11,fun H12 y12=>?_⟩
  refine⟨y12 _ _ f11,[(Sum.inl 0,.int (wS e1 e4 m 0))],rfl,(by show 1≤15;decide),?_⟩
  generalize hE:L2.upd H12 dw _=H13
  obtain⟨f13,x13⟩:=fl hE
  clear hE
  have d12:=y12 _ _ f11
  have k13:∀ {b:Addr},H11 b=some (.lst [])→H13 b=some (.lst []):=fun {b} e=>x13 _ _ (y12 _ _ e) (fun z=>by rw[z,f11] at e;cases e)
  refine⟨_,rfl,p,a.c_Seat,dx,_,rfl,x13 _ _ (y12 _ _ F11) ndw.symm,T.cl_Seat,T.na_Seat_worths,(by show 9<1000;decide),?_⟩
  generalize hE:L2.upd H13 p _=H14
  obtain⟨F14,x14⟩:=fl hE
  clear hE
  refine fun dh hdh=>?_
  have ndh:=nf F14 hdh
  generalize hE:L2.upd H14 dh _=H15
  obtain⟨f15,y15⟩:=al hE hdh
  clear hE
  refine⟨_,rfl,p,a.c_Seat,dx,_,rfl,y15 _ _ F14,T.cl_Seat,T.na_Seat_pairs_heard,(by show 10<1000;decide),?_⟩
  generalize hE:L2.upd H15 p _=H16
  obtain⟨F16,x16⟩:=fl hE
  clear hE
  refine fun dm hdm=>?_
  have ndm:=nf F16 hdm
  generalize hE:L2.upd H16 dm _=H17
  obtain⟨f17,y17⟩:=al hE hdm
  clear hE
  refine⟨_,rfl,p,a.c_Seat,dx,_,rfl,y17 _ _ F16,T.cl_Seat,T.na_Seat_mail,(by show 11<1000;decide),?_⟩
  generalize hE:L2.upd H17 p _=H18
  obtain⟨F18,x18⟩:=fl hE
  clear hE
  refine⟨_,rfl,p,a.c_Seat,dx,_,rfl,F18,T.cl_Seat,T.na_Seat_turn,(by show 12<1000;decide),?_⟩
  generalize hE:L2.upd H18 p _=H19
  obtain⟨F19,x19⟩:=fl hE
  clear hE
  refine⟨_,rfl,p,a.c_Seat,dx,_,rfl,F19,T.cl_Seat,T.na_Seat_awaited,(by show 13<1000;decide),?_⟩
  generalize hE:L2.upd H19 p _=H20
  obtain⟨F20,x20⟩:=fl hE
  clear hE
  refine fun dd hdd=>?_
  have ndd:=nf F20 hdd
  generalize hE:L2.upd H20 dd _=H21
  obtain⟨f21,y21⟩:=al hE hdd
  clear hE
  refine⟨_,rfl,p,a.c_Seat,dx,_,rfl,y21 _ _ F20,T.cl_Seat,T.na_Seat_did,(by show 14<1000;decide),?_⟩
  generalize hE:L2.upd H21 p _=H22
  obtain⟨F22,x22⟩:=fl hE
  clear hE
  have Z17:Ext p H17 H22:=((x18.trans x19).trans x20).trans ((Ext.same y21).trans x22)
  have Z15:Ext p H15 H22:=(x16.trans (Ext.same y17)).trans Z17
  have Z13:Ext p H13 H22:=(x14.trans (Ext.same y15)).trans Z15
  have Z20:Ext p H17 H20:=(x18.trans x19).trans x20
  have dw17:=y17 _ _ (x16 _ _ (y15 _ _ (x14 _ _ f13 ndw)) ndw)
  have dh17:=y17 _ _ (x16 _ _ f15 ndh)
  have hx:∀ {b:Addr}{o:HO},H b=some o→b≠p→H22 b=some o:=fun {b o} e n=>by
   have e12:=y12 _ _ (X11 _ _ e n)
   refine Z13 _ _ (x13 _ _ e12 fun z=>?_) n
   rw[z] at e
   rw[X10 _ _ e ndw] at hdw
   cases hdw
  refine q ⟨p,dx,pw,py,an,aa,ab,ac,dw,dh,dm,r,R,m⟩ dd H22 rfl rfl rfl rfl ⟨F22,Z13 _ _ (k13 an11) nan,Z13 _ _ (k13 aa11) naa,Z13 _ _ (k13 ab11) nab,Z13 _ _ (k13 ac11) nac,Z17 _ _ f17 ndm,x22 _ _ f21 ndd,fun z=>?_⟩ ⟨Z13 _ _ f13 ndw,Z15 _ _ f15 ndh,(fun i hi=>absurd hi (Nat.not_lt_zero _)),fun z=>?_,fun z=>?_,fun z=>?_⟩ (fun b o e n=>hx e n) ?_ ?_
  ·have e:=Z20 _ _ f17 ndm
   rw[show dm=dd from z,hdd] at e
   cases e
  ·have e:=x14 _ _ f13 ndw
   rw[show dw=dh from z,hdh] at e
   cases e
  ·have e:=x16 _ _ (y15 _ _ (x14 _ _ f13 ndw)) ndw
   rw[show dw=dm from z,hdm] at e
   cases e
  ·have e:=x16 _ _ f15 ndh
   rw[show dh=dm from z,hdm] at e
   cases e
  ·show H dw=none
   cases z:H dw with
   |none=>rfl
   |some o=>rw[X10 _ _ z ndw] at hdw;cases hdw
  ·show H dh=none
   cases z:H dh with
   |none=>rfl
   |some o =>
    have e12:=y12 _ _ (X11 _ _ z ndh)
    have e13:H13 dh=some o:=by
     by_cases c:dh=dw
     ·rw[c] at z;rw[X10 _ _ z ndw] at hdw;cases hdw
     ·exact x13 _ _ e12 c
    rw[x14 _ _ e13 ndh] at hdh
    cases hdh
def zsU (a:Ad):Sp:=fun vs H Q _=>∃ (x:Sx) (t:Int) (dd:Addr) (dk:List Str),vs=[.ref x.p]∧Se a H x t dd dk∧Q (.int (t-1)) H
theorem ZS (T:Txt w K mg a):FnOk P w K mg base CX0 1 a.f_qD a.d_qD ["self"] (zsU a):=by
 refine T.F_qD.ok zto (fun vs H Q E h=>?_) (fun cdv A outer s H vs Q E hr h=>?_)
 ·obtain⟨x,t,dd,dk,rfl,_⟩:=h
  rfl
 ·obtain⟨x,t,dd,dk,rfl,S,q⟩:=h
  refine zv (w_pss_one (w_ps_ret (zj yp (zd (w_pv 0) rfl) w_pe_int))) ?_
  exact⟨_,rfl,x.p,_,x.dx,_,_,rfl,S.p,T.cl_Seat,T.na_Seat_turn,rfl,_,_,rfl,rfl,q⟩
def zGC (a:Ad):Sp:=fun vs H Q _=>∃ (x:Sx) (t:Int) (dd:Addr) (dk:List Str) (n i:Nat) (f:Nat→Int) (ad:Nat→Addr),vs=[.ref x.p,.int (i:Int)]∧Se a H x t dd dk∧Wh H x n f ad∧i≤n∧Q (.int (f i)) H
theorem Xn (T:Txt w K mg a):FnOk P w K mg base CX0 2 a.f_qE a.d_qE ["self", "turn"] (zGC a):=by
 have c_qa:Callee P w K mg base "is_whole" a.f_qa a.d_qa ["value"] 1 (v8 K whole):=⟨zE T,T.g_qa,T.F_qa.kp,T.b_qa⟩
 refine T.F_qE.ok znK (fun vs H Q E h=>?_) (fun cdv A outer s H vs Q E hr h=>?_)
 ·obtain⟨x,t,dd,dk,n,i,f,ad,rfl,_⟩:=h
  rfl
 ·obtain⟨x,t,dd,dk,n,i,f,ad,rfl,S,W,hi,q⟩:=h
  have hu:=yi hr
  refine zv (w_pss_cons (w_ps_if (w_pt (w_pw_or (zy (zo (zk c_qa hr.m (za (w_pv 1) w_pa_nil)))) (zD (zV (yc hu (w_pv 1) (zd (w_pv 0) rfl))))))
    (w_pss_one zK)
    zg)
   (w_pss_one (w_ps_ret (w_pe_dget hu (zd (w_pv 0) rfl) (w_pv 1) (fun _ _=>rfl))))) ?_
  have g:=zbh (f:=f) (Nat.lt_succ_of_le hi) ▸ DGet.k (k:=Sum.inl (i:Int)) W.dw
  refine⟨_,rfl,_,rfl,lf_int T _,_,rfl,zG rfl ?_⟩
  refine⟨_,rfl,_,rfl,x.p,_,x.dx,_,_,rfl,S.p,T.cl_Seat,T.na_Seat_worths,rfl,x.dw,_,rfl,g,_,rfl,zG rfl ?_⟩
  exact⟨_,rfl,x.p,_,x.dx,_,_,rfl,S.p,T.cl_Seat,T.na_Seat_worths,rfl,_,rfl,x.dw,_,rfl,g,q⟩
def zGI (a:Ad):Sp:=fun vs H Q _=>∃ (x:Sx) (t:Int) (dd:Addr) (dk:List Str) (n i:Nat) (f:Nat→Int) (ad:Nat→Addr),vs=[.ref x.p,.int ((i:Int)+1)]∧Se a H x t dd dk∧Wh H x n f ad∧i<n∧∀ l,H l=none→Q (.ref l) (upd H l (.lst []))
theorem zn2 (T:Txt w K mg a):FnOk P w K mg base CX0 2 a.f_qF a.d_qF ["self", "turn"] (zGI a):=by
 have c_qa:Callee P w K mg base "is_whole" a.f_qa a.d_qa ["value"] 1 (v8 K whole):=⟨zE T,T.g_qa,T.F_qa.kp,T.b_qa⟩
 refine T.F_qF.ok znJ (fun vs H Q E h=>?_) (fun cdv A outer s H vs Q E hr h=>?_)
 ·obtain⟨x,t,dd,dk,n,i,f,ad,rfl,_⟩:=h
  rfl
 ·obtain⟨x,t,dd,dk,n,i,f,ad,rfl,S,W,hi,q⟩:=h
  have hu:=yi hr
  refine zv (w_pss_cons (w_ps_if (w_pt (w_pw_or (zy (zo (zk c_qa hr.m (za (w_pv 1) w_pa_nil)))) (zD (zV (yc hu (w_pv 1) (zd (w_pv 0) rfl))))))
    (w_pss_one zK)
    zg)
   (w_pss_one (w_ps_ret (zz yk (by rfl) T.n_list yS (zb (w_pe_dget hu (zd (w_pv 0) rfl) (w_pv 1) (fun _ _=>rfl)) w_pa_nil))))) ?_
  have g:=zyB (ad:=ad) hi ▸ DGet.k (k:=Sum.inl ((i:Int)+1)) W.dh
  refine⟨_,rfl,_,rfl,lf_int T _,_,rfl,zG rfl ?_⟩
  refine⟨_,rfl,_,rfl,x.p,_,x.dx,_,_,rfl,S.p,T.cl_Seat,T.na_Seat_pairs_heard,rfl,x.dh,_,rfl,g,_,rfl,zG rfl ?_⟩
  exact⟨_,rfl,x.p,_,x.dx,_,_,rfl,S.p,T.cl_Seat,T.na_Seat_pairs_heard,rfl,_,rfl,x.dh,_,rfl,g,ad i,_,rfl,.inl (SqL.of (W.hl i hi)),q⟩
def NoR (lo hi:Int) (v:V):Prop:=∀ i:Int,v=.int i→i<lo∨hi<i
def zDC (a:Ad) (K:PySem.W.Frag) (lo:Int):Sp:=fun vs H _ E=>∃ (x:Sx) (t:Int) (dd:Addr) (dk:List Str) (n:Nat) (f:Nat→Int) (ad:Nat→Addr) (v:V),vs=[.ref x.p,v]∧Se a H x t dd dk∧Wh H x n f ad∧Lf K H v∧NoR lo n v∧E (.ref a.c_NoRound) none H
theorem X4 {v:V}(h:whole v=true):∃ i,v=.int i:=by
 cases v with
 |int i=>exact⟨i,rfl⟩
 |_=>cases h
theorem zty (T:Txt w K mg a):FnOk P w K mg base (CX1 P w) 2 a.f_qE a.d_qE ["self", "turn"] (zDC a K 0):=by
 have c_qa:Callee P w K mg base "is_whole" a.f_qa a.d_qa ["value"] 1 (v8 K whole):=⟨zE T,T.g_qa,T.F_qa.kp,T.b_qa⟩
 refine T.F_qE.ok1 znK (fun vs H Q E h=>?_) (fun cdv A outer s H vs Q E hr h=>?_)
 ·obtain⟨x,t,dd,dk,n,f,ad,v,rfl,_⟩:=h
  rfl
 ·obtain⟨x,t,dd,dk,n,f,ad,v,rfl,S,W,hv,hn,q⟩:=h
  have hu:=yi hr
  refine zv (w_pss_cons (w_ps_if (w_pt (w_pw_or (zy (zo (zk c_qa hr.m (za (w_pv 1) w_pa_nil)))) (zD (zV (yc hu (w_pv 1) (zd (w_pv 0) rfl))))))
    (w_pss_one (xV hr.hd T.xc_NoRound T.g_NoRound (zf w_pe_str w_pa_nil)))
    zg)
   (w_pss_one (w_ps_ret (w_pe_dget hu (zd (w_pv 0) rfl) (w_pv 1) (fun _ _=>rfl))))) ?_
  refine⟨_,rfl,_,rfl,hv,_,rfl,?_⟩
  cases hw:whole v with
  |false=>exact iteB rfl ⟨by show 1≤1000;decide,q⟩
  |true =>
   obtain⟨i,rfl⟩:=X4 hw
   refine zG rfl ?_
   have g:yL (wT f (n+1)) (Sum.inl i:Key)=none:=by
    have:=xw (kvs:=wT f (n+1)) (k:=(Sum.inl i:Key)) (by
     rw[vq,xK]
     intro z
     obtain⟨j,h1,h2⟩:=List.mem_map.mp z
     have h3:=List.mem_range.mp h1
     have h4:=hn i rfl
     omega)
    simpa using this
   refine⟨_,rfl,_,rfl,x.p,_,x.dx,_,_,rfl,S.p,T.cl_Seat,T.na_Seat_worths,rfl,x.dw,_,rfl,g ▸ DGet.k (k:=Sum.inl i) W.dw,_,rfl,iteB rfl ?_⟩
   exact⟨by show 1≤1000;decide,q⟩
theorem ztG (T:Txt w K mg a):FnOk P w K mg base (CX1 P w) 2 a.f_qF a.d_qF ["self", "turn"] (zDC a K 1):=by
 have c_qa:Callee P w K mg base "is_whole" a.f_qa a.d_qa ["value"] 1 (v8 K whole):=⟨zE T,T.g_qa,T.F_qa.kp,T.b_qa⟩
 refine T.F_qF.ok1 znJ (fun vs H Q E h=>?_) (fun cdv A outer s H vs Q E hr h=>?_)
 ·obtain⟨x,t,dd,dk,n,f,ad,v,rfl,_⟩:=h
  rfl
 ·obtain⟨x,t,dd,dk,n,f,ad,v,rfl,S,W,hv,hn,q⟩:=h
  have hu:=yi hr
  refine zv (w_pss_cons (w_ps_if (w_pt (w_pw_or (zy (zo (zk c_qa hr.m (za (w_pv 1) w_pa_nil)))) (zD (zV (yc hu (w_pv 1) (zd (w_pv 0) rfl))))))
    (w_pss_one (xV hr.hd T.xc_NoRound T.g_NoRound (zf w_pe_str w_pa_nil)))
    zg)
   (w_pss_one (w_ps_ret (zz yk (by rfl) T.n_list yS (zb (w_pe_dget hu (zd (w_pv 0) rfl) (w_pv 1) (fun _ _=>rfl)) w_pa_nil))))) ?_
  refine⟨_,rfl,_,rfl,hv,_,rfl,?_⟩
  cases hw:whole v with
  |false=>exact iteB rfl ⟨by show 1≤1000;decide,q⟩
  |true =>
   obtain⟨i,rfl⟩:=X4 hw
   refine zG rfl ?_
   have g:yL (hT ad n) (Sum.inl i:Key)=none:=by
    have:=xw (kvs:=hT ad n) (k:=(Sum.inl i:Key)) (by
     rw[Yp,xK]
     intro z
     obtain⟨j,h1,h2⟩:=List.mem_map.mp z
     have h3:=List.mem_range.mp h1
     have h4:=hn i rfl
     omega)
    simpa using this
   refine⟨_,rfl,_,rfl,x.p,_,x.dx,_,_,rfl,S.p,T.cl_Seat,T.na_Seat_pairs_heard,rfl,x.dh,_,rfl,g ▸ DGet.k (k:=Sum.inl i) W.dh,_,rfl,iteB rfl ?_⟩
   exact⟨by show 1≤1000;decide,q⟩
abbrev zrF:List V:=[.bl true,.bl true,.bl false,.bl false,.bl false,.bl false]
def zDG (a:Ad) (K:PySem.W.Frag):Sp:=fun vs H Q _=>∃ (x:Sx) (t:Int) (dd:Addr) (dk:List Str) (n:Nat) (f:Nat→Int) (ad:Nat→Addr) (v:V) (b:Bool),vs=[.ref x.p,v,.bl b]∧Se a H x t dd dk∧Wh H x n f ad∧Lf K H v∧NoR (if b then 1 else 0) n v∧∀ (l:Addr) (H':Hp),H' l=some (.lst zrF)→Same H H'→Q (.ref l) H'
theorem ztJ (T:Txt w K mg a):FnOk P w K mg base CX0 3 a.f_qu a.d_qu ["_law_seat", "_law_turn", "_law_heard"] (zDG a K):=by
 refine T.F_qu.ok sc_qu (fun vs H Q E h=>?_) (fun cdv A outer s H vs Q E hr h=>?_)
 ·obtain⟨x,t,dd,dk,n,f,ad,v,b,rfl,_⟩:=h
  rfl
 ·obtain⟨x,t,dd,dk,n,f,ad,v,b,rfl,S,W,hv,hn,q⟩:=h
  have hu:=yi hr
  refine zv (w_pss_cons (zl (i:=3) sc_qu.nd rfl (Or.inl rfl) (zh w_pa_nil))
   (xt (u8 (i:=4) rfl rfl sc_qu.nd rfl rfl (Or.inl T.xc_BeatlessError) T.g_BeatlessError (Vo (zo (w_pv 2)) (wE (xU (w_pv 0) (za (w_pv 1) w_pa_nil))) (wE (xU (w_pv 0) (za (w_pv 1) w_pa_nil)))) (fun _=>(w_pss_cons (zl (i:=3) sc_qu.nd rfl (Or.inl rfl) (zh (zt (w_pe_callB (yt (K:=K) rfl) (by rfl) T.n_isinstance zm (za (w_pv 4) (za (zS T.g_NoRound) w_pa_nil))) (zt (w_pe_callB (yt (K:=K) rfl) (by rfl) T.n_isinstance zm (za (w_pv 4) (za (zT T.n_ValueError wB) w_pa_nil))) (zt (w_pe_callB (yt (K:=K) rfl) (by rfl) T.n_isinstance zm (za (w_pv 4) (za (zS T.g_NoHand) w_pa_nil))) (zt (w_pe_callB (yt (K:=K) rfl) (by rfl) T.n_isinstance zm (za (w_pv 4) (za (zS T.g_NoLetter) w_pa_nil))) w_pa_nil))))))
    (w_pss_one (zl (i:=3) sc_qu.nd rfl (Or.inl rfl) (zj yq (w_pv 3) (zh (zt (w_pe_callB (yt (K:=K) rfl) (by rfl) T.n_isinstance zm (za (w_pv 4) (za (zS T.g_NoWay) w_pa_nil))) (zt (w_pe_callB (yt (K:=K) rfl) (by rfl) T.n_isinstance zm (za (w_pv 4) (za (zS T.g_Fallen) w_pa_nil))) w_pa_nil)))))))))
   (w_pss_one (w_ps_ret (w_pv 3))))) ?_
  refine⟨(by show 0≤sizeLine;decide),fun q1 h1=>?_⟩
  generalize hE:L2.upd H q1 _=H1
  obtain⟨F1,y1⟩:=al hE h1
  clear hE
  have S1:=S.same y1
  have W1:=W.same y1
  have hv1:=hv.same y1
  refine⟨fun σ' H'=>∃ (l:Addr) (o:Option V),σ'=[some (.ref x.p),some v,some (.bl b),some (.ref l),o]∧H' l=some (.lst zrF)∧Same H H',?_,?_⟩
  ·cases b
   case' true=>refine⟨_,rfl,_,rfl,Yi ⟨_,rfl,x.p,_,x.dx,_,_,_,_,_,_,rfl,S1.p,rfl,T.cl_Seat,T.mt_qF,ztG (P:=P) (w:=w) T,hr.m,T.b_qF,_,rfl,x,t,dd,dk,n,f,ad,v,rfl,S1,W1,hv1,hn,a.c_NoRound,rfl,T.xu_NoRound_BeatlessError,.inl T.xc_NoRound,?_⟩⟩
   case' false=>refine⟨_,rfl,_,rfl,zG rfl ⟨_,rfl,x.p,_,x.dx,_,_,_,_,_,_,rfl,S1.p,rfl,T.cl_Seat,T.mt_qE,zty (P:=P) (w:=w) T,hr.m,T.b_qE,_,rfl,x,t,dd,dk,n,f,ad,v,rfl,S1,W1,hv1,hn,a.c_NoRound,rfl,T.xu_NoRound_BeatlessError,.inl T.xc_NoRound,?_⟩⟩
   all_goals
    intro ax hax
    have hX:L2.upd H1 ax (.ext (ObX ax a.c_NoRound none)) ax=some (.ext (ObC ax a.c_NoRound)):=upd_same
    have sX:=Same.new (o:=HO.ext (ObX ax a.c_NoRound none)) hax
    generalize L2.upd H1 ax (.ext (ObX ax a.c_NoRound none))=H2 at *
    refine⟨_,rfl,ax,a.c_NoRound,_,_,_,rfl,rfl,hX,T.xi_NoRound,T.k_NoRound_NoRound,_,rfl,ax,a.c_NoRound,_,_,_,rfl,rfl,hX,T.xi_NoRound,T.k_NoRound_tValueError,_,rfl,ax,a.c_NoRound,_,_,_,rfl,rfl,hX,T.xi_NoRound,T.k_NoRound_NoHand,_,rfl,ax,a.c_NoRound,_,_,_,rfl,rfl,hX,T.xi_NoRound,T.k_NoRound_NoLetter,(by show 4≤sizeLine;decide),fun l3 h3=>?_⟩
    generalize hE:L2.upd H2 l3 _=H3
    obtain⟨F3,y3⟩:=al hE h3
    clear hE
    refine⟨_,rfl,_,rfl,ax,a.c_NoRound,_,_,_,rfl,rfl,y3 _ _ hX,T.xi_NoRound,T.k_NoRound_NoWay,_,rfl,ax,a.c_NoRound,_,_,_,rfl,rfl,y3 _ _ hX,T.xi_NoRound,T.k_NoRound_Fallen,(by show 2≤sizeLine;decide),fun l4 h4=>?_⟩
    generalize hE:L2.upd H3 l4 _=H4
    obtain⟨F4,y4⟩:=al hE h4
    clear hE
    refine⟨l3,l4,_,_,rfl,rfl,y4 _ _ F3,F4,(by show 6≤sizeLine;decide),fun l5 h5=>?_⟩
    exact⟨l5,_,rfl,upd_same,((y1.trans sX).trans (y3.trans y4)).trans (Same.new h5)⟩
  ·rintro σ' H' ⟨l,o,rfl,hl,sm⟩
   exact⟨_,rfl,q l H' hl sm⟩
end
end K04
namespace L2
open PySem
def tbl (led:Bool) (ps:List Nat):SetTable:={ mask:=7,place:=ps.toArray,dummies:=#[],finger:=0,led:=led,moves:=0,plain:=true }
def vh:Nat→Nat→List (List Nat)
 |_,0=>[[]]
 |0,_=>[[]]
 |n+1,m+1=>vh (n+1) m++(vh n m).map (· ++ [m])
def zpe (led:Bool) (ps:List Nat) (h:Nat):Bool :=
 match (tbl led ps).freeSlot (h:Int) with
 |some (j,false)=>Nat.blt j 8&&!ps.contains j
 |_=>false
theorem zaF:[true,false].all (fun led=>(vh 2 8).all fun ps=>(List.range 100).all fun h=>zpe led ps h)=true:=by decide +kernel
def znP (ps:List Nat) (j:Nat):Bool:=ps.contains j||(vh 3 8).contains (SetTable.insertAt ps.toArray (SetTable.below ps.toArray j) j).toList
theorem Uw:(vh 2 8).all (fun ps=>(List.range 8).all fun j=>znP ps j)=true:=by decide +kernel
theorem Vp:(vh 3 8).all (fun ps=>Nat.ble 3 ps.length||(vh 2 8).contains ps)=true:=by decide +kernel
theorem vf:(vh 3 8).all (fun ps=>Nat.ble ps.length 3&&(List.range (ps.length+1)).all fun i=>Nat.beq (SetTable.below ps.toArray (if i=0 then 0 else ps.getD (i-1) 0+1)) i)=true:=by decide +kernel
theorem XO:(List.range 100).all (fun h=>hashInt (h:Int) == (h:Int))=true:=by decide +kernel
theorem zpd (led:Bool){ps:List Nat}(hp:ps∈vh 3 8) (hl:ps.length≤2){v:Int}(h0:0≤v) (h1:v<100) :
  ∃ j,(tbl led ps).freeSlot (hashInt v)=some (j,false)∧(SetTable.insertAt ps.toArray (SetTable.below ps.toArray j) j).toList∈vh 3 8:=by
 obtain⟨n,rfl⟩:=Int.eq_ofNat_of_zero_le h0
 have hn:n∈List.range 100:=List.mem_range.mpr (by omega)
 have e2:Nat.ble 3 ps.length=false:=by
  cases h:Nat.ble 3 ps.length with
  |false=>rfl
  |true=>have:=Nat.le_of_ble_eq_true h;omega
 have h2:=List.all_eq_true.mp Vp ps hp
 rw[e2,Bool.false_or] at h2
 replace h2:ps∈vh 2 8:=by simpa using h2
 have e3:=List.all_eq_true.mp (List.all_eq_true.mp (List.all_eq_true.mp zaF led (by cases led<;>simp)) ps h2) n hn
 have e4:hashInt (n:Int)=(n:Int):=by simpa using List.all_eq_true.mp XO n hn
 rw[e4]
 unfold zpe at e3
 cases z:(tbl led ps).freeSlot (n:Int) with
 |none=>rw[z] at e3;cases e3
 |some q =>
  obtain⟨j,d⟩:=q
  rw[z] at e3
  cases d with
  |true=>cases e3
  |false =>
   rw[Bool.and_eq_true] at e3
   have e5:=List.all_eq_true.mp (List.all_eq_true.mp Uw ps h2) j (List.mem_range.mpr (by have:=Nat.le_of_ble_eq_true e3.1;omega))
   unfold znP at e5
   have e6:ps.contains j=false:=by simpa using e3.2
   rw[e6,Bool.false_or] at e5
   exact⟨j,rfl,by simpa using e5⟩
theorem XZ {ps:List Nat}(hp:ps∈vh 3 8){i:Nat}(hi:i≤ps.length):SetTable.below ps.toArray (if i=0 then 0 else ps.getD (i-1) 0+1)=i:=by
 have e1:=List.all_eq_true.mp vf ps hp
 rw[Bool.and_eq_true] at e1
 have e2:=List.all_eq_true.mp e1.2 i (List.mem_range.mpr (by omega))
 exact Nat.eq_of_beq_eq_true e2
theorem wN {ps:List Nat}(hp:ps∈vh 3 8):ps.length≤3:=by
 have e1:=List.all_eq_true.mp vf ps hp
 rw[Bool.and_eq_true] at e1
 exact Nat.le_of_ble_eq_true e1.1
theorem ins_len {α:Type}(xs:Array α) (p:Nat) (x:α):(SetTable.insertAt xs p x).size=xs.size+1:=by
 have:=(SetTable.insertAt_perm xs p x).length_eq
 simpa using this
def en (p:Int×Nat):Int×Value:=(hashInt p.1,.int p.1 p.2)
def SsO (w:World) (o:Obj) (ps:List (Int×Nat)):Prop :=
 ∃ (es:Array (Int×Value)) (ep:Nat) (qs:List Nat),o.ExactSet∧o.data=.set es ep (tbl (!w.params.followText "set-order") qs)∧es.toList=ps.map en∧(ps.map (·.1)).Nodup∧qs.length=ps.length∧qs∈vh 3 8
section
variable {prog:Program}{w:World}{A:Around}{E:Value→Shared→Prop}{s:Shared}
theorem um (ps:List (Int×Nat)):ElemsOf (intKind prog w) (ps.map en):=by
 intro e he
 obtain⟨p,_,rfl⟩:=List.mem_map.mp he
 exact⟨⟨p.1,intKind_is _ _ _ _,rfl⟩,rfl⟩
theorem xk {led:Bool}{qs:List Nat}{n:Nat}(h:qs.length=n) (h3:n≤3):(tbl led qs).fits n=true:=by
 unfold SetTable.fits SetTable.fill tbl
 simp[h]
 omega
theorem zno {a:Addr}{o:Obj}{ps:List (Int×Nat)}{v:Int}{tk:Nat}{Q:Bool→Shared→Prop}(ho:s.heap.get? a=some o) (hS:SsO w o ps) (hl:ps.length≤2) (h0:0≤v) (h1:v<100)
  (h:∀ (b:Bool) (h':Heap) (o':Obj) (ps':List (Int×Nat)),h'.get? a=some o'→SsO w o' ps'→(∀ k,k∈ps'.map (·.1)↔k∈ps.map (·.1)∨k=v)→ps'.length≤ps.length+1→Heap.SameBut a s.heap h'→Q b { s with heap:=h' }) :
  wpAny (model prog w) A (setAddHashed a (.int v tk) (hashInt v)) Q E s:=by
 obtain⟨es,ep,qs,hex,hd,hes,nd,hq,hr⟩:=hS
 have hz:es.size=ps.length:=by rw[← Array.length_toList,hes,List.length_map]
 have hf:(tbl (!w.params.followText "set-order") qs).fits es.size=true:=xk (by omega) (by omega)
 have hel:ElemsOf (intKind prog w) es.toList:=by rw[hes];exact um ps
 have hkey:(intKind prog w).is v (.int v tk)=true:=intKind_is _ _ _ _
 have hb:es.size<scanBound:=by unfold scanBound;omega
 unfold setAddHashed setAddHashedIn
 refine wpAny_holding (wpAny_bind (wpAny_setState_of ho hd hf ?_))
 dsimp only
 rw[byScan_of (knd:=intKind prog w) rfl hb hel]
 simp only[↓reduceIte]
 unfold setAddByScan
 refine wpAny_bind ?_
 refine wpAny_bind (wpAny_rule ?_)
 refine wpAny_bind (wpAny_setScan_of (knd:=intKind prog w) hkey ho hd hf hel ?_)
 have ismem:∀ (p:Int×Nat),(intKind prog w).is v (en p).2=true↔p.1=v:=fun p=>by
  constructor
  ·intro e
   exact(intKind prog w).inj _ _ _ (intKind_is prog w p.1 p.2) e
  ·intro e
   rw[← e]
   exact intKind_is prog w p.1 p.2
 cases hrr:List.findIdx? (fun e=>(intKind prog w).is v e.2) es.toList with
 |some j =>
  dsimp only
  obtain⟨hj,hpj,_⟩:=List.findIdx?_eq_some_iff_getElem.mp hrr
  have hm:es.toList[j]∈ps.map en:=hes ▸ List.getElem_mem hj
  obtain⟨p,hp1,hp2⟩:=List.mem_map.mp hm
  rw[← hp2] at hpj
  have ev:=(ismem p).mp hpj
  refine wpAny_pure (wpAny_pure (h false s.heap o ps ho ⟨es,ep,qs,hex,hd,hes,nd,hq,hr⟩ (fun k=>⟨.inl,fun z=>z.elim id fun z=>?_⟩) (by omega) (Heap.SameBut.refl a s.heap)))
  rw[z,← ev]
  exact List.mem_map_of_mem hp1
 |none =>
  dsimp only
  have hno:v∉ps.map (·.1):=fun hm=>by
   obtain⟨p,hp1,hp2⟩:=List.mem_map.mp hm
   have:=List.findIdx?_eq_none_iff.mp hrr (en p) (hes ▸ List.mem_map_of_mem hp1)
   rw[(ismem p).mpr hp2] at this
   cases this
  obtain⟨j,ej,hj⟩:=zpd (!w.params.followText "set-order") hr (by omega) h0 h1
  have e2:layNew (tbl (!w.params.followText "set-order") qs) es (hashInt v) (.int v tk)=(SetTable.insertAt es (SetTable.below qs.toArray j) (en (v,tk)),tbl (!w.params.followText "set-order") (SetTable.insertAt qs.toArray (SetTable.below qs.toArray j) j).toList,false,false):=by
   have f2:(tbl (!w.params.followText "set-order") (SetTable.insertAt qs.toArray (SetTable.below qs.toArray j) j).toList).fits (SetTable.insertAt es (SetTable.below qs.toArray j) (en (v,tk))).size=true:=xk (by rw[Array.length_toList,ins_len,ins_len,hz];simp[hq]) (by rw[ins_len];omega)
   have e3:(tbl (!w.params.followText "set-order") qs).put j=(tbl (!w.params.followText "set-order") (SetTable.insertAt qs.toArray (SetTable.below qs.toArray j) j).toList,SetTable.below qs.toArray j):=by
    unfold SetTable.put tbl
    have:SetTable.has #[] j=false:=by rfl
    simp[this]
   unfold layNew
   rw[ej]
   dsimp only
   rw[e3]
   dsimp only
   unfold SetTable.orStandIn
   rw[show SetTable.insertAt es (SetTable.below qs.toArray j) (hashInt v,Value.int v tk)=SetTable.insertAt es (SetTable.below qs.toArray j) (en (v,tk)) from rfl,f2]
   rfl
  change wpAny (model prog w) A (match layNew (tbl (!w.params.followText "set-order") qs) es (hashInt v) (.int v tk) with | (es,t,wasDummy,gave)=>_) _ _ _
  rw[e2]
  dsimp only
  have hsz:(SetTable.insertAt es (SetTable.below qs.toArray j) (en (v,tk))).size=ps.length+1:=by rw[ins_len,hz]
  refine wpAny_bind (wpAny_pure ?_)
  rw[if_pos (show(tbl (!w.params.followText "set-order") (SetTable.insertAt qs.toArray (SetTable.below qs.toArray j) j).toList).plain=true from rfl)]
  refine wpAny_bind ?_
  rw[hashByValue_scannable 8 (show(Value.int v tk).scannable=true from rfl)]
  refine wpAny_pure ?_
  rw[if_pos (show plainKind (Value.int v tk)=true from rfl)]
  refine wpAny_bind (wpAny_storeSet_of ho hd ?_ (by rw[hsz,sizeLine_eq];omega))
  have tf:(tbl (!w.params.followText "set-order") (SetTable.insertAt qs.toArray (SetTable.below qs.toArray j) j).toList).tooFull=false:=by
   unfold SetTable.tooFull SetTable.fill tbl
   have:(SetTable.insertAt qs.toArray (SetTable.below qs.toArray j) j).size≤3:=by rw[ins_len];simp;omega
   simp
   omega
  rw[tf]
  have pm:=SetTable.insertAt_perm es (SetTable.below qs.toArray j) (en (v,tk))
  rw[Array.toList_push,hes] at pm
  have pm2:(SetTable.insertAt es (SetTable.below qs.toArray j) (en (v,tk))).toList=((SetTable.insertAt (ps.toArray) (SetTable.below qs.toArray j) (v,tk)).toList).map en:=by
   unfold SetTable.insertAt
   simp only[Array.toList_append,Array.toList_push,Array.toList_extract,List.map_append,hes]
   have hs:es.size=ps.length:=hz
   simp[List.extract_eq_drop_take,List.map_take,List.map_drop,hs,hes]
  have pm3:=SetTable.insertAt_perm ps.toArray (SetTable.below qs.toArray j) (v,tk)
  rw[Array.toList_push] at pm3
  have hg:(s.heap.update a (Obj.putSet (SetTable.insertAt es (SetTable.below qs.toArray j) (en (v,tk))) (tbl (!w.params.followText "set-order") (SetTable.insertAt qs.toArray (SetTable.below qs.toArray j) j).toList))).get? a=some { o with data:=.set (SetTable.insertAt es (SetTable.below qs.toArray j) (en (v,tk))) (ep+1) (tbl (!w.params.followText "set-order") (SetTable.insertAt qs.toArray (SetTable.below qs.toArray j) j).toList) }:=by
   have:=Heap.get?_update_self (Obj.putSet (SetTable.insertAt es (SetTable.below qs.toArray j) (en (v,tk))) (tbl (!w.params.followText "set-order") (SetTable.insertAt qs.toArray (SetTable.below qs.toArray j) j).toList)) ho (by rw[putSet_of _ _ hd];rfl)
   rw[putSet_of _ _ hd] at this
   exact this
  refine wpAny_pure (wpAny_pure (h true _ _ (SetTable.insertAt ps.toArray (SetTable.below qs.toArray j) (v,tk)).toList hg ⟨_,_,_,hex,rfl,pm2,?_,?_,hj⟩ (fun k=>?_) (by rw[Array.length_toList,ins_len];simp) (Heap.SameBut.update s.heap a _)))
  ·refine(pm3.map (·.1)).nodup_iff.mpr ?_
   rw[List.map_append]
   refine List.nodup_append.mpr ⟨nd,by simp,fun x hx y hy=>?_⟩
   simp at hy
   rintro rfl
   subst hy
   exact hno hx
  ·rw[Array.length_toList,Array.length_toList,ins_len,ins_len];simp[hq]
  ·rw[(pm3.map (·.1)).mem_iff,List.map_append,List.mem_append]
   simp
end
end L2
namespace L2
open PySem PySem.Spec PyProof.Rows
open PySem.F
section
variable {prog:Program}{w:World}{A:Around}{E:Value→Shared→Prop}{s:Shared}
def Z9 (w:World):Obj:={ cls:=.type "set",dict:=none,data:=.set #[] 0 (tbl (!w.params.followText "set-order") []) }
theorem zaA (w:World):SsO w (Z9 w) []:=⟨#[],0,[],⟨rfl,rfl,rfl⟩,rfl,rfl,List.nodup_nil,rfl,by decide⟩
theorem ZF (a:Value){Q₁:Value→Shared→Prop}(h:Q₁ (.ref s.heap.objs.size) { s with heap:=s.heap.push (Z9 w) }) :
  codeAny (model prog w) A (.call (.builtin "set.__new__") ⟨[.type "set",a],[]⟩) (wants Q₁ E) s:=by
 refine codeAny_of_tree (show wpAny _ A.in1 (do checkBuiltinCall "set.__new__" ⟨[.type "set",a],[]⟩;again (.builtin "set.__new__" ⟨[.type "set",a],[]⟩)) _ _ s from ?_)
 refine wpAny_bind (wpAny_of_eq (newCall_set_1 a) (wpAny_pure ⟨plainId_quiet plain_set_new _,codeAny_builtin entry_set_new ?_⟩))
 rw[Around.under_plainId plain_set_new _]
 unfold Builtin.«set.__new__» Builtin.Frozenset.newClass
 have hsub:=sub_set_self
 obtain⟨hp,g,d,tk,os⟩:=s
 dsimp only
 wp_walk
 refine wpAny_askSetting (wpAny_pure ?_)
 dsimp only
 simp only[newObj]
 exact wpAny_bind (wpAny_alloc (wpAny_pure (wpAny_pure h)))
def zpw (w:World) (h:Heap) (S:Addr) (ns:LI) (i:Nat):Prop:=∃ o ps,h.get? S=some o∧SsO w o ps∧ps.length≤i∧∀ x,x∈ps.map (·.1)↔x∈ns.take i
theorem Uj {R:Result→Shared→Prop}{I:Addr}{fp wr:List Addr}{G:Array GenState→Array GenState→Prop}{n:Nat}{P:Nat→Value→Prop}{St:Nat→Shared→Prop}(W:WalksS prog w A.in1 I fp wr G n P St) (S:Addr) (hSf:S∉fp){ns:LI}(hn:n=ns.length) (h3:ns.length≤3)
  (hval:∀ i v,P i v→∃ t,v=.int (ns.getD i 0) t) (hb:∀ x∈ns,0≤x∧x<100) :
  ∀ (k i:Nat) (s:Shared),n-i=k→i≤n→St i s→zpw w s.heap S ns i →
   (∀ s',Moved (S::wr) G s s'→zpw w s'.heap S ns n→R (.ok (.ret .none)) s')→codeAny (model prog w) A (.builtin "set.update.loop" ⟨[.ref S,.ref I],[]⟩) R s:=by
 have hSw:S∉wr:=fun h=>hSf (W.sub _ h)
 have hsub:∀ b∈wr,b∈S::wr:=fun b q=>.tail _ q
 intro k
 induction k with
 |zero =>
  intro i s hk hi hst hS hR
  obtain rfl:i=n:=by omega
  refine codeAny_builtin F.entry_set_update_loop ?_
  rw[Around.under_plainId F.plain_set_update_loop _]
  refine(show wpAny _ A.in1 (pyNext (.ref I) >>= _) _ _ s from wpAny_bind (W.done s _ _ hst fun s' hm=>?_))
  obtain⟨o,ps,ho,r⟩:=hS
  exact(show wpAny _ A.in1 (ret Value.none) _ _ s' from wpAny_pure (hR s' (hm.mono hsub) ⟨o,ps,hm.heap S _ hSw ho,r⟩))
 |succ k ih =>
  intro i s hk hi hst hS hR
  have hlt:i<n:=by omega
  refine codeAny_builtin F.entry_set_update_loop ?_
  rw[Around.under_plainId F.plain_set_update_loop _]
  refine(show wpAny _ A.in1 (pyNext (.ref I) >>= _) _ _ s from wpAny_bind (W.item i s _ _ hlt hst fun v s' hP hst' hm=>?_))
  obtain⟨t,rfl⟩:=hval i v hP
  obtain⟨o,ps,ho,hS2,hl,hx⟩:=hS
  have ho':=hm.heap S _ hSw ho
  have hi2:i<ns.length:=by omega
  have eg:ns.getD i 0=ns[i]:=by rw[List.getD_eq_getElem?_getD,List.getElem?_eq_getElem hi2];rfl
  have hbv:=hb _ (List.getElem_mem hi2)
  rw[← eg] at hbv
  refine(show wpAny _ A.in1 (holding [Value.int (ns.getD i 0) t] (setAdd S (.int (ns.getD i 0) t)) >>= _) _ _ s' from wpAny_bind (wpAny_holding ?_))
  unfold setAdd
  refine wpAny_holding (wpAny_bind ((intKind prog w).pyHash (k:=ns.getD i 0) (intKind_is _ _ _ _) ?_))
  refine zno (s:={ s' with toks:=s'.toks+1 }) ho' hS2 (by omega) hbv.1 hbv.2 fun b h' o' ps' q1 q2 q3 q4 hsb=>?_
  have hA:zpw w h' S ns (i+1):=⟨o',ps',q1,q2,by omega,fun x=>by
   rw[q3 x,hx x,List.take_succ_eq_append_getElem hi2,List.mem_append,eg]
   simp⟩
  refine wpAny_pure ⟨plainId_quiet F.plain_set_update_loop _,ih (i+1) _ (by omega) hlt (W.frame _ s' _ _ hst' (Nat.le_succ _) fun b hb o e=>?_) hA fun s'' hm'' hS''=>?_⟩
  ·exact(hsb.2 b (fun z:b=S=>hSf (z ▸ hb))).trans e
  ·exact hR s'' (Moved.trans W.gtrans ((hm.mono hsub).then_heap (Nat.le_succ _) fun b o hb e=>(hsb.2 b (fun z:b=S=>hb (z ▸ .head _))).trans e) hm'') hS''
theorem Ur {l:Addr}{items:Array Value}{ns:LI}{Q:Value→Shared→Prop}
  (hh:A.handled=none) (hl:s.heap.IsList l items) (hi:IntsAre items.toList ns) (h3:ns.length≤3) (hb:∀ x∈ns,0≤x∧x<100)
  (h:∀ (h':Heap) (tk:Nat),zpw w h' s.heap.objs.size ns ns.length →
   (∀ b o,b<s.heap.objs.size→s.heap.get? b=some o→h'.get? b=some o)→Q (.ref s.heap.objs.size) { s with heap:=h',toks:=tk }) :
  wpAny (model prog w) A (call (.type "set") [.ref l]) Q E s:=by
 obtain⟨c,tl,hmro⟩:=F.called_set.mro
 have hmade:=F.called_set.made
 have hsub:=F.called_set.sub
 have hlen:items.size=ns.length:=by rw[← Array.length_toList];exact hi.length
 refine wpAny_call (codeAny_of_tree (show wpAny _ _ (callAny (.type "set") _) _ _ _ from wpAny_pure ⟨Code.quiet_builtin _ (by decide +kernel),codeAny_builtin F.entry_type_call ?_⟩))
 rw[Around.under_plain (weight_type_call_type "set" [.ref l] []) rfl]
 have h1:=F.called_set.notType
 have h2:=F.called_set.canCreate
 have hct:=F.typeCall_set_1 (.ref l)
 repeat (any_goals (first | assumption | wp_step))
 refine codeAny_mono (ZF (w:=w) (.ref l) (E:=E) (Q₁:=fun obj s₁=>obj=.ref s.heap.objs.size∧s₁={ s with heap:=s.heap.push (Z9 w) }) ⟨rfl,rfl⟩) fun r s₁ hr=>?_
 rcases r with e | fl
 ·exact hr
 rcases fl with obj | _ | _ | _
 all_goals try exact hr.elim
 obtain⟨rfl,rfl⟩:=hr
 have hS:(s.heap.push (Z9 w)).get? s.heap.objs.size=some (Z9 w):=Heap.get?_push_size _ rfl
 have hT:Shared.TypeIs { s with heap:=s.heap.push (Z9 w) } (.ref s.heap.objs.size) "set" := ⟨_,hS,rfl⟩
 have hli:=F.called_set.init.lookup
 have hbi:=F.called_set.init.bind (.ref s.heap.objs.size)
 repeat (any_goals (first | assumption | wp_step))
 refine codeAny_mono (codeAny_call_builtin (R:=wants (fun r s₂=>r=.none∧∃ h' tk,s₂={ s with heap:=h',toks:=tk }∧zpw w h' s.heap.objs.size ns ns.length∧(∀ b o,b<s.heap.objs.size→s.heap.get? b=some o→h'.get? b=some o)) E) F.called_set.init.plain F.entry_set_init (check_set_init_1 hT ?_)) fun r₂ s₂ hr₂=>?_
 ·obtain⟨⟨ocls,odict,odata,oslots⟩,hol,hcl,nl,hdl⟩:=hl
  simp only at hcl hdl
  subst hcl
  subst hdl
  have hol':(s.heap.push (Z9 w)).get? l=some { cls:=.type "list",dict:=odict,data:=.seq items nl,slots:=oslots }:=Heap.get?_push_of_some _ hol
  have hsls:=F.sub_list_set
  have hslf:=F.sub_list_frozenset
  have hne:(Value.type "list" == Value.type "dict")=false:=by decide
  have hl1:(s.heap.push (Z9 w)).IsList l items:=⟨_,hol',rfl,nl,rfl⟩
  unfold Builtin.«set.__init__» noKeywords Builtin.Frozenset.updateFrom
  generalize hPI:pyIter=PI
  wp_walk
  subst hPI
  refine wpAny_pyIter_list hl1 (wpAny_bind (wpAny_runValue ?_))
  have hlS:l<s.heap.objs.size:=Heap.lt_size hol
  have hh3:A.in1.in1.in1.handled=none:=by simp[hh]
  have hneI:l≠(s.heap.push (Z9 w)).objs.size:=by
   rw[Heap.size_push];exact Nat.ne_of_lt (Nat.lt_succ_of_lt hlS)
  have hSf:s.heap.objs.size∉[(s.heap.push (Z9 w)).objs.size,l]:=by
   rw[Heap.size_push];intro z
   rcases List.mem_cons.mp z with z | z
   ·exact Nat.ne_of_lt (Nat.lt_succ_self _) z
   ·exact Nat.ne_of_gt hlS (List.mem_singleton.mp z)
  have hval:∀ (i:Nat) (v:Value),items[i]?=some v→∃ t,v=.int (ns.getD i 0) t:=fun i v hv=>IntsAre.int_at hi i v (by rw[Array.getElem?_toList];exact hv)
  refine Uj ((Walks.list hh3 _ l hneI items).toS) s.heap.objs.size hSf hlen h3 hval hb (items.size-0) 0 _ (by omega) (Nat.zero_le _) ⟨⟨_,Heap.get?_push_size _ rfl,rfl,rfl⟩,(hl1.push _)⟩ ?_ ?_
  ·exact⟨_,[],Heap.get?_push_of_some _ hS,zaA w,Nat.le_refl _,fun x=>by simp⟩
  ·intro s' hm hS'
   obtain⟨h',g',d',tk',os'⟩:=s'
   have eg:g'=s.gens:=hm.gens
   have ed:d'=s.drawn:=hm.drawn
   have eo:os'=s.os:=hm.os
   subst eg;subst ed;subst eo
   rw[hlen] at hS'
   refine(show wpAny _ _ _ _ _ _ from wpAny_pure (show wpAny _ _ (ret Value.none) _ _ _ from wpAny_pure ⟨rfl,h',tk',rfl,hS',fun b o hb e=>?_⟩))
   refine hm.heap b o (fun z=>?_) (Heap.get?_push_of_some _ (Heap.get?_push_of_some _ e))
   have hz:(s.heap.push (Z9 w)).objs.size=s.heap.objs.size+1:=Heap.size_push _ _
   rcases List.mem_cons.mp z with z | z
   ·exact Nat.ne_of_lt hb z
   ·exact Nat.ne_of_lt (Nat.lt_succ_of_lt hb) ((List.mem_singleton.mp z).trans hz)
 ·rcases r₂ with e | fl₂
  ·exact hr₂
  rcases fl₂ with r | _ | _ | _
  all_goals try exact hr₂.elim
  obtain⟨rfl,h',tk,rfl,hS',hk'⟩:=hr₂
  repeat (any_goals (first | assumption | wp_step))
  exact h _ _ hS' hk'
end
end L2
namespace L2
open PySem PySem.Spec PyProof.Rows
theorem XT {α:Type}{l:List α}{i:Nat}(h:i<l.length):(l[i]::l.eraseIdx i).Perm l:=by
 rw[List.eraseIdx_eq_take_drop_succ]
 refine List.perm_middle.symm.trans ?_
 rw[← List.drop_eq_getElem_cons h,List.take_append_drop]
theorem Uy {α:Type}(f:Nat→Nat):∀ (n k:Nat) (left:List α) (out:Array α),left.length=n→(pickOrder.go f n k left out).toList.Perm (out.toList++left):=by
 intro n
 induction n with
 |zero =>
  intro k left out h
  obtain rfl:=List.eq_nil_of_length_eq_zero h
  unfold pickOrder.go
  simp
 |succ n ih =>
  intro k left out h
  have hi:f k%left.length<left.length:=Nat.mod_lt _ (by omega)
  unfold pickOrder.go
  rw[List.getElem?_eq_getElem hi]
  dsimp only
  refine(ih (k+1) (left.eraseIdx (f k%left.length)) _ (by rw[List.length_eraseIdx_of_lt hi];omega)).trans ?_
  rw[Array.toList_push,List.append_assoc]
  exact List.Perm.append_left _ (XT hi)
theorem ZK {α:Type}(f:Nat→Nat) (xs:Array α):(pickOrder f xs).toList.Perm xs.toList:=by
 have:=Uy f xs.size 0 xs.toList #[] (by simp)
 simpa[pickOrder] using this
section
variable {prog:Program}{w:World}{A:Around}{E:Value→Shared→Prop}{s:Shared}
def ord (w:World) (a:Addr) (ep:Nat) (ps:List (Int×Nat)):List (Int×Nat):=if w.params.followText "set-order" then(pickOrder (w.params.setOrder a ep) ps.toArray).toList else ps
theorem xl (a:Addr) (ep:Nat) (ps:List (Int×Nat)):(ord w a ep ps).Perm ps:=by
 unfold ord
 split
 ·exact ZK _ _
 ·exact .refl _
def slt (w:World) (qs:List Nat) (i:Nat):Nat:=if w.params.followText "set-order" then 0 else if i=0 then 0 else qs.getD (i-1) 0+1
theorem Xh {α β:Type}(g:α→β) (f:Nat→Nat):∀ (n k:Nat) (left:List α) (out:Array α),(pickOrder.go f n k (left.map g) (out.map g))=(pickOrder.go f n k left out).map g:=by
 intro n
 induction n with
 |zero=>intro k left out;rfl
 |succ n ih =>
  intro k left out
  unfold pickOrder.go
  rw[List.length_map,List.getElem?_map]
  cases h:left[f k%left.length]? with
  |none=>rfl
  |some x =>
   dsimp only[Option.map]
   rw[← ih,Array.map_push,List.eraseIdx_eq_take_drop_succ,List.eraseIdx_eq_take_drop_succ,List.map_append,List.map_take,List.map_drop]
theorem Wm {a:Addr}{o:Obj}{es:Array (Int×Value)}{ep:Nat}{qs:List Nat}{ps:List (Int×Nat)}{i:Nat}{Q:Option (Value×Nat)→Shared→Prop}(ho:s.heap.get? a=some o) (hd:o.data=.set es ep (tbl (!w.params.followText "set-order") qs)) (hes:es.toList=ps.map en) (hq:qs.length=ps.length) (hr:qs∈vh 3 8) (hi:i≤ps.length)
  (h:Q ((ord w a ep ps)[i]?.map fun p=>(Value.int p.1 p.2,slt w qs (i+1))) s):wpAny (model prog w) A (setNext a (slt w qs i) i ep) Q E s:=by
 have hz:es.size=ps.length:=by rw[← Array.length_toList,hes,List.length_map]
 have h3:=wN hr
 have hf:(tbl (!w.params.followText "set-order") qs).fits es.size=true:=xk (by omega) (by omega)
 unfold setNext
 refine wpAny_bind (wpAny_setState_of ho hd hf ?_)
 dsimp only
 unfold setsByText
 refine wpAny_bind (wpAny_bind (wpAny_askSetting (wpAny_pure ?_)))
 dsimp only
 unfold ord slt at h
 unfold slt
 by_cases hb:w.params.followText "set-order" = true
 ·rw[if_pos hb] at h ⊢
  rw[if_pos hb] at h
  rw[if_pos (show(model prog w).w.params.followText "set-order" = true from hb),if_neg (by simp)]
  refine wpAny_bind ?_
  unfold setWalk
  refine wpAny_bind (wpAny_setState_of ho hd hf ?_)
  dsimp only
  unfold setsByText
  refine wpAny_bind (wpAny_bind (wpAny_askSetting (wpAny_pure ?_)))
  dsimp only
  rw[if_pos (show(model prog w).w.params.followText "set-order" = true from hb)]
  refine wpAny_bind (wpAny_askSetting (wpAny_pure (wpAny_pure ?_)))
  have ee:es=ps.toArray.map en:=by apply Array.ext';rw[hes];simp
  have e1:pickOrder (w.params.setOrder a ep) es=(pickOrder (w.params.setOrder a ep) ps.toArray).map en:=by
   unfold pickOrder
   rw[ee]
   have:=Xh en (w.params.setOrder a ep) ps.length 0 ps #[]
   simpa using this
  have e2:(pickOrder (w.params.setOrder a ep) es)[i]?.map (fun e=>(e.2,(0:Nat)))=(pickOrder (w.params.setOrder a ep) ps.toArray).toList[i]?.map fun p=>(Value.int p.1 p.2,(0:Nat)):=by
   rw[e1,Array.getElem?_map,Option.map_map,Array.getElem?_toList]
   rfl
  rw[← e2] at h
  exact h
 ·rw[if_neg hb] at h ⊢
  rw[if_neg hb] at h
  have hx:es[i]?=ps[i]?.map en:=by rw[← Array.getElem?_toList,hes,List.getElem?_map]
  rw[if_neg (show ¬ (model prog w).w.params.followText "set-order" = true from hb)]
  rw[show w.params.followText "set-order" = false from by simpa using hb]
  refine wpAny_bind (show wpAny (model prog w) A (if (!(tbl (!false) qs).led&&!es.isEmpty)=true then unsupported "set:maker-not-led" else pure ()) _ _ _ from ?_)
  rw[if_neg (by simp[tbl])]
  refine wpAny_pure ?_
  have hbl:SetTable.below (tbl (!false) qs).place (if i=0 then 0 else qs.getD (i-1) 0+1)=i:=XZ hr (by omega)
  rw[hbl]
  refine wpAny_pure ?_
  have hp:(tbl (!false) qs).place[i]?=qs[i]?:=by show qs.toArray[i]?=_;simp
  rw[hp,hx]
  by_cases hl:i<ps.length
  ·rw[List.getElem?_eq_getElem hl] at h ⊢
   rw[List.getElem?_eq_getElem (by omega)]
   rw[if_neg (by omega),Nat.add_sub_cancel,List.getD_eq_getElem?_getD,List.getElem?_eq_getElem (by omega)] at h
   exact h
  ·rw[List.getElem?_eq_none (by omega)] at h ⊢
   exact h
def SIt (h:Heap) (it a:Addr) (f i n ep:Nat):Prop:=h.get? it=some { cls:=.type "set_iterator",data:=.fields #[.int f 0,.int i 0,.ref a,.int n 0,.int ep 0] }
theorem yZ:entryFor table "set_iterator.__next__" = some Builtin.«set_iterator.__next__»:=entryFor_of_tree (by kernel_rfl)
theorem slot_si_next:Slot "set_iterator" "__next__" "set_iterator.__next__" :=
 .of (owner := "set_iterator") (n := "__next__") (by rw[typeLookup_type,builtinLookup_eq_fast];kernel_rfl) (by decide +kernel) (by decide +kernel) (by decide +kernel) (by first | exact .inl (by decide +kernel) | exact .inr (by decide +kernel)) (by rw[isSubtype_type];kernel_rfl)
theorem xc:Slot "set_iterator" "__iter__" "set_iterator.__iter__" :=
 .of (owner := "set_iterator") (n := "__iter__") (by rw[typeLookup_type,builtinLookup_eq_fast];kernel_rfl) (by decide +kernel) (by decide +kernel) (by decide +kernel) (by first | exact .inl (by decide +kernel) | exact .inr (by decide +kernel)) (by rw[isSubtype_type];kernel_rfl)
theorem uf:Manifest.owners.lookup (String.ofList ['r','o','t','a','r','e','t','i','_','t','e','s'].reverse)=some Manifest.sig_set_iterator:=by kernel_rfl
theorem xg (a:Value):argsOk "set_iterator.__next__" ⟨[a],[]⟩:=by
 unfold argsOk;rw[signature?_of (id := "set_iterator.__next__") (n:=['_','_','t','x','e','n','_','_']) (o:=['r','o','t','a','r','e','t','i','_','t','e','s']) (by kernel_rfl) uf];kernel_rfl
theorem vg (a:Value):argsOk "set_iterator.__iter__" ⟨[a],[]⟩:=by
 unfold argsOk;rw[signature?_of (id := "set_iterator.__iter__") (n:=['_','_','r','e','t','i','_','_']) (o:=['r','o','t','a','r','e','t','i','_','t','e','s']) (by kernel_rfl) uf];kernel_rfl
theorem wz:entryFor table "set_iterator.__iter__" = some Builtin.«dict_keyiterator.__iter__»:=entryFor_alias (id' := "dict_keyiterator.__iter__") (by kernel_rfl) rfl (by decide +kernel) (by kernel_rfl)
theorem w6:entryFor table "set.__iter__" = some Builtin.«frozenset.__iter__»:=entryFor_alias (id' := "frozenset.__iter__") (by kernel_rfl) rfl (by decide +kernel) (by kernel_rfl)
structure SsH (w:World) (h:Heap) (a:Addr) (o:Obj) (es:Array (Int×Value)) (ep:Nat) (qs:List Nat) (ps:List (Int×Nat)):Prop where
 ho:h.get? a=some o
 ex:o.ExactSet
 hd:o.data=.set es ep (tbl (!w.params.followText "set-order") qs)
 hes:es.toList=ps.map en
 hq:qs.length=ps.length
 hr:qs∈vh 3 8
theorem SsH.fits {h:Heap}{a:Addr}{o:Obj}{es:Array (Int×Value)}{ep:Nat}{qs:List Nat}{ps:List (Int×Nat)}(S:SsH w h a o es ep qs ps):es.size=ps.length∧(tbl (!w.params.followText "set-order") qs).fits es.size=true:=by
 have hz:es.size=ps.length:=by rw[← Array.length_toList,S.hes,List.length_map]
 have h3:=wN S.hr
 have hq:=S.hq
 exact⟨hz,xk (by omega) (by omega)⟩
theorem Uo {it a:Addr}{o:Obj}{es:Array (Int×Value)}{i ep:Nat}{qs:List Nat}{ps:List (Int×Nat)}{p:Int×Nat}{Q:PySem.Fin→Shared→Prop}(hi:SIt s.heap it a (slt w qs i) i ps.length ep) (S:SsH w s.heap a o es ep qs ps) (hp:(ord w a ep ps)[i]?=some p)
  (h:∀ h',SIt h' it a (slt w qs (i+1)) (i+1) ps.length ep→Heap.SameBut it s.heap h'→Q (.done (.ret (.int p.1 p.2))) { s with heap:=h' }):wpAny (model prog w) A (Builtin.«set_iterator.__next__» ⟨[.ref it],[]⟩) Q E s:=by
 obtain⟨hz,hf⟩:=S.fits
 have hil:i<ps.length:=by
  have:=List.getElem?_eq_some_iff.mp hp
  rw[← (xl (w:=w) a ep ps).length_eq]
  exact this.1
 unfold Builtin.«set_iterator.__next__»
 refine wpAny_bind (m:=slotArgs "__next__" 0 _) (wpAny_pure ?_)
 refine wpAny_bind (wpAny_fieldsOf hi rfl ?_)
 dsimp only
 refine wpAny_bind (wpAny_setEntries_of S.ho S.hd hf ?_)
 rw[if_neg (by simp[hz])]
 refine wpAny_bind (Wm (ep:=ep) S.ho S.hd S.hes S.hq S.hr (Nat.le_of_lt hil) ?_)
 rw[hp]
 dsimp only[Option.map]
 refine wpAny_bind (wpAny_setField_rec hi (by simp) fun h1 g1 b1=>?_)
 refine wpAny_bind (wpAny_setField_rec g1 (by simp) fun h2 g2 b2=>?_)
 exact wpAny_pure (h h2 g2 (b1.trans b2))
theorem znw {it a:Addr}{o:Obj}{es:Array (Int×Value)}{i ep:Nat}{qs:List Nat}{ps:List (Int×Nat)}{Q:PySem.Fin→Shared→Prop}(hh:A.handled=none) (hi:SIt s.heap it a (slt w qs i) i ps.length ep) (S:SsH w s.heap a o es ep qs ps) (hil:i=ps.length)
  (h:∀ h' e,Heap.ExtBut it s.heap h'→(∃ o,h'.get? e=some o∧o.cls=.type "StopIteration")→E (.ref e) { s with heap:=h' }):wpAny (model prog w) A (Builtin.«set_iterator.__next__» ⟨[.ref it],[]⟩) Q E s:=by
 obtain⟨hz,hf⟩:=S.fits
 have hp:(ord w a ep ps)[i]?=none:=List.getElem?_eq_none (by rw[(xl (w:=w) a ep ps).length_eq];omega)
 unfold Builtin.«set_iterator.__next__»
 refine wpAny_bind (m:=slotArgs "__next__" 0 _) (wpAny_pure ?_)
 refine wpAny_bind (wpAny_fieldsOf hi rfl ?_)
 dsimp only
 refine wpAny_bind (wpAny_setEntries_of S.ho S.hd hf ?_)
 rw[if_neg (by simp[hz])]
 refine wpAny_bind (Wm (ep:=ep) S.ho S.hd S.hes S.hq S.hr (Nat.le_of_eq hil) ?_)
 rw[hp]
 dsimp only[Option.map]
 refine wpAny_bind (wpAny_setField_rec hi (by simp) fun h1 g1 b1=>?_)
 repeat (any_goals (first | assumption | wp_step))
 refine wpAny_raiseNew_none hh (h _ _ (fun b o hb e=>?_) ⟨_,Heap.get?_push_size _ rfl,rfl⟩)
 exact Heap.get?_push_of_some _ (Heap.get?_push_of_some _ (b1.extBut b o hb e))
theorem ZE {it a:Addr}{o:Obj}{es:Array (Int×Value)}{i ep:Nat}{qs:List Nat}{ps:List (Int×Nat)}{p:Int×Nat}{Q:Option Value→Shared→Prop}(hi:SIt s.heap it a (slt w qs i) i ps.length ep) (S:SsH w s.heap a o es ep qs ps) (hp:(ord w a ep ps)[i]?=some p)
  (h:∀ h',SIt h' it a (slt w qs (i+1)) (i+1) ps.length ep→Heap.SameBut it s.heap h'→Q (some (.int p.1 p.2)) { s with heap:=h' }):wpAny (model prog w) A (pyNext (.ref it)) Q E s:=by
 have hT:s.TypeIs (.ref it) "set_iterator" := ⟨_,hi,rfl⟩
 unfold pyNext
 exact wpAny_bind (wpAny_attempt (wpAny_callSpecial?_slot (name:=Str.ofString "__next__") hT slot_si_next (wpAny_call_entry slot_si_next hT yZ (Uo hi S hp fun h' a1 a2=>⟨_,rfl,wpAny_pure (h h' a1 a2)⟩) (xg _))))
theorem Xd {it a:Addr}{o:Obj}{es:Array (Int×Value)}{i ep:Nat}{qs:List Nat}{ps:List (Int×Nat)}{Q:Option Value→Shared→Prop}(hh:A.handled=none) (hi:SIt s.heap it a (slt w qs i) i ps.length ep) (S:SsH w s.heap a o es ep qs ps) (hil:i=ps.length)
  (h:∀ h',Heap.ExtBut it s.heap h'→Q none { s with heap:=h' }):wpAny (model prog w) A (pyNext (.ref it)) Q E s:=by
 have hT:s.TypeIs (.ref it) "set_iterator" := ⟨_,hi,rfl⟩
 unfold pyNext
 refine wpAny_bind (wpAny_attempt (wpAny_callSpecial?_slot (name:=Str.ofString "__next__") hT slot_si_next (wpAny_call_entry slot_si_next hT yZ (znw hh hi S hil fun h' e hk he=>?_) (xg _))))
 obtain⟨o,ho,hc⟩:=he
 exact wpAny_bind (wpAny_isInstance (T := "StopIteration") (b:=true) ⟨o,ho,hc⟩ isSubtype_stop (wpAny_pure (h _ hk)))
theorem Up {a:Addr}{o:Obj}{es:Array (Int×Value)}{ep:Nat}{qs:List Nat}{ps:List (Int×Nat)}{Q:Value→Shared→Prop}(S:SsH w s.heap a o es ep qs ps)
  (q:Q (.ref s.heap.objs.size) { s with heap:=s.heap.push { cls:=.type "set_iterator",data:=.fields #[.int 0 0,.int 0 0,.ref a,.int ps.length 0,.int ep 0] } }):wpAny (model prog w) A (pyIter (.ref a)) Q E s:=by
 obtain⟨hz,hf⟩:=S.fits
 have hT:s.TypeIs (.ref a) "set" := ⟨_,S.ho,S.ex.1⟩
 refine wpAny_pyIter_slot hT PySem.F.slot_set_iter (wpAny_call_entry PySem.F.slot_set_iter hT w6 ?_ (PySem.F.args_set_iter_1 _))
 unfold Builtin.«frozenset.__iter__»
 refine wpAny_bind (m:=Builtin.Frozenset.slot0 "__iter__" _) (wpAny_pure ?_)
 unfold Builtin.Frozenset.sizeOf
 refine wpAny_bind (wpAny_bind (wpAny_setEntries_of S.ho S.hd hf (wpAny_pure ?_)))
 unfold setDrawn setsByText
 refine wpAny_bind (wpAny_bind (wpAny_setState_of S.ho S.hd hf ?_))
 dsimp only
 refine wpAny_bind (wpAny_bind (wpAny_askSetting (wpAny_pure (wpAny_pure ?_))))
 refine wpAny_ite_split (fun z=>?_) (fun _=>?_)
 ·rw[Bool.and_eq_true] at z
  exact absurd (show(!true&&decide (es.size>1))=true from z.2) (by simp)
 ·refine wpAny_bind (wpAny_pure (wpAny_bind (wpAny_setEpoch_of S.ho S.hd hf (wpAny_bind ?_))))
  unfold newFields
  refine wpAny_newObj_type (wpAny_pure ⟨_,rfl, "set_iterator",_,⟨_,Heap.get?_push_size _ rfl,rfl⟩,slot_si_next.lookup,?_⟩)
  rw[hz]
  exact q
theorem Xc (hh:A.handled=none) (I a:Addr) (hne:a≠I){o:Obj}{es:Array (Int×Value)}{ep:Nat}{qs:List Nat}{ps:List (Int×Nat)} :
  Walks prog w A I [I,a] [I] ps.length (fun i v=>∃ p,(ord w a ep ps)[i]?=some p∧v=.int p.1 p.2) (fun i h=>SIt h I a (slt w qs i) i ps.length ep∧SsH w h a o es ep qs ps) where
 sub:=fun b hb=>by simp at hb;simp[hb]
 frame:=fun _ _ _ st hk=>⟨hk I (by simp) _ st.1,{ st.2 with ho:=hk a (by simp) _ st.2.ho }⟩
 item:=fun i s Q E hi st hQ=>by
  have hl:i<(ord w a ep ps).length:=by rw[(xl (w:=w) a ep ps).length_eq];exact hi
  refine ZE st.1 st.2 (List.getElem?_eq_getElem hl) fun h' h1 h2=>hQ _ h' s.toks ⟨_,List.getElem?_eq_getElem hl,rfl⟩ ⟨h1,{ st.2 with ho:=h2.extBut a _ hne st.2.ho }⟩ fun b o hb e=>h2.extBut b o (fun h=>hb (by simp[h])) e
 done:=fun s Q E st hQ=>Xd hh st.1 st.2 rfl fun h' he'=>hQ h' s.toks fun b o hb e=>he' b o (fun h=>hb (by simp[h])) e
 self:=fun _ _ _ _ st hQ=>wpAny_pyIter_slot ⟨_,st.1,rfl⟩ xc (wpAny_call_entry xc ⟨_,st.1,rfl⟩ wz (show wpAny _ _ (ret (.ref I)) _ _ _ from wpAny_pure ⟨_,rfl, "set_iterator",_,⟨_,st.1,rfl⟩,slot_si_next.lookup,hQ⟩) (vg _))
theorem XJ {r:Addr}{Q:Bool→Shared→Prop}(hT:s.TypeIs (.ref r) "set") (h:Q false s):wpAny (model prog w) A (Builtin.List.listLengthHint (.ref r)) Q E s:=by
 unfold Builtin.List.listLengthHint
 refine wpAny_bind (wpAny_specialOf hT PySem.F.slot_set_len.lookup ?_)
 generalize hid:("set.__len__" : String)=id0
 wp_delta
 rw[show splitId id0=some ("set", "__len__") from by subst hid;decide +kernel]
 subst hid
 refine wpAny_bind (wpAny_isInstance (T := "set") (b:=true) hT (by rw[isSubtype_type];kernel_rfl) ?_)
 refine wpAny_ite_split (fun hab=>absurd hab (by decide)) (fun _=>?_)
 refine wpAny_ite_split (fun _=>?_) (fun hab=>absurd (by decide +kernel) hab)
 refine wpAny_bind (wpAny_typeOf hT ?_)
 exact wpAny_pure h
theorem znn {a:Addr}{o:Obj}{es:Array (Int×Value)}{ep:Nat}{qs:List Nat}{ps:List (Int×Nat)}:PySem.W.KdlSrc prog w "set" a a ps.length (fun i v=>∃ p,(ord w a ep ps)[i]?=some p∧v=.int p.1 p.2) (fun h=>SsH w h a o es ep qs ps) where
 type:=fun _ S=>⟨_,S.ho,S.ex.1⟩
 there:=fun _ S=>⟨Heap.lt_size S.ho,Heap.lt_size S.ho⟩
 keep:=fun _ _ S hk=>{ S with ho:=hk a (.inl rfl) _ S.ho }
 notList:=by decide
 notTuple:=by decide
 hint:=fun _ _ _ _ S hq=>XJ ⟨_,S.ho,S.ex.1⟩ hq
 iter:=fun _ s hh S=>⟨_,_,(fun _ _ hq=>Up S hq),Xc hh _ a (Nat.ne_of_lt (Heap.lt_size S.ho)),⟨by
  have:slt w qs 0=0:=by unfold slt;split<;>rfl
  rw[this]
  exact Heap.get?_push_size _ rfl,{ S with ho:=Heap.get?_push_of_some _ S.ho }⟩⟩
end
section
variable {X:Cx}
theorem YC (hc:X.calm=true):yu X (.type "set") (fun xs H Q=>∃ (p:Addr) (ns:LI),xs=[V.ref p]∧SqL X.K H p (ns.map V.int)∧ns.length≤3∧(∀ x∈ns,0≤x∧x<100)∧∀ (l:Addr) (o:Obj) (S:Int→Bool) (n:Nat) (ps:List (Int×Nat)),H l=none→SsO X.w o ps→(∀ x,x∈ps.map (·.1)↔x∈ns)→Q (.ref l) (upd H l (.frz o (.set S n)))):=by
 intro pins s σ H xs us Q I r h
 obtain⟨p,ns,rfl,hq,hn,hb,q⟩:=h
 obtain⟨u,rfl,ru⟩:=r.one
 cases ru
 obtain⟨its,rv,pl,hz⟩:=I.list hq
 refine Ur (ns:=ns) (show X.A.handled=none from I.ok.hd hc) (let ⟨o,n,h1,h2,_,h4⟩:=pl;⟨o,h1,h2,n,h4⟩) (by simpa using vK rv) hn hb fun h' tk hS hk=>?_
 obtain⟨o,ps,ho,hO,hl,hx⟩:=hS
 rw[List.take_length] at hx
 obtain⟨es,ep,qs,hex,hd,hes,nd,hqq,hr⟩:=id hO
 have SH:SsH X.w h' s.heap.objs.size o es ep qs ps:=⟨ho,hex,hd,hes,hqq,hr⟩
 obtain⟨z1,z2⟩:=SH.fits
 have h3:=wN hr
 refine⟨.ref s.heap.objs.size,_,I.laid (a:=s.heap.objs.size) (o:=.frz o (.set (fun k=>decide (k∈ps.map (·.1))) es.size)) (t':=tk) (fun b o e=>hk b o (Heap.lt_size e) e) (Nat.le_refl _) ⟨ho,o,es,ep,_,ho,hex,hd,by rw[hes];exact um ps,fun k=>?_,by unfold scanBound;omega,z2,rfl⟩,rfl,q _ o _ _ ps (I.hok.fresh (Nat.le_refl _)) hO hx⟩
 rw[decide_eq_true_eq,hes]
 constructor
 ·intro hk
  obtain⟨p,h1,h2⟩:=List.mem_map.mp hk
  exact⟨en p,List.mem_map_of_mem h1,h2 ▸ intKind_is _ _ _ _⟩
 ·rintro⟨e,h1,h2⟩
  obtain⟨p,h3,rfl⟩:=List.mem_map.mp h1
  have:=(intKind X.prog X.w).inj _ _ _ h2 (intKind_is X.prog X.w p.1 p.2)
  rw[this]
  exact List.mem_map_of_mem h3
theorem uN (hc:X.calm=true):yu X (.builtin "sorted") (fun xs H Q=>∃ (a:Addr) (o:Obj) (u:HO) (ps:List (Int×Nat)),xs=[V.ref a]∧H a=some (.frz o u)∧SsO X.w o ps∧∀ (l:Addr) (ms:LI),H l=none→ms.Perm (ps.map (·.1))→ms.Pairwise (· ≤ ·)→Q (.ref l) (upd H l (.lst (ms.map V.int)))):=by
 intro pins s σ H xs us Q I r h
 obtain⟨a,o,u,ps,rfl,ha,hO,q⟩:=h
 obtain⟨z,rfl,rz⟩:=r.one
 cases rz
 obtain⟨ho,_⟩:=I.hok a _ ha
 obtain⟨es,ep,qs,hex,hd,hes,nd,hqq,hr⟩:=hO
 have h3:=wN hr
 have op:=xl (w:=X.w) a ep ps
 refine xx (ns:=(ord X.w a ep ps).map (·.1)) (znn (w:=X.w)) (I.ok.hd hc) ⟨ho,hex,hd,hes,hqq,hr⟩ (by rw[List.length_map,op.length_eq]) (fun i v e=>?_) (by rw[List.length_map,op.length_eq];omega) fun D h' tk out ms hk hD hi hp hs hc'=>?_
 ·obtain⟨p,h1,rfl⟩:=e
  exact⟨p.2,by rw[List.getD_eq_getElem?_getD,List.getElem?_map,h1];rfl⟩
 ·obtain⟨c,k3⟩:=hc'
  have hp2:=hp.trans (op.map (·.1))
  exact⟨.ref D,_,Srt.laidF (o:=.lst (ms.map V.int)) I hk hD ⟨by rw[List.length_map,hp2.length_eq,List.length_map];exact Nat.le_trans (show ps.length≤3 by omega) (by decide),out.toList,c,wt hi,by rw[Array.toArray_toList];exact k3⟩,rfl,q D ms (I.hok.untr hD) hp2 hs⟩
end
end L2
namespace K04
open PySem L2
theorem Fr3.tup {a:Ad}{H H':Hp}{x:Sx}{t:Int}{dd:Addr}{dk:List Str}{n:Nat}{f:Nat→Int}{ad:Nat→Addr}(F:Fr3 x H H') (S:Se a H x t dd dk) (W:Wh H x n f ad){b:Addr}{xs:List V}(e:H b=some (.tup xs)):H' b=some (.tup xs):=F b _ e (fun z=>by rw[z,S.p] at e;cases e) (fun z=>by rw[z,W.dw] at e;cases e) (fun z=>by rw[z,W.dh] at e;cases e)
section
variable {P:Program}{w:World}{K:PySem.W.Frag}{mg:Str→Option Value}{base:Heap}{a:Ad}
def Zx:Sp:=fun vs H Q _=>∃ l:Addr,vs=[.ref l]∧WlAt H l∧∀ H',Ext l H H'→Q (.bl true) H'
theorem Xo (T:Txt w K mg a):FnOk P w K mg base CX0 25 a.f_qv a.d_qv ["_law_well_here"] Zx:=by
 have c_qp:Callee P w K mg base "_law_told" a.f_qp a.d_qp ["_law_well_here"] 6 Wi:=⟨UH T,T.g_qp,T.F_qp.kp,T.b_qp⟩
 have c_qn:Callee P w K mg base "_law_draw" a.f_qn a.d_qn ["_law_well_here", "_law_many"] 1 v9:=⟨vy T,T.g_qn,T.F_qn.kp,T.b_qn⟩
 have c_qr:Callee P w K mg base "_law_program" a.f_qr a.d_qr ["_law_told_here"] 24 (zDB a):=⟨ztD T,T.g_qr,T.F_qr.kp,T.b_qr⟩
 have c_qs:Callee P w K mg base "_law_value" a.f_qs a.d_qs ["_law_told_here", "_law_names"] 4 (wf 3):=⟨wj T 3,T.g_qs,T.F_qs.kp,T.b_qs⟩
 have c_qt:Callee P w K mg base "_law_renewed" a.f_qt a.d_qt ["_law_told_here", "_law_worth", "_law_hand", "_law_turn", "_law_lines", "_law_numbers"] 5 znr:=⟨zn0 T,T.g_qt,T.F_qt.kp,T.b_qt⟩
 have c_qu:Callee P w K mg base "_law_classes" a.f_qu a.d_qu ["_law_seat", "_law_turn", "_law_heard"] 3 (zDG a K):=⟨ztJ T,T.g_qu,T.F_qu.kp,T.b_qu⟩
 have m_Web:Maker P w K mg base "Web" a.c_Web a.f_qb0 a.d_qb0 ["self", "hands", "lines"] 4 (znp a):=⟨znY T,T.g_Web,T.mk_Web,T.b_qb0⟩
 have m_Way:Maker P w K mg base "Way" a.c_Way a.f_qx a.d_qx ["self", "parents", "bridges"] 5 (znq a):=⟨znZ T,T.g_Way,T.mk_Way,T.b_qx⟩
 have m_Seat:Maker P w K mg base "Seat" a.c_Seat a.f_qB a.d_qB ["self", "web", "way", "program", "rounds", "hand"] 12 (Wj a):=⟨UI T,T.g_Seat,T.mk_Seat,T.b_qB⟩
 refine T.F_qv.ok sc_qv (fun vs H Q E h=>?_) (fun cdv A outer s H vs Q E hr h=>?_)
 ·obtain⟨l,rfl,_⟩:=h
  rfl
 ·obtain⟨l,rfl,s0,k⟩:=h
  have hu:=yi hr
  have un:∀ n:Nat,n≤8→(A.deeper (PyProof.Rows.envOfC "_law_right" (defScope Y8) s.heap.objs.size a.f_qv cdv)).units+n+2<cLine:=fun n hn=>by
   have:=hr.units
   omega
  refine zv (w_pss_cons (zl (i:=1) sc_qv.nd rfl (Or.inl rfl) (zk c_qp hr.m (za (w_pv 0) w_pa_nil)))
   (w_pss_cons (zl (i:=2) sc_qv.nd rfl (Or.inl rfl) (zk c_qn hr.m (za (w_pv 0) (zf w_pe_int w_pa_nil))))
   (w_pss_cons (zl (i:=3) sc_qv.nd rfl (Or.inl rfl) (zk c_qn hr.m (za (w_pv 0) (zf w_pe_int w_pa_nil))))
   (w_pss_cons (zl (i:=4) sc_qv.nd rfl (Or.inl rfl) (w_pe_callB (uN rfl) (by rfl) T.n_sorted zM (zt (zz (YC rfl) (by rfl) T.n_set zpu (zb (zh (za (w_pv 2) (zt (zk c_qn hr.m (za (w_pv 0) (zf w_pe_int w_pa_nil))) (zt (zk c_qn hr.m (za (w_pv 0) (zf w_pe_int w_pa_nil))) w_pa_nil)))) w_pa_nil)) w_pa_nil)))
   (w_pss_cons (zl (i:=5) sc_qv.nd rfl (Or.inl rfl) (yU m_Web hr.m (zb (w_pe_ix zI (zh (za (w_pv 4) (zb (zh (za (w_pv 2) w_pa_nil)) w_pa_nil))) (zk c_qn hr.m (za (w_pv 0) (zf w_pe_int w_pa_nil))) (fun _ _=>rfl)) (zb (zh w_pa_nil) w_pa_nil))))
   (w_pss_cons (zl (i:=6) sc_qv.nd rfl (Or.inl rfl) (yU m_Way hr.m (zt (zz (we rfl) (by rfl) T.n_dict vR (zb (ya rfl (N':=["_law_one"]) (t:=1) (caps:=[]) ⟨rfl,rfl,rfl⟩ (zC (w_pe_meth0D (w_pv 5))) (fun _=>(zr (i:=0) (show(["_law_one"]:List Str).Nodup by decide +kernel) rfl (Or.inl rfl))) (fun _=>zY) (fun _=>(zx (za (w_pv 0) (zf yv w_pa_nil))))) w_pa_nil)) (zb (zh w_pa_nil) w_pa_nil))))
   (w_pss_cons (zl (i:=7) sc_qv.nd rfl (Or.inl rfl) (yU m_Seat hr.m (za (w_pv 5) (za (w_pv 6) (zt (zk c_qr hr.m (za (w_pv 1) w_pa_nil)) (za (w_pv 3) (za (w_pv 2) w_pa_nil)))))))
   (w_pss_cons (zl (i:=8) sc_qv.nd rfl (Or.inl rfl) (zk c_qs hr.m (zb (w_pe_ix ix_tup (w_pv 1) w_pe_int (fun _ _=>rfl)) (zb (w_pe_disp (w_pps_cons w_pe_str (w_pv 2) (w_pps_cons w_pe_str w_pe_int zZ)) rfl rfl (by intro z;cases z) (by decide)) w_pa_nil))))
   (w_pss_cons (w_ps_if (w_pt (w_pw_or (w_pt_cmpR op_ne (w_pe_meth0D (w_pv 7)) w_pe_int (zq _)) (w_pw_or (w_pt_cmpR op_ne (zi (w_pv 7) (zf w_pe_int w_pa_nil)) (w_pv 8) (zq _)) (w_pw_or (w_pt_cmpR wP (w_pe_meth0D (w_pv 7)) (zh w_pa_nil) (zq _)) (zD (w_pt_cmpR op_ne (w_pe_meth0D (w_pv 7)) (w_pv 3) (zq _)))))))
    (w_pss_one (w_ps_ret zn))
    zg)
   (w_pss_cons (zO PassesOwn.never rfl (vn rfl T.n_range (zU (zj yC (w_pv 3) w_pe_int) w_pa_nil)) (zr (i:=9) sc_qv.nd rfl (Or.inl rfl))
    (xt (w_ps_if (w_pt_cmpR uD (w_pv 9) w_pe_int (zq _))
     (w_pss_cons (zl (i:=8) sc_qv.nd rfl (Or.inl rfl) (zk c_qt hr.m (za (w_pv 1) (za (w_pv 8) (za (w_pv 2) (za (w_pv 9) (zf w_pe_int (zb (zh w_pa_nil) w_pa_nil))))))))
     (w_pss_cons (zl (i:=10) sc_qv.nd rfl (Or.inl rfl) (zi (w_pv 7) (za (w_pv 9) w_pa_nil)))
     (w_pss_cons (w_ps_expr (yb PySem.F.plainAttrs_list PySem.F.slot_list_append PySem.F.type_list_append yf (w_pv 10) (yo (zx (zf w_pe_int (zf w_pe_int w_pa_nil))) w_pa_nil)))
     (w_pss_one (w_ps_if (w_pt (w_pw_or (w_pt_cmpR wP (w_pv 10) (zh (yo (zx (zf w_pe_int (zf w_pe_int w_pa_nil))) w_pa_nil)) (zq _)) (zD (w_pt_cmpR wP (zi (w_pv 7) (za (w_pv 9) w_pa_nil)) (zh w_pa_nil) (zq _)))))
      (w_pss_one (w_ps_ret zn))
      zg)))))
     zg)
    (w_pss_one (w_ps_if (w_pt (w_pw_or (w_pt_cmpR op_ne (zi (w_pv 7) (za (w_pv 9) w_pa_nil)) (w_pv 8) (zq _)) (w_pw_or (w_pt_cmpR op_ne (zi (w_pv 7) (za (w_pv 9) w_pa_nil)) (w_pv 8) (zq _)) (zD (zo (w_pe_callB zJ (by rfl) T.n_isinstance zm (zt (zi (w_pv 7) (za (w_pv 9) w_pa_nil)) (za (zT T.n_bool YM) w_pa_nil))))))))
     (w_pss_one (w_ps_ret zn))
     zg))))
   (w_pss_cons (zO PassesOwn.never rfl (zC (zh (zbf (vo Zf w_pe_int) (zU (zj yC (w_pv 3) w_pe_int) (zU (zj xz w_pe_int w_pe_int) (zf zn (zf yv (zf w_pe_str (yo (zx (zf w_pe_int w_pa_nil)) (zb (zh (zf w_pe_int w_pa_nil)) w_pa_nil)))))))))) (zr (i:=11) sc_qv.nd rfl (Or.inl rfl))
    (w_pss_cons (w_ps_if (w_pt_cmpR wP (zk c_qu hr.m (za (w_pv 7) (za (w_pv 11) (zf zn w_pa_nil)))) (zh (zf zn (zf zn (zf zn (zf zn (zf zn (zf zn w_pa_nil))))))) (zq _))
     (w_pss_one (w_ps_ret zn))
     zg)
    (w_pss_one (w_ps_if (w_pt_cmpR wP (zk c_qu hr.m (za (w_pv 7) (za (w_pv 11) (zf zn w_pa_nil)))) (zh (zf zn (zf zn (zf zn (zf zn (zf zn (zf zn w_pa_nil))))))) (zq _))
     (w_pss_one (w_ps_ret zn))
     zg))))
   (w_pss_one (w_ps_ret (zW (zP Wn (zk c_qu hr.m (za (w_pv 7) (zf w_pe_int (zf zn w_pa_nil)))) (zh (zf zn (zf zn (zf zn (zf zn (zf zn (zf zn w_pa_nil))))))) (zq _)) (yj (zP yh (w_pe_meth0D (w_pv 7)) (w_pv 3) (zq _))))))))))))))))) ?_
  refine⟨_,rfl,l,rfl,s0,fun q v1 v2 v3 v4 H1 hq F1 s1 x1=>?_⟩
  refine⟨_,rfl,l,100,rfl,s1,by decide,fun m H2 m0 m1 s2 x2=>?_⟩
  refine⟨_,rfl,l,13,rfl,s2,by decide,fun R H3 R0 R1 s3 x3=>?_⟩
  refine⟨_,rfl,_,rfl,l,100,rfl,s3,by decide,fun n1 H4 a0 a1 s4 x4=>?_⟩
  refine⟨_,rfl,l,100,rfl,s4,by decide,fun n2 H5 b0 b1 s5 x5=>?_⟩
  refine⟨(by show 3≤sizeLine;decide),fun p1 h1=>?_⟩
  generalize hE:L2.upd H5 p1 _=H6
  obtain⟨G1,y6⟩:=al hE h1
  clear hE
  refine⟨p1,[m,n1,n2],rfl,SqL.of G1,by simp,fun x hx=>?_,fun p2 o S n ps h2 hO hm=>?_⟩
  ·simp at hx
   rcases hx with rfl | rfl | rfl<;>omega
  generalize hE:L2.upd H6 p2 _=H7
  obtain⟨G2,y7⟩:=al hE h2
  clear hE
  refine⟨p2,o,_,ps,rfl,G2,hO,fun p3 ms h3 pm up=>?_⟩
  generalize hE:L2.upd H7 p3 _=H8
  obtain⟨G3,y8⟩:=al hE h3
  clear hE
  obtain⟨_,_,qs,_,_,_,nd,lq,hq3⟩:=hO
  have l3:=wN hq3
  have ml:=pm.length_eq
  rw[List.length_map] at ml
  have mm:∀ x,x∈ms↔x∈[m,n1,n2]:=fun x=>pm.mem_iff.trans (hm x)
  have Hms:Hs ms∧m∈ms:=by
   have hmm:=(mm m).mpr (by simp)
   have bd:∀ x∈ms,0≤x∧x≤99:=fun x hx=>by
    have:=(mm x).mp hx
    simp at this
    rcases this with rfl | rfl | rfl<;>omega
   refine⟨⟨List.length_pos_of_mem hmm,by omega,?_,fun x hx=>(bd x hx).1,fun x hx=>(bd x hx).2⟩,hmm⟩
   have nd2:ms.Nodup:=pm.nodup_iff.mpr nd
   exact(up.and nd2).imp fun h=>by omega
  have H1m:Hs [m]∧m∈[m]:=⟨⟨by simp,by simp,by simp,fun x hx=>by simp at hx;omega,fun x hx=>by simp at hx;omega⟩,by simp⟩
  refine⟨_,rfl,_,rfl,(by show 1≤sizeLine;decide),fun p4 h4=>?_⟩
  generalize hE:L2.upd H8 p4 _=H9
  obtain⟨G4,y9⟩:=al hE h4
  clear hE
  refine⟨(by show 2≤sizeLine;decide),fun p5 h5=>?_⟩
  generalize hE:L2.upd H9 p5 _=H10
  obtain⟨G5,y10⟩:=al hE h5
  clear hE
  have Y:Same H5 H10:=(((y6.trans y7).trans y8).trans y9).trans y10
  have s10:=s5.same Y
  refine⟨_,rfl,l,2,rfl,s10,by decide,fun d H11 d0 d1 s11 x11=>?_⟩
  have n3:p3≠l:=(s5.same (y6.trans y7)).ne h3
  have n4:p4≠l:=(s5.same ((y6.trans y7).trans y8)).ne h4
  have n5:p5≠l:=(s5.same (((y6.trans y7).trans y8).trans y9)).ne h5
  obtain⟨ph,hs,at5,hph,Hh⟩:∃ (ph:Addr) (hs:LI),atI [V.ref p3,V.ref p4] d=some (.ref ph)∧H11 ph=some (.lst (hs.map V.int))∧Hs hs∧m∈hs:=by
   obtain⟨u,mu,au⟩:=Xi (xs:=[V.ref p3,V.ref p4]) d0 d1
   rw[List.mem_cons,List.mem_singleton] at mu
   rcases mu with rfl | rfl
   ·exact⟨p3,ms,au,x11 _ _ (y10 _ _ (y9 _ _ G3)) n3,Hms⟩
   ·exact⟨p4,[m],au,x11 _ _ (y10 _ _ G4) n4,H1m⟩
  refine⟨p5,_,_,_,rfl,rfl,SqL.of (x11 _ _ G5 n5),at5,(by show 0≤sizeLine;decide),fun p6 h6=>?_⟩
  generalize hE:L2.upd H11 p6 _=H12
  obtain⟨G6,y12⟩:=al hE h6
  clear hE
  refine fun pw wx npw nwx nex=>?_
  have mW:Same H12 (L2.upd (L2.upd H12 wx (.own pw)) pw (.ins a.c_Web wx [])):=(Same.new nwx).updF npw
  refine⟨pw,wx,ph,p6,hs,rfl,upd_same,mW _ _ (y12 _ _ hph),mW _ _ G6,Hh.1,fun oh ol dn ad H13 x13 Wb=>?_⟩
  have y13:Same H12 H13:=fun b o e=>x13 b o (mW b o e) (ne_of_none e npw)
  -- the way
  refine⟨rfl,_,rfl,pw,_,wx,_,_,_,_,_,_,rfl,Wb.p,rfl,T.cl_Web,T.mt_qb1,ZQ (P:=P) (w:=w) T,hr.m,T.b_qb1,pw,hs,wx,oh,ol,dn,ad,rfl,Wb,fun lh hlh=>?_⟩
  generalize hE:L2.upd H13 lh _=H14
  obtain⟨G7,y14⟩:=al hE hlh
  clear hE
  refine⟨lh,rfl,⟨_,SqL.of G7⟩,fun D hD _=>?_⟩
  refine yF (K:=K) (a:=lh) (xs:=hs.map V.int) (fun i zs τ G'=>∃ (o1:Option V) (qs:List Addr),τ=[o1]∧zs=qs.map V.ref∧qs.length=i∧(∀ (j:Nat) (p:Addr) (x:Int),qs[j]?=some p→hs[j]?=some x→G' p=some (.tup [.int x,.non]))∧G' D=some (.lst zs)∧Same H14 G') ?_ ?_ ?_ ?_
  ·exact⟨none,[],rfl,rfl,rfl,fun j q x h=>by simp at h,upd_same,Same.new hD⟩
  ·rintro i zs τ G' ⟨o1,qs,_,_,_,_,_,sm⟩
   exact SqL.of (sm _ _ G7)
  ·rintro i v zs τ G' hv ⟨o1,qs,rfl,rfl,lq,hqs,hD',sm⟩
   rw[List.getElem?_map] at hv
   obtain⟨x,hx,rfl⟩:=Option.map_eq_some_iff.mp hv
   have hil:i<hs.length:=(List.getElem?_eq_some_iff.mp hx).1
   have h12:=Hh.1.l12
   unfold Yr
   refine X1 ?_
   refine⟨_,rfl,(by show 2≤sizeLine;decide),fun pt hpt=>?_⟩
   have n2:=Same.new (o:=HO.tup [V.int x,.non]) hpt
   have npt:pt≠D:=fun z=>by rw[z,hD'] at hpt;cases hpt
   have hDF:=n2 _ _ hD'
   refine⟨hDF,by rw[List.length_map,lq];exact zB (by omega),some (.int x),qs++[pt],rfl,by simp,by simp[lq],fun j p y hj hy'=>?_,upd_same,Same.updF (sm.trans n2) hD⟩
   by_cases hji:j<i
   ·rw[List.getElem?_append_left (by omega)] at hj
    have h1:=n2 _ _ (hqs j p y hj hy')
    rw[ze (fun z=>by rw[z,hDF] at h1;cases h1)]
    exact h1
   ·rw[List.getElem?_append_right (by omega)] at hj
    have:j=i:=by
     have:=(List.getElem?_eq_some_iff.mp hj).1
     simp at this
     omega
    subst this
    rw[lq,Nat.sub_self] at hj
    cases hj
    rw[hx] at hy'
    cases hy'
    rw[ze npt]
    exact upd_same
  rintro zs τ H15 ⟨o1,qs,rfl,rfl,lq,hqs,hD2,y15⟩
  rw[List.length_map] at lq
  have ndh:hs.Nodup:=Hh.1.up.imp fun h=>by omega
  have h12:=Hh.1.l12
  refine⟨D,qs,tabN hs,rfl,hD2,by rw[tabN_len];exact lq,by rw[tabN_len];omega,fun i q kv h1 h2=>?_,fun pd hpd=>?_⟩
  ·obtain⟨x,h3,rfl⟩:=vv h2
   exact hqs i q x h1 h3
  rw[ug (by rw[wJ];exact Vj ndh)]
  generalize hE:L2.upd H15 pd _=H16
  obtain⟨G8,y16⟩:=al hE hpd
  clear hE
  refine⟨(by show 0≤sizeLine;decide),fun pb hpb=>?_⟩
  generalize hE:L2.upd H16 pb _=H17
  obtain⟨G9,y17⟩:=al hE hpb
  clear hE
  refine fun py yx npy nyx _=>?_
  have mY:Same H17 (L2.upd (L2.upd H17 yx (.own py)) py (.ins a.c_Way yx [])):=(Same.new nyx).updF npy
  refine⟨py,yx,pd,pb,hs,rfl,upd_same,mY _ _ (y17 _ _ G8),ndh,h12,mY _ _ G9,fun dp ob H18 x18 Wy=>⟨rfl,?_⟩⟩
  have y18:Same H13 H18:=(((y14.trans y15).trans y16).trans y17).trans fun b o e=>x18 b o (mY b o e) (ne_of_none e npy)
  -- the program,the seat
  have X:Ext l H1 H18:=((((x2.trans x3).trans x4).trans x5).trans (Ext.same Y)).trans (x11.trans (Ext.same (y12.trans (y13.trans y18))))
  have XX:=x1.trans X
  have hq18:=X _ _ hq (fun z=>by obtain⟨i,j,k,e⟩:=s1;rw[z,e] at hq;cases hq)
  obtain⟨⟨e1,t1,o1,c1,z1⟩,⟨e2,t2,o2,c2,z2⟩,⟨e3,t3,o3,c3,z3⟩,⟨e4,t4,o4,c4,z4⟩⟩:=F1
  replace t1:=t1.extX s1 X
  replace t2:=t2.extX s1 X
  replace t3:=t3.extX s1 X
  replace t4:=t4.extX s1 X
  replace Wb:=Wb.same y18
  clear x2 x3 x4 x5 Y x11 y12 y13 y14 y15 y16 y17 y18 X mW mY G1 G2 G3 G4 G5 G6 G7 G8 G9 s1 s2 s3 s4 s5
  refine⟨_,rfl,_,rfl,_,rfl,q,v1,v2,v3,v4,e1,e2,e3,e4,rfl,hq18,⟨⟨t1,o1,c1,z1⟩,⟨t2,o2,c2,z2⟩,⟨t3,o3,c3,z3⟩,⟨t4,o4,c4,z4⟩⟩,fun r H19 PA y19=>?_⟩
  refine⟨_,rfl,_,rfl,fun pp dx npp ndx _=>?_⟩
  have mS:Same H19 (L2.upd (L2.upd H19 dx (.own pp)) pp (.ins a.c_Seat dx [])):=(Same.new ndx).updF npp
  refine⟨pp,dx,pw,py,r,R,m,hs,hs,wx,oh,ol,dn,yx,dp,ob,ad,e1,e2,e3,e4,rfl,upd_same,(Wb.same y19).same mS,Hh.2,(Wy.same y19).same mS,PA.same mS,fun x dd H20 xp xr xR xm S W x20 fw fh=>⟨rfl,?_⟩⟩
  have y20:Same H19 H20:=fun b o e=>x20 b o (mS b o e) (ne_of_none e npp)
  obtain rfl:=xp
  obtain rfl:=xr
  obtain rfl:=xR
  obtain rfl:=xm
  -- the first worth
  refine⟨_,rfl,q,_,_,_,rfl,rfl,SqT.of (y20 _ _ (y19 _ _ hq18)),rfl,fun pe hpe=>?_⟩
  refine⟨_,rfl,upd_same,kvF x.m 0,rfl,(by show 2≤15;decide),?_⟩
  generalize hE:L2.upd _ pe _=H21
  have hpe':H21 pe=some (.dK (kvF x.m 0)):=by rw[← hE];exact upd_same
  have y21:Same H20 H21:=fun b o e=>by
   have hb:=ne_of_none e hpe
   rw[← hE,ze hb,ze hb]
   exact e
  clear hE
  have y18:=y19.trans (y20.trans y21)
  refine⟨e1,_,pe,_,yw,rfl,t1.same y18,c1,o1,hpe',zFK,fun H22 y22=>?_⟩
  replace y18:=y18.trans y22
  replace y21:=y21.trans y22
  replace y20:=y20.trans y21
  replace S:=S.same y21
  replace W:=W.same y21
  replace PA:=PA.same y20
  replace t4:=t4.same y18
  replace hq18:=y18 _ _ hq18
  have Z0:∀ b o,H b=some o→b≠l→H22 b=some o∧b≠x.p∧b≠x.dw∧b≠x.dh:=fun b o e n=>by
   have h18:=XX b o e n
   have h19:=y19 _ _ h18
   have hm:=mS _ _ h19
   exact⟨y18 _ _ h18,ne_of_none h19 npp,ne_of_none hm fw,ne_of_none hm fh⟩
  clear y19 y20 y21 y22 y18 t1 t2 t3 Wb Wy
  -- ahead of the beginning
  obtain⟨N,hN⟩:∃ N:Nat,x.R=N:=⟨x.R.toNat,by omega⟩
  refine⟨_,rfl,x.p,_,x.dx,_,_,_,_,_,_,rfl,S.p,rfl,T.cl_Seat,T.mt_qD,ZS (P:=P) (w:=w) T,hr.m,T.b_qD,x,_,dd,_,rfl,S,rfl,_,rfl,zG rfl ?_⟩
  refine⟨_,rfl,x.p,_,x.dx,_,_,_,_,_,_,rfl,S.p,rfl,T.cl_Seat,T.mt_qE,Xn (P:=P) (w:=w) T,hr.m,T.b_qE,x,_,dd,_,0,0,_,_,rfl,S,W,Nat.le_refl _,_,rfl,rfl,_,rfl,zG (by simp[wS]) ?_⟩
  refine⟨_,rfl,x.p,_,x.dx,_,_,_,_,_,_,rfl,S.p,rfl,T.cl_Seat,T.mt_qC,zn5 (P:=P) (w:=w) T,hr.m,T.b_qC,x,N,dd,_,e1,e2,e3,e4,rfl,S,W,PA,hN,by omega,fun l0 dd' ad' H23 hl0 S3 W3 F3=>?_⟩
  refine⟨(by show 0≤sizeLine;decide),fun l1 hl1=>?_⟩
  generalize hE:L2.upd H23 l1 _=H24
  obtain⟨G10,y24⟩:=al hE hl1
  clear hE
  refine⟨l0,l1,_,_,fun _=>true,0,rfl,rfl,.inl ⟨SqL.of (y24 _ _ hl0),SqL.of G10⟩,rfl,un 0 (by omega),fun j u v h1=>by simp at h1,_,rfl,zG rfl ?_⟩
  have S4:=S3.same y24
  have W4:=W3.same y24
  refine⟨_,rfl,x.p,_,x.dx,_,_,_,_,_,_,rfl,S4.p,rfl,T.cl_Seat,T.mt_qD,ZS (P:=P) (w:=w) T,hr.m,T.b_qD,x,_,dd',_,rfl,S4,_,rfl,rfl,_,rfl,zG (by rw[hN];simp) ?_⟩
  have hq24:H24 q=some (.tup [v1,v2,v3,v4]):=y24 _ _ (F3.tup S W hq18)
  have t44:Told H24 e4 v4:=(t4.mono fun b xs e=>F3.tup S W e).same y24
  have Z:Ext l H H24:=fun b o e n=>by
   obtain⟨z1,z2,z3,z4⟩:=Z0 b o e n
   exact y24 _ _ (F3 b o z1 z2 z3 z4)
  clear t4 hq18 S3 W3 hl0 F3 S W PA Z0
  refine⟨_,rfl,_,_,rfl,rfl,_,rfl,by omega,by omega,?_⟩
  generalize hf:wS e1 e4 x.m=f at *
  have f0:e1.val (rho (kvF x.m 0))=f 0:=by rw[← hf];rfl
  have fS:∀ n,e4.val (rho (kvR (f n) x.m ((n:Int)+1) 0 0 0 0 0))=f (n+1):=fun n=>by rw[← hf];rfl
  rw[f0]
  refine Ys (lo:=0) (n:=(x.R+1).toNat) (fun i σ G=>∃ o9 o10:Option V,σ=[some (.ref l),some (.ref q),some (.int x.m),some (.int x.R),some (.ref p3),some (.ref pw),some (.ref py),some (.ref x.p),some (.int (f (i-1))),o9,o10,none]∧Same H24 G) ?_ ?_ ?_
  ·exact⟨_,_,rfl,Same.refl _⟩
  ·rintro i σ G hi ⟨o9,o10,rfl,sG⟩
   have hiN:i≤N:=by omega
   have SG:=S4.same sG
   have WG:=W4.same sG
   refine⟨fun σ' G'=>∃ o10:Option V,σ'=[some (.ref l),some (.ref q),some (.int x.m),some (.int x.R),some (.ref p3),some (.ref pw),some (.ref py),some (.ref x.p),some (.int (f i)),some (.int (i:Int)),o10,none]∧Same G G',?_,?_⟩
   ·refine⟨_,rfl,_,_,rfl,rfl,_,rfl,?_⟩
    cases i with
    |zero=>exact zG rfl ⟨_,rfl,Same.refl _⟩
    |succ j =>
     refine iteB (by simp) ?_
     have tj:(0:Int)+((j+1:Nat):Int)=(j:Int)+1:=by omega
     refine⟨_,rfl,_,rfl,_,rfl,_,rfl,(by show 0≤sizeLine;decide),fun pz hpz=>?_⟩
     generalize hE:L2.upd G pz _=G1
     obtain⟨g1,yg1⟩:=al hE hpz
     clear hE
     have sg1:=sG.trans yg1
     refine⟨q,pz,v1,v2,v3,v4,e4,_,_,_,_,rfl,sg1 _ _ hq24,⟨t44.same sg1,o4,c4⟩,g1,fun G2 yg2=>?_⟩
     have sg2:=sg1.trans yg2
     have SG2:=S4.same sg2
     have WG2:=W4.same sg2
     refine⟨_,rfl,x.p,_,x.dx,_,_,_,_,_,_,rfl,SG2.p,rfl,T.cl_Seat,T.mt_qF,zn2 (P:=P) (w:=w) T,hr.m,T.b_qF,_,rfl,x,_,dd',_,N,j,f,_,(by rw[tj];rfl),SG2,WG2,by omega,fun lz hlz=>?_⟩
     generalize hE:L2.upd G2 lz _=G3
     obtain⟨g3,yg3⟩:=al hE hlz
     clear hE
     refine⟨_,rfl,.inl ⟨rfl,_,SqL.of g3⟩,(by show 2≤sizeLine;decide),fun pt hpt=>?_⟩
     generalize hE:L2.upd G3 pt _=G4
     obtain⟨g4,yg4⟩:=al hE hpt
     clear hE
     have g3':=yg4 _ _ g3
     refine⟨lz,_,_,rfl,rfl,g3',(by show 0<sizeLine;decide),?_⟩
     have nl:pt≠lz:=fun z=>by rw[z,g3] at hpt;cases hpt
     generalize hE:L2.upd G4 lz _=G5
     have g5:G5 lz=some (.lst ([]++[V.ref pt])):=by rw[← hE];exact upd_same
     have g5t:G5 pt=some (.tup [.int 0,.int 0]):=by rw[← hE,ze nl];exact g4
     have yg5:Same G2 G5:=fun b o e=>by rw[← hE,ze (ne_of_none e hlz)];exact yg4 _ _ (yg3 _ _ e)
     clear hE
     refine⟨_,rfl,(by show 2≤sizeLine;decide),fun pt2 hpt2=>?_⟩
     generalize hE:L2.upd G5 pt2 _=G6
     obtain⟨g6,yg6⟩:=al hE hpt2
     clear hE
     have npt:pt≠pt2:=fun z=>by rw[← z,g5t] at hpt2;cases hpt2
     refine⟨(by show 1≤sizeLine;decide),fun lz2 hlz2=>?_⟩
     generalize hE:L2.upd G6 lz2 _=G7
     obtain⟨g7,yg7⟩:=al hE hlz2
     clear hE
     have yg67:=yg6.trans yg7
     refine⟨lz,lz2,_,_,fun _=>true,1,rfl,rfl,.inl ⟨SqL.of (yg67 _ _ g5),SqL.of g7⟩,rfl,un 1 (by omega),?_,_,rfl,zG rfl ?_⟩
     ·intro k u v h1 h2
      match k,h1,h2 with
      |0,h1,h2 =>
       cases h1;cases h2
       exact EqD.tup (xs:=[.int 0,.int 0]) (ys:=[.int 0,.int 0]) (e:=fun _=>true) (n:=0) npt (SqT.of (yg67 _ _ g5t)) (SqT.of (yg7 _ _ g6)) rfl fun k x y e1 e2=>by
        match k,e1,e2 with
        |0,e1,e2=>cases e1;cases e2;exact EqD.flat (x:=.int 0) (y:=.int 0) rfl rfl
        |1,e1,e2=>cases e1;cases e2;exact EqD.flat (x:=.int 0) (y:=.int 0) rfl rfl
        |_+2,e1,e2=>simp at e1
      |_+1,h1,h2=>simp at h1
     have yg:=(yg5.trans yg67)
     have SG7:=SG2.same yg
     have WG7:=WG2.same yg
     refine⟨_,rfl,x.p,_,x.dx,_,_,_,_,_,_,rfl,SG7.p,rfl,T.cl_Seat,T.mt_qF,zn2 (P:=P) (w:=w) T,hr.m,T.b_qF,_,rfl,x,_,dd',_,N,j,f,_,(by rw[tj];rfl),SG7,WG7,by omega,fun lz3 hlz3=>?_⟩
     generalize hE:L2.upd G7 lz3 _=G8
     obtain⟨g8,yg8⟩:=al hE hlz3
     clear hE
     refine⟨(by show 0≤sizeLine;decide),fun lz4 hlz4=>?_⟩
     generalize hE:L2.upd G8 lz4 _=G9
     obtain⟨g9,yg9⟩:=al hE hlz4
     clear hE
     refine⟨lz3,lz4,_,_,fun _=>true,0,rfl,rfl,.inl ⟨SqL.of (yg9 _ _ g8),SqL.of g9⟩,rfl,un 0 (by omega),fun j u v h1=>by simp at h1,_,rfl,zG rfl ?_⟩
     have e5:e4.val (rho (kvR (f (j+1-1)) x.m ((0:Int)+((j+1:Nat):Int)) 0 0 0 0 0))=f (j+1):=by
      rw[tj]
      exact fS j
     refine⟨some (.ref lz),?_,(yg1.trans yg2).trans (yg.trans (yg8.trans yg9))⟩
     rw[e5,Int.zero_add]
     rfl
   ·rintro σ' G' ⟨o10,rfl,sG'⟩
    have SG:=SG.same sG'
    have WG:=WG.same sG'
    refine⟨_,rfl,x.p,_,x.dx,_,_,_,_,_,_,rfl,SG.p,rfl,T.cl_Seat,T.mt_qE,Xn (P:=P) (w:=w) T,hr.m,T.b_qE,_,rfl,x,_,dd',_,N,i,f,_,rfl,SG,WG,hiN,_,rfl,rfl,_,rfl,zG (by simp) ?_⟩
    refine⟨_,rfl,x.p,_,x.dx,_,_,_,_,_,_,rfl,SG.p,rfl,T.cl_Seat,T.mt_qE,Xn (P:=P) (w:=w) T,hr.m,T.b_qE,_,rfl,x,_,dd',_,N,i,f,_,rfl,SG,WG,hiN,_,rfl,rfl,_,rfl,zG (by simp) ?_⟩
    refine⟨_,rfl,x.p,_,x.dx,_,_,_,_,_,_,rfl,SG.p,rfl,T.cl_Seat,T.mt_qE,Xn (P:=P) (w:=w) T,hr.m,T.b_qE,_,rfl,x,_,dd',_,N,i,f,_,rfl,SG,WG,hiN,_,_,_,_,_,rfl,rfl,.int _,T.k_tint_tbool,_,rfl,zG rfl ?_⟩
    exact⟨_,_,rfl,sG.trans sG'⟩
  rintro σ G ⟨o9,o10,rfl,sG⟩
  refine⟨_,rfl,_,rfl,_,_,rfl,rfl,_,_,rfl,rfl,(by unfold CPow;decide),(by show 1≤sizeLine;decide),fun b1 hb1=>?_⟩
  generalize hE:L2.upd G b1 _=G1
  obtain⟨g1,yg1⟩:=al hE hb1
  clear hE
  refine⟨(by show 1≤sizeLine;decide),fun b2 hb2=>?_⟩
  generalize hE:L2.upd G1 b2 _=G2
  obtain⟨g2,yg2⟩:=al hE hb2
  clear hE
  refine⟨(by show 8≤sizeLine;decide),fun b3 hb3=>?_⟩
  generalize hE:L2.upd G2 b3 _=G3
  obtain⟨g3,yg3⟩:=al hE hb3
  clear hE
  have yg23:=yg2.trans yg3
  have sG3:=sG.trans (yg1.trans yg23)
  have S5:=S4.same sG3
  have W5:=W4.same sG3
  have lf:∀ v∈[V.int (-1),V.int (x.R+1),V.int (10 ^ 19),V.bl true,V.non,V.str "0",V.ref b1,V.ref b2],Lf K G3 v∧(∀ i:Int,v=.int i→i<0∨N<i):=by
   intro v hv
   simp only[List.mem_cons,List.not_mem_nil,or_false] at hv
   rcases hv with rfl | rfl | rfl | rfl | rfl | rfl | rfl | rfl
   ·exact⟨lf_int T _,fun i e=>by cases e;omega⟩
   ·exact⟨lf_int T _,fun i e=>by cases e;omega⟩
   ·exact⟨lf_int T _,fun i e=>by cases e;omega⟩
   ·exact⟨⟨_,.bl _,T.k_tbool_tint,T.k_tbool_tbool,T.k_tbool_tstr⟩,fun i e=>by cases e⟩
   ·exact⟨⟨_,.non,T.k_tNoneType_tint,T.k_tNoneType_tbool,T.k_tNoneType_tstr⟩,fun i e=>by cases e⟩
   ·exact⟨Yc T _,fun i e=>by cases e⟩
   ·exact⟨⟨_,.tup (yg23 _ _ g1),T.k_ttuple_tint,T.k_ttuple_tbool,T.k_ttuple_tstr⟩,fun i e=>by cases e⟩
   ·exact⟨⟨_,.lst (yg3 _ _ g2),T.k_tlist_tint,T.k_tlist_tbool,T.k_tlist_tstr⟩,fun i e=>by cases e⟩
  have six:∀ (G:Hp) (j:Nat) (x y:V),zrF[j]?=some x→zrF[j]?=some y→EqD K G x y true 0:=fun G j x y e1 e2=>by
   rw[e1] at e2
   cases e2
   match j,e1 with
   |0,e1=>cases e1;exact EqD.flat (x:=.bl true) (y:=.bl true) rfl rfl
   |1,e1=>cases e1;exact EqD.flat (x:=.bl true) (y:=.bl true) rfl rfl
   |2,e1=>cases e1;exact EqD.flat (x:=.bl false) (y:=.bl false) rfl rfl
   |3,e1=>cases e1;exact EqD.flat (x:=.bl false) (y:=.bl false) rfl rfl
   |4,e1=>cases e1;exact EqD.flat (x:=.bl false) (y:=.bl false) rfl rfl
   |5,e1=>cases e1;exact EqD.flat (x:=.bl false) (y:=.bl false) rfl rfl
   |_+6,e1=>simp at e1
  refine⟨b3,rfl,⟨_,SqL.of g3⟩,?_⟩
  refine zX (xs:=[V.int (-1),V.int (x.R+1),V.int (10 ^ 19),V.bl true,V.non,V.str "0",V.ref b1,V.ref b2]) (fun i σ G=>∃ o11:Option V,σ=[some (.ref l),some (.ref q),some (.int x.m),some (.int x.R),some (.ref p3),some (.ref pw),some (.ref py),some (.ref x.p),some (.int (f ((x.R+1).toNat-1))),o9,o10,o11]∧Same G3 G) ?_ ?_ ?_ ?_
  ·exact⟨_,rfl,Same.refl _⟩
  ·rintro i σ G _ ⟨o11,_,sm⟩
   exact SqL.of (sm _ _ g3)
  ·rintro i v σ G hv ⟨o11,rfl,sm⟩
   obtain⟨lv,nv⟩:=lf v (List.mem_of_getElem? hv)
   refine⟨_,rfl,_,rfl,x,_,dd',_,N,f,_,v,false,rfl,S5.same sm,W5.same sm,lv.same sm,nv,fun l1 G4 hl1 s4=>?_⟩
   refine⟨(by show 6≤sizeLine;decide),fun l2 hl2=>?_⟩
   generalize hE:L2.upd G4 l2 _=G5
   obtain⟨g5,yg5⟩:=al hE hl2
   clear hE
   refine⟨l1,l2,_,_,fun _=>true,0,rfl,rfl,.inl ⟨SqL.of (yg5 _ _ hl1),SqL.of g5⟩,rfl,un 0 (by omega),six _,_,rfl,zG rfl ?_⟩
   have sm2:=sm.trans (s4.trans yg5)
   refine⟨_,rfl,_,rfl,x,_,dd',_,N,f,_,v,true,rfl,S5.same sm2,W5.same sm2,lv.same sm2,fun i e=>?_,fun l3 G6 hl3 s6=>?_⟩
   ·have:=nv i e
    show i<1∨_
    omega
   refine⟨(by show 6≤sizeLine;decide),fun l4 hl4=>?_⟩
   generalize hE:L2.upd G6 l4 _=G7
   obtain⟨g7,yg7⟩:=al hE hl4
   clear hE
   refine⟨l3,l4,_,_,fun _=>true,0,rfl,rfl,.inl ⟨SqL.of (yg7 _ _ hl3),SqL.of g7⟩,rfl,un 0 (by omega),six _,_,rfl,zG rfl ?_⟩
   exact⟨_,rfl,sm2.trans (s6.trans yg7)⟩
  rintro σ G ⟨o11,rfl,sm⟩
  refine⟨_,rfl,x,_,dd',_,N,f,_,.int 0,true,rfl,S5.same sm,W5.same sm,lf_int T 0,fun i e=>?_,fun l1 G4 hl1 s4=>?_⟩
  ·cases e
   exact .inl (by decide)
  refine⟨(by show 6≤sizeLine;decide),fun l2 hl2=>?_⟩
  generalize hE:L2.upd G4 l2 _=G5
  obtain⟨g5,yg5⟩:=al hE hl2
  clear hE
  refine⟨l1,l2,_,_,fun _=>true,0,rfl,rfl,.inl ⟨SqL.of (yg5 _ _ hl1),SqL.of g5⟩,rfl,un 0 (by omega),six _,_,rfl,iteB rfl ?_⟩
  have S6:=S5.same (sm.trans (s4.trans yg5))
  refine⟨_,rfl,x.p,_,x.dx,_,_,_,_,_,_,rfl,S6.p,rfl,T.cl_Seat,T.mt_qD,ZS (P:=P) (w:=w) T,hr.m,T.b_qD,x,_,dd',_,rfl,S6,_,rfl,rfl,?_⟩
  have e:(V.bl (decide (V.int ((N:Int)+1-1)=V.int x.R)))=.bl true:=by rw[hN];simp
  rw[e]
  exact k _ (Z.trans (Ext.same (sG3.trans (sm.trans (s4.trans yg5)))))
end
end K04
namespace L2
open PySem PySem.Spec PyProof.Rows
section
variable {X:Cx}
def ztt (K:PySem.W.Frag):R2:=fun x y H Q=>∃ l b xs zs,x=.ref l∧y=.ref b∧SqL K H l xs∧SqL K H b zs∧xs.length+zs.length≤sizeLine∧∀ p,H p=none→Q (.ref p) (upd H p (.lst (xs++zs)))
theorem UF:OpR X (binaryOp .Add) (ztt X.K):=by
 intro pins s σ H x y v u Q I rx ry h
 obtain⟨l,b,xs,zs,rfl,rfl,hH,hB,hz,q⟩:=h
 cases rx
 cases ry
 obtain⟨vs,r,⟨⟨c1,d1,a1,s1⟩,n,e,k1,_,k2⟩,_⟩:=I.list hH
 obtain⟨ws,r2,⟨⟨c2,d2,a2,s2⟩,n2,e2,k3,_,k4⟩,_⟩:=I.list hB
 simp only at k1 k2 k3 k4
 subst k1 k2 k3 k4
 have z1:=r.length
 have z2:=r2.length
 have ea:vs.toArray++ws.toArray=(vs++ws).toArray:=by simp
 refine concat_meets ⟨_,e,rfl⟩ ⟨_,e2,rfl⟩ noFill_list_add seq_list_add PySem.F.slot_list_add PySem.F.entry_list_add (PySem.F.args_list_add_2 _ _) (list_addW l b vs.toArray ws.toArray n n2 d1 d2 s1 s2 (by simp;omega)) ⟨e,e2,?_⟩
 rw[ea]
 exact⟨.ref _,_,I.lnew (t':=s.toks) (r.append r2) (by rw[List.length_append];omega),rfl,q _ I.fresh⟩
end
end L2
namespace K04
open PySem L2
theorem zGB {K:PySem.W.Frag}{H H':Hp}{a:Addr}{xs:List V}(h:SqL K H a xs) (s:Same H H'):SqL K H' a xs:=by
 rcases h with(h | ⟨o,h⟩) | h
 ·exact .inl (.inl (s _ _ h))
 ·exact .inl (.inr ⟨o,s _ _ h⟩)
 ·exact .inr h
section
variable {P:Program}{w:World}{K:PySem.W.Frag}{mg:Str→Option Value}{base:Heap}{a:Ad}
def spLaw (K:PySem.W.Frag):Sp:=fun vs H Q _=>∃ (a:Addr) (ns:LI),vs=[.ref a]∧SqL K H a (ns.map V.int)∧ns.length≤63∧∀ H',Q (.bl true) H'
theorem sp_law_of {K:PySem.W.Frag}{H:Hp}{a:Addr}{ns:LI}(hl:ns.length≤63) (hO:zpx H) (hS:SqL K H a (ns.map V.int)):spLaw K [.ref a] H (fun v _=>v=.bl true) fun _ _ _=>False:=⟨a,ns,rfl,hS,hl,fun _=>rfl⟩
theorem ok_law (T:Txt w K mg a):FnOk P w K mg base CX0 26 a.f_qw a.d_qw ["_law_script"] (spLaw K):=by
 have c_qm:Callee P w K mg base "_law_well" a.f_qm a.d_qm ["_law_cell"] 1 Wg:=⟨UG T,T.g_qm,T.F_qm.kp,T.b_qm⟩
 have c_qv:Callee P w K mg base "_law_right" a.f_qv a.d_qv ["_law_well_here"] 25 Zx:=⟨Xo T,T.g_qv,T.F_qv.kp,T.b_qv⟩
 refine T.F_qw.ok sc_qw (fun vs H Q E h=>?_) (fun cdv A outer s H vs Q E hr h=>?_)
 ·obtain⟨x,ns,rfl,_⟩:=h
  rfl
 ·obtain⟨sc,ns,rfl,hS,hlen,k⟩:=h
  refine zv (w_pss_cons (zO PassesOwn.never rfl (zC (uy Um (zj UF (w_pv 0) (zh (zf w_pe_int w_pa_nil))) Za (w_po_some w_pe_int))) (zr (i:=1) sc_qw.nd rfl (Or.inl rfl))
    (w_pss_one (w_ps_if (zy (zo (zk c_qv hr.m (zt (zk c_qm hr.m (za (w_pv 1) w_pa_nil)) w_pa_nil))))
     (w_pss_one (w_ps_ret zn))
     zg)))
   (w_pss_one (w_ps_ret zn))) ?_
  refine⟨_,rfl,(by show 1≤sizeLine;decide),fun p1 h1=>?_⟩
  generalize hE:L2.upd H p1 _=H1
  obtain⟨g1,y1⟩:=al hE h1
  clear hE
  refine⟨sc,p1,_,_,rfl,rfl,zGB hS y1,SqL.of g1,(Nat.le_of_lt (zB (by simp;omega))),fun p2 h2=>?_⟩
  generalize hE:L2.upd H1 p2 _=H2
  obtain⟨g2,y2⟩:=al hE h2
  clear hE
  refine⟨6,rfl,p2,_,rfl,SqL.of g2,fun p3 h3=>?_⟩
  generalize hE:L2.upd H2 p3 _=H3
  obtain⟨g3,y3⟩:=al hE h3
  clear hE
  have hc:∃ ms:LI,zbb (ns.map V.int++[V.int 0]) none (some 6)=ms.map V.int:=by
   unfold zbb
   rw[show ns.map V.int++[V.int 0]=(ns++[0]).map V.int by simp,← List.map_drop,← List.map_take]
   exact⟨_,rfl⟩
  obtain⟨ms,hc⟩:=hc
  rw[hc] at g3
  refine⟨p3,rfl,⟨_,SqL.of g3⟩,?_⟩
  refine zX (xs:=ms.map V.int) (fun i σ G=>∃ o1:Option V,σ=[some (.ref sc),o1]∧Same H3 G) ?_ ?_ ?_ ?_
  ·exact⟨_,rfl,Same.refl _⟩
  ·rintro i σ G _ ⟨o1,_,sm⟩
   exact SqL.of (sm _ _ g3)
  ·rintro i v σ G hv ⟨o1,rfl,sm⟩
   rw[List.getElem?_map] at hv
   obtain⟨c,hc,rfl⟩:=Option.map_eq_some_iff.mp hv
   refine⟨_,rfl,c,rfl,fun l G1 hl W1 s1=>?_⟩
   refine⟨l,rfl,W1,fun G2 x2=>⟨_,rfl,zG rfl ?_⟩⟩
   exact⟨_,rfl,sm.trans fun b o e=>x2 b o (s1 b o e) (ne_of_none e hl)⟩
  rintro σ G ⟨o1,rfl,sm⟩
  exact k _
end
end K04
noncomputable section
def PySem.W.Fast.tw11388975643039361456:=0
def PySem.W.Fast.tw14633931826345236324:=0
def PySem.W.Fast.tw8856144728478018897:=0
def PySem.W.Fast.tw17062198468877432609:=0
def PySem.W.Fast.tw10598372733321371305:=0
def PySem.W.Fast.tw11616086253799572649:=0
def PySem.W.Fast.tw17758467707605542250:=0
def PySem.W.Fast.tw14338876466950056905:=0
def PySem.W.Fast.tw6496138341281078435:=0
def PySem.W.Fast.tw6216741656489410486:=0
def PySem.W.Fast.tw6123116592370679677:=0
def PySem.W.Fast.tw16627384631628985244:=0
def PySem.W.Fast.tw1688954305291010661:=0
def PySem.W.Fast.tw8697170791317315040:=0
def PySem.W.Fast.tw10579265108948214604:=0
def PySem.W.Fast.tw9532633636177338432:=0
def PySem.W.Fast.tw3299963512692046226:=0
def PySem.W.Fast.tw9316987155075272405:=0
def PySem.W.Fast.tw5518260327533038333:=0
def PySem.W.Fast.tw13793158388811680729:=0
def PySem.W.Fast.tw10330366778594210143:=0
def PySem.W.Fast.tw2679819212127310782:=0
def PySem.W.Fast.tw1689613642844212636:=0
def PySem.W.Fast.tw9031915412781655692:=0
def PySem.W.Fast.tw3858109914732617049:=0
namespace Hd
open PySem PySem.W PySem.Calls PyProof.Rows
abbrev pw:=PySem.Challenge.pw_beatless_k40_one_hand_alone
variable (P:Params)
def tt {α:Type}(_:α):Bool:=true
def S (i:Nat):Stmt:=pw.main.body.getD i (.Pass ⟨0,0,0,0⟩)
def fd (n q:Str) (s:Stmt) (g:Addr) (cl:List (Str×Addr)) (d k c m:Value) (an:Option Addr) (cd ct:Value) (b:Addr):FuncData :=
 ⟨n,q,L2.defArgs s,.stmts (L2.defBody s),L2.defScope s,g,cl,d,k,c,m,an,cd,ct,b⟩
abbrev an:Option Value:=(Option.some (.ref 6))
def env:Env:={ scope:=pw.main.scope,locals:=mainNs,globals:=mainNs,cells:=[],code:=(.ref 13),frame:=some 14 }
abbrev bE:List Stmt:=behindTheImports pw
abbrev cE:Code:=.body bE env
abbrev qE:Pos:=(Pos.mk 0 0 0 0)
abbrev B:List Frame:=[topFrame qE]
def s0 (w:World) (os:OsState):Shared:=⟨boot_heap w.params,⟨[]⟩,boot_drawn,boot_toks,os⟩
def zs:List Str:=List.map Str.ofString ["/claim/cut.py", "<module>", "__main__", "__name__", "beatless.errors", "__doc__", "__package__", "__loader__", "__spec__", "__annotations__", "__builtins__", "__file__", "__cached__", "_wall", "BeatlessError", "NoWeb", "k", "__module__", "__qualname__", "__firstlineno__", "__static_attributes__", "__weakref__", "NoHand", "NoProgram", "NoWay", "NoLetter", "beatless.ways", "NoRound", "Fallen", "is_whole", "copied", "value", "beatless.wholes", "beatless.seats", "Way", "__init__", "parent_of", "all_parents", "all_bridges", "path_up", "leader", "depth_of", "depth", "children", "bridges_at", "self", "parents", "bridges", "Way.__init__", "hand", "each", "parent", "Way.parent_of", "Way.all_parents", "Way.all_bridges", "Way.path_up", "Way.leader", "Way.depth_of", "Way.depth", "Way.children", "ends", "one", "other", "Way.bridges_at", "own_bridges", "own_parents", "__dict__", "Seat", "begin", "take", "ended", "worth", "heard", "last_worth", "forget_behind", "moved", "twin", "come", "has_come", "tell_each", "begin_round", "go_as_far_as_can_be", "is_let", "tell_through", "tell_all", "tell_clear", "end_round", "web", "way", "program", "rounds", "Seat.__init__", "Seat.begin", "letter", "Seat.take", "Seat.ended", "turn", "Seat.worth", "Seat.heard", "Seat.last_worth", "Seat.forget_behind", "Seat.moved", "Seat.twin", "kind", "Seat.come", "many", "Seat.has_come", "Seat.tell_each", "words", "number", "Seat.begin_round", "letters", "Seat.go_as_far_as_can_be", "step", "Seat.is_let", "Seat.tell_through", "Seat.tell_all", "Seat.tell_clear", "Seat.end_round", "above", "across", "awaited", "below", "did", "mail", "me", "near", "pairs_heard", "worths", "beatless.exprs", "Expr", "Num", "reckon", "told", "Num.__init__", "Num.reckon", "Num.told", "Num.words", "Name", "word", "Name.__init__", "Name.reckon", "Name.told", "Name.words", "Two", "Two.__init__", "Two.reckon", "Two.told", "Two.words", "Mod", "inner", "Mod.__init__", "Mod.reckon", "Mod.told", "Mod.words", "beatless.programs", "Less", "START_NAMES", "SEND_NAMES", "RENEW_NAMES", "TWO_WORDS", "MOST_WORDS", "MOST_DEEP", "is_short_number", "is_word_of", "is_divisor", "are_sound", "is_sound", "third", "fourth", "Less.__init__", "Less.reckon", "Less.told", "Less.words", "lines", "round", "to", "sum", "least", "most", "count", "add", "sub", "min", "max", "parts", "names", "deep", "part", "expr", "beatless.webs", "count_words", "Program", "MOST_HANDS", "LAST_HAND", "are_hands", "is_line", "are_lines", "near_by_hand", "first_worth", "word_to", "next_worth", "start", "send", "when", "renew", "Program.__init__", "Program.first_worth", "Program.word_to", "Program.next_worth", "hands", "ahead", "line", "seen", "law_beatless_k40_one_hand_alone", "Web", "_law_cell_at", "_law_well", "_law_draw", "_law_expr", "has_hand", "has_line", "neighbours", "groups", "group_of", "Web.__init__", "Web.hands", "Web.lines", "Web.has_hand", "Web.has_line", "Web.neighbours", "Web.groups", "Web.group_of", "own_hands", "own_lines", "_law_script", "_law_k", "_law_cell", "_law_well_here", "_law_many", "_law_found", "_law_number", "_law_names", "_law_deep", "_law_way", "_law_one", "_law_other", "_law_told", "_law_made", "_law_program", "_law_value", "_law_renewed", "_law_classes", "_law_right", "law", "_law_sends", "_law_tips", "_law_start", "_law_send", "_law_some", "_law_when", "_law_plain", "_law_renew", "_law_told_here", "_law_worth", "_law_hand", "_law_turn", "_law_lines", "_law_numbers", "_law_seat", "_law_heard", "e"]
def s (n:Nat):Str:=zs.getD n ⟨#[]⟩
def k0:Value:=.type "tuple"
def k1:Value:=.type "code"
def k2:Value:=.type "function"
def k3:Value:=.type "frame"
def k4:Value:=.type "dict"
def k5:Value:=.builtin "__main__.__loader__#opaque"
def k6:Value:=.type "ValueError"
def k7:Value:=.type "builtin_function_or_method"
def k8:Value:=.builtin "type.__prepare__"
def k9:Value:=.type "type"
def k10:Value:=.type "Exception"
def k11:Value:=.type "BaseException"
def k12:Value:=.type "object"
def k13:Value:=.builtin "ValueError.__new__"
def k14:Value:=.type "getset_descriptor"
def k15:Value:=.builtin "ExceptionGroup.__weakref__"
def k16:Value:=.type "super"
def k17:Value:=.builtin "object.__init_subclass__"
def k18:Value:=.builtin "object.__new__"
def k19:Value:=.builtin "function.__dict__"
def k20:Value:=.builtin "function.__dict__#set"
instance (n:Nat):OfNat Value n:=⟨.ref n⟩
def iv (n:Int):Value:=.int n 0
def sv (n:Nat) (t:Tok):Value:=.str (s n) t
def en (P:Params) (x:Nat) (t:Tok) (v:Value):DictEntry:=⟨PyData.keyHash P (s x),sv x t,v⟩
def tO (l:Array Value):Obj:=Obj.mk k0 .none (Data.seq l 0) #[]
def vO (l:Array Value):Obj:=Obj.mk .none .none (Data.fields l) #[]
def cO (n q:Nat) (a b c:Tok) (l m:Int) (k:Int) (r1 r2 r3 r4 r5:Addr) (x:Int) (y:Tok):Obj:=Obj.mk k1 .none (Data.fields #[(sv n a),(sv q b),(.str (s 0) c),(.int l 0),(.int m 0),(.int 0 0),(.int 0 0),(.int k 0),(.ref r1),(.bool true),(.int 181 0),(.ref r2),.none,(.ref r3),(.ref r4),(.ref r5),(.int x 0),(.int l 0),(.str (s 0) y)]) #[]
def uO (n q:Nat) (z:Stmt) (m:Nat) (t:Tok) (r:Addr):Obj:=Obj.mk k2 .none (Data.func (fd (s n) (s q) z 3 [] .none .none .none (sv m t) .none (.ref r) .none 0)) #[]
def gO (n q:Nat) (z:Stmt):Obj:=Obj.mk .none .none (Data.func (fd (s n) (s q) z 0 [] .none .none .none .none .none .none .none 0)) #[]
def o0:=tO #[]
def o1:=vO #[]
def o2:=Obj.mk k1 .none (Data.fields #[(sv 1 182),(sv 1 183),(sv 0 184),(iv 1),(iv 0),(iv 0),(iv 0),(iv 0),11,(.bool false),(iv 181),12,.none,.none,.none,.none,(iv 185),(iv 1),(sv 0 186)]) #[]
def o3:=Obj.mk k3 .none Data.plain #[(some 13),(some 3),(some 3),.none,(some (sv 2 164)),.none,(some 0)]
abbrev N:=@BT.node
def t14:=N (boot_o_0 P) (N (boot_o_1 P) (N (boot_o_3 P) (N (boot_o_7 P) .nil .nil) (N o0 .nil .nil)) (N (boot_o_5 P) (N (boot_o_9 P) .nil .nil) (N o2 .nil .nil))) (N (boot_o_2 P) (N (boot_o_4 P) (N (boot_o_8 P) .nil .nil) (N o1 .nil .nil)) (N (boot_o_6 P) (N (boot_o_10 P) .nil .nil) (N o3 .nil .nil)))
def sa (w:World) (os:OsState):SharedT:=⟨(t14 w.params),15,(Life.mk [] [] [] 0 [] [] false #[] [] 0 false false false 0 [2000,10,10] false 0 true [] [] 0 false),⟨[]⟩,(Drawn.mk 0 0 0 0),187,os⟩
def La (w:World) (os:OsState):Option (Shared×Thread):=topGo treeTable pw w 11 an 12 (s0 w os) (topStub pw)
def Ra (w:World) (os:OsState):Option (Shared×Thread):=some ((sa w os).abs,⟨denote treeTable cE,cE,(Pos.mk 0 0 0 0),B⟩)
theorem qa:tt (Hd.La,Hd.Ra)=true:=by k_qdec
theorem ra:∀ w,Fast.tw11367235000924431832 w=Fast.tw15912052731592885781 w:=fun w=>by kernel_rfl
theorem ea (w:World) (os:OsState):Hd.La w os=Hd.Ra w os:=((congrFun (congrFun Fast.te11367235000924431832 w) os).trans (congrFun (ra w) os)).trans (congrFun (congrFun Fast.te15912052731592885781 w) os).symm
def sb0 (w:World) (os:OsState):SharedT:=⟨(t14 w.params),15,(Life.mk [] [] [] 0 [] [] false #[] [] 0 false false false 0 [2000,10,10] false 0 true [] [] 0 false),⟨[]⟩,(Drawn.mk 0 0 0 0),187,os⟩
def Lb (w:World) (os:OsState):Option (Flow×SharedT×Code×Pos):=segRunT treeTable pw w 11 an 1 1 (sa w os) (blockOf bE env cE (Pos.mk 0 0 0 0) B)
def Rb (w:World) (os:OsState):Option (Flow×SharedT×Code×Pos):=some (.next,sb0 w os,cE,(Pos.mk 0 0 0 0))
theorem qb:tt (Hd.Lb,Hd.Rb)=true:=by k_qdec
theorem rb:∀ w,Fast.tw16430817790641568776 w=Hd.Rb w:=fun w=>by kernel_rfl
theorem eb (w:World) (os:OsState):Hd.Lb w os=Hd.Rb w os:=(congrFun (congrFun Fast.te16430817790641568776 w) os).trans (congrFun (rb w) os)
def zDA:List Stmt:=[S 0,S 1,S 2,S 3]
def o4:=Obj.mk k4 .none (Data.dict #[en P 3 165 (sv 4 194),en P 5 166 .none,en P 6 167 .none,en P 7 168 k5,en P 8 169 .none,en P 9 170 6,en P 10 171 4,en P 11 173 (sv 0 172),en P 12 174 .none,en P 13 193 21,en P 14 213 31,en P 15 229 44] 12) #[]
def o5:=vO #[(iv 1),(iv 0),20,(iv 5),(iv 0),27,(iv 7),(iv 0),40]
def o6:=tO #[]
def o7:=vO #[]
def o8:=tO #[(sv 16 190)]
def o9:=tO #[]
def o10:=gO 13 13 (S 0)
def o11:=cO 13 13 187 188 189 1 1 3 15 16 17 18 19 191 192
def o12:=uO 13 13 (S 0) 2 164 20
def o13:=tO #[k6]
def o14:=Obj.mk k7 .none (Data.fields #[k8,k9]) #[]
def o15:=Obj.mk k4 .none (Data.dict #[en P 17 203 (sv 4 194),en P 18 205 (sv 14 204),en P 19 207 (.int 5 206),en P 20 208 29] 4) #[]
def o16:=tO #[]
def o17:=vO #[]
def o18:=Obj.mk k1 .none (Data.fields #[(sv 14 198),(sv 14 199),(sv 0 200),(iv 5),(iv 0),(iv 0),(iv 0),(iv 0),25,(.bool false),(iv 181),26,.none,.none,.none,.none,(iv 201),(iv 5),(sv 0 202)]) #[]
def o19:=Obj.mk k3 .none Data.plain #[(some 27),(some 3),(some 24),.none,(some (sv 4 194)),.none,(some 0)]
def o20:=tO #[]
def o21:=Obj.mk k4 .none (Data.dict #[en P 17 203 (sv 4 194),en P 19 207 (.int 5 206),en P 20 208 29,en P 21 210 32,en P 5 211 .none] 3) #[]
def o22:=Obj.mk k9 .none (Data.cls (ClassData.mk (s 14) [k6] [31,k6,k10,k11,k12] 30 (s 14) true [] [44] false .none false)) #[(some 22),.none,(some (sv 14 196)),(some (sv 14 204)),(some k13),(some (.bool true))]
def o23:=Obj.mk k14 .none (Data.fields #[(sv 21 209),31,k15,.none]) #[]
def o24:=Obj.mk k16 .none (Data.fields #[31,31,31]) #[]
def o25:=Obj.mk k7 .none (Data.fields #[k17,31]) #[]
def o26:=tO #[31]
def o27:=Obj.mk k7 .none (Data.fields #[k8,k9]) #[]
def o28:=Obj.mk k4 .none (Data.dict #[en P 17 221 (sv 4 194),en P 18 223 (sv 15 222),en P 19 225 (.int 7 224),en P 20 226 42] 4) #[]
def o29:=tO #[]
def o30:=vO #[]
def o31:=Obj.mk k1 .none (Data.fields #[(sv 15 216),(sv 15 217),(sv 0 218),(iv 7),(iv 0),(iv 0),(iv 0),(iv 0),38,(.bool false),(iv 181),39,.none,.none,.none,.none,(iv 219),(iv 7),(sv 0 220)]) #[]
def o32:=Obj.mk k3 .none Data.plain #[(some 40),(some 3),(some 37),.none,(some (sv 4 194)),.none,(some 0)]
def o33:=tO #[]
def o34:=Obj.mk k4 .none (Data.dict #[en P 17 221 (sv 4 194),en P 19 225 (.int 7 224),en P 20 226 42,en P 5 227 .none] 2) #[]
def o35:=Obj.mk k9 .none (Data.cls (ClassData.mk (s 15) [31] [44,31,k6,k10,k11,k12] 43 (s 15) true [] [] false .none false)) #[(some 35),.none,(some (sv 15 214)),(some (sv 15 222)),(some k13),(some (.bool true))]
def o36:=Obj.mk k16 .none (Data.fields #[44,44,44]) #[]
def o37:=Obj.mk k7 .none (Data.fields #[k17,44]) #[]
def t17:=N o30 .nil .nil
def t22:=N (o34 P) .nil .nil
def t28:=N o32 .nil .nil
def t33:=N o36 .nil .nil
def t40:=N o31 .nil .nil
def t45:=N o35 .nil .nil
def t51:=N o33 .nil .nil
def t56:=N o37 .nil .nil
def t60:=N (boot_o_2 P) (N (boot_o_4 P) (N (boot_o_8 P) (N o7 (N o23 .nil .nil) .nil) (N (o15 P) t40 .nil)) (N o5 (N o11 (N o27 .nil .nil) .nil) (N o19 t45 .nil))) (N (boot_o_6 P) (N (boot_o_10 P) (N o9 (N o25 .nil .nil) .nil) (N o17 t51 .nil)) (N o3 (N o13 (N o29 .nil .nil) .nil) (N (o21 P) t56 .nil)))
def t61:=N (boot_o_0 P) (N (boot_o_1 P) (N (o4 P) (N (boot_o_7 P) (N o6 (N o22 .nil .nil) .nil) (N o14 t17 .nil)) (N o0 (N o10 (N o26 .nil .nil) .nil) (N o18 (t22 P) .nil))) (N (boot_o_5 P) (N (boot_o_9 P) (N o8 (N o24 .nil .nil) .nil) (N o16 t28 .nil)) (N o2 (N o12 (N (o28 P) .nil .nil) .nil) (N o20 t33 .nil)))) (t60 P)
def sb1 (w:World) (os:OsState):SharedT:=⟨(t61 w.params),47,(Life.mk [] [] [] 0 [] [] false #[] [] 0 false false false 0 [2000,10,10] false 0 true [] [] 0 false),⟨[]⟩,(Drawn.mk 0 0 0 0),230,os⟩
def L0 (w:World) (os:OsState):Option (Flow×SharedT×Code×Pos):=segRunT treeTable pw w 11 an 1 438 (sb0 w os) (piecesOf zDA env cE (Pos.mk 0 0 0 0) B)
def R0 (w:World) (os:OsState):Option (Flow×SharedT×Code×Pos):=some (.next,sb1 w os,cE,(Pos.mk 7 0 8 8))
theorem q0:tt (Hd.L0,Hd.R0)=true:=by k_qdec
theorem r0:∀ w,Fast.tw4453942571644881324 w=Hd.R0 w:=fun w=>by kernel_rfl
theorem e0 (w:World) (os:OsState):Hd.L0 w os=Hd.R0 w os:=(congrFun (congrFun Fast.te4453942571644881324 w) os).trans (congrFun (r0 w) os)
def zDz:List Stmt:=[S 4,S 5]
def o38:=Obj.mk k4 .none (Data.dict #[en P 3 165 (sv 4 194),en P 5 166 .none,en P 6 167 .none,en P 7 168 k5,en P 8 169 .none,en P 9 170 6,en P 10 171 4,en P 11 173 (sv 0 172),en P 12 174 .none,en P 13 193 21,en P 14 213 31,en P 15 229 44,en P 22 245 56,en P 23 261 68] 14) #[]
def o39:=vO #[(iv 1),(iv 0),20,(iv 5),(iv 0),27,(iv 7),(iv 0),40,(iv 9),(iv 0),52,(iv 11),(iv 0),64]
def o40:=Obj.mk k9 .none (Data.cls (ClassData.mk (s 14) [k6] [31,k6,k10,k11,k12] 30 (s 14) true [] [44,56,68] false .none false)) #[(some 22),.none,(some (sv 14 196)),(some (sv 14 204)),(some k13),(some (.bool true))]
def o41:=tO #[31]
def o42:=Obj.mk k7 .none (Data.fields #[k8,k9]) #[]
def o43:=Obj.mk k4 .none (Data.dict #[en P 17 237 (sv 4 194),en P 18 239 (sv 22 238),en P 19 241 (.int 9 240),en P 20 242 54] 4) #[]
def o44:=tO #[]
def o45:=vO #[]
def o46:=Obj.mk k1 .none (Data.fields #[(sv 22 232),(sv 22 233),(sv 0 234),(iv 9),(iv 0),(iv 0),(iv 0),(iv 0),50,(.bool false),(iv 181),51,.none,.none,.none,.none,(iv 235),(iv 9),(sv 0 236)]) #[]
def o47:=Obj.mk k3 .none Data.plain #[(some 52),(some 3),(some 49),.none,(some (sv 4 194)),.none,(some 0)]
def o48:=tO #[]
def o49:=Obj.mk k4 .none (Data.dict #[en P 17 237 (sv 4 194),en P 19 241 (.int 9 240),en P 20 242 54,en P 5 243 .none] 2) #[]
def o50:=Obj.mk k9 .none (Data.cls (ClassData.mk (s 22) [31] [56,31,k6,k10,k11,k12] 55 (s 22) true [] [] false .none false)) #[(some 47),.none,(some (sv 22 230)),(some (sv 22 238)),(some k13),(some (.bool true))]
def o51:=Obj.mk k16 .none (Data.fields #[56,56,56]) #[]
def o52:=Obj.mk k7 .none (Data.fields #[k17,56]) #[]
def o53:=tO #[31]
def o54:=Obj.mk k7 .none (Data.fields #[k8,k9]) #[]
def o55:=Obj.mk k4 .none (Data.dict #[en P 17 253 (sv 4 194),en P 18 255 (sv 23 254),en P 19 257 (.int 11 256),en P 20 258 66] 4) #[]
def o56:=tO #[]
def o57:=vO #[]
def o58:=Obj.mk k1 .none (Data.fields #[(sv 23 248),(sv 23 249),(sv 0 250),(iv 11),(iv 0),(iv 0),(iv 0),(iv 0),62,(.bool false),(iv 181),63,.none,.none,.none,.none,(iv 251),(iv 11),(sv 0 252)]) #[]
def o59:=Obj.mk k3 .none Data.plain #[(some 64),(some 3),(some 61),.none,(some (sv 4 194)),.none,(some 0)]
def o60:=tO #[]
def o61:=Obj.mk k4 .none (Data.dict #[en P 17 253 (sv 4 194),en P 19 257 (.int 11 256),en P 20 258 66,en P 5 259 .none] 2) #[]
def o62:=Obj.mk k9 .none (Data.cls (ClassData.mk (s 23) [31] [68,31,k6,k10,k11,k12] 67 (s 23) true [] [] false .none false)) #[(some 59),.none,(some (sv 23 246)),(some (sv 23 254)),(some k13),(some (.bool true))]
def o63:=Obj.mk k16 .none (Data.fields #[68,68,68]) #[]
def o64:=Obj.mk k7 .none (Data.fields #[k17,68]) #[]
def t62:=N o57 .nil .nil
def t69:=N (o61 P) .nil .nil
def t70:=N o26 (t69 P) .nil
def t78:=N o24 (N o59 .nil .nil) .nil
def t84:=N o63 .nil .nil
def t85:=N (o28 P) t84 .nil
def t92:=N (boot_o_1 P) (N (o38 P) (N (boot_o_7 P) (N o6 (N o40 t62 .nil) (N o41 .nil .nil)) (N o14 t17 (N (o49 P) .nil .nil))) (N o0 (N o10 (t70 P) (N o45 .nil .nil)) (N o18 (t22 P) (N o53 .nil .nil)))) (N (boot_o_5 P) (N (boot_o_9 P) (N o8 t78 (N (o43 P) .nil .nil)) (N o16 t28 (N o51 .nil .nil))) (N o2 (N o12 (t85 P) (N o47 .nil .nil)) (N o20 t33 (N (o55 P) .nil .nil))))
def t94:=N o23 (N o58 .nil .nil) .nil
def zDq:=N o62 .nil .nil
def zDp:=N o27 zDq .nil
def zDo:=N o25 (N o60 .nil .nil) .nil
def zDn:=N o64 .nil .nil
def zDm:=N o29 zDn .nil
def zGA:=N (boot_o_0 P) (t92 P) (N (boot_o_2 P) (N (boot_o_4 P) (N (boot_o_8 P) (N o7 t94 (N o42 .nil .nil)) (N (o15 P) t40 (N o50 .nil .nil))) (N o39 (N o11 zDp (N o46 .nil .nil)) (N o19 t45 (N o54 .nil .nil)))) (N (boot_o_6 P) (N (boot_o_10 P) (N o9 zDo (N o44 .nil .nil)) (N o17 t51 (N o52 .nil .nil))) (N o3 (N o13 zDm (N o48 .nil .nil)) (N (o21 P) t56 (N o56 .nil .nil)))))
def sb2 (w:World) (os:OsState):SharedT:=⟨(zGA w.params),71,(Life.mk [] [] [] 0 [] [] false #[] [] 0 false false false 0 [2000,10,10] false 0 true [] [] 0 false),⟨[]⟩,(Drawn.mk 0 0 0 0),262,os⟩
def L1 (w:World) (os:OsState):Option (Flow×SharedT×Code×Pos):=segRunT treeTable pw w 11 an 1 427 (sb1 w os) (piecesOf zDz env cE (Pos.mk 7 0 8 8) B)
def R1 (w:World) (os:OsState):Option (Flow×SharedT×Code×Pos):=some (.next,sb2 w os,cE,(Pos.mk 11 0 12 8))
theorem q1:tt (Hd.L1,Hd.R1)=true:=by k_qdec
theorem r1:∀ w,Fast.tw6387051279210280424 w=Hd.R1 w:=fun w=>by kernel_rfl
theorem e1 (w:World) (os:OsState):Hd.L1 w os=Hd.R1 w os:=(congrFun (congrFun Fast.te6387051279210280424 w) os).trans (congrFun (r1 w) os)
def zDy:List Stmt:=[S 6,S 7]
def o65:=Obj.mk k4 .none (Data.dict #[en P 3 165 (sv 4 194),en P 5 166 .none,en P 6 167 .none,en P 7 168 k5,en P 8 169 .none,en P 9 170 6,en P 10 171 4,en P 11 173 (sv 0 172),en P 12 174 .none,en P 13 193 21,en P 14 213 31,en P 15 229 44,en P 22 245 56,en P 23 261 68,en P 24 277 80,en P 25 293 92] 16) #[]
def o66:=vO #[(iv 1),(iv 0),20,(iv 5),(iv 0),27,(iv 7),(iv 0),40,(iv 9),(iv 0),52,(iv 11),(iv 0),64,(iv 13),(iv 0),76,(iv 15),(iv 0),88]
def o67:=Obj.mk k9 .none (Data.cls (ClassData.mk (s 14) [k6] [31,k6,k10,k11,k12] 30 (s 14) true [] [44,56,68,80,92] false .none false)) #[(some 22),.none,(some (sv 14 196)),(some (sv 14 204)),(some k13),(some (.bool true))]
def o68:=tO #[31]
def o69:=Obj.mk k7 .none (Data.fields #[k8,k9]) #[]
def o70:=Obj.mk k4 .none (Data.dict #[en P 17 269 (sv 4 194),en P 18 271 (sv 24 270),en P 19 273 (.int 13 272),en P 20 274 78] 4) #[]
def o71:=tO #[]
def o72:=vO #[]
def o73:=Obj.mk k1 .none (Data.fields #[(sv 24 264),(sv 24 265),(sv 0 266),(iv 13),(iv 0),(iv 0),(iv 0),(iv 0),74,(.bool false),(iv 181),75,.none,.none,.none,.none,(iv 267),(iv 13),(sv 0 268)]) #[]
def o74:=Obj.mk k3 .none Data.plain #[(some 76),(some 3),(some 73),.none,(some (sv 4 194)),.none,(some 0)]
def o75:=tO #[]
def o76:=Obj.mk k4 .none (Data.dict #[en P 17 269 (sv 4 194),en P 19 273 (.int 13 272),en P 20 274 78,en P 5 275 .none] 2) #[]
def o77:=Obj.mk k9 .none (Data.cls (ClassData.mk (s 24) [31] [80,31,k6,k10,k11,k12] 79 (s 24) true [] [] false .none false)) #[(some 71),.none,(some (sv 24 262)),(some (sv 24 270)),(some k13),(some (.bool true))]
def o78:=Obj.mk k16 .none (Data.fields #[80,80,80]) #[]
def o79:=Obj.mk k7 .none (Data.fields #[k17,80]) #[]
def o80:=tO #[31]
def o81:=Obj.mk k7 .none (Data.fields #[k8,k9]) #[]
def o82:=Obj.mk k4 .none (Data.dict #[en P 17 285 (sv 4 194),en P 18 287 (sv 25 286),en P 19 289 (.int 15 288),en P 20 290 90] 4) #[]
def o83:=tO #[]
def o84:=vO #[]
def o85:=Obj.mk k1 .none (Data.fields #[(sv 25 280),(sv 25 281),(sv 0 282),(iv 15),(iv 0),(iv 0),(iv 0),(iv 0),86,(.bool false),(iv 181),87,.none,.none,.none,.none,(iv 283),(iv 15),(sv 0 284)]) #[]
def o86:=Obj.mk k3 .none Data.plain #[(some 88),(some 3),(some 85),.none,(some (sv 4 194)),.none,(some 0)]
def o87:=tO #[]
def o88:=Obj.mk k4 .none (Data.dict #[en P 17 285 (sv 4 194),en P 19 289 (.int 15 288),en P 20 290 90,en P 5 291 .none] 2) #[]
def o89:=Obj.mk k9 .none (Data.cls (ClassData.mk (s 25) [31] [92,31,k6,k10,k11,k12] 91 (s 25) true [] [] false .none false)) #[(some 83),.none,(some (sv 25 278)),(some (sv 25 286)),(some k13),(some (.bool true))]
def o90:=Obj.mk k16 .none (Data.fields #[92,92,92]) #[]
def o91:=Obj.mk k7 .none (Data.fields #[k17,92]) #[]
def zDl:=N (o76 P) .nil .nil
def zDk:=N o68 .nil .nil
def zDj:=N o84 .nil .nil
def zDi:=N o80 .nil .nil
def zDh:=N o72 .nil .nil
def zDg:=N (o88 P) .nil .nil
def zDf:=N o78 .nil .nil
def zDe:=N (o70 P) .nil .nil
def zDd:=N o86 .nil .nil
def zDc:=N (o82 P) .nil .nil
def zDb:=N o74 .nil .nil
def zDa:=N o90 .nil .nil
def zGz:=N (boot_o_5 P) (N (boot_o_9 P) (N o8 t78 (N (o43 P) zDf .nil)) (N o16 (N o32 (zDe P) .nil) (N o51 zDd .nil))) (N o2 (N o12 (t85 P) (N o47 (zDc P) .nil)) (N o20 (N o36 zDb .nil) (N (o55 P) zDa .nil)))
def zC9:=N o77 .nil .nil
def zC8:=N o69 .nil .nil
def zC7:=N o85 .nil .nil
def zC6:=N o81 .nil .nil
def zC5:=N o73 .nil .nil
def zC4:=N o89 .nil .nil
def zC3:=N o79 .nil .nil
def zC2:=N o71 .nil .nil
def zC1:=N o87 .nil .nil
def zC0:=N o83 .nil .nil
def zCZ:=N o75 .nil .nil
def zCY:=N o91 .nil .nil
def zGy:=N (boot_o_6 P) (N (boot_o_10 P) (N o9 zDo (N o44 zC3 .nil)) (N o17 (N o33 zC2 .nil) (N o52 zC1 .nil))) (N o3 (N o13 zDm (N o48 zC0 .nil)) (N (o21 P) (N o37 zCZ .nil) (N o56 zCY .nil)))
def zGx:=N (boot_o_2 P) (N (boot_o_4 P) (N (boot_o_8 P) (N o7 t94 (N o42 zC9 .nil)) (N (o15 P) (N o31 zC8 .nil) (N o50 zC7 .nil))) (N o66 (N o11 zDp (N o46 zC6 .nil)) (N o19 (N o35 zC5 .nil) (N o54 zC4 .nil)))) (zGy P)
def zGw:=N (boot_o_0 P) (N (boot_o_1 P) (N (o65 P) (N (boot_o_7 P) (N o6 (N o67 t62 .nil) (N o41 (zDl P) .nil)) (N o14 (N o30 zDk .nil) (N (o49 P) zDj .nil))) (N o0 (N o10 (t70 P) (N o45 zDi .nil)) (N o18 (N (o34 P) zDh .nil) (N o53 (zDg P) .nil)))) (zGz P)) (zGx P)
def sb3 (w:World) (os:OsState):SharedT:=⟨(zGw w.params),95,(Life.mk [] [] [] 0 [] [] false #[] [] 0 false false false 0 [2000,10,10] false 0 true [] [] 0 false),⟨[]⟩,(Drawn.mk 0 0 0 0),294,os⟩
def L2 (w:World) (os:OsState):Option (Flow×SharedT×Code×Pos):=segRunT treeTable pw w 11 an 1 427 (sb2 w os) (piecesOf zDy env cE (Pos.mk 11 0 12 8) B)
def R2 (w:World) (os:OsState):Option (Flow×SharedT×Code×Pos):=some (.next,sb3 w os,cE,(Pos.mk 15 0 16 8))
theorem q2:tt (Hd.L2,Hd.R2)=true:=by k_qdec
theorem r2:∀ w,Fast.tw9171306275460833034 w=Hd.R2 w:=fun w=>by kernel_rfl
theorem e2 (w:World) (os:OsState):Hd.L2 w os=Hd.R2 w os:=(congrFun (congrFun Fast.te9171306275460833034 w) os).trans (congrFun (r2 w) os)
def zDx:List Stmt:=[S 8,S 9,S 10,S 11,S 12,S 13]
def o92:=Obj.mk k4 .none (Data.dict #[en P 3 165 (sv 26 335),en P 5 166 .none,en P 6 167 .none,en P 7 168 k5,en P 8 169 .none,en P 9 170 6,en P 10 171 4,en P 11 173 (sv 0 172),en P 12 174 .none,en P 13 193 21,en P 14 213 31,en P 15 229 44,en P 22 245 56,en P 23 261 68,en P 24 277 80,en P 25 293 92,en P 27 309 104,en P 28 325 116,en P 29 334 125,en P 30 342 130] 20) #[]
def o93:=vO #[(iv 1),(iv 0),20,(iv 5),(iv 0),27,(iv 7),(iv 0),40,(iv 9),(iv 0),52,(iv 11),(iv 0),64,(iv 13),(iv 0),76,(iv 15),(iv 0),88,(iv 17),(iv 0),100,(iv 19),(iv 0),112,(iv 22),(iv 0),124,(iv 25),(iv 0),129]
def o94:=Obj.mk k9 .none (Data.cls (ClassData.mk (s 14) [k6] [31,k6,k10,k11,k12] 30 (s 14) true [] [44,56,68,80,92,104,116] false .none false)) #[(some 22),.none,(some (sv 14 196)),(some (sv 14 204)),(some k13),(some (.bool true))]
def o95:=tO #[31]
def o96:=Obj.mk k7 .none (Data.fields #[k8,k9]) #[]
def o97:=Obj.mk k4 .none (Data.dict #[en P 17 301 (sv 4 194),en P 18 303 (sv 27 302),en P 19 305 (.int 17 304),en P 20 306 102] 4) #[]
def o98:=tO #[]
def o99:=vO #[]
def YZ:=Obj.mk k1 .none (Data.fields #[(sv 27 296),(sv 27 297),(sv 0 298),(iv 17),(iv 0),(iv 0),(iv 0),(iv 0),98,(.bool false),(iv 181),99,.none,.none,.none,.none,(iv 299),(iv 17),(sv 0 300)]) #[]
def YY:=Obj.mk k3 .none Data.plain #[(some 100),(some 3),(some 97),.none,(some (sv 4 194)),.none,(some 0)]
def Z8:=tO #[]
def Z7:=Obj.mk k4 .none (Data.dict #[en P 17 301 (sv 4 194),en P 19 305 (.int 17 304),en P 20 306 102,en P 5 307 .none] 2) #[]
def Z6:=Obj.mk k9 .none (Data.cls (ClassData.mk (s 27) [31] [104,31,k6,k10,k11,k12] 103 (s 27) true [] [] false .none false)) #[(some 95),.none,(some (sv 27 294)),(some (sv 27 302)),(some k13),(some (.bool true))]
def YX:=Obj.mk k16 .none (Data.fields #[104,104,104]) #[]
def YW:=Obj.mk k7 .none (Data.fields #[k17,104]) #[]
def uY:=tO #[31]
def Z5:=Obj.mk k7 .none (Data.fields #[k8,k9]) #[]
def Z4:=Obj.mk k4 .none (Data.dict #[en P 17 317 (sv 4 194),en P 18 319 (sv 28 318),en P 19 321 (.int 19 320),en P 20 322 114] 4) #[]
def Z3:=tO #[]
def Z2:=vO #[]
def Z1:=Obj.mk k1 .none (Data.fields #[(sv 28 312),(sv 28 313),(sv 0 314),(iv 19),(iv 0),(iv 0),(iv 0),(iv 0),110,(.bool false),(iv 181),111,.none,.none,.none,.none,(iv 315),(iv 19),(sv 0 316)]) #[]
def ZZ:=Obj.mk k3 .none Data.plain #[(some 112),(some 3),(some 109),.none,(some (sv 4 194)),.none,(some 0)]
def uX:=tO #[]
def uW:=Obj.mk k4 .none (Data.dict #[en P 17 317 (sv 4 194),en P 19 321 (.int 19 320),en P 20 322 114,en P 5 323 .none] 2) #[]
def uF:=Obj.mk k9 .none (Data.cls (ClassData.mk (s 28) [31] [116,31,k6,k10,k11,k12] 115 (s 28) true [] [] false .none false)) #[(some 107),.none,(some (sv 28 310)),(some (sv 28 318)),(some k13),(some (.bool true))]
def ZY:=Obj.mk k16 .none (Data.fields #[116,116,116]) #[]
def ZX:=Obj.mk k7 .none (Data.fields #[k17,116]) #[]
def uV:=tO #[]
def ZW:=vO #[]
def uU:=tO #[(sv 31 331)]
def uT:=tO #[]
def ZV:=gO 29 29 (S 11)
def uS:=cO 29 29 328 329 330 22 1 3 119 120 121 122 123 332 333
def uR:=uO 29 29 (S 11) 32 326 124
def uQ:=tO #[]
def zay:=vO #[]
def zax:=gO 30 30 (S 13)
def Vi:=Obj.mk k1 .none (Data.fields #[(sv 30 337),(sv 30 338),(sv 0 339),(iv 25),(iv 1),(iv 0),(iv 0),(iv 3),126,(.bool true),(iv 181),127,.none,.none,.none,128,(iv 340),(iv 25),(sv 0 341)]) #[]
def Vh:=uO 30 30 (S 13) 26 335 129
def zCX:=N zay .nil .nil
def zGv:=N (o92 P) (N (boot_o_7 P) (N o6 (N o94 (N o57 zCX .nil) (N o95 .nil .nil)) (N o41 (zDl P) (N Z2 .nil .nil))) (N o14 (N o30 zDk (N (Z7 P) .nil .nil)) (N (o49 P) zDj (N uV .nil .nil)))) (N o0 (N o10 (N o26 (t69 P) (N o99 .nil .nil)) (N o45 zDi (N (uW P) .nil .nil))) (N o18 (N (o34 P) zDh (N uY .nil .nil)) (N o53 (zDg P) (N ZV .nil .nil))))
def zCW:=N Vi .nil .nil
def zGu:=N (boot_o_5 P) (N (boot_o_9 P) (N o8 (N o24 (N o59 zCW .nil) (N (o97 P) .nil .nil)) (N (o43 P) zDf (N ZZ .nil .nil))) (N o16 (N o32 (zDe P) (N YX .nil .nil)) (N o51 zDd (N uU .nil .nil)))) (N o2 (N o12 (N (o28 P) t84 (N YY .nil .nil)) (N o47 (zDc P) (N ZY .nil .nil))) (N o20 (N o36 zDb (N (Z4 P) .nil .nil)) (N (o55 P) zDa (N uR .nil .nil))))
def zCV:=N zax .nil .nil
def zGt:=N (boot_o_4 P) (N (boot_o_8 P) (N o7 (N o23 (N o58 zCV .nil) (N o96 .nil .nil)) (N o42 zC9 (N Z1 .nil .nil))) (N (o15 P) (N o31 zC8 (N Z6 .nil .nil)) (N o50 zC7 (N ZW .nil .nil)))) (N o93 (N o11 (N o27 zDq (N YZ .nil .nil)) (N o46 zC6 (N uF .nil .nil))) (N o19 (N o35 zC5 (N Z5 .nil .nil)) (N o54 zC4 (N uS .nil .nil))))
def zCU:=N Vh .nil .nil
def zGs:=N (boot_o_6 P) (N (boot_o_10 P) (N o9 (N o25 (N o60 zCU .nil) (N o98 .nil .nil)) (N o44 zC3 (N uX .nil .nil))) (N o17 (N o33 zC2 (N YW .nil .nil)) (N o52 zC1 (N uT .nil .nil)))) (N o3 (N o13 (N o29 zDn (N Z8 .nil .nil)) (N o48 zC0 (N ZX .nil .nil))) (N (o21 P) (N o37 zCZ (N Z3 .nil .nil)) (N o56 zCY (N uQ .nil .nil))))
def zGr:=N (boot_o_0 P) (N (boot_o_1 P) (zGv P) (zGu P)) (N (boot_o_2 P) (zGt P) (zGs P))
def sb4 (w:World) (os:OsState):SharedT:=⟨(zGr w.params),131,(Life.mk [] [] [] 0 [] [] false #[] [] 0 false false false 0 [2000,10,10] false 0 true [] [] 0 false),⟨[]⟩,(Drawn.mk 0 0 0 0),343,os⟩
def L3 (w:World) (os:OsState):Option (Flow×SharedT×Code×Pos):=segRunT treeTable pw w 11 an 1 500 (sb3 w os) (piecesOf zDx env cE (Pos.mk 15 0 16 8) B)
def R3 (w:World) (os:OsState):Option (Flow×SharedT×Code×Pos):=some (.next,sb4 w os,cE,(Pos.mk 25 0 32 16))
theorem q3:tt (Hd.L3,Hd.R3)=true:=by k_qdec
theorem r3:∀ w,Fast.tw6196771281854559479 w=Hd.R3 w:=fun w=>by kernel_rfl
theorem e3 (w:World) (os:OsState):Hd.L3 w os=Hd.R3 w os:=(congrFun (congrFun Fast.te6196771281854559479 w) os).trans (congrFun (r3 w) os)
def zDw:List Stmt:=[S 14,S 15]
def zHh:=Obj.mk k4 .none (Data.dict #[en P 3 165 (sv 33 446),en P 5 166 .none,en P 6 167 .none,en P 7 168 k5,en P 8 169 .none,en P 9 170 6,en P 10 171 4,en P 11 173 (sv 0 172),en P 12 174 .none,en P 13 193 21,en P 14 213 31,en P 15 229 44,en P 22 245 56,en P 23 261 68,en P 24 277 80,en P 25 293 92,en P 27 309 104,en P 28 325 116,en P 29 334 125,en P 30 342 130,en P 34 445 208] 21) #[]
def zHg:=vO #[(iv 1),(iv 0),20,(iv 5),(iv 0),27,(iv 7),(iv 0),40,(iv 9),(iv 0),52,(iv 11),(iv 0),64,(iv 13),(iv 0),76,(iv 15),(iv 0),88,(iv 17),(iv 0),100,(iv 19),(iv 0),112,(iv 22),(iv 0),124,(iv 25),(iv 0),129,(iv 33),(iv 0),136]
def zaw:=tO #[]
def zav:=Obj.mk k7 .none (Data.fields #[k8,k9]) #[]
def zau:=Obj.mk k4 .none (Data.dict #[en P 17 350 (sv 26 335),en P 18 352 (sv 34 351),en P 19 354 (.int 33 353),en P 35 363 144,en P 36 373 151,en P 37 380 158,en P 38 387 165,en P 39 395 172,en P 40 403 179,en P 41 411 186,en P 42 418 193,en P 43 424 198,en P 44 435 205,en P 20 438 206] 14) #[]
def zat:=tO #[]
def zas:=vO #[(iv 35),(iv 4),143,(iv 39),(iv 4),150,(iv 45),(iv 4),157,(iv 48),(iv 4),164,(iv 51),(iv 4),171,(iv 54),(iv 4),178,(iv 57),(iv 4),185,(iv 60),(iv 4),192,(iv 63),(iv 4),197,(iv 66),(iv 4),204]
def zar:=Obj.mk k1 .none (Data.fields #[(sv 34 345),(sv 34 346),(sv 0 347),(iv 33),(iv 0),(iv 0),(iv 0),(iv 0),134,(.bool false),(iv 181),135,.none,.none,.none,.none,(iv 348),(iv 33),(sv 0 349)]) #[]
def zaq:=Obj.mk k3 .none Data.plain #[(some 136),(some 3),(some 133),.none,(some (sv 26 335)),.none,(some 0)]
def Vg:=tO #[]
def zap:=vO #[]
def Vf:=tO #[(sv 45 358),(sv 46 359),(sv 47 360)]
def Ve:=tO #[]
def zao:=gO 35 48 (L2.inClass (S 14) 0)
def Vd:=cO 35 48 355 356 357 35 3 3 138 139 140 141 142 361 362
def Vc:=uO 35 48 (L2.inClass (S 14) 0) 26 335 143
def Vb:=tO #[]
def zan:=vO #[]
def Va:=tO #[(sv 45 367),(sv 49 368),(sv 50 369),(sv 51 370)]
def W9:=tO #[]
def zam:=gO 36 52 (L2.inClass (S 14) 1)
def W8:=cO 36 52 364 365 366 39 2 3 145 146 147 148 149 371 372
def W7:=uO 36 52 (L2.inClass (S 14) 1) 26 335 150
def W2:=tO #[]
def zal:=vO #[]
def W0:=tO #[(sv 45 377)]
def WZ:=tO #[]
def zak:=gO 37 53 (L2.inClass (S 14) 2)
def WY:=cO 37 53 374 375 376 45 1 3 152 153 154 155 156 378 379
def WX:=uO 37 53 (L2.inClass (S 14) 2) 26 335 157
def WV:=tO #[]
def zaj:=vO #[]
def WU:=tO #[(sv 45 384)]
def WT:=tO #[]
def zai:=gO 38 54 (L2.inClass (S 14) 3)
def WS:=cO 38 54 381 382 383 48 1 3 159 160 161 162 163 385 386
def WR:=uO 38 54 (L2.inClass (S 14) 3) 26 335 164
def WQ:=tO #[]
def zah:=vO #[]
def WP:=tO #[(sv 45 391),(sv 49 392)]
def WO:=tO #[]
def zag:=gO 39 55 (L2.inClass (S 14) 4)
def WN:=cO 39 55 388 389 390 51 2 3 166 167 168 169 170 393 394
def WM:=uO 39 55 (L2.inClass (S 14) 4) 26 335 171
def WL:=tO #[]
def zaf:=vO #[]
def WK:=tO #[(sv 45 399),(sv 49 400)]
def WJ:=tO #[]
def zae:=gO 40 56 (L2.inClass (S 14) 5)
def WI:=cO 40 56 396 397 398 54 2 3 173 174 175 176 177 401 402
def WH:=uO 40 56 (L2.inClass (S 14) 5) 26 335 178
def WF:=tO #[]
def zad:=vO #[]
def WE:=tO #[(sv 45 407),(sv 49 408)]
def WD:=tO #[]
def zac:=gO 41 57 (L2.inClass (S 14) 6)
def WC:=cO 41 57 404 405 406 57 2 3 180 181 182 183 184 409 410
def WB:=uO 41 57 (L2.inClass (S 14) 6) 26 335 185
def WA:=tO #[]
def zab:=vO #[]
def Wz:=tO #[(sv 45 415)]
def Wx:=tO #[]
def zaa:=gO 42 58 (L2.inClass (S 14) 7)
def Ww:=cO 42 58 412 413 414 60 1 3 187 188 189 190 191 416 417
def Wv:=uO 42 58 (L2.inClass (S 14) 7) 26 335 192
def Wu:=tO #[]
def U9:=vO #[]
def U8:=gO 43 59 (L2.inClass (S 14) 8)
def Wt:=Obj.mk k1 .none (Data.fields #[(sv 43 419),(sv 59 420),(sv 0 421),(iv 63),(iv 2),(iv 0),(iv 0),(iv 3),194,(.bool true),(iv 181),195,.none,.none,.none,196,(iv 422),(iv 63),(sv 0 423)]) #[]
def Ws:=uO 43 59 (L2.inClass (S 14) 8) 26 335 197
def Wr:=tO #[]
def U7:=vO #[]
def Wq:=tO #[(sv 45 428),(sv 49 429),(sv 60 430),(sv 61 431),(sv 62 432)]
def Wp:=tO #[]
def za9:=gO 44 63 (L2.inClass (S 14) 9)
def U6:=cO 44 63 425 426 427 66 2 3 199 200 201 202 203 433 434
def U5:=uO 44 63 (L2.inClass (S 14) 9) 26 335 204
def U4:=tO #[(sv 64 436),(sv 65 437)]
def U3:=Obj.mk k4 .none (Data.dict #[en P 17 350 (sv 26 335),en P 19 354 (.int 33 353),en P 35 363 144,en P 36 373 151,en P 37 380 158,en P 38 387 165,en P 39 395 172,en P 40 403 179,en P 41 411 186,en P 42 418 193,en P 43 424 198,en P 44 435 205,en P 20 438 206,en P 66 440 209,en P 21 442 210,en P 5 443 .none] 4) #[]
def U2:=Obj.mk k9 .none (Data.cls (ClassData.mk (s 34) [k12] [208,k12] 207 (s 34) true [] [] false .none false)) #[.none,.none,(some (sv 34 343)),(some (sv 34 351)),(some k18),(some (.bool true))]
def U1:=Obj.mk k14 .none (Data.fields #[(sv 66 439),208,k19,k20]) #[]
def U0:=Obj.mk k14 .none (Data.fields #[(sv 21 441),208,k15,.none]) #[]
def za8:=Obj.mk k16 .none (Data.fields #[208,208,208]) #[]
def za7:=Obj.mk k7 .none (Data.fields #[k17,208]) #[]
def zGq:=N o14 (N o30 (N o68 (N zas .nil .nil) (N Wr .nil .nil)) (N (Z7 P) (N zah .nil .nil) .nil)) (N (o49 P) (N o84 (N W7 .nil .nil) .nil) (N uV (N WD .nil .nil) .nil))
def zGp:=N o18 (N (o34 P) (N o72 (N zap .nil .nil) (N za9 .nil .nil)) (N uY (N WN .nil .nil) .nil)) (N o53 (N (o88 P) (N WZ .nil .nil) .nil) (N ZV (N WA .nil .nil) .nil))
def zGo:=N o0 (N o10 (N o26 (N (o61 P) (N zaw .nil .nil) (N U9 .nil .nil)) (N o99 (N zai .nil .nil) .nil)) (N o45 (N o80 (N Va .nil .nil) (N za8 .nil .nil)) (N (uW P) (N WH .nil .nil) .nil))) (zGp P)
def zGn:=N o16 (N o32 (N (o70 P) (N zaq .nil .nil) (N Wq .nil .nil)) (N YX (N WO .nil .nil) .nil)) (N o51 (N o86 (N zal .nil .nil) .nil) (N uU (N WC .nil .nil) .nil))
def zGm:=N o20 (N o36 (N o74 (N Ve .nil .nil) (N U5 .nil .nil)) (N (Z4 P) (N WL .nil .nil) .nil)) (N (o55 P) (N o90 (N WY .nil .nil) .nil) (N uR (N Wz .nil .nil) .nil))
def zGl:=N o2 (N o12 (N (o28 P) (N o63 (N (zau P) .nil .nil) (N Wt .nil .nil)) (N YY (N WR .nil .nil) .nil)) (N o47 (N (o82 P) (N zam .nil .nil) .nil) (N ZY (N zad .nil .nil) .nil))) (zGm P)
def zGk:=N (boot_o_5 P) (N (boot_o_9 P) (N o8 (N o24 (N o59 zCW (N Wv .nil .nil)) (N (o97 P) (N WU .nil .nil) .nil)) (N (o43 P) (N o78 (N Vb .nil .nil) (N U1 .nil .nil)) (N ZZ (N zae .nil .nil) .nil))) (zGn P)) (zGl P)
def zGj:=N (o15 P) (N o31 (N o69 (N zar .nil .nil) (N U7 .nil .nil)) (N Z6 (N WP .nil .nil) .nil)) (N o50 (N o85 (N W2 .nil .nil) .nil) (N ZW (N zac .nil .nil) .nil))
def zGi:=N o19 (N o35 (N o73 (N Vf .nil .nil) (N U6 .nil .nil)) (N Z5 (N WM .nil .nil) .nil)) (N o54 (N o89 (N zak .nil .nil) .nil) (N uS (N zab .nil .nil) .nil))
def zGh:=N zHg (N o11 (N o27 (N o62 (N zav .nil .nil) (N U8 .nil .nil)) (N YZ (N WS .nil .nil) .nil)) (N o46 (N o81 (N W9 .nil .nil) (N za7 .nil .nil)) (N uF (N WF .nil .nil) .nil))) zGi
def zGg:=N o17 (N o33 (N o71 (N Vg .nil .nil) (N Wp .nil .nil)) (N YW (N zag .nil .nil) .nil)) (N o52 (N o87 (N W0 .nil .nil) .nil) (N uT (N WB .nil .nil) .nil))
def zGf:=N (o21 P) (N o37 (N o75 (N zao .nil .nil) (N U4 .nil .nil)) (N Z3 (N zaf .nil .nil) .nil)) (N o56 (N o91 (N WX .nil .nil) .nil) (N uQ (N Wx .nil .nil) .nil))
def zGe:=N o3 (N o13 (N o29 (N o64 (N zat .nil .nil) (N Ws .nil .nil)) (N Z8 (N WQ .nil .nil) .nil)) (N o48 (N o83 (N W8 .nil .nil) .nil) (N ZX (N WE .nil .nil) .nil))) (zGf P)
def zGd:=N (boot_o_6 P) (N (boot_o_10 P) (N o9 (N o25 (N o60 zCU (N Wu .nil .nil)) (N o98 (N WT .nil .nil) .nil)) (N o44 (N o79 (N zan .nil .nil) (N U0 .nil .nil)) (N uX (N WI .nil .nil) .nil))) zGg) (zGe P)
def zGc:=N (boot_o_2 P) (N (boot_o_4 P) (N (boot_o_8 P) (N o7 (N o23 (N o58 zCV (N Ww .nil .nil)) (N o96 (N zaj .nil .nil) .nil)) (N o42 (N o77 (N Vc .nil .nil) (N U2 .nil .nil)) (N Z1 (N WJ .nil .nil) .nil))) (zGj P)) zGh) (zGd P)
def zGb:=N (boot_o_0 P) (N (boot_o_1 P) (N (zHh P) (N (boot_o_7 P) (N o6 (N o94 (N o57 zCX (N zaa .nil .nil)) (N o95 (N WV .nil .nil) .nil)) (N o41 (N (o76 P) (N Vd .nil .nil) (N (U3 P) .nil .nil)) (N Z2 (N WK .nil .nil) .nil))) (zGq P)) (zGo P)) (zGk P)) (zGc P)
def sb5 (w:World) (os:OsState):SharedT:=⟨(zGb w.params),213,(Life.mk [] [] [] 0 [] [] false #[] [] 0 false false false 0 [2000,10,10] false 0 true [] [] 0 false),⟨[]⟩,(Drawn.mk 0 0 0 0),448,os⟩
def L4 (w:World) (os:OsState):Option (Flow×SharedT×Code×Pos):=segRunT treeTable pw w 11 an 1 520 (sb4 w os) (piecesOf zDw env cE (Pos.mk 25 0 32 16) B)
def R4 (w:World) (os:OsState):Option (Flow×SharedT×Code×Pos):=some (.next,sb5 w os,cE,(Pos.mk 74 0 74 8))
theorem q4:tt (Hd.L4,Hd.R4)=true:=by k_qdec
theorem r4:∀ w,Fast.tw18063231807419426806 w=Hd.R4 w:=fun w=>by kernel_rfl
theorem e4 (w:World) (os:OsState):Hd.L4 w os=Hd.R4 w os:=(congrFun (congrFun Fast.te18063231807419426806 w) os).trans (congrFun (r4 w) os)
def zDv:List Stmt:=[S 16]
def zHf:=Obj.mk k4 .none (Data.dict #[en P 3 165 (sv 33 446),en P 5 166 .none,en P 6 167 .none,en P 7 168 k5,en P 8 169 .none,en P 9 170 6,en P 10 171 4,en P 11 173 (sv 0 172),en P 12 174 .none,en P 13 193 21,en P 14 213 31,en P 15 229 44,en P 22 245 56,en P 23 261 68,en P 24 277 80,en P 25 293 92,en P 27 309 104,en P 28 325 116,en P 29 334 125,en P 30 342 130,en P 34 445 208,en P 67 642 358] 22) #[]
def zHe:=vO #[(iv 1),(iv 0),20,(iv 5),(iv 0),27,(iv 7),(iv 0),40,(iv 9),(iv 0),52,(iv 11),(iv 0),64,(iv 13),(iv 0),76,(iv 15),(iv 0),88,(iv 17),(iv 0),100,(iv 19),(iv 0),112,(iv 22),(iv 0),124,(iv 25),(iv 0),129,(iv 33),(iv 0),136,(iv 75),(iv 0),218]
def zo9:=tO #[]
def zo8:=Obj.mk k7 .none (Data.fields #[k8,k9]) #[]
def zo7:=Obj.mk k4 .none (Data.dict #[en P 17 455 (sv 33 446),en P 18 457 (sv 67 456),en P 19 459 (.int 75 458),en P 35 472 226,en P 68 479 233,en P 69 487 240,en P 70 494 247,en P 71 502 254,en P 72 510 261,en P 73 517 268,en P 74 525 275,en P 75 535 282,en P 76 542 289,en P 77 550 296,en P 78 559 303,en P 79 565 308,en P 80 575 315,en P 81 583 322,en P 82 592 329,en P 83 599 336,en P 84 606 343,en P 85 613 350,en P 86 619 355,en P 20 635 356] 24) #[]
def zo6:=tO #[]
def zo5:=vO #[(iv 77),(iv 4),225,(iv 95),(iv 4),232,(iv 98),(iv 4),239,(iv 101),(iv 4),246,(iv 104),(iv 4),253,(iv 109),(iv 4),260,(iv 114),(iv 4),267,(iv 117),(iv 4),274,(iv 120),(iv 4),281,(iv 123),(iv 4),288,(iv 126),(iv 4),295,(iv 129),(iv 4),302,(iv 132),(iv 4),307,(iv 135),(iv 4),314,(iv 147),(iv 4),321,(iv 160),(iv 4),328,(iv 163),(iv 4),335,(iv 171),(iv 4),342,(iv 177),(iv 4),349,(iv 185),(iv 4),354]
def zo4:=Obj.mk k1 .none (Data.fields #[(sv 67 450),(sv 67 451),(sv 0 452),(iv 75),(iv 0),(iv 0),(iv 0),(iv 0),216,(.bool false),(iv 181),217,.none,.none,.none,.none,(iv 453),(iv 75),(sv 0 454)]) #[]
def zo3:=Obj.mk k3 .none Data.plain #[(some 218),(some 3),(some 215),.none,(some (sv 33 446)),.none,(some 0)]
def za6:=tO #[]
def zo2:=vO #[]
def za5:=tO #[(sv 45 463),(sv 87 464),(sv 88 465),(sv 89 466),(sv 90 467),(sv 49 468),(sv 51 469)]
def za4:=tO #[]
def zo1:=gO 35 91 (L2.inClass (S 16) 0)
def za3:=cO 35 91 460 461 462 77 6 3 220 221 222 223 224 470 471
def za2:=uO 35 91 (L2.inClass (S 16) 0) 33 446 225
def za1:=tO #[]
def zo0:=vO #[]
def za0:=tO #[(sv 45 476)]
def zaZ:=tO #[]
def zoZ:=gO 68 92 (L2.inClass (S 16) 1)
def zaY:=cO 68 92 473 474 475 95 1 3 227 228 229 230 231 477 478
def zaX:=uO 68 92 (L2.inClass (S 16) 1) 33 446 232
def zaW:=tO #[]
def zaV:=vO #[]
def UZ:=tO #[(sv 45 483),(sv 93 484)]
def UY:=tO #[]
def zaU:=gO 69 94 (L2.inClass (S 16) 2)
def UX:=cO 69 94 480 481 482 98 2 3 234 235 236 237 238 485 486
def UW:=uO 69 94 (L2.inClass (S 16) 2) 33 446 239
def UV:=tO #[]
def zaT:=vO #[]
def UU:=tO #[(sv 45 491)]
def YV:=tO #[]
def zaS:=gO 70 95 (L2.inClass (S 16) 3)
def UT:=cO 70 95 488 489 490 101 1 3 241 242 243 244 245 492 493
def US:=uO 70 95 (L2.inClass (S 16) 3) 33 446 246
def UR:=tO #[]
def zaR:=vO #[]
def UQ:=tO #[(sv 45 498),(sv 96 499)]
def UP:=tO #[]
def zaQ:=gO 71 97 (L2.inClass (S 16) 4)
def UO:=cO 71 97 495 496 497 104 2 3 248 249 250 251 252 500 501
def UN:=uO 71 97 (L2.inClass (S 16) 4) 33 446 253
def zoY:=tO #[]
def zrD:=vO #[]
def zoX:=tO #[(sv 45 506),(sv 96 507)]
def zoW:=tO #[]
def zrC:=gO 72 98 (L2.inClass (S 16) 5)
def zoV:=cO 72 98 503 504 505 109 2 3 255 256 257 258 259 508 509
def zoU:=uO 72 98 (L2.inClass (S 16) 5) 33 446 260
def zoT:=tO #[]
def zrB:=vO #[]
def zoS:=tO #[(sv 45 514)]
def zoR:=tO #[]
def zrA:=gO 73 99 (L2.inClass (S 16) 6)
def zoQ:=cO 73 99 511 512 513 114 1 3 262 263 264 265 266 515 516
def zoP:=uO 73 99 (L2.inClass (S 16) 6) 33 446 267
def zoO:=tO #[]
def zrz:=vO #[]
def zoN:=tO #[(sv 45 521),(sv 96 522)]
def zoM:=tO #[]
def zry:=gO 74 100 (L2.inClass (S 16) 7)
def zoL:=cO 74 100 518 519 520 117 2 3 269 270 271 272 273 523 524
def zoK:=uO 74 100 (L2.inClass (S 16) 7) 33 446 274
def zoJ:=tO #[]
def zrx:=vO #[]
def zoI:=tO #[(sv 45 529),(sv 87 530),(sv 88 531),(sv 96 532)]
def zoH:=tO #[]
def zrw:=gO 75 101 (L2.inClass (S 16) 8)
def zoG:=cO 75 101 526 527 528 120 4 3 276 277 278 279 280 533 534
def zoF:=uO 75 101 (L2.inClass (S 16) 8) 33 446 281
def zoE:=tO #[]
def zrv:=vO #[]
def zoD:=tO #[(sv 45 539)]
def zoC:=tO #[]
def zru:=gO 76 102 (L2.inClass (S 16) 9)
def zoB:=cO 76 102 536 537 538 123 1 3 283 284 285 286 287 540 541
def zoA:=uO 76 102 (L2.inClass (S 16) 9) 33 446 288
def zoz:=tO #[]
def zrt:=vO #[]
def zoy:=tO #[(sv 45 546),(sv 103 547)]
def zox:=tO #[]
def zrs:=gO 77 104 (L2.inClass (S 16) 10)
def zow:=cO 77 104 543 544 545 126 2 3 290 291 292 293 294 548 549
def zov:=uO 77 104 (L2.inClass (S 16) 10) 33 446 295
def zou:=tO #[]
def zrr:=vO #[]
def zot:=tO #[(sv 45 554),(sv 103 555),(sv 105 556)]
def zos:=tO #[]
def zrq:=gO 78 106 (L2.inClass (S 16) 11)
def zor:=cO 78 106 551 552 553 129 3 3 297 298 299 300 301 557 558
def zoq:=uO 78 106 (L2.inClass (S 16) 11) 33 446 302
def zop:=tO #[]
def zrp:=vO #[]
def zro:=gO 79 107 (L2.inClass (S 16) 12)
def zoo:=Obj.mk k1 .none (Data.fields #[(sv 79 560),(sv 107 561),(sv 0 562),(iv 132),(iv 3),(iv 0),(iv 0),(iv 3),304,(.bool true),(iv 181),305,.none,.none,.none,306,(iv 563),(iv 132),(sv 0 564)]) #[]
def zon:=uO 79 107 (L2.inClass (S 16) 12) 33 446 307
def zom:=tO #[]
def zrn:=vO #[]
def zol:=tO #[(sv 45 569),(sv 108 570),(sv 62 571),(sv 109 572)]
def zok:=tO #[]
def zrm:=gO 80 110 (L2.inClass (S 16) 13)
def zoj:=cO 80 110 566 567 568 135 1 3 309 310 311 312 313 573 574
def zoi:=uO 80 110 (L2.inClass (S 16) 13) 33 446 314
def zoh:=tO #[]
def zrl:=vO #[]
def zog:=tO #[(sv 45 579),(sv 111 580)]
def zof:=tO #[]
def zrk:=gO 81 112 (L2.inClass (S 16) 14)
def zoe:=cO 81 112 576 577 578 147 1 3 316 317 318 319 320 581 582
def zod:=uO 81 112 (L2.inClass (S 16) 14) 33 446 321
def zoc:=tO #[]
def zrj:=vO #[]
def zob:=tO #[(sv 45 587),(sv 103 588),(sv 113 589)]
def zoa:=tO #[]
def zri:=gO 82 114 (L2.inClass (S 16) 15)
def zn9:=cO 82 114 584 585 586 160 3 3 323 324 325 326 327 590 591
def zn8:=uO 82 114 (L2.inClass (S 16) 15) 33 446 328
def zn7:=tO #[]
def zyv:=vO #[]
def zrh:=tO #[(sv 45 596)]
def zrg:=tO #[]
def zyu:=gO 83 115 (L2.inClass (S 16) 16)
def zrf:=cO 83 115 593 594 595 163 1 3 330 331 332 333 334 597 598
def zre:=uO 83 115 (L2.inClass (S 16) 16) 33 446 335
def zrd:=tO #[]
def zyt:=vO #[]
def zrc:=tO #[(sv 45 603)]
def zrb:=tO #[]
def zys:=gO 84 116 (L2.inClass (S 16) 17)
def zra:=cO 84 116 600 601 602 171 1 3 337 338 339 340 341 604 605
def zq9:=uO 84 116 (L2.inClass (S 16) 17) 33 446 342
def zq8:=tO #[]
def zyr:=vO #[]
def zq7:=tO #[(sv 45 610)]
def zq6:=tO #[]
def zyq:=gO 85 117 (L2.inClass (S 16) 18)
def zq5:=cO 85 117 607 608 609 177 1 3 344 345 346 347 348 611 612
def zq4:=uO 85 117 (L2.inClass (S 16) 18) 33 446 349
def zq3:=tO #[]
def zyp:=vO #[]
def zyo:=gO 86 118 (L2.inClass (S 16) 19)
def zq2:=Obj.mk k1 .none (Data.fields #[(sv 86 614),(sv 118 615),(sv 0 616),(iv 185),(iv 1),(iv 0),(iv 0),(iv 3),351,(.bool true),(iv 181),352,.none,.none,.none,353,(iv 617),(iv 185),(sv 0 618)]) #[]
def zq1:=uO 86 118 (L2.inClass (S 16) 19) 33 446 354
def zq0:=tO #[(sv 119 620),(sv 120 621),(sv 121 622),(sv 122 623),(sv 123 624),(sv 124 625),(sv 125 626),(sv 126 627),(sv 127 628),(sv 89 629),(sv 90 630),(sv 96 631),(sv 88 632),(sv 87 633),(sv 128 634)]
def zqZ:=Obj.mk k4 .none (Data.dict #[en P 17 455 (sv 33 446),en P 19 459 (.int 75 458),en P 35 472 226,en P 68 479 233,en P 69 487 240,en P 70 494 247,en P 71 502 254,en P 72 510 261,en P 73 517 268,en P 74 525 275,en P 75 535 282,en P 76 542 289,en P 77 550 296,en P 78 559 303,en P 79 565 308,en P 80 575 315,en P 81 583 322,en P 82 592 329,en P 83 599 336,en P 84 606 343,en P 85 613 350,en P 86 619 355,en P 20 635 356,en P 66 637 359,en P 21 639 360,en P 5 640 .none] 4) #[]
def zqY:=Obj.mk k9 .none (Data.cls (ClassData.mk (s 67) [k12] [358,k12] 357 (s 67) true [] [] false .none false)) #[.none,.none,(some (sv 67 448)),(some (sv 67 456)),(some k18),(some (.bool true))]
def zqX:=Obj.mk k14 .none (Data.fields #[(sv 66 636),358,k19,k20]) #[]
def zqW:=Obj.mk k14 .none (Data.fields #[(sv 21 638),358,k15,.none]) #[]
def zyn:=Obj.mk k16 .none (Data.fields #[358,358,358]) #[]
def zym:=Obj.mk k7 .none (Data.fields #[k17,358]) #[]
def zCT:=N zoY .nil .nil
def zCS:=N zof .nil .nil
def zCR:=N zaa zCS .nil
def zCQ:=N zru .nil .nil
def zCP:=N zq3 .nil .nil
def zCO:=N za4 zCP .nil
def zCN:=N zoN .nil .nil
def zCM:=N zrf .nil .nil
def zCL:=N (U3 P) zCM .nil
def zCK:=N zoq .nil .nil
def zCJ:=N WK zCK .nil
def zCI:=N zrB .nil .nil
def zCH:=N zri .nil .nil
def zCG:=N Wr zCH .nil
def zCF:=N zow .nil .nil
def zCE:=N zqX .nil .nil
def zCD:=N zoZ zCE .nil
def zCC:=N (Z7 P) (N zah zCF .nil) zCD
def zCB:=N zoH .nil .nil
def zCA:=N zq9 .nil .nil
def zCz:=N (zo7 P) zCA .nil
def zCy:=N zol .nil .nil
def zCx:=N WD zCy .nil
def zCw:=N zrC .nil .nil
def zCv:=N zoc .nil .nil
def zCu:=N U9 zCv .nil
def zCt:=N zrt .nil .nil
def zCs:=N zq1 .nil .nil
def zCr:=N za1 zCs .nil
def zCq:=N o99 (N zai zCt .nil) zCr
def zCp:=N zoK .nil .nil
def zCo:=N zrc .nil .nil
def zCn:=N za8 zCo .nil
def zCm:=N zoo .nil .nil
def zCl:=N WH zCm .nil
def zCk:=N zoQ .nil .nil
def zCj:=N zyv .nil .nil
def zCi:=N za9 zCj .nil
def zCh:=N zot .nil .nil
def zCg:=N WN zCh .nil
def zCf:=N zoE .nil .nil
def zCe:=N zq6 .nil .nil
def zCd:=N zo3 zCe .nil
def zCc:=N zoi .nil .nil
def zCb:=N WA zCc .nil
def zGa:=N o0 (N o10 (N o26 (N (o61 P) (N zaw zCw .nil) zCu) zCq) (N o45 (N o80 (N Va zCp .nil) zCn) (N (uW P) zCl (N UU .nil .nil)))) (N o18 (N (o34 P) (N o72 (N zap zCk .nil) zCi) (N uY zCg (N zaV .nil .nil))) (N o53 (N (o88 P) (N WZ zCf .nil) zCd) (N ZV zCb (N UP .nil .nil))))
def zCa:=N zoX .nil .nil
def zB9:=N zoe .nil .nil
def zB8:=N Wv zB9 .nil
def zB7:=N zoA .nil .nil
def zB6:=N zyo .nil .nil
def zB5:=N za3 zB6 .nil
def zB4:=N (o97 P) (N WU zB7 .nil) zB5
def zB3:=N zry .nil .nil
def zB2:=N zrd .nil .nil
def zB1:=N U1 zB2 .nil
def zB0:=N zrp .nil .nil
def zBZ:=N zae zB0 .nil
def zBY:=N zoR .nil .nil
def zBX:=N zn8 .nil .nil
def zBW:=N Wq zBX .nil
def zBV:=N zou .nil .nil
def zBU:=N zyn .nil .nil
def zBT:=N zaX zBU .nil
def zBS:=N YX (N WO zBV .nil) zBT
def zBR:=N zoG .nil .nil
def zBQ:=N zyr .nil .nil
def zBP:=N zo5 zBQ .nil
def zBO:=N zrm .nil .nil
def zBN:=N WC zBO .nil
def zBM:=N zoU .nil .nil
def zBL:=N zob .nil .nil
def zBK:=N Wt zBL .nil
def zBJ:=N zox .nil .nil
def zBI:=N (zqZ P) .nil .nil
def zBH:=N za0 (zBI P) .nil
def zBG:=N YY (N WR zBJ .nil) (zBH P)
def zBF:=N zrx .nil .nil
def zBE:=N zys .nil .nil
def zBD:=N zo9 zBE .nil
def zBC:=N zom .nil .nil
def zBB:=N zad zBC .nil
def zBA:=N zoO .nil .nil
def zBz:=N zrg .nil .nil
def zBy:=N U5 zBz .nil
def zBx:=N zrq .nil .nil
def zBw:=N WL zBx .nil
def zBv:=N zoD .nil .nil
def zBu:=N zq5 .nil .nil
def zBt:=N zo2 zBu .nil
def zBs:=N zrl .nil .nil
def zBr:=N Wz zBs .nil
def zF9:=N o2 (N o12 (N (o28 P) (N o63 (N (zau P) zBM .nil) zBK) (zBG P)) (N o47 (N (o82 P) (N zam zBF .nil) zBD) (N ZY zBB (N zaS .nil .nil)))) (N o20 (N o36 (N o74 (N Ve zBA .nil) zBy) (N (Z4 P) zBw (N UY .nil .nil))) (N (o55 P) (N o90 (N WY zBv .nil) zBt) (N uR zBr (N UO .nil .nil))))
def zF8:=N (boot_o_5 P) (N (boot_o_9 P) (N o8 (N o24 (N o59 (N Vi zCa .nil) zB8) (zB4 P)) (N (o43 P) (N o78 (N Vb zB3 .nil) zB1) (N ZZ zBZ (N UV .nil .nil)))) (N o16 (N o32 (N (o70 P) (N zaq zBY .nil) zBW) zBS) (N o51 (N o86 (N zal zBR .nil) zBP) (N uU zBN (N zaR .nil .nil))))) (zF9 P)
def zBq:=N zrD .nil .nil
def zBp:=N zrk .nil .nil
def zBo:=N Ww zBp .nil
def zBn:=N zoB .nil .nil
def zBm:=N zyp .nil .nil
def zBl:=N zo1 zBm .nil
def zBk:=N zoM .nil .nil
def zBj:=N zre .nil .nil
def zBi:=N U2 zBj .nil
def zBh:=N zop .nil .nil
def zBg:=N WJ zBh .nil
def zBf:=N zoS .nil .nil
def zBe:=N zn9 .nil .nil
def zBd:=N U7 zBe .nil
def zBc:=N zov .nil .nil
def zBb:=N zqW .nil .nil
def zBa:=N zaY zBb .nil
def zA9:=N Z6 (N WP zBc .nil) zBa
def zA8:=N zrw .nil .nil
def zA7:=N zq8 .nil .nil
def zA6:=N zo6 zA7 .nil
def zA5:=N zok .nil .nil
def zA4:=N zac zA5 .nil
def zA3:=N zoV .nil .nil
def zA2:=N zrj .nil .nil
def zA1:=N U8 zA2 .nil
def zA0:=N zoy .nil .nil
def zAZ:=N zq0 .nil .nil
def zAY:=N zo0 zAZ .nil
def zAX:=N YZ (N WS zA0 .nil) zAY
def zAW:=N zoJ .nil .nil
def zAV:=N zrb .nil .nil
def zAU:=N za7 zAV .nil
def zAT:=N zon .nil .nil
def zAS:=N WF zAT .nil
def zAR:=N zoP .nil .nil
def zAQ:=N zrh .nil .nil
def zAP:=N U6 zAQ .nil
def zAO:=N zos .nil .nil
def zAN:=N WM zAO .nil
def zAM:=N zrv .nil .nil
def zAL:=N zyq .nil .nil
def zAK:=N za6 zAL .nil
def zAJ:=N zoh .nil .nil
def zAI:=N zab zAJ .nil
def zF7:=N zHe (N o11 (N o27 (N o62 (N zav zA3 .nil) zA1) zAX) (N o46 (N o81 (N W9 zAW .nil) zAU) (N uF zAS (N YV .nil .nil)))) (N o19 (N o35 (N o73 (N Vf zAR .nil) zAP) (N Z5 zAN (N UZ .nil .nil))) (N o54 (N o89 (N zak zAM .nil) zAK) (N uS zAI (N zaQ .nil .nil))))
def zAH:=N zoW .nil .nil
def zAG:=N zod .nil .nil
def zAF:=N Wu zAG .nil
def zAE:=N zoz .nil .nil
def zAD:=N zq2 .nil .nil
def zAC:=N za2 zAD .nil
def zAB:=N o98 (N WT zAE .nil) zAC
def zAA:=N zoL .nil .nil
def zAz:=N zyt .nil .nil
def zAy:=N U0 zAz .nil
def zAx:=N zro .nil .nil
def zAw:=N WI zAx .nil
def zAv:=N zrA .nil .nil
def zAu:=N zn7 .nil .nil
def zAt:=N Wp zAu .nil
def zAs:=N zrr .nil .nil
def zAr:=N zym .nil .nil
def zAq:=N zaW zAr .nil
def zAp:=N YW (N zag zAs .nil) zAq
def zAo:=N zoF .nil .nil
def zAn:=N zq7 .nil .nil
def zAm:=N zo4 zAn .nil
def zAl:=N zoj .nil .nil
def zAk:=N WB zAl .nil
def zAj:=N zoT .nil .nil
def zAi:=N zoa .nil .nil
def zAh:=N Ws zAi .nil
def zAg:=N zrs .nil .nil
def zAf:=N zqY .nil .nil
def zAe:=N zaZ zAf .nil
def zAd:=N Z8 (N WQ zAg .nil) zAe
def zAc:=N zoI .nil .nil
def zAb:=N zra .nil .nil
def zAa:=N zo8 zAb .nil
def zz9:=N zrn .nil .nil
def zz8:=N WE zz9 .nil
def zz7:=N zrz .nil .nil
def zz6:=N zyu .nil .nil
def zz5:=N U4 zz6 .nil
def zz4:=N zor .nil .nil
def zz3:=N zaf zz4 .nil
def zz2:=N zoC .nil .nil
def zz1:=N zq4 .nil .nil
def zz0:=N za5 zz1 .nil
def zzZ:=N zog .nil .nil
def zzY:=N Wx zzZ .nil
def zF6:=N o3 (N o13 (N o29 (N o64 (N zat zAj .nil) zAh) zAd) (N o48 (N o83 (N W8 zAc .nil) zAa) (N ZX zz8 (N UT .nil .nil)))) (N (o21 P) (N o37 (N o75 (N zao zz7 .nil) zz5) (N Z3 zz3 (N zaU .nil .nil))) (N o56 (N o91 (N WX zz2 .nil) zz0) (N uQ zzY (N UN .nil .nil))))
def zF5:=N (boot_o_6 P) (N (boot_o_10 P) (N o9 (N o25 (N o60 (N Vh zAH .nil) zAF) zAB) (N o44 (N o79 (N zan zAA .nil) zAy) (N uX zAw (N zaT .nil .nil)))) (N o17 (N o33 (N o71 (N Vg zAv .nil) zAt) zAp) (N o52 (N o87 (N W0 zAo .nil) zAm) (N uT zAk (N UQ .nil .nil))))) (zF6 P)
def zF4:=N (boot_o_2 P) (N (boot_o_4 P) (N (boot_o_8 P) (N o7 (N o23 (N o58 (N zax zBq .nil) zBo) (N o96 (N zaj zBn .nil) zBl)) (N o42 (N o77 (N Vc zBk .nil) zBi) (N Z1 zBg (N UW .nil .nil)))) (N (o15 P) (N o31 (N o69 (N zar zBf .nil) zBd) zA9) (N o50 (N o85 (N W2 zA8 .nil) zA6) (N ZW zA4 (N UR .nil .nil))))) zF7) (zF5 P)
def zF3:=N (boot_o_0 P) (N (boot_o_1 P) (N (zHf P) (N (boot_o_7 P) (N o6 (N o94 (N o57 (N zay zCT .nil) zCR) (N o95 (N WV zCQ .nil) zCO)) (N o41 (N (o76 P) (N Vd zCN .nil) (zCL P)) (N Z2 zCJ (N UX .nil .nil)))) (N o14 (N o30 (N o68 (N zas zCI .nil) zCG) (zCC P)) (N (o49 P) (N o84 (N W7 zCB .nil) (zCz P)) (N uV zCx (N US .nil .nil))))) (zGa P)) (zF8 P)) (zF4 P)
def sb6 (w:World) (os:OsState):SharedT:=⟨(zF3 w.params),363,(Life.mk [] [] [] 0 [] [] false #[] [] 0 false false false 0 [2000,10,10] false 0 true [] [] 0 false),⟨[]⟩,(Drawn.mk 0 0 0 0),643,os⟩
def L5 (w:World) (os:OsState):Option (Flow×SharedT×Code×Pos):=segRunT treeTable pw w 11 an 1 841 (sb5 w os) (piecesOf zDv env cE (Pos.mk 74 0 74 8) B)
def R5 (w:World) (os:OsState):Option (Flow×SharedT×Code×Pos):=some (.next,sb6 w os,cE,(Pos.mk 75 0 192 22))
theorem q5:tt (Hd.L5,Hd.R5)=true:=by k_qdec
theorem r5:∀ w,Fast.tw7289443652863241282 w=Hd.R5 w:=fun w=>by kernel_rfl
theorem e5 (w:World) (os:OsState):Hd.L5 w os=Hd.R5 w os:=(congrFun (congrFun Fast.te7289443652863241282 w) os).trans (congrFun (r5 w) os)
def zDu:List Stmt:=[S 17,S 18,S 19]
def zHd:=Obj.mk k4 .none (Data.dict #[en P 3 165 (sv 129 643),en P 5 166 .none,en P 6 167 .none,en P 7 168 k5,en P 8 169 .none,en P 9 170 6,en P 10 171 4,en P 11 173 (sv 0 172),en P 12 174 .none,en P 13 193 21,en P 14 213 31,en P 15 229 44,en P 22 245 56,en P 23 261 68,en P 24 277 80,en P 25 293 92,en P 27 309 104,en P 28 325 116,en P 29 334 125,en P 30 342 130,en P 34 445 208,en P 67 642 358,en P 130 664 372,en P 131 711 414] 24) #[]
def zHc:=vO #[(iv 1),(iv 0),20,(iv 5),(iv 0),27,(iv 7),(iv 0),40,(iv 9),(iv 0),52,(iv 11),(iv 0),64,(iv 13),(iv 0),76,(iv 15),(iv 0),88,(iv 17),(iv 0),100,(iv 19),(iv 0),112,(iv 22),(iv 0),124,(iv 25),(iv 0),129,(iv 33),(iv 0),136,(iv 75),(iv 0),218,(iv 194),(iv 0),368,(iv 196),(iv 0),382]
def zyl:=tO #[]
def zyk:=Obj.mk k7 .none (Data.fields #[k8,k9]) #[]
def zyj:=Obj.mk k4 .none (Data.dict #[en P 17 652 (sv 129 643),en P 18 654 (sv 130 653),en P 19 656 (.int 194 655),en P 20 657 370] 4) #[]
def zyi:=tO #[]
def zyh:=vO #[]
def zyg:=Obj.mk k1 .none (Data.fields #[(sv 130 647),(sv 130 648),(sv 0 649),(iv 194),(iv 0),(iv 0),(iv 0),(iv 0),366,(.bool false),(iv 181),367,.none,.none,.none,.none,(iv 650),(iv 194),(sv 0 651)]) #[]
def zyf:=Obj.mk k3 .none Data.plain #[(some 368),(some 3),(some 365),.none,(some (sv 129 643)),.none,(some 0)]
def zqV:=tO #[]
def zqU:=Obj.mk k4 .none (Data.dict #[en P 17 652 (sv 129 643),en P 19 656 (.int 194 655),en P 20 657 370,en P 66 659 373,en P 21 661 374,en P 5 662 .none] 4) #[]
def zHb:=Obj.mk k9 .none (Data.cls (ClassData.mk (s 130) [k12] [372,k12] 371 (s 130) true [] [414] false .none false)) #[.none,.none,(some (sv 130 645)),(some (sv 130 653)),(some k18),(some (.bool true))]
def zqT:=Obj.mk k14 .none (Data.fields #[(sv 66 658),372,k19,k20]) #[]
def zqS:=Obj.mk k14 .none (Data.fields #[(sv 21 660),372,k15,.none]) #[]
def zye:=Obj.mk k16 .none (Data.fields #[372,372,372]) #[]
def zyd:=Obj.mk k7 .none (Data.fields #[k17,372]) #[]
def zqR:=tO #[372]
def zyc:=Obj.mk k7 .none (Data.fields #[k8,k9]) #[]
def zyb:=Obj.mk k4 .none (Data.dict #[en P 17 672 (sv 129 643),en P 18 674 (sv 131 673),en P 19 676 (.int 196 675),en P 35 684 390,en P 132 692 397,en P 133 699 404,en P 108 706 411,en P 20 708 412] 8) #[]
def zya:=tO #[]
def zx9:=vO #[(iv 198),(iv 4),389,(iv 201),(iv 4),396,(iv 204),(iv 4),403,(iv 207),(iv 4),410]
def zx8:=Obj.mk k1 .none (Data.fields #[(sv 131 667),(sv 131 668),(sv 0 669),(iv 196),(iv 0),(iv 0),(iv 0),(iv 0),380,(.bool false),(iv 181),381,.none,.none,.none,.none,(iv 670),(iv 196),(sv 0 671)]) #[]
def zx7:=Obj.mk k3 .none Data.plain #[(some 382),(some 3),(some 379),.none,(some (sv 129 643)),.none,(some 0)]
def zqQ:=tO #[]
def zx6:=vO #[]
def zqP:=tO #[(sv 45 680),(sv 31 681)]
def zqO:=tO #[]
def zx5:=gO 35 134 (L2.inClass (S 19) 0)
def zqN:=cO 35 134 677 678 679 198 2 3 384 385 386 387 388 682 683
def zqM:=uO 35 134 (L2.inClass (S 19) 0) 129 643 389
def zqL:=tO #[]
def zx4:=vO #[]
def zqK:=tO #[(sv 45 688),(sv 128 689)]
def zqJ:=tO #[]
def zx3:=gO 132 135 (L2.inClass (S 19) 1)
def zqI:=cO 132 135 685 686 687 201 2 3 391 392 393 394 395 690 691
def zqH:=uO 132 135 (L2.inClass (S 19) 1) 129 643 396
def zqG:=tO #[]
def zx2:=vO #[]
def zqF:=tO #[(sv 45 696)]
def zqE:=tO #[]
def zx1:=gO 133 136 (L2.inClass (S 19) 2)
def zqD:=cO 133 136 693 694 695 204 1 3 398 399 400 401 402 697 698
def zqC:=uO 133 136 (L2.inClass (S 19) 2) 129 643 403
def zqB:=tO #[]
def zx0:=vO #[]
def zqA:=tO #[(sv 45 703)]
def zqz:=tO #[]
def zxZ:=gO 108 137 (L2.inClass (S 19) 3)
def zqy:=cO 108 137 700 701 702 207 1 3 405 406 407 408 409 704 705
def zqx:=uO 108 137 (L2.inClass (S 19) 3) 129 643 410
def zqw:=tO #[(sv 31 707)]
def zqv:=Obj.mk k4 .none (Data.dict #[en P 17 672 (sv 129 643),en P 19 676 (.int 196 675),en P 35 684 390,en P 132 692 397,en P 133 699 404,en P 108 706 411,en P 20 708 412,en P 5 709 .none] 2) #[]
def zqu:=Obj.mk k9 .none (Data.cls (ClassData.mk (s 131) [372] [414,372,k12] 413 (s 131) true [] [] false .none false)) #[(some 377),.none,(some (sv 131 665)),(some (sv 131 673)),(some k18),(some (.bool true))]
def zxY:=Obj.mk k16 .none (Data.fields #[414,414,414]) #[]
def zxX:=Obj.mk k7 .none (Data.fields #[k17,414]) #[]
def zzX:=N zx7 .nil .nil
def zzW:=N zay zCT zzX
def zzV:=N zxY .nil .nil
def zzU:=N WV zCQ zzV
def zzT:=N o95 zzU zCO
def zzS:=N zx2 .nil .nil
def zzR:=N Vd zCN zzS
def zzQ:=N (o76 P) zzR (zCL P)
def zzP:=N zyh .nil .nil
def zzO:=N UX zzP .nil
def zzN:=N zqL .nil .nil
def zzM:=N zas zCI zzN
def zzL:=N zqA .nil .nil
def zzK:=N W7 zCB zzL
def zzJ:=N o84 zzK (zCz P)
def zzI:=N zye .nil .nil
def zzH:=N US zzI .nil
def zzG:=N zqO .nil .nil
def zzF:=N zaw zCw zzG
def zzE:=N zqD .nil .nil
def zzD:=N Va zCp zzE
def zzC:=N o80 zzD zCn
def zzB:=N (zqU P) .nil .nil
def zzA:=N UU (zzB P) .nil
def zzz:=N zx3 .nil .nil
def zzy:=N zap zCk zzz
def zzx:=N o72 zzy zCi
def zzw:=N zyl .nil .nil
def zzv:=N zaV zzw .nil
def zzu:=N zqx .nil .nil
def zzt:=N WZ zCf zzu
def zzs:=N (o88 P) zzt zCd
def zzr:=N (zyb P) .nil .nil
def zzq:=N UP (zzr P) .nil
def zzp:=N zx6 .nil .nil
def zzo:=N Vi zCa zzp
def zzn:=N zqE .nil .nil
def zzm:=N Vb zB3 zzn
def zzl:=N o78 zzm zB1
def zzk:=N zyf .nil .nil
def zzj:=N UV zzk .nil
def zzi:=N zqK .nil .nil
def zzh:=N zaq zBY zzi
def zzg:=N (o70 P) zzh zBW
def zzf:=N zxZ .nil .nil
def zze:=N zal zBR zzf
def zzd:=N o86 zze zBP
def zzc:=N zqR .nil .nil
def zzb:=N zaR zzc .nil
def zza:=N zqN .nil .nil
def zy9:=N (zau P) zBM zza
def zy8:=N zqB .nil .nil
def zy7:=N zam zBF zy8
def zy6:=N (o82 P) zy7 zBD
def zy5:=N zqT .nil .nil
def zy4:=N zaS zy5 .nil
def zy3:=N zqH .nil .nil
def zy2:=N Ve zBA zy3
def zy1:=N o74 zy2 zBy
def zy0:=N (zyj P) .nil .nil
def zyZ:=N UY (zy0 P) .nil
def zyY:=N (zqv P) .nil .nil
def zyX:=N WY zBv (zyY P)
def zyW:=N o90 (zyX P) zBt
def zyV:=N zx9 .nil .nil
def zyU:=N UO zyV .nil
def zF2:=N (boot_o_5 P) (N (boot_o_9 P) (N o8 (N o24 (N o59 zzo zB8) (zB4 P)) (N (o43 P) zzl (N ZZ zBZ zzj))) (N o16 (N o32 (zzg P) zBS) (N o51 zzd (N uU zBN zzb)))) (N o2 (N o12 (N (o28 P) (N o63 (zy9 P) zBK) (zBG P)) (N o47 (zy6 P) (N ZY zBB zy4))) (N o20 (N o36 zy1 (N (Z4 P) zBw (zyZ P))) (N (o55 P) (zyW P) (N uR zBr zyU))))
def zF1:=N (boot_o_1 P) (N (zHd P) (N (boot_o_7 P) (N o6 (N o94 (N o57 zzW zCR) zzT) (N o41 (zzQ P) (N Z2 zCJ zzO))) (N o14 (N o30 (N o68 zzM zCG) (zCC P)) (N (o49 P) (zzJ P) (N uV zCx zzH)))) (N o0 (N o10 (N o26 (N (o61 P) zzF zCu) zCq) (N o45 zzC (N (uW P) zCl (zzA P)))) (N o18 (N (o34 P) zzx (N uY zCg zzv)) (N o53 (zzs P) (N ZV zCb (zzq P)))))) (zF2 P)
def zyT:=N zqQ .nil .nil
def zyS:=N zax zBq zyT
def zyR:=N zxX .nil .nil
def zyQ:=N zaj zBn zyR
def zyP:=N o96 zyQ zBl
def zyO:=N zqF .nil .nil
def znh:=N Vc zBk zyO
def zng:=N o77 znh zBi
def znf:=N zyg .nil .nil
def zne:=N UW znf .nil
def znd:=N zx4 .nil .nil
def znc:=N zar zBf znd
def znb:=N zqz .nil .nil
def zna:=N W2 zA8 znb
def zm9:=N o85 zna zA6
def zm8:=N zyd .nil .nil
def zm7:=N UR zm8 .nil
def zm6:=N zx5 .nil .nil
def zm5:=N zav zA3 zm6
def zm4:=N zqC .nil .nil
def zm3:=N W9 zAW zm4
def zm2:=N o81 zm3 zAU
def zm1:=N zqI .nil .nil
def zm0:=N Vf zAR zm1
def zmZ:=N o73 zm0 zAP
def zmY:=N zyk .nil .nil
def zmX:=N UZ zmY .nil
def zmW:=N zqw .nil .nil
def zmV:=N zak zAM zmW
def zmU:=N o89 zmV zAK
def zmT:=N zya .nil .nil
def zmS:=N zaQ zmT .nil
def zsS:=N zHc (N o11 (N o27 (N o62 zm5 zA1) zAX) (N o46 zm2 (N uF zAS (N YV (N zHb .nil .nil) .nil)))) (N o19 (N o35 zmZ (N Z5 zAN zmX)) (N o54 zmU (N uS zAI zmS)))
def zmR:=N zqP .nil .nil
def zmQ:=N Vh zAH zmR
def zmP:=N zx1 .nil .nil
def zmO:=N zan zAA zmP
def zmN:=N o79 zmO zAy
def zmM:=N zqV .nil .nil
def zmL:=N zaT zmM .nil
def zmK:=N zqJ .nil .nil
def zmJ:=N Vg zAv zmK
def zmI:=N o71 zmJ zAt
def zmH:=N zqy .nil .nil
def zmG:=N W0 zAo zmH
def zmF:=N o87 zmG zAm
def zmE:=N zyc .nil .nil
def zmD:=N UQ zmE .nil
def zmC:=N zqM .nil .nil
def zmB:=N zat zAj zmC
def zmA:=N zx0 .nil .nil
def zmz:=N W8 zAc zmA
def zmy:=N o83 zmz zAa
def zmx:=N zqS .nil .nil
def zmw:=N UT zmx .nil
def zmv:=N zqG .nil .nil
def zmu:=N zao zz7 zmv
def zmt:=N o75 zmu zz5
def zms:=N zyi .nil .nil
def zmr:=N zaU zms .nil
def zmq:=N zqu .nil .nil
def zmp:=N WX zz2 zmq
def zmo:=N o91 zmp zz0
def zmn:=N zx8 .nil .nil
def zmm:=N UN zmn .nil
def zsR:=N (boot_o_6 P) (N (boot_o_10 P) (N o9 (N o25 (N o60 zmQ zAF) zAB) (N o44 zmN (N uX zAw zmL))) (N o17 (N o33 zmI zAp) (N o52 zmF (N uT zAk zmD)))) (N o3 (N o13 (N o29 (N o64 zmB zAh) zAd) (N o48 zmy (N ZX zz8 zmw))) (N (o21 P) (N o37 zmt (N Z3 zz3 zmr)) (N o56 zmo (N uQ zzY zmm))))
def zsQ:=N (boot_o_0 P) (zF1 P) (N (boot_o_2 P) (N (boot_o_4 P) (N (boot_o_8 P) (N o7 (N o23 (N o58 zyS zBo) zyP) (N o42 zng (N Z1 zBg zne))) (N (o15 P) (N o31 (N o69 znc zBd) zA9) (N o50 zm9 (N ZW zA4 zm7)))) zsS) (zsR P))
def sb7 (w:World) (os:OsState):SharedT:=⟨(zsQ w.params),417,(Life.mk [] [] [] 0 [] [] false #[] [] 0 false false false 0 [2000,10,10] false 0 true [] [] 0 false),⟨[]⟩,(Drawn.mk 0 0 0 0),712,os⟩
def L6 (w:World) (os:OsState):Option (Flow×SharedT×Code×Pos):=segRunT treeTable pw w 11 an 1 539 (sb6 w os) (piecesOf zDu env cE (Pos.mk 75 0 192 22) B)
def R6 (w:World) (os:OsState):Option (Flow×SharedT×Code×Pos):=some (.next,sb7 w os,cE,(Pos.mk 196 0 208 32))
theorem q6:tt (Hd.L6,Hd.R6)=true:=by k_qdec
theorem r6:∀ w,Fast.tw11518265509499319272 w=Hd.R6 w:=fun w=>by kernel_rfl
theorem e6 (w:World) (os:OsState):Hd.L6 w os=Hd.R6 w os:=(congrFun (congrFun Fast.te11518265509499319272 w) os).trans (congrFun (r6 w) os)
def zDt:List Stmt:=[S 20]
def zHa:=Obj.mk k4 .none (Data.dict #[en P 3 165 (sv 129 643),en P 5 166 .none,en P 6 167 .none,en P 7 168 k5,en P 8 169 .none,en P 9 170 6,en P 10 171 4,en P 11 173 (sv 0 172),en P 12 174 .none,en P 13 193 21,en P 14 213 31,en P 15 229 44,en P 22 245 56,en P 23 261 68,en P 24 277 80,en P 25 293 92,en P 27 309 104,en P 28 325 116,en P 29 334 125,en P 30 342 130,en P 34 445 208,en P 67 642 358,en P 130 664 372,en P 131 711 414,en P 138 758 454] 25) #[]
def zG9:=vO #[(iv 1),(iv 0),20,(iv 5),(iv 0),27,(iv 7),(iv 0),40,(iv 9),(iv 0),52,(iv 11),(iv 0),64,(iv 13),(iv 0),76,(iv 15),(iv 0),88,(iv 17),(iv 0),100,(iv 19),(iv 0),112,(iv 22),(iv 0),124,(iv 25),(iv 0),129,(iv 33),(iv 0),136,(iv 75),(iv 0),218,(iv 194),(iv 0),368,(iv 196),(iv 0),382,(iv 209),(iv 0),422]
def zG8:=Obj.mk k9 .none (Data.cls (ClassData.mk (s 130) [k12] [372,k12] 371 (s 130) true [] [414,454] false .none false)) #[.none,.none,(some (sv 130 645)),(some (sv 130 653)),(some k18),(some (.bool true))]
def zqt:=tO #[372]
def zxW:=Obj.mk k7 .none (Data.fields #[k8,k9]) #[]
def zxV:=Obj.mk k4 .none (Data.dict #[en P 17 719 (sv 129 643),en P 18 721 (sv 138 720),en P 19 723 (.int 209 722),en P 35 731 430,en P 132 739 437,en P 133 746 444,en P 108 753 451,en P 20 755 452] 8) #[]
def zxU:=tO #[]
def zxT:=vO #[(iv 211),(iv 4),429,(iv 214),(iv 4),436,(iv 217),(iv 4),443,(iv 220),(iv 4),450]
def zxS:=Obj.mk k1 .none (Data.fields #[(sv 138 714),(sv 138 715),(sv 0 716),(iv 209),(iv 0),(iv 0),(iv 0),(iv 0),420,(.bool false),(iv 181),421,.none,.none,.none,.none,(iv 717),(iv 209),(sv 0 718)]) #[]
def zxR:=Obj.mk k3 .none Data.plain #[(some 422),(some 3),(some 419),.none,(some (sv 129 643)),.none,(some 0)]
def zqs:=tO #[]
def zxQ:=vO #[]
def zqr:=tO #[(sv 45 727),(sv 139 728)]
def zqq:=tO #[]
def zxP:=gO 35 140 (L2.inClass (S 20) 0)
def zqp:=cO 35 140 724 725 726 211 2 3 424 425 426 427 428 729 730
def zqo:=uO 35 140 (L2.inClass (S 20) 0) 129 643 429
def zqn:=tO #[]
def zxO:=vO #[]
def zqm:=tO #[(sv 45 735),(sv 128 736)]
def zql:=tO #[]
def zxN:=gO 132 141 (L2.inClass (S 20) 1)
def zqk:=cO 132 141 732 733 734 214 2 3 431 432 433 434 435 737 738
def zqj:=uO 132 141 (L2.inClass (S 20) 1) 129 643 436
def zqi:=tO #[]
def zxM:=vO #[]
def zqh:=tO #[(sv 45 743)]
def zqg:=tO #[]
def zxL:=gO 133 142 (L2.inClass (S 20) 2)
def zqf:=cO 133 142 740 741 742 217 1 3 438 439 440 441 442 744 745
def zqe:=uO 133 142 (L2.inClass (S 20) 2) 129 643 443
def zqd:=tO #[]
def zxK:=vO #[]
def zqc:=tO #[(sv 45 750)]
def zqb:=tO #[]
def zxJ:=gO 108 143 (L2.inClass (S 20) 3)
def zqa:=cO 108 143 747 748 749 220 1 3 445 446 447 448 449 751 752
def zp9:=uO 108 143 (L2.inClass (S 20) 3) 129 643 450
def zp8:=tO #[(sv 139 754)]
def zp7:=Obj.mk k4 .none (Data.dict #[en P 17 719 (sv 129 643),en P 19 723 (.int 209 722),en P 35 731 430,en P 132 739 437,en P 133 746 444,en P 108 753 451,en P 20 755 452,en P 5 756 .none] 2) #[]
def zp6:=Obj.mk k9 .none (Data.cls (ClassData.mk (s 138) [372] [454,372,k12] 453 (s 138) true [] [] false .none false)) #[(some 417),.none,(some (sv 138 712)),(some (sv 138 720)),(some k18),(some (.bool true))]
def zxI:=Obj.mk k16 .none (Data.fields #[454,454,454]) #[]
def zxH:=Obj.mk k7 .none (Data.fields #[k17,454]) #[]
def zml:=N zqc .nil .nil
def zmk:=N zaa zCS zml
def zmj:=N o57 zzW zmk
def zmi:=N zqn .nil .nil
def zmh:=N WK zCK zmi
def zmg:=N zxI .nil .nil
def zmf:=N Wr zCH zmg
def zme:=N o68 zzM zmf
def zmd:=N zxR .nil .nil
def zmc:=N zah zCF zmd
def zmb:=N zxM .nil .nil
def zma:=N WD zCy zmb
def zl9:=N uV zma zzH
def zl8:=N zp9 .nil .nil
def zl7:=N U9 zCv zl8
def zl6:=N (o61 P) zzF zl7
def zl5:=N (zxV P) .nil .nil
def zl4:=N zai zCt (zl5 P)
def zl3:=N zxN .nil .nil
def zl2:=N WH zCm zl3
def zl1:=N (uW P) zl2 (zzA P)
def zl0:=N zqq .nil .nil
def zlZ:=N WN zCh zl0
def zlY:=N zqf .nil .nil
def zlX:=N WA zCc zlY
def zlW:=N ZV zlX (zzq P)
def zlV:=N zxJ .nil .nil
def zlU:=N Wv zB9 zlV
def zlT:=N o59 zzo zlU
def zlS:=N zqt .nil .nil
def zlR:=N WU zB7 zlS
def zlQ:=N zqm .nil .nil
def zlP:=N zae zB0 zlQ
def zlO:=N ZZ zlP zzj
def zlN:=N zxQ .nil .nil
def zlM:=N WO zBV zlN
def zlL:=N zqg .nil .nil
def zlK:=N WC zBO zlL
def zlJ:=N uU zlK zzb
def zlI:=N (zp7 P) .nil .nil
def zlH:=N Wt zBL (zlI P)
def zlG:=N o63 (zy9 P) (zlH P)
def zlF:=N zxT .nil .nil
def zlE:=N WR zBJ zlF
def zlD:=N zqj .nil .nil
def zlC:=N zad zBC zlD
def zlB:=N ZY zlC zy4
def zlA:=N zqp .nil .nil
def zlz:=N WL zBx zlA
def zly:=N zqd .nil .nil
def zlx:=N Wz zBs zly
def zlw:=N uR zlx zyU
def zsP:=N (boot_o_5 P) (N (boot_o_9 P) (N o8 (N o24 zlT (N (o97 P) zlR zB5)) (N (o43 P) zzl zlO)) (N o16 (N o32 (zzg P) (N YX zlM zBT)) (N o51 zzd zlJ))) (N o2 (N o12 (N (o28 P) (zlG P) (N YY zlE (zBH P))) (N o47 (zy6 P) zlB)) (N o20 (N o36 zy1 (N (Z4 P) zlz (zyZ P))) (N (o55 P) (zyW P) zlw)))
def zlv:=N zqb .nil .nil
def zlu:=N Ww zBp zlv
def zlt:=N o58 zyS zlu
def zls:=N zxO .nil .nil
def zlr:=N WJ zBh zls
def zlq:=N zxH .nil .nil
def zlp:=N U7 zBe zlq
def zlo:=N o69 znc zlp
def zln:=N zqs .nil .nil
def zlm:=N WP zBc zln
def zll:=N zqh .nil .nil
def zlk:=N zac zA5 zll
def zlj:=N ZW zlk zm7
def zli:=N zp8 .nil .nil
def zlh:=N U8 zA2 zli
def zlg:=N o62 zm5 zlh
def zlf:=N zxU .nil .nil
def zle:=N WS zA0 zlf
def zld:=N zqk .nil .nil
def Vu:=N WF zAT zld
def zlc:=N zxP .nil .nil
def zlb:=N WM zAO zlc
def zla:=N zqe .nil .nil
def zk9:=N zab zAJ zla
def zk8:=N uS zk9 zmS
def zk7:=N zqa .nil .nil
def zk6:=N Wu zAG zk7
def zk5:=N o60 zmQ zk6
def zk4:=N zxW .nil .nil
def zk3:=N WT zAE zk4
def zk2:=N zql .nil .nil
def zk1:=N WI zAx zk2
def zk0:=N uX zk1 zmL
def zkZ:=N zqr .nil .nil
def zkY:=N zag zAs zkZ
def zkX:=N zxL .nil .nil
def zkW:=N WB zAl zkX
def zkV:=N uT zkW zmD
def zkU:=N zp6 .nil .nil
def zkT:=N Ws zAi zkU
def zkS:=N o64 zmB zkT
def zkR:=N zxS .nil .nil
def zkQ:=N WQ zAg zkR
def zkP:=N zqi .nil .nil
def zkO:=N WE zz9 zkP
def zkN:=N ZX zkO zmw
def zkM:=N zqo .nil .nil
def zkL:=N zaf zz4 zkM
def zkK:=N zxK .nil .nil
def zkJ:=N Wx zzZ zkK
def zkI:=N uQ zkJ zmm
def zsO:=N (boot_o_6 P) (N (boot_o_10 P) (N o9 (N o25 zk5 (N o98 zk3 zAC)) (N o44 zmN zk0)) (N o17 (N o33 zmI (N YW zkY zAq)) (N o52 zmF zkV))) (N o3 (N o13 (N o29 zkS (N Z8 zkQ zAe)) (N o48 zmy zkN)) (N (o21 P) (N o37 zmt (N Z3 zkL zmr)) (N o56 zmo zkI)))
def zsN:=N (boot_o_2 P) (N (boot_o_4 P) (N (boot_o_8 P) (N o7 (N o23 zlt zyP) (N o42 zng (N Z1 zlr zne))) (N (o15 P) (N o31 zlo (N Z6 zlm zBa)) (N o50 zm9 zlj))) (N zG9 (N o11 (N o27 zlg (N YZ zle zAY)) (N o46 zm2 (N uF Vu (N YV (N zG8 .nil .nil) .nil)))) (N o19 (N o35 zmZ (N Z5 zlb zmX)) (N o54 zmU zk8)))) (zsO P)
def zsM:=N (boot_o_0 P) (N (boot_o_1 P) (N (zHa P) (N (boot_o_7 P) (N o6 (N o94 zmj zzT) (N o41 (zzQ P) (N Z2 zmh zzO))) (N o14 (N o30 zme (N (Z7 P) zmc zCD)) (N (o49 P) (zzJ P) zl9))) (N o0 (N o10 (N o26 (zl6 P) (N o99 (zl4 P) zCr)) (N o45 zzC (zl1 P))) (N o18 (N (o34 P) zzx (N uY zlZ zzv)) (N o53 (zzs P) (zlW P))))) (zsP P)) (zsN P)
def sb8 (w:World) (os:OsState):SharedT:=⟨(zsM w.params),457,(Life.mk [] [] [] 0 [] [] false #[] [] 0 false false false 0 [2000,10,10] false 0 true [] [] 0 false),⟨[]⟩,(Drawn.mk 0 0 0 0),759,os⟩
def L7 (w:World) (os:OsState):Option (Flow×SharedT×Code×Pos):=segRunT treeTable pw w 11 an 1 340 (sb7 w os) (piecesOf zDt env cE (Pos.mk 196 0 208 32) B)
def R7 (w:World) (os:OsState):Option (Flow×SharedT×Code×Pos):=some (.next,sb8 w os,cE,(Pos.mk 209 0 221 26))
theorem q7:tt (Hd.L7,Hd.R7)=true:=by k_qdec
theorem r7:∀ w,Fast.tw9490284035958612641 w=Hd.R7 w:=fun w=>by kernel_rfl
theorem e7 (w:World) (os:OsState):Hd.L7 w os=Hd.R7 w os:=(congrFun (congrFun Fast.te9490284035958612641 w) os).trans (congrFun (r7 w) os)
def zDs:List Stmt:=[S 21]
def zG7:=Obj.mk k4 .none (Data.dict #[en P 3 165 (sv 129 643),en P 5 166 .none,en P 6 167 .none,en P 7 168 k5,en P 8 169 .none,en P 9 170 6,en P 10 171 4,en P 11 173 (sv 0 172),en P 12 174 .none,en P 13 193 21,en P 14 213 31,en P 15 229 44,en P 22 245 56,en P 23 261 68,en P 24 277 80,en P 25 293 92,en P 27 309 104,en P 28 325 116,en P 29 334 125,en P 30 342 130,en P 34 445 208,en P 67 642 358,en P 130 664 372,en P 131 711 414,en P 138 758 454,en P 144 811 494] 26) #[]
def zG6:=vO #[(iv 1),(iv 0),20,(iv 5),(iv 0),27,(iv 7),(iv 0),40,(iv 9),(iv 0),52,(iv 11),(iv 0),64,(iv 13),(iv 0),76,(iv 15),(iv 0),88,(iv 17),(iv 0),100,(iv 19),(iv 0),112,(iv 22),(iv 0),124,(iv 25),(iv 0),129,(iv 33),(iv 0),136,(iv 75),(iv 0),218,(iv 194),(iv 0),368,(iv 196),(iv 0),382,(iv 209),(iv 0),422,(iv 222),(iv 0),462]
def zG5:=Obj.mk k9 .none (Data.cls (ClassData.mk (s 130) [k12] [372,k12] 371 (s 130) true [] [414,454,494] false .none false)) #[.none,.none,(some (sv 130 645)),(some (sv 130 653)),(some k18),(some (.bool true))]
def zp5:=tO #[372]
def zxG:=Obj.mk k7 .none (Data.fields #[k8,k9]) #[]
def zxF:=Obj.mk k4 .none (Data.dict #[en P 17 766 (sv 129 643),en P 18 768 (sv 144 767),en P 19 770 (.int 222 769),en P 35 780 470,en P 132 790 477,en P 133 797 484,en P 108 804 491,en P 20 808 492] 8) #[]
def zxE:=tO #[]
def zxD:=vO #[(iv 224),(iv 4),469,(iv 229),(iv 4),476,(iv 240),(iv 4),483,(iv 243),(iv 4),490]
def zxC:=Obj.mk k1 .none (Data.fields #[(sv 144 761),(sv 144 762),(sv 0 763),(iv 222),(iv 0),(iv 0),(iv 0),(iv 0),460,(.bool false),(iv 181),461,.none,.none,.none,.none,(iv 764),(iv 222),(sv 0 765)]) #[]
def zxB:=Obj.mk k3 .none Data.plain #[(some 462),(some 3),(some 459),.none,(some (sv 129 643)),.none,(some 0)]
def zp4:=tO #[]
def zxA:=vO #[]
def zp3:=tO #[(sv 45 774),(sv 139 775),(sv 61 776),(sv 62 777)]
def zp2:=tO #[]
def zxz:=gO 35 145 (L2.inClass (S 21) 0)
def zp1:=cO 35 145 771 772 773 224 4 3 464 465 466 467 468 778 779
def zp0:=uO 35 145 (L2.inClass (S 21) 0) 129 643 469
def zpZ:=tO #[]
def zxy:=vO #[]
def zpY:=tO #[(sv 45 784),(sv 128 785),(sv 61 786),(sv 62 787)]
def zpX:=tO #[]
def zxx:=gO 132 146 (L2.inClass (S 21) 1)
def zpW:=cO 132 146 781 782 783 229 2 3 471 472 473 474 475 788 789
def zpV:=uO 132 146 (L2.inClass (S 21) 1) 129 643 476
def zpU:=tO #[]
def zxw:=vO #[]
def zpT:=tO #[(sv 45 794)]
def zpS:=tO #[]
def zxv:=gO 133 147 (L2.inClass (S 21) 2)
def zpR:=cO 133 147 791 792 793 240 1 3 478 479 480 481 482 795 796
def zpQ:=uO 133 147 (L2.inClass (S 21) 2) 129 643 483
def zpP:=tO #[]
def zxu:=vO #[]
def zpO:=tO #[(sv 45 801)]
def zpN:=tO #[]
def zxt:=gO 108 148 (L2.inClass (S 21) 3)
def zpM:=cO 108 148 798 799 800 243 1 3 485 486 487 488 489 802 803
def zpL:=uO 108 148 (L2.inClass (S 21) 3) 129 643 490
def zpK:=tO #[(sv 61 805),(sv 62 806),(sv 139 807)]
def zpJ:=Obj.mk k4 .none (Data.dict #[en P 17 766 (sv 129 643),en P 19 770 (.int 222 769),en P 35 780 470,en P 132 790 477,en P 133 797 484,en P 108 804 491,en P 20 808 492,en P 5 809 .none] 2) #[]
def zpI:=Obj.mk k9 .none (Data.cls (ClassData.mk (s 144) [372] [494,372,k12] 493 (s 144) true [] [] false .none false)) #[(some 457),.none,(some (sv 144 759)),(some (sv 144 767)),(some k18),(some (.bool true))]
def zxs:=Obj.mk k16 .none (Data.fields #[494,494,494]) #[]
def zxr:=Obj.mk k7 .none (Data.fields #[k17,494]) #[]
def zkH:=N zxw .nil .nil
def zkG:=N o95 zzU (N za4 zCP zkH)
def zkF:=N zxB .nil .nil
def zkE:=N (U3 P) zCM zkF
def zkD:=N zxs .nil .nil
def zkC:=N UX zzP zkD
def zkB:=N Z2 zmh zkC
def zkA:=N zpO .nil .nil
def zkz:=N (Z7 P) zmc (N zoZ zCE zkA)
def zky:=N zpZ .nil .nil
def zkx:=N (zo7 P) zCA zky
def zkw:=N zpR .nil .nil
def zkv:=N o99 (zl4 P) (N za1 zCs zkw)
def zku:=N zp2 .nil .nil
def zkt:=N za8 zCo zku
def zks:=N (zxF P) .nil .nil
def zkr:=N za9 zCj (zks P)
def zkq:=N zpL .nil .nil
def zkp:=N zaV zzw zkq
def zko:=N uY zlZ zkp
def zkn:=N zxx .nil .nil
def zkm:=N (o88 P) zzt (N zo3 zCe zkn)
def zkl:=N zpS .nil .nil
def zkk:=N (o97 P) zlR (N za3 zB6 zkl)
def zkj:=N zxA .nil .nil
def zki:=N U1 zB2 zkj
def zkh:=N zp5 .nil .nil
def zkg:=N Wq zBX zkh
def zkf:=N zxt .nil .nil
def zke:=N zaX zBU zkf
def zkd:=N YX zlM zke
def zkc:=N zpY .nil .nil
def zkb:=N o86 zze (N zo5 zBQ zkc)
def zka:=N zpP .nil .nil
def zj9:=N YY zlE (N za0 (zBI P) zka)
def zj8:=N zp1 .nil .nil
def zj7:=N zo9 zBE zj8
def zj6:=N zxD .nil .nil
def zj5:=N U5 zBz zj6
def zj4:=N (zpJ P) .nil .nil
def zj3:=N UY (zy0 P) (zj4 P)
def zj2:=N (Z4 P) zlz (zj3 P)
def zj1:=N zpV .nil .nil
def zj0:=N o90 (zyX P) (N zo2 zBu zj1)
def zsL:=N (boot_o_5 P) (N (boot_o_9 P) (N o8 (N o24 zlT (zkk P)) (N (o43 P) (N o78 zzm zki) zlO)) (N o16 (N o32 (N (o70 P) zzh zkg) zkd) (N o51 zkb zlJ))) (N o2 (N o12 (N (o28 P) (zlG P) (zj9 P)) (N o47 (N (o82 P) zy7 zj7) zlB)) (N o20 (N o36 (N o74 zy2 zj5) (zj2 P)) (N (o55 P) (zj0 P) zlw)))
def zjZ:=N zpT .nil .nil
def zjY:=N o96 zyQ (N zo1 zBm zjZ)
def zjX:=N zp4 .nil .nil
def zjW:=N U2 zBj zjX
def zjV:=N zxr .nil .nil
def zjU:=N UW znf zjV
def zjT:=N Z1 zlr zjU
def zjS:=N zpN .nil .nil
def zjR:=N zaY zBb zjS
def zjQ:=N Z6 zlm zjR
def zjP:=N zxy .nil .nil
def zjO:=N zo6 zA7 zjP
def zjN:=N zpQ .nil .nil
def zjM:=N YZ zle (N zo0 zAZ zjN)
def zjL:=N zxz .nil .nil
def zjK:=N za7 zAV zjL
def zjJ:=N zxE .nil .nil
def zjI:=N U6 zAQ zjJ
def zjH:=N zpK .nil .nil
def zjG:=N UZ zmY zjH
def zjF:=N Z5 zlb zjG
def zjE:=N zpW .nil .nil
def zjD:=N o89 zmV (N za6 zAL zjE)
def zjC:=N zxv .nil .nil
def zjB:=N o98 zk3 (N za2 zAD zjC)
def zjA:=N zp3 .nil .nil
def zjz:=N U0 zAz zjA
def zjy:=N zxG .nil .nil
def zjx:=N Wp zAu zjy
def zjw:=N zpM .nil .nil
def zjv:=N zaW zAr zjw
def zju:=N YW zkY zjv
def zjt:=N zpX .nil .nil
def zjs:=N o87 zmG (N zo4 zAn zjt)
def zjr:=N zxu .nil .nil
def zjq:=N Z8 zkQ (N zaZ zAf zjr)
def zjp:=N zp0 .nil .nil
def zjo:=N zo8 zAb zjp
def zjn:=N zxC .nil .nil
def zjm:=N U4 zz6 zjn
def zjl:=N zpI .nil .nil
def zjk:=N zaU zms zjl
def zjj:=N Z3 zkL zjk
def zji:=N zpU .nil .nil
def zjh:=N o91 zmp (N za5 zz1 zji)
def zsK:=N (boot_o_6 P) (N (boot_o_10 P) (N o9 (N o25 zk5 zjB) (N o44 (N o79 zmO zjz) zk0)) (N o17 (N o33 (N o71 zmJ zjx) zju) (N o52 zjs zkV))) (N o3 (N o13 (N o29 zkS zjq) (N o48 (N o83 zmz zjo) zkN)) (N (o21 P) (N o37 (N o75 zmu zjm) zjj) (N o56 zjh zkI)))
def zsJ:=N (boot_o_2 P) (N (boot_o_4 P) (N (boot_o_8 P) (N o7 (N o23 zlt zjY) (N o42 (N o77 znh zjW) zjT)) (N (o15 P) (N o31 zlo zjQ) (N o50 (N o85 zna zjO) zlj))) (N zG6 (N o11 (N o27 zlg zjM) (N o46 (N o81 zm3 zjK) (N uF Vu (N YV (N zG5 .nil .nil) .nil)))) (N o19 (N o35 (N o73 zm0 zjI) zjF) (N o54 zjD zk8)))) (zsK P)
def zsI:=N (boot_o_0 P) (N (boot_o_1 P) (N (zG7 P) (N (boot_o_7 P) (N o6 (N o94 zmj zkG) (N o41 (N (o76 P) zzR (zkE P)) zkB)) (N o14 (N o30 zme (zkz P)) (N (o49 P) (N o84 zzK (zkx P)) zl9))) (N o0 (N o10 (N o26 (zl6 P) (zkv P)) (N o45 (N o80 zzD zkt) (zl1 P))) (N o18 (N (o34 P) (N o72 zzy (zkr P)) zko) (N o53 (zkm P) (zlW P))))) (zsL P)) (zsJ P)
def sb9 (w:World) (os:OsState):SharedT:=⟨(zsI w.params),497,(Life.mk [] [] [] 0 [] [] false #[] [] 0 false false false 0 [2000,10,10] false 0 true [] [] 0 false),⟨[]⟩,(Drawn.mk 0 0 0 0),812,os⟩
def L8 (w:World) (os:OsState):Option (Flow×SharedT×Code×Pos):=segRunT treeTable pw w 11 an 1 346 (sb8 w os) (piecesOf zDs env cE (Pos.mk 209 0 221 26) B)
def R8 (w:World) (os:OsState):Option (Flow×SharedT×Code×Pos):=some (.next,sb9 w os,cE,(Pos.mk 222 0 244 66))
theorem q8:tt (Hd.L8,Hd.R8)=true:=by k_qdec
theorem r8:∀ w,Fast.tw7116466485190837356 w=Hd.R8 w:=fun w=>by kernel_rfl
theorem e8 (w:World) (os:OsState):Hd.L8 w os=Hd.R8 w os:=(congrFun (congrFun Fast.te7116466485190837356 w) os).trans (congrFun (r8 w) os)
def zDr:List Stmt:=[S 22]
def zG4:=Obj.mk k4 .none (Data.dict #[en P 3 165 (sv 129 643),en P 5 166 .none,en P 6 167 .none,en P 7 168 k5,en P 8 169 .none,en P 9 170 6,en P 10 171 4,en P 11 173 (sv 0 172),en P 12 174 .none,en P 13 193 21,en P 14 213 31,en P 15 229 44,en P 22 245 56,en P 23 261 68,en P 24 277 80,en P 25 293 92,en P 27 309 104,en P 28 325 116,en P 29 334 125,en P 30 342 130,en P 34 445 208,en P 67 642 358,en P 130 664 372,en P 131 711 414,en P 138 758 454,en P 144 811 494,en P 149 860 534] 27) #[]
def zG3:=vO #[(iv 1),(iv 0),20,(iv 5),(iv 0),27,(iv 7),(iv 0),40,(iv 9),(iv 0),52,(iv 11),(iv 0),64,(iv 13),(iv 0),76,(iv 15),(iv 0),88,(iv 17),(iv 0),100,(iv 19),(iv 0),112,(iv 22),(iv 0),124,(iv 25),(iv 0),129,(iv 33),(iv 0),136,(iv 75),(iv 0),218,(iv 194),(iv 0),368,(iv 196),(iv 0),382,(iv 209),(iv 0),422,(iv 222),(iv 0),462,(iv 245),(iv 0),502]
def zG2:=Obj.mk k9 .none (Data.cls (ClassData.mk (s 130) [k12] [372,k12] 371 (s 130) true [] [414,454,494,534] false .none false)) #[.none,.none,(some (sv 130 645)),(some (sv 130 653)),(some k18),(some (.bool true))]
def zpH:=tO #[372]
def zxq:=Obj.mk k7 .none (Data.fields #[k8,k9]) #[]
def zxp:=Obj.mk k4 .none (Data.dict #[en P 17 819 (sv 129 643),en P 18 821 (sv 149 820),en P 19 823 (.int 245 822),en P 35 832 510,en P 132 840 517,en P 133 847 524,en P 108 854 531,en P 20 857 532] 8) #[]
def zxo:=tO #[]
def zxn:=vO #[(iv 247),(iv 4),509,(iv 251),(iv 4),516,(iv 254),(iv 4),523,(iv 257),(iv 4),530]
def zxm:=Obj.mk k1 .none (Data.fields #[(sv 149 814),(sv 149 815),(sv 0 816),(iv 245),(iv 0),(iv 0),(iv 0),(iv 0),500,(.bool false),(iv 181),501,.none,.none,.none,.none,(iv 817),(iv 245),(sv 0 818)]) #[]
def zxl:=Obj.mk k3 .none Data.plain #[(some 502),(some 3),(some 499),.none,(some (sv 129 643)),.none,(some 0)]
def zpG:=tO #[]
def zxk:=vO #[]
def zpF:=tO #[(sv 45 827),(sv 150 828),(sv 109 829)]
def zpE:=tO #[]
def zxj:=gO 35 151 (L2.inClass (S 22) 0)
def zpD:=cO 35 151 824 825 826 247 3 3 504 505 506 507 508 830 831
def zpC:=uO 35 151 (L2.inClass (S 22) 0) 129 643 509
def zxi:=tO #[]
def zFH:=vO #[]
def zxh:=tO #[(sv 45 836),(sv 128 837)]
def zxg:=tO #[]
def zFG:=gO 132 152 (L2.inClass (S 22) 1)
def zxf:=cO 132 152 833 834 835 251 2 3 511 512 513 514 515 838 839
def zxe:=uO 132 152 (L2.inClass (S 22) 1) 129 643 516
def zxd:=tO #[]
def zFF:=vO #[]
def zxc:=tO #[(sv 45 844)]
def zxb:=tO #[]
def zFE:=gO 133 153 (L2.inClass (S 22) 2)
def zxa:=cO 133 153 841 842 843 254 1 3 518 519 520 521 522 845 846
def zw9:=uO 133 153 (L2.inClass (S 22) 2) 129 643 523
def zw8:=tO #[]
def zFD:=vO #[]
def zw7:=tO #[(sv 45 851)]
def zw6:=tO #[]
def zFC:=gO 108 154 (L2.inClass (S 22) 3)
def zw5:=cO 108 154 848 849 850 257 1 3 525 526 527 528 529 852 853
def zw4:=uO 108 154 (L2.inClass (S 22) 3) 129 643 530
def zw3:=tO #[(sv 150 855),(sv 109 856)]
def zw2:=Obj.mk k4 .none (Data.dict #[en P 17 819 (sv 129 643),en P 19 823 (.int 245 822),en P 35 832 510,en P 132 840 517,en P 133 847 524,en P 108 854 531,en P 20 857 532,en P 5 858 .none] 2) #[]
def zw1:=Obj.mk k9 .none (Data.cls (ClassData.mk (s 149) [372] [534,372,k12] 533 (s 149) true [] [] false .none false)) #[(some 497),.none,(some (sv 149 812)),(some (sv 149 820)),(some k18),(some (.bool true))]
def zFB:=Obj.mk k16 .none (Data.fields #[534,534,534]) #[]
def zFA:=Obj.mk k7 .none (Data.fields #[k17,534]) #[]
def zjg:=N zxi .nil .nil
def zjf:=N zoY zjg .nil
def zje:=N zay zjf zzX
def zjd:=N zw7 .nil .nil
def zjc:=N zoN zjd .nil
def zjb:=N Vd zjc zzS
def zja:=N zFF .nil .nil
def zi9:=N zrB zja .nil
def zi8:=N zas zi9 zzN
def zi7:=N zFB .nil .nil
def zi6:=N zoH zi7 .nil
def zi5:=N W7 zi6 zzL
def zi4:=N zxl .nil .nil
def zi3:=N US zzI zi4
def zi2:=N zFG .nil .nil
def zi1:=N zrC zi2 .nil
def zi0:=N zaw zi1 zzG
def ziZ:=N zw4 .nil .nil
def ziY:=N zoK ziZ .nil
def ziX:=N Va ziY zzE
def ziW:=N (zxp P) .nil .nil
def ziV:=N UU (zzB P) (ziW P)
def ziU:=N zxa .nil .nil
def ziT:=N zoQ ziU .nil
def ziS:=N zap ziT zzz
def ziR:=N zpE .nil .nil
def ziQ:=N UP (zzr P) ziR
def zsH:=N o0 (N o10 (N o26 (N (o61 P) zi0 zl7) (zkv P)) (N o45 (N o80 ziX zkt) (N (uW P) zl2 (ziV P)))) (N o18 (N (o34 P) (N o72 ziS (zkr P)) zko) (N o53 (zkm P) (N ZV zlX (ziQ P))))
def ziP:=N zxh .nil .nil
def ziO:=N zoX ziP .nil
def ziN:=N Vi ziO zzp
def ziM:=N zFC .nil .nil
def ziL:=N zry ziM .nil
def ziK:=N Vb ziL zzn
def ziJ:=N zpH .nil .nil
def ziI:=N UV zzk ziJ
def ziH:=N zxb .nil .nil
def ziG:=N zoR ziH .nil
def ziF:=N zaq ziG zzi
def ziE:=N zxk .nil .nil
def ziD:=N zaR zzc ziE
def ziC:=N zxe .nil .nil
def ziB:=N zoU ziC .nil
def ziA:=N (zau P) ziB zza
def ziz:=N (zw2 P) .nil .nil
def ziy:=N zrx (ziz P) .nil
def zix:=N zam (ziy P) zy8
def ziw:=N zxn .nil .nil
def ziv:=N zaS zy5 ziw
def ziu:=N zw8 .nil .nil
def zit:=N zoO ziu .nil
def zis:=N Ve zit zy3
def zir:=N zpD .nil .nil
def ziq:=N UO zyV zir
def zsG:=N o2 (N o12 (N (o28 P) (N o63 (ziA P) (zlH P)) (zj9 P)) (N o47 (N (o82 P) (zix P) zj7) (N ZY zlC ziv))) (N o20 (N o36 (N o74 zis zj5) (zj2 P)) (N (o55 P) (zj0 P) (N uR zlx ziq)))
def zsF:=N (boot_o_5 P) (N (boot_o_9 P) (N o8 (N o24 (N o59 ziN zlU) (zkk P)) (N (o43 P) (N o78 ziK zki) (N ZZ zlP ziI))) (N o16 (N o32 (N (o70 P) ziF zkg) zkd) (N o51 zkb (N uU zlK ziD)))) (zsG P)
def zio:=N zFH .nil .nil
def zin:=N zrD zio .nil
def zim:=N zax zin zyT
def zil:=N zw6 .nil .nil
def zik:=N zoM zil .nil
def zij:=N Vc zik zyO
def zii:=N zxc .nil .nil
def zih:=N zoS zii .nil
def zig:=N zar zih znd
def zif:=N zFA .nil .nil
def zie:=N zrw zif .nil
def zid:=N W2 zie znb
def zic:=N zpG .nil .nil
def zib:=N UR zm8 zic
def zia:=N zxf .nil .nil
def zh9:=N zoV zia .nil
def zh8:=N zav zh9 zm6
def zh7:=N zw3 .nil .nil
def zh6:=N zoJ zh7 .nil
def zh5:=N W9 zh6 zm4
def Vt:=N zxo .nil .nil
def zh4:=N zw9 .nil .nil
def zh3:=N zoP zh4 .nil
def zh2:=N Vf zh3 zm1
def zh1:=N zxj .nil .nil
def zh0:=N zaQ zmT zh1
def zsE:=N zG3 (N o11 (N o27 (N o62 zh8 zlh) zjM) (N o46 (N o81 zh5 zjK) (N uF Vu (N YV (N zG2 .nil .nil) Vt)))) (N o19 (N o35 (N o73 zh2 zjI) zjF) (N o54 zjD (N uS zk9 zh0)))
def zhZ:=N zxg .nil .nil
def zhY:=N zoW zhZ .nil
def zhX:=N Vh zhY zmR
def zhW:=N zw5 .nil .nil
def zhV:=N zoL zhW .nil
def zhU:=N zan zhV zmP
def zhT:=N zxq .nil .nil
def zhS:=N zaT zmM zhT
def zhR:=N zFE .nil .nil
def zhQ:=N zrA zhR .nil
def zhP:=N Vg zhQ zmK
def zhO:=N zpF .nil .nil
def zhN:=N UQ zmE zhO
def zhM:=N zxd .nil .nil
def zhL:=N zoT zhM .nil
def zhK:=N zat zhL zmC
def zhJ:=N zw1 .nil .nil
def zhI:=N zoI zhJ .nil
def zhH:=N W8 zhI zmA
def zhG:=N zxm .nil .nil
def zhF:=N UT zmx zhG
def zhE:=N zFD .nil .nil
def zhD:=N zrz zhE .nil
def zhC:=N zao zhD zmv
def zhB:=N zpC .nil .nil
def zhA:=N UN zmn zhB
def zsD:=N o3 (N o13 (N o29 (N o64 zhK zkT) zjq) (N o48 (N o83 zhH zjo) (N ZX zkO zhF))) (N (o21 P) (N o37 (N o75 zhC zjm) zjj) (N o56 zjh (N uQ zkJ zhA)))
def zsC:=N (boot_o_6 P) (N (boot_o_10 P) (N o9 (N o25 (N o60 zhX zk6) zjB) (N o44 (N o79 zhU zjz) (N uX zk1 zhS))) (N o17 (N o33 (N o71 zhP zjx) zju) (N o52 zjs (N uT zkW zhN)))) (zsD P)
def zsB:=N (boot_o_2 P) (N (boot_o_4 P) (N (boot_o_8 P) (N o7 (N o23 (N o58 zim zlu) zjY) (N o42 (N o77 zij zjW) zjT)) (N (o15 P) (N o31 (N o69 zig zlp) zjQ) (N o50 (N o85 zid zjO) (N ZW zlk zib)))) zsE) (zsC P)
def zsA:=N (boot_o_0 P) (N (boot_o_1 P) (N (zG4 P) (N (boot_o_7 P) (N o6 (N o94 (N o57 zje zmk) zkG) (N o41 (N (o76 P) zjb (zkE P)) zkB)) (N o14 (N o30 (N o68 zi8 zmf) (zkz P)) (N (o49 P) (N o84 zi5 (zkx P)) (N uV zma zi3)))) (zsH P)) (zsF P)) (zsB P)
def zDN (w:World) (os:OsState):SharedT:=⟨(zsA w.params),537,(Life.mk [] [] [] 0 [] [] false #[] [] 0 false false false 0 [2000,10,10] false 0 true [] [] 0 false),⟨[]⟩,(Drawn.mk 0 0 0 0),861,os⟩
def L9 (w:World) (os:OsState):Option (Flow×SharedT×Code×Pos):=segRunT treeTable pw w 11 an 1 342 (sb9 w os) (piecesOf zDr env cE (Pos.mk 222 0 244 66) B)
def R9 (w:World) (os:OsState):Option (Flow×SharedT×Code×Pos):=some (.next,zDN w os,cE,(Pos.mk 245 0 258 64))
theorem q9:tt (Hd.L9,Hd.R9)=true:=by k_qdec
theorem r9:∀ w,Fast.tw16134767483146388640 w=Hd.R9 w:=fun w=>by kernel_rfl
theorem e9 (w:World) (os:OsState):Hd.L9 w os=Hd.R9 w os:=(congrFun (congrFun Fast.te16134767483146388640 w) os).trans (congrFun (r9 w) os)
def znl:List Stmt:=[S 23,S 24,S 25,S 26,S 27,S 28,S 29,S 30,S 31,S 32,S 33,S 34,S 35]
def zG1:=Obj.mk k4 .none (Data.dict #[en P 3 165 (sv 155 914),en P 5 166 .none,en P 6 167 .none,en P 7 168 k5,en P 8 169 .none,en P 9 170 6,en P 10 171 4,en P 11 173 (sv 0 172),en P 12 174 .none,en P 13 193 21,en P 14 213 31,en P 15 229 44,en P 22 245 56,en P 23 261 68,en P 24 277 80,en P 25 293 92,en P 27 309 104,en P 28 325 116,en P 29 334 125,en P 30 342 130,en P 34 445 208,en P 67 642 358,en P 130 664 372,en P 131 711 414,en P 138 758 454,en P 144 811 494,en P 149 860 534,en P 156 913 574,en P 157 918 577,en P 158 924 578,en P 159 933 579,en P 160 938 580,en P 161 940 (.int 60 939),en P 162 942 (.int 8 941),en P 163 949 587,en P 164 957 594,en P 165 964 601,en P 166 974 608,en P 167 983 615] 39) #[]
def zG0:=vO #[(iv 1),(iv 0),20,(iv 5),(iv 0),27,(iv 7),(iv 0),40,(iv 9),(iv 0),52,(iv 11),(iv 0),64,(iv 13),(iv 0),76,(iv 15),(iv 0),88,(iv 17),(iv 0),100,(iv 19),(iv 0),112,(iv 22),(iv 0),124,(iv 25),(iv 0),129,(iv 33),(iv 0),136,(iv 75),(iv 0),218,(iv 194),(iv 0),368,(iv 196),(iv 0),382,(iv 209),(iv 0),422,(iv 222),(iv 0),462,(iv 245),(iv 0),502,(iv 259),(iv 0),542,(iv 284),(iv 0),586,(iv 286),(iv 0),593,(iv 288),(iv 0),600,(iv 290),(iv 0),607,(iv 295),(iv 0),614]
def zpB:=Obj.mk k9 .none (Data.cls (ClassData.mk (s 130) [k12] [372,k12] 371 (s 130) true [] [414,454,494,534,574] false .none false)) #[.none,.none,(some (sv 130 645)),(some (sv 130 653)),(some k18),(some (.bool true))]
def zw0:=tO #[372]
def zFz:=Obj.mk k7 .none (Data.fields #[k8,k9]) #[]
def zFy:=Obj.mk k4 .none (Data.dict #[en P 17 868 (sv 129 643),en P 18 870 (sv 156 869),en P 19 872 (.int 259 871),en P 35 883 550,en P 132 891 557,en P 133 898 564,en P 108 905 571,en P 20 910 572] 8) #[]
def zFx:=tO #[]
def zFw:=vO #[(iv 261),(iv 4),549,(iv 267),(iv 4),556,(iv 272),(iv 4),563,(iv 275),(iv 4),570]
def zFv:=Obj.mk k1 .none (Data.fields #[(sv 156 863),(sv 156 864),(sv 0 865),(iv 259),(iv 0),(iv 0),(iv 0),(iv 0),540,(.bool false),(iv 181),541,.none,.none,.none,.none,(iv 866),(iv 259),(sv 0 867)]) #[]
def zFu:=Obj.mk k3 .none Data.plain #[(some 542),(some 3),(some 539),.none,(some (sv 129 643)),.none,(some 0)]
def zwZ:=tO #[]
def zFt:=vO #[]
def zwY:=tO #[(sv 45 876),(sv 61 877),(sv 62 878),(sv 168 879),(sv 169 880)]
def zwX:=tO #[]
def zFs:=gO 35 170 (L2.inClass (S 23) 0)
def zwW:=cO 35 170 873 874 875 261 5 3 544 545 546 547 548 881 882
def zwV:=uO 35 170 (L2.inClass (S 23) 0) 129 643 549
def zwU:=tO #[]
def zFr:=vO #[]
def zwT:=tO #[(sv 45 887),(sv 128 888)]
def zwS:=tO #[]
def zFq:=gO 132 171 (L2.inClass (S 23) 1)
def zwR:=cO 132 171 884 885 886 267 2 3 551 552 553 554 555 889 890
def zwQ:=uO 132 171 (L2.inClass (S 23) 1) 129 643 556
def zwP:=tO #[]
def zFp:=vO #[]
def zwO:=tO #[(sv 45 895)]
def zwN:=tO #[]
def zFo:=gO 133 172 (L2.inClass (S 23) 2)
def zwM:=cO 133 172 892 893 894 272 1 3 558 559 560 561 562 896 897
def zwL:=uO 133 172 (L2.inClass (S 23) 2) 129 643 563
def zwK:=tO #[]
def zFn:=vO #[]
def zwJ:=tO #[(sv 45 902)]
def zwI:=tO #[]
def zFm:=gO 108 173 (L2.inClass (S 23) 3)
def zwH:=cO 108 173 899 900 901 275 1 3 565 566 567 568 569 903 904
def zwG:=uO 108 173 (L2.inClass (S 23) 3) 129 643 570
def zwF:=tO #[(sv 169 906),(sv 61 907),(sv 62 908),(sv 168 909)]
def zwE:=Obj.mk k4 .none (Data.dict #[en P 17 868 (sv 129 643),en P 19 872 (.int 259 871),en P 35 883 550,en P 132 891 557,en P 133 898 564,en P 108 905 571,en P 20 910 572,en P 5 911 .none] 2) #[]
def zwD:=Obj.mk k9 .none (Data.cls (ClassData.mk (s 156) [372] [574,372,k12] 573 (s 156) true [] [] false .none false)) #[(some 537),.none,(some (sv 156 861)),(some (sv 156 869)),(some k18),(some (.bool true))]
def zFl:=Obj.mk k16 .none (Data.fields #[574,574,574]) #[]
def zFk:=Obj.mk k7 .none (Data.fields #[k17,574]) #[]
def zwC:=tO #[(sv 125 916),(sv 174 917)]
def zwB:=tO #[(sv 71 919),(sv 125 920),(sv 175 921),(sv 174 922),(sv 176 923)]
def zwA:=tO #[(sv 71 925),(sv 125 926),(sv 175 927),(sv 174 928),(sv 177 929),(sv 178 930),(sv 179 931),(sv 180 932)]
def zwz:=tO #[(sv 181 934),(sv 182 935),(sv 183 936),(sv 184 937)]
def zwy:=tO #[]
def zFj:=vO #[]
def zwx:=tO #[(sv 31 946)]
def zww:=tO #[]
def zFi:=gO 163 163 (S 31)
def zwv:=cO 163 163 943 944 945 284 1 3 581 582 583 584 585 947 948
def zwu:=uO 163 163 (S 31) 155 914 586
def zwt:=tO #[]
def zFh:=vO #[]
def zws:=tO #[(sv 139 953),(sv 108 954)]
def zwr:=tO #[]
def zFg:=gO 164 164 (S 32)
def zwq:=cO 164 164 950 951 952 286 2 3 588 589 590 591 592 955 956
def zwp:=uO 164 164 (S 32) 155 914 593
def zwo:=tO #[]
def zFf:=vO #[]
def zwn:=tO #[(sv 109 961)]
def zwm:=tO #[]
def zFe:=gO 165 165 (S 33)
def zwl:=cO 165 165 958 959 960 288 1 3 595 596 597 598 599 962 963
def zwk:=uO 165 165 (S 33) 155 914 600
def zwj:=tO #[]
def zFd:=vO #[]
def zwi:=tO #[(sv 185 968),(sv 186 969),(sv 187 970),(sv 188 971)]
def zwh:=tO #[]
def zFc:=gO 166 166 (S 34)
def zwg:=cO 166 166 965 966 967 290 3 3 602 603 604 605 606 972 973
def zwf:=uO 166 166 (S 34) 155 914 607
def zwe:=tO #[]
def zFb:=vO #[]
def zwd:=tO #[(sv 189 978),(sv 186 979),(sv 187 980)]
def zwc:=tO #[]
def zFa:=gO 167 167 (S 35)
def zwb:=cO 167 167 975 976 977 295 3 3 609 610 611 612 613 981 982
def zwa:=uO 167 167 (S 35) 155 914 614
def zhz:=N zFl .nil .nil
def zhy:=N zof zhz .nil
def zhx:=N zaa zhy zml
def zhw:=N zFu .nil .nil
def zhv:=N zru zhw .nil
def zhu:=N zq3 (N zwg .nil .nil) .nil
def zht:=N za4 zhu zkH
def zhs:=N zrf (N zwr .nil .nil) .nil
def zhr:=N (U3 P) zhs zkF
def zhq:=N zFp .nil .nil
def zhp:=N zoq zhq .nil
def zho:=N zwx .nil .nil
def zhn:=N zri zho .nil
def zhm:=N Wr zhn zmg
def zhl:=N zwU .nil .nil
def zhk:=N zow zhl .nil
def zhj:=N zqX (N zwa .nil .nil) .nil
def zhi:=N zoZ zhj zkA
def zhh:=N zq9 (N zFe .nil .nil) .nil
def zhg:=N (zo7 P) zhh zky
def zhf:=N zwJ .nil .nil
def zhe:=N zol zhf .nil
def zhd:=N WD zhe zmb
def zhc:=N zwA .nil .nil
def zhb:=N zoc zhc .nil
def zha:=N U9 zhb zl8
def zg9:=N zwX .nil .nil
def zg8:=N zrt zg9 .nil
def zg7:=N zq1 (N zwd .nil .nil) .nil
def zg6:=N za1 zg7 zkw
def zg5:=N zrc (N zwo .nil .nil) .nil
def zg4:=N za8 zg5 zku
def zg3:=N zwM .nil .nil
def zg2:=N zoo zg3 .nil
def zg1:=N WH zg2 zl3
def zg0:=N zyv (N zwu .nil .nil) .nil
def zgZ:=N za9 zg0 (zks P)
def zgY:=N zFq .nil .nil
def zgX:=N zot zgY .nil
def zgW:=N (zFy P) .nil .nil
def zgV:=N zoE (zgW P) .nil
def zgU:=N zq6 (N zFd .nil .nil) .nil
def zgT:=N zo3 zgU zkn
def zgS:=N zwG .nil .nil
def zgR:=N zoi zgS .nil
def zgQ:=N WA zgR zlY
def zsz:=N o0 (N o10 (N o26 (N (o61 P) zi0 zha) (N o99 (N zai zg8 (zl5 P)) zg6)) (N o45 (N o80 ziX zg4) (N (uW P) zg1 (ziV P)))) (N o18 (N (o34 P) (N o72 ziS (zgZ P)) (N uY (N WN zgX zl0) zkp)) (N o53 (N (o88 P) (N WZ (zgV P) zzu) zgT) (N ZV zgQ (ziQ P))))
def zgP:=N zwC .nil .nil
def zgO:=N zoe zgP .nil
def zgN:=N Wv zgO zlV
def zgM:=N zFt .nil .nil
def zgL:=N zoA zgM .nil
def zgK:=N zyo (N zwe .nil .nil) .nil
def zgJ:=N za3 zgK zkl
def zgI:=N zrd (N zwq .nil .nil) .nil
def zgH:=N U1 zgI zkj
def zgG:=N zwN .nil .nil
def zgF:=N zrp zgG .nil
def zgE:=N zFi .nil .nil
def zgD:=N zn8 zgE .nil
def zgC:=N Wq zgD zkh
def zgB:=N zwT .nil .nil
def zgA:=N zou zgB .nil
def zgz:=N zw0 .nil .nil
def zgy:=N zoG zgz .nil
def zgx:=N zyr (N zwk .nil .nil) .nil
def zgw:=N zo5 zgx zkc
def zgv:=N zFm .nil .nil
def zgu:=N zrm zgv .nil
def zgt:=N WC zgu zlL
def zgs:=N zwy .nil .nil
def zgr:=N zob zgs .nil
def zgq:=N Wt zgr (zlI P)
def zgp:=N zwW .nil .nil
def zgo:=N zox zgp .nil
def zgn:=N (zqZ P) (N zFa .nil .nil) .nil
def zgm:=N za0 (zgn P) zka
def zgl:=N zys (N zwn .nil .nil) .nil
def zgk:=N zo9 zgl zj8
def zgj:=N zwK .nil .nil
def zgi:=N zom zgj .nil
def zgh:=N zad zgi zlD
def zgg:=N zrg (N zFh .nil .nil) .nil
def zgf:=N U5 zgg zj6
def zge:=N zwQ .nil .nil
def zgd:=N zrq zge .nil
def zgc:=N zFw .nil .nil
def zgb:=N zoD zgc .nil
def zga:=N zq5 (N zwh .nil .nil) .nil
def zf9:=N zo2 zga zj1
def zf8:=N (zwE P) .nil .nil
def zf7:=N zrl (zf8 P) .nil
def zf6:=N Wz (zf7 P) zly
def zsy:=N o2 (N o12 (N (o28 P) (N o63 (ziA P) (zgq P)) (N YY (N WR zgo zlF) (zgm P))) (N o47 (N (o82 P) (zix P) zgk) (N ZY zgh ziv))) (N o20 (N o36 (N o74 zis zgf) (N (Z4 P) (N WL zgd zlA) (zj3 P))) (N (o55 P) (N o90 (N WY zgb (zyY P)) zf9) (N uR (zf6 P) ziq)))
def zsx:=N (boot_o_5 P) (N (boot_o_9 P) (N o8 (N o24 (N o59 ziN zgN) (N (o97 P) (N WU zgL zlS) zgJ)) (N (o43 P) (N o78 ziK zgH) (N ZZ (N zae zgF zlQ) ziI))) (N o16 (N o32 (N (o70 P) ziF zgC) (N YX (N WO zgA zlN) zke)) (N o51 (N o86 (N zal zgy zzf) zgw) (N uU zgt ziD)))) (zsy P)
def zf5:=N zFk .nil .nil
def zf4:=N zrk zf5 .nil
def zf3:=N Ww zf4 zlv
def zf2:=N zwZ .nil .nil
def zf1:=N zoB zf2 .nil
def zf0:=N zyp (N zwf .nil .nil) .nil
def zfZ:=N zo1 zf0 zjZ
def zfY:=N zre (N zFg .nil .nil) .nil
def zfX:=N U2 zfY zjX
def zfW:=N zwO .nil .nil
def zfV:=N zop zfW .nil
def zfU:=N zww .nil .nil
def zfT:=N zn9 zfU .nil
def zfS:=N U7 zfT zlq
def zfR:=N zFr .nil .nil
def zfQ:=N zov zfR .nil
def zfP:=N zq8 (N zwl .nil .nil) .nil
def zfO:=N zo6 zfP zjP
def zfN:=N zwI .nil .nil
def zfM:=N zok zfN .nil
def zfL:=N zac zfM zll
def zfK:=N zwz .nil .nil
def zfJ:=N zrj zfK .nil
def zfI:=N U8 zfJ zli
def zfH:=N zFs .nil .nil
def zfG:=N zoy zfH .nil
def zfF:=N zq0 (N zwc .nil .nil) .nil
def zfE:=N zo0 zfF zjN
def zfD:=N zrb (N zFf .nil .nil) .nil
def zfC:=N za7 zfD zjL
def zfB:=N zwL .nil .nil
def zfA:=N zon zfB .nil
def zfz:=N WF zfA zld
def zfy:=N zrh (N zwt .nil .nil) .nil
def zfx:=N U6 zfy zjJ
def zfw:=N zwR .nil .nil
def zfv:=N zos zfw .nil
def zfu:=N zFx .nil .nil
def zft:=N zrv zfu .nil
def zfs:=N zyq (N zwi .nil .nil) .nil
def zfr:=N za6 zfs zjE
def zfq:=N zwF .nil .nil
def zfp:=N zoh zfq .nil
def zfo:=N zab zfp zla
def zsw:=N zG0 (N o11 (N o27 (N o62 zh8 zfI) (N YZ (N WS zfG zlf) zfE)) (N o46 (N o81 zh5 zfC) (N uF zfz (N YV (N zpB .nil .nil) Vt)))) (N o19 (N o35 (N o73 zh2 zfx) (N Z5 (N WM zfv zlc) zjG)) (N o54 (N o89 (N zak zft zmW) zfr) (N uS zfo zh0)))
def zfn:=N zwB .nil .nil
def zfm:=N zod zfn .nil
def zfl:=N Wu zfm zk7
def zfk:=N zwY .nil .nil
def zfj:=N zoz zfk .nil
def zfi:=N zq2 (N zFb .nil .nil) .nil
def zfh:=N za2 zfi zjC
def zfg:=N zyt (N zwp .nil .nil) .nil
def zff:=N U0 zfg zjA
def zfe:=N zFo .nil .nil
def zfd:=N zro zfe .nil
def zfc:=N zwv .nil .nil
def zfb:=N zn7 zfc .nil
def zfa:=N Wp zfb zjy
def ze9:=N zwS .nil .nil
def ze8:=N zrr ze9 .nil
def ze7:=N zFz .nil .nil
def ze6:=N zoF ze7 .nil
def ze5:=N zq7 (N zwj .nil .nil) .nil
def ze4:=N zo4 ze5 zjt
def ze3:=N zwH .nil .nil
def ze2:=N zoj ze3 .nil
def ze1:=N WB ze2 zkX
def ze0:=N zFj .nil .nil
def zeZ:=N zoa ze0 .nil
def zeY:=N Ws zeZ zkU
def zeX:=N zwV .nil .nil
def zeW:=N zrs zeX .nil
def zeV:=N zqY (N zwb .nil .nil) .nil
def zeU:=N zaZ zeV zjr
def zeT:=N zra (N zwm .nil .nil) .nil
def zeS:=N zo8 zeT zjp
def zeR:=N zFn .nil .nil
def zeQ:=N zrn zeR .nil
def zeP:=N WE zeQ zkP
def zeO:=N zyu (N zws .nil .nil) .nil
def zeN:=N U4 zeO zjn
def zeM:=N zwP .nil .nil
def zeL:=N zor zeM .nil
def zeK:=N zFv .nil .nil
def zeJ:=N zoC zeK .nil
def zeI:=N zq4 (N zFc .nil .nil) .nil
def zeH:=N za5 zeI zji
def zeG:=N zwD .nil .nil
def zeF:=N zog zeG .nil
def zeE:=N Wx zeF zkK
def zsv:=N o3 (N o13 (N o29 (N o64 zhK zeY) (N Z8 (N WQ zeW zkR) zeU)) (N o48 (N o83 zhH zeS) (N ZX zeP zhF))) (N (o21 P) (N o37 (N o75 zhC zeN) (N Z3 (N zaf zeL zkM) zjk)) (N o56 (N o91 (N WX zeJ zmq) zeH) (N uQ zeE zhA)))
def zsu:=N (boot_o_6 P) (N (boot_o_10 P) (N o9 (N o25 (N o60 zhX zfl) (N o98 (N WT zfj zk4) zfh)) (N o44 (N o79 zhU zff) (N uX (N WI zfd zk2) zhS))) (N o17 (N o33 (N o71 zhP zfa) (N YW (N zag ze8 zkZ) zjv)) (N o52 (N o87 (N W0 ze6 zmH) ze4) (N uT ze1 zhN)))) (zsv P)
def zst:=N (boot_o_2 P) (N (boot_o_4 P) (N (boot_o_8 P) (N o7 (N o23 (N o58 zim zf3) (N o96 (N zaj zf1 zyR) zfZ)) (N o42 (N o77 zij zfX) (N Z1 (N WJ zfV zls) zjU))) (N (o15 P) (N o31 (N o69 zig zfS) (N Z6 (N WP zfQ zln) zjR)) (N o50 (N o85 zid zfO) (N ZW zfL zib)))) zsw) (zsu P)
def zss:=N (boot_o_0 P) (N (boot_o_1 P) (N (zG1 P) (N (boot_o_7 P) (N o6 (N o94 (N o57 zje zhx) (N o95 (N WV zhv zzV) zht)) (N o41 (N (o76 P) zjb (zhr P)) (N Z2 (N WK zhp zmi) zkC))) (N o14 (N o30 (N o68 zi8 zhm) (N (Z7 P) (N zah zhk zmd) zhi)) (N (o49 P) (N o84 zi5 (zhg P)) (N uV zhd zi3)))) (zsz P)) (zsx P)) (zst P)
def zDM (w:World) (os:OsState):SharedT:=⟨(zss w.params),616,(Life.mk [] [] [] 0 [] [] false #[] [] 0 false false false 0 [2000,10,10] false 0 true [] [] 0 false),⟨[]⟩,(Drawn.mk 0 0 0 0),984,os⟩
def L10 (w:World) (os:OsState):Option (Flow×SharedT×Code×Pos):=segRunT treeTable pw w 11 an 1 583 (zDN w os) (piecesOf znl env cE (Pos.mk 245 0 258 64) B)
def R10 (w:World) (os:OsState):Option (Flow×SharedT×Code×Pos):=some (.next,zDM w os,cE,(Pos.mk 295 0 308 16))
theorem q10:tt (Hd.L10,Hd.R10)=true:=by k_qdec
theorem r10:∀ w,Fast.tw8817224096938630680 w=Hd.R10 w:=fun w=>by kernel_rfl
theorem e10 (w:World) (os:OsState):Hd.L10 w os=Hd.R10 w os:=(congrFun (congrFun Fast.te8817224096938630680 w) os).trans (congrFun (r10 w) os)
def znk:List Stmt:=[S 36,S 37,S 38,S 39,S 40,S 41,S 42,S 43,S 44]
def zGZ:=Obj.mk k4 .none (Data.dict #[en P 3 165 (sv 190 1060),en P 5 166 .none,en P 6 167 .none,en P 7 168 k5,en P 8 169 .none,en P 9 170 6,en P 10 171 4,en P 11 173 (sv 0 172),en P 12 174 .none,en P 13 193 21,en P 14 213 31,en P 15 229 44,en P 22 245 56,en P 23 261 68,en P 24 277 80,en P 25 293 92,en P 27 309 104,en P 28 325 116,en P 29 334 125,en P 30 342 130,en P 34 445 208,en P 67 642 358,en P 130 664 372,en P 131 711 414,en P 138 758 454,en P 144 811 494,en P 149 860 534,en P 156 913 574,en P 157 918 577,en P 158 924 578,en P 159 933 579,en P 160 938 580,en P 161 940 (.int 60 939),en P 162 942 (.int 8 941),en P 163 949 587,en P 164 957 594,en P 165 964 601,en P 166 974 608,en P 167 983 615,en P 191 989 620,en P 192 1059 658,en P 193 1063 (.int 12 1062),en P 194 1065 (.int 99 1064),en P 195 1074 669,en P 196 1082 676,en P 197 1092 683,en P 198 1104 690] 47) #[]
def zGY:=vO #[(iv 1),(iv 0),20,(iv 5),(iv 0),27,(iv 7),(iv 0),40,(iv 9),(iv 0),52,(iv 11),(iv 0),64,(iv 13),(iv 0),76,(iv 15),(iv 0),88,(iv 17),(iv 0),100,(iv 19),(iv 0),112,(iv 22),(iv 0),124,(iv 25),(iv 0),129,(iv 33),(iv 0),136,(iv 75),(iv 0),218,(iv 194),(iv 0),368,(iv 196),(iv 0),382,(iv 209),(iv 0),422,(iv 222),(iv 0),462,(iv 245),(iv 0),502,(iv 259),(iv 0),542,(iv 284),(iv 0),586,(iv 286),(iv 0),593,(iv 288),(iv 0),600,(iv 290),(iv 0),607,(iv 295),(iv 0),614,(iv 309),(iv 0),619,(iv 311),(iv 0),626,(iv 346),(iv 0),668,(iv 355),(iv 0),675,(iv 361),(iv 0),682,(iv 370),(iv 0),689]
def zv9:=tO #[]
def zE9:=vO #[]
def zE8:=gO 191 191 (S 36)
def zv8:=Obj.mk k1 .none (Data.fields #[(sv 191 984),(sv 191 985),(sv 0 986),(iv 309),(iv 1),(iv 0),(iv 0),(iv 3),616,(.bool true),(iv 181),617,.none,.none,.none,618,(iv 987),(iv 309),(sv 0 988)]) #[]
def zv7:=uO 191 191 (S 36) 155 914 619
def zE7:=tO #[]
def zE6:=Obj.mk k7 .none (Data.fields #[k8,k9]) #[]
def zE5:=Obj.mk k4 .none (Data.dict #[en P 17 997 (sv 155 914),en P 18 999 (sv 192 998),en P 19 1001 (.int 311 1000),en P 35 1012 634,en P 199 1021 641,en P 200 1034 648,en P 201 1047 655,en P 20 1052 656] 8) #[]
def zE4:=tO #[]
def zE3:=vO #[(iv 313),(iv 4),633,(iv 327),(iv 4),640,(iv 330),(iv 4),647,(iv 336),(iv 4),654]
def zE2:=Obj.mk k1 .none (Data.fields #[(sv 192 992),(sv 192 993),(sv 0 994),(iv 311),(iv 0),(iv 0),(iv 0),(iv 0),624,(.bool false),(iv 181),625,.none,.none,.none,.none,(iv 995),(iv 311),(sv 0 996)]) #[]
def zE1:=Obj.mk k3 .none Data.plain #[(some 626),(some 3),(some 623),.none,(some (sv 155 914)),.none,(some 0)]
def zv6:=tO #[]
def zE0:=vO #[]
def zv5:=tO #[(sv 45 1005),(sv 202 1006),(sv 203 1007),(sv 204 1008),(sv 205 1009)]
def zv4:=tO #[]
def zEZ:=gO 35 206 (L2.inClass (S 37) 0)
def zv3:=cO 35 206 1002 1003 1004 313 5 3 628 629 630 631 632 1010 1011
def zv2:=uO 35 206 (L2.inClass (S 37) 0) 155 914 633
def zv1:=tO #[]
def zEY:=vO #[]
def zv0:=tO #[(sv 45 1016),(sv 49 1017),(sv 174 1018)]
def zvZ:=tO #[]
def zEX:=gO 199 207 (L2.inClass (S 37) 1)
def zvY:=cO 199 207 1013 1014 1015 327 3 3 635 636 637 638 639 1019 1020
def zvX:=uO 199 207 (L2.inClass (S 37) 1) 155 914 640
def zvW:=tO #[]
def zEW:=vO #[]
def zvV:=tO #[(sv 45 1025),(sv 71 1026),(sv 49 1027),(sv 96 1028),(sv 174 1029),(sv 62 1030),(sv 128 1031)]
def zvU:=tO #[]
def zEV:=gO 200 208 (L2.inClass (S 37) 2)
def zvT:=cO 200 208 1022 1023 1024 330 6 3 642 643 644 645 646 1032 1033
def zvS:=uO 200 208 (L2.inClass (S 37) 2) 155 914 647
def zvR:=tO #[]
def zEU:=vO #[]
def zvQ:=tO #[(sv 45 1038),(sv 71 1039),(sv 49 1040),(sv 96 1041),(sv 174 1042),(sv 72 1043),(sv 128 1044)]
def zvP:=tO #[]
def zET:=gO 201 209 (L2.inClass (S 37) 3)
def zvO:=cO 201 209 1035 1036 1037 336 6 3 649 650 651 652 653 1045 1046
def zvN:=uO 201 209 (L2.inClass (S 37) 3) 155 914 654
def zvM:=tO #[(sv 205 1048),(sv 203 1049),(sv 202 1050),(sv 204 1051)]
def zvL:=Obj.mk k4 .none (Data.dict #[en P 17 997 (sv 155 914),en P 19 1001 (.int 311 1000),en P 35 1012 634,en P 199 1021 641,en P 200 1034 648,en P 201 1047 655,en P 20 1052 656,en P 66 1054 659,en P 21 1056 660,en P 5 1057 .none] 4) #[]
def zvK:=Obj.mk k9 .none (Data.cls (ClassData.mk (s 192) [k12] [658,k12] 657 (s 192) true [] [] false .none false)) #[.none,.none,(some (sv 192 990)),(some (sv 192 998)),(some k18),(some (.bool true))]
def zvJ:=Obj.mk k14 .none (Data.fields #[(sv 66 1053),658,k19,k20]) #[]
def zvI:=Obj.mk k14 .none (Data.fields #[(sv 21 1055),658,k15,.none]) #[]
def zES:=Obj.mk k16 .none (Data.fields #[658,658,658]) #[]
def zER:=Obj.mk k7 .none (Data.fields #[k17,658]) #[]
def zvH:=tO #[]
def zEQ:=vO #[]
def zvG:=tO #[(sv 210 1069),(sv 211 1070),(sv 49 1071)]
def zvF:=tO #[]
def zEP:=gO 195 195 (S 41)
def zvE:=cO 195 195 1066 1067 1068 346 1 3 663 664 665 666 667 1072 1073
def zvD:=uO 195 195 (S 41) 190 1060 668
def zvC:=tO #[]
def zEO:=vO #[]
def zvB:=tO #[(sv 212 1078),(sv 210 1079)]
def zvA:=tO #[]
def zEN:=gO 196 196 (S 42)
def zvz:=cO 196 196 1075 1076 1077 355 2 3 670 671 672 673 674 1080 1081
def zvy:=uO 196 196 (S 42) 190 1060 675
def zvx:=tO #[]
def zEM:=vO #[]
def zvw:=tO #[(sv 174 1086),(sv 210 1087),(sv 213 1088),(sv 212 1089)]
def zvv:=tO #[]
def zEL:=gO 197 197 (S 43)
def zvu:=cO 197 197 1083 1084 1085 361 2 3 677 678 679 680 681 1090 1091
def zvt:=uO 197 197 (S 43) 190 1060 682
def zvs:=tO #[]
def zEK:=vO #[]
def zvr:=tO #[(sv 210 1096),(sv 174 1097),(sv 126 1098),(sv 49 1099),(sv 61 1100),(sv 62 1101)]
def zvq:=tO #[]
def zEJ:=gO 198 198 (S 44)
def zvp:=cO 198 198 1093 1094 1095 370 2 3 684 685 686 687 688 1102 1103
def zvo:=uO 198 198 (S 44) 190 1060 689
def zeD:=N zx7 (N zEX .nil .nil) .nil
def zeC:=N zxY (N zEO .nil .nil) .nil
def zeB:=N WV zhv zeC
def zeA:=N zx2 (N zvN .nil .nil) .nil
def zez:=N zqn (N zvq .nil .nil) .nil
def zey:=N WK zhp zez
def zex:=N zyh (N (zE5 P) .nil .nil) .nil
def zew:=N zqL (N zvT .nil .nil) .nil
def zev:=N zxR (N zvw .nil .nil) .nil
def zeu:=N zah zhk zev
def zet:=N zqA (N zvH .nil .nil) .nil
def zes:=N W7 zi6 zet
def zer:=N zye (N zv4 .nil .nil) .nil
def zeq:=N zqO (N zEW .nil .nil) .nil
def zep:=N (zxV P) (N zvz .nil .nil) .nil
def zeo:=N zai zg8 (zep P)
def zen:=N zqD (N zvJ .nil .nil) .nil
def zem:=N (zqU P) (N zE1 .nil .nil) .nil
def zel:=N zx3 (N zvQ .nil .nil) .nil
def zek:=N zqq (N zvt .nil .nil) .nil
def zej:=N WN zgX zek
def zei:=N zyl (N zv8 .nil .nil) .nil
def zeh:=N zqx (N zEP .nil .nil) .nil
def zeg:=N WZ (zgV P) zeh
def zef:=N (zyb P) (N zv1 .nil .nil) .nil
def zsr:=N o0 (N o10 (N o26 (N (o61 P) (N zaw zi1 zeq) zha) (N o99 (zeo P) zg6)) (N o45 (N o80 (N Va ziY zen) zg4) (N (uW P) zg1 (N UU (zem P) (ziW P))))) (N o18 (N (o34 P) (N o72 (N zap ziT zel) (zgZ P)) (N uY zej (N zaV zei zkq))) (N o53 (N (o88 P) (zeg P) zgT) (N ZV zgQ (N UP (zef P) ziR))))
def zee:=N zx6 (N zvX .nil .nil) .nil
def zed:=N zqt (N zvA .nil .nil) .nil
def zec:=N WU zgL zed
def zeb:=N zqE (N (zvL P) .nil .nil) .nil
def zea:=N zqm (N zvp .nil .nil) .nil
def zd9:=N zae zgF zea
def zd8:=N zyf (N zE3 .nil .nil) .nil
def zd7:=N zqK (N zvR .nil .nil) .nil
def zd6:=N zxQ (N zEL .nil .nil) .nil
def zd5:=N WO zgA zd6
def zd4:=N zyn (N zE9 .nil .nil) .nil
def zd3:=N zxZ (N zvG .nil .nil) .nil
def zd2:=N zal zgy zd3
def zd1:=N zqR (N zv3 .nil .nil) .nil
def zd0:=N zqN (N zvU .nil .nil) .nil
def zdZ:=N zxT (N zvx .nil .nil) .nil
def zdY:=N WR zgo zdZ
def zdX:=N zqB (N zES .nil .nil) .nil
def zdW:=N zam (ziy P) zdX
def zdV:=N zqT (N zE0 .nil .nil) .nil
def zdU:=N zqH (N zET .nil .nil) .nil
def zdT:=N zqp (N zEK .nil .nil) .nil
def zdS:=N WL zgd zdT
def zdR:=N (zyj P) (N zE7 .nil .nil) .nil
def zdQ:=N (zqv P) (N zvD .nil .nil) .nil
def zdP:=N WY zgb (zdQ P)
def zdO:=N zx9 (N zv0 .nil .nil) .nil
def zsq:=N o2 (N o12 (N (o28 P) (N o63 (N (zau P) ziB zd0) (zgq P)) (N YY zdY (zgm P))) (N o47 (N (o82 P) (zdW P) zgk) (N ZY zgh (N zaS zdV ziw)))) (N o20 (N o36 (N o74 (N Ve zit zdU) zgf) (N (Z4 P) zdS (N UY (zdR P) (zj4 P)))) (N (o55 P) (N o90 (zdP P) zf9) (N uR (zf6 P) (N UO zdO zir))))
def zsp:=N (boot_o_5 P) (N (boot_o_9 P) (N o8 (N o24 (N o59 (N Vi ziO zee) zgN) (N (o97 P) zec zgJ)) (N (o43 P) (N o78 (N Vb ziL (zeb P)) zgH) (N ZZ zd9 (N UV zd8 ziJ)))) (N o16 (N o32 (N (o70 P) (N zaq ziG zd7) zgC) (N YX zd5 (N zaX zd4 zkf))) (N o51 (N o86 zd2 zgw) (N uU zgt (N zaR zd1 ziE))))) (zsq P)
def zdN:=N zqQ (N zvY .nil .nil) .nil
def zdM:=N zxX (N zvB .nil .nil) .nil
def zdL:=N zaj zf1 zdM
def zdK:=N zqF (N zvM .nil .nil) .nil
def zdJ:=N zxO (N zEJ .nil .nil) .nil
def zdI:=N WJ zfV zdJ
def zdH:=N zyg (N zE4 .nil .nil) .nil
def zdG:=N zx4 (N zvS .nil .nil) .nil
def zdF:=N zqs (N zvv .nil .nil) .nil
def zdE:=N WP zfQ zdF
def zdD:=N zqW (N zv9 .nil .nil) .nil
def zdC:=N zqz (N zEQ .nil .nil) .nil
def zdB:=N W2 zie zdC
def zdA:=N zyd (N zEZ .nil .nil) .nil
def zdz:=N zx5 (N zvV .nil .nil) .nil
def zdy:=N zxU (N zvy .nil .nil) .nil
def zdx:=N WS zfG zdy
def zdw:=N zqC (N zvI .nil .nil) .nil
def zdv:=N zpB (N zv6 .nil .nil) .nil
def zdu:=N zqI (N zvP .nil .nil) .nil
def zdt:=N zxP (N zvs .nil .nil) .nil
def zds:=N WM zfv zdt
def zdr:=N zyk (N zv7 .nil .nil) .nil
def zdq:=N zqw (N zvE .nil .nil) .nil
def zdp:=N zak zft zdq
def zdo:=N zya (N zEY .nil .nil) .nil
def zso:=N zGY (N o11 (N o27 (N o62 (N zav zh9 zdz) zfI) (N YZ zdx zfE)) (N o46 (N o81 (N W9 zh6 zdw) zfC) (N uF zfz (N YV zdv Vt)))) (N o19 (N o35 (N o73 (N Vf zh3 zdu) zfx) (N Z5 zds (N UZ zdr zjH))) (N o54 (N o89 zdp zfr) (N uS zfo (N zaQ zdo zh1))))
def zdn:=N zqP (N zvW .nil .nil) .nil
def zdm:=N zxW (N zEN .nil .nil) .nil
def zdl:=N WT zfj zdm
def zdk:=N zx1 (N zvK .nil .nil) .nil
def zdj:=N zql (N zvo .nil .nil) .nil
def zdi:=N WI zfd zdj
def zdh:=N zqV (N zE2 .nil .nil) .nil
def zdg:=N zqJ (N zEU .nil .nil) .nil
def zdf:=N zqr (N zvu .nil .nil) .nil
def zde:=N zag ze8 zdf
def zdd:=N zym (N zE8 .nil .nil) .nil
def zdc:=N zqy (N zvF .nil .nil) .nil
def zdb:=N W0 ze6 zdc
def zda:=N zyc (N zv2 .nil .nil) .nil
def zc9:=N zqM (N zEV .nil .nil) .nil
def zc8:=N zxS (N zEM .nil .nil) .nil
def zc7:=N WQ zeW zc8
def zc6:=N zx0 (N zER .nil .nil) .nil
def zc5:=N W8 zhI zc6
def zc4:=N zqS (N zv5 .nil .nil) .nil
def zc3:=N zqG (N zvO .nil .nil) .nil
def zc2:=N zqo (N zvr .nil .nil) .nil
def zc1:=N zaf zeL zc2
def zc0:=N zyi (N zE6 .nil .nil) .nil
def zcZ:=N zqu (N zvC .nil .nil) .nil
def zcY:=N WX zeJ zcZ
def zcX:=N zx8 (N zvZ .nil .nil) .nil
def zsn:=N o3 (N o13 (N o29 (N o64 (N zat zhL zc9) zeY) (N Z8 zc7 zeU)) (N o48 (N o83 zc5 zeS) (N ZX zeP (N UT zc4 zhG)))) (N (o21 P) (N o37 (N o75 (N zao zhD zc3) zeN) (N Z3 zc1 (N zaU zc0 zjl))) (N o56 (N o91 zcY zeH) (N uQ zeE (N UN zcX zhB))))
def zsm:=N (boot_o_6 P) (N (boot_o_10 P) (N o9 (N o25 (N o60 (N Vh zhY zdn) zfl) (N o98 zdl zfh)) (N o44 (N o79 (N zan zhV zdk) zff) (N uX zdi (N zaT zdh zhT)))) (N o17 (N o33 (N o71 (N Vg zhQ zdg) zfa) (N YW zde (N zaW zdd zjw))) (N o52 (N o87 zdb ze4) (N uT ze1 (N UQ zda zhO))))) (zsn P)
def zsl:=N (boot_o_2 P) (N (boot_o_4 P) (N (boot_o_8 P) (N o7 (N o23 (N o58 (N zax zin zdN) zf3) (N o96 zdL zfZ)) (N o42 (N o77 (N Vc zik zdK) zfX) (N Z1 zdI (N UW zdH zjV)))) (N (o15 P) (N o31 (N o69 (N zar zih zdG) zfS) (N Z6 zdE (N zaY zdD zjS))) (N o50 (N o85 zdB zfO) (N ZW zfL (N UR zdA zic))))) zso) (zsm P)
def zsk:=N (boot_o_0 P) (N (boot_o_1 P) (N (zGZ P) (N (boot_o_7 P) (N o6 (N o94 (N o57 (N zay zjf zeD) zhx) (N o95 zeB zht)) (N o41 (N (o76 P) (N Vd zjc zeA) (zhr P)) (N Z2 zey (N UX (zex P) zkD)))) (N o14 (N o30 (N o68 (N zas zi9 zew) zhm) (N (Z7 P) zeu zhi)) (N (o49 P) (N o84 zes (zhg P)) (N uV zhd (N US zer zi4))))) (zsr P)) (zsp P)) (zsl P)
def zDL (w:World) (os:OsState):SharedT:=⟨(zsk w.params),691,(Life.mk [] [] [] 0 [] [] false #[] [] 0 false false false 0 [2000,10,10] false 0 true [] [] 0 false),⟨[]⟩,(Drawn.mk 0 0 0 0),1105,os⟩
def L11 (w:World) (os:OsState):Option (Flow×SharedT×Code×Pos):=segRunT treeTable pw w 11 an 1 516 (zDM w os) (piecesOf znk env cE (Pos.mk 295 0 308 16) B)
def R11 (w:World) (os:OsState):Option (Flow×SharedT×Code×Pos):=some (.next,zDL w os,cE,(Pos.mk 370 0 377 15))
theorem q11:tt (Hd.L11,Hd.R11)=true:=by k_qdec
theorem r11:∀ w,Fast.tw6997996825916537589 w=Hd.R11 w:=fun w=>by kernel_rfl
theorem e11 (w:World) (os:OsState):Hd.L11 w os=Hd.R11 w os:=(congrFun (congrFun Fast.te6997996825916537589 w) os).trans (congrFun (r11 w) os)
def znj:List Stmt:=[S 45,S 46,S 47,S 48,S 49,S 50]
def zGX:=Obj.mk k4 .none (Data.dict #[en P 3 165 (sv 214 1191),en P 5 166 .none,en P 6 167 .none,en P 7 168 k5,en P 8 169 .none,en P 9 170 6,en P 10 171 4,en P 11 173 (sv 0 172),en P 12 174 .none,en P 13 193 21,en P 14 213 31,en P 15 229 44,en P 22 245 56,en P 23 261 68,en P 24 277 80,en P 25 293 92,en P 27 309 104,en P 28 325 116,en P 29 334 125,en P 30 342 130,en P 34 445 208,en P 67 642 358,en P 130 664 372,en P 131 711 414,en P 138 758 454,en P 144 811 494,en P 149 860 534,en P 156 913 574,en P 157 918 577,en P 158 924 578,en P 159 933 579,en P 160 938 580,en P 161 940 (.int 60 939),en P 162 942 (.int 8 941),en P 163 949 587,en P 164 957 594,en P 165 964 601,en P 166 974 608,en P 167 983 615,en P 191 989 620,en P 192 1059 658,en P 193 1063 (.int 12 1062),en P 194 1065 (.int 99 1064),en P 195 1074 669,en P 196 1082 676,en P 197 1092 683,en P 198 1104 690,en P 215 1190 756,en P 216 1200 767,en P 217 1207 774,en P 218 1217 781,en P 219 1229 788] 52) #[]
def zGW:=vO #[(iv 1),(iv 0),20,(iv 5),(iv 0),27,(iv 7),(iv 0),40,(iv 9),(iv 0),52,(iv 11),(iv 0),64,(iv 13),(iv 0),76,(iv 15),(iv 0),88,(iv 17),(iv 0),100,(iv 19),(iv 0),112,(iv 22),(iv 0),124,(iv 25),(iv 0),129,(iv 33),(iv 0),136,(iv 75),(iv 0),218,(iv 194),(iv 0),368,(iv 196),(iv 0),382,(iv 209),(iv 0),422,(iv 222),(iv 0),462,(iv 245),(iv 0),502,(iv 259),(iv 0),542,(iv 284),(iv 0),586,(iv 286),(iv 0),593,(iv 288),(iv 0),600,(iv 290),(iv 0),607,(iv 295),(iv 0),614,(iv 309),(iv 0),619,(iv 311),(iv 0),626,(iv 346),(iv 0),668,(iv 355),(iv 0),675,(iv 361),(iv 0),682,(iv 370),(iv 0),689,(iv 378),(iv 0),696,(iv 412),(iv 0),766,(iv 416),(iv 0),773,(iv 418),(iv 0),780,(iv 427),(iv 0),787]
def zEI:=tO #[]
def zEH:=Obj.mk k7 .none (Data.fields #[k8,k9]) #[]
def zEG:=Obj.mk k4 .none (Data.dict #[en P 17 1112 (sv 190 1060),en P 18 1114 (sv 215 1113),en P 19 1116 (.int 378 1115),en P 35 1125 704,en P 210 1132 711,en P 174 1139 718,en P 220 1147 725,en P 221 1156 732,en P 222 1164 739,en P 223 1171 746,en P 224 1179 753,en P 20 1183 754] 12) #[]
def zEF:=tO #[]
def zEE:=vO #[(iv 380),(iv 4),703,(iv 389),(iv 4),710,(iv 392),(iv 4),717,(iv 395),(iv 4),724,(iv 398),(iv 4),731,(iv 401),(iv 4),738,(iv 406),(iv 4),745,(iv 409),(iv 4),752]
def zED:=Obj.mk k1 .none (Data.fields #[(sv 215 1107),(sv 215 1108),(sv 0 1109),(iv 378),(iv 0),(iv 0),(iv 0),(iv 0),694,(.bool false),(iv 181),695,.none,.none,.none,.none,(iv 1110),(iv 378),(sv 0 1111)]) #[]
def zEC:=Obj.mk k3 .none Data.plain #[(some 696),(some 3),(some 693),.none,(some (sv 190 1060)),.none,(some 0)]
def zvn:=tO #[]
def zEB:=vO #[]
def zvm:=tO #[(sv 45 1120),(sv 210 1121),(sv 174 1122)]
def zvl:=tO #[]
def zEA:=gO 35 225 (L2.inClass (S 45) 0)
def zvk:=cO 35 225 1117 1118 1119 380 3 3 698 699 700 701 702 1123 1124
def zvj:=uO 35 225 (L2.inClass (S 45) 0) 190 1060 703
def zvi:=tO #[]
def zEz:=vO #[]
def zvh:=tO #[(sv 45 1129)]
def zvg:=tO #[]
def zEy:=gO 210 226 (L2.inClass (S 45) 1)
def zvf:=cO 210 226 1126 1127 1128 389 1 3 705 706 707 708 709 1130 1131
def zve:=uO 210 226 (L2.inClass (S 45) 1) 190 1060 710
def zvd:=tO #[]
def zEx:=vO #[]
def zvc:=tO #[(sv 45 1136)]
def zvb:=tO #[]
def zEw:=gO 174 227 (L2.inClass (S 45) 2)
def zva:=cO 174 227 1133 1134 1135 392 1 3 712 713 714 715 716 1137 1138
def zu9:=uO 174 227 (L2.inClass (S 45) 2) 190 1060 717
def zu8:=tO #[]
def zEv:=vO #[]
def zu7:=tO #[(sv 45 1143),(sv 49 1144)]
def zu6:=tO #[]
def zEu:=gO 220 228 (L2.inClass (S 45) 3)
def zu5:=cO 220 228 1140 1141 1142 395 2 3 719 720 721 722 723 1145 1146
def zu4:=uO 220 228 (L2.inClass (S 45) 3) 190 1060 724
def zu3:=tO #[]
def zEt:=vO #[]
def zu2:=tO #[(sv 45 1151),(sv 61 1152),(sv 62 1153)]
def zu1:=tO #[]
def zEs:=gO 221 229 (L2.inClass (S 45) 4)
def zu0:=cO 221 229 1148 1149 1150 398 3 3 726 727 728 729 730 1154 1155
def zuZ:=uO 221 229 (L2.inClass (S 45) 4) 190 1060 731
def zuY:=tO #[]
def zEr:=vO #[]
def zuX:=tO #[(sv 45 1160),(sv 49 1161)]
def zuW:=tO #[]
def zEq:=gO 222 230 (L2.inClass (S 45) 5)
def zuV:=cO 222 230 1157 1158 1159 401 2 3 733 734 735 736 737 1162 1163
def zuU:=uO 222 230 (L2.inClass (S 45) 5) 190 1060 738
def zuT:=tO #[]
def zEp:=vO #[]
def zuS:=tO #[(sv 45 1168)]
def zuR:=tO #[]
def zEo:=gO 223 231 (L2.inClass (S 45) 6)
def zuQ:=cO 223 231 1165 1166 1167 406 1 3 740 741 742 743 744 1169 1170
def zuP:=uO 223 231 (L2.inClass (S 45) 6) 190 1060 745
def zuO:=tO #[]
def zEn:=vO #[]
def zuN:=tO #[(sv 45 1175),(sv 49 1176)]
def zuM:=tO #[]
def zEm:=gO 224 232 (L2.inClass (S 45) 7)
def zuL:=cO 224 232 1172 1173 1174 409 2 3 747 748 749 750 751 1177 1178
def zuK:=uO 224 232 (L2.inClass (S 45) 7) 190 1060 752
def zuJ:=tO #[(sv 126 1180),(sv 233 1181),(sv 234 1182)]
def zuI:=Obj.mk k4 .none (Data.dict #[en P 17 1112 (sv 190 1060),en P 19 1116 (.int 378 1115),en P 35 1125 704,en P 210 1132 711,en P 174 1139 718,en P 220 1147 725,en P 221 1156 732,en P 222 1164 739,en P 223 1171 746,en P 224 1179 753,en P 20 1183 754,en P 66 1185 757,en P 21 1187 758,en P 5 1188 .none] 4) #[]
def zuH:=Obj.mk k9 .none (Data.cls (ClassData.mk (s 215) [k12] [756,k12] 755 (s 215) true [] [] false .none false)) #[.none,.none,(some (sv 215 1105)),(some (sv 215 1113)),(some k18),(some (.bool true))]
def zuG:=Obj.mk k14 .none (Data.fields #[(sv 66 1184),756,k19,k20]) #[]
def zuF:=Obj.mk k14 .none (Data.fields #[(sv 21 1186),756,k15,.none]) #[]
def zEl:=Obj.mk k16 .none (Data.fields #[756,756,756]) #[]
def zEk:=Obj.mk k7 .none (Data.fields #[k17,756]) #[]
def zEj:=tO #[]
def zEi:=vO #[]
def zEh:=tO #[(sv 235 1196),(sv 236 1197)]
def zEg:=tO #[]
def zEf:=gO 216 216 (S 47)
def zEe:=cO 216 216 1193 1194 1195 412 2 3 761 762 763 764 765 1198 1199
def zEd:=uO 216 216 (S 47) 214 1191 766
def zuE:=tO #[]
def zEc:=vO #[]
def zuD:=tO #[(sv 237 1204)]
def zuC:=tO #[]
def zEb:=gO 217 217 (S 48)
def zuB:=cO 217 217 1201 1202 1203 416 1 3 768 769 770 771 772 1205 1206
def zuA:=uO 217 217 (S 48) 214 1191 773
def zuz:=tO #[]
def zEa:=vO #[]
def zuy:=tO #[(sv 238 1211),(sv 239 1212),(sv 240 1213),(sv 241 1214)]
def zux:=tO #[]
def zD9:=gO 218 218 (S 49)
def zuw:=cO 218 218 1208 1209 1210 418 2 3 775 776 777 778 779 1215 1216
def zuv:=uO 218 218 (S 49) 214 1191 780
def zuu:=tO #[]
def zD8:=vO #[]
def zut:=tO #[(sv 238 1221),(sv 242 1222),(sv 243 1223),(sv 244 1224),(sv 245 1225),(sv 246 1226)]
def zus:=tO #[]
def zD7:=gO 219 219 (S 50)
def zur:=cO 219 219 1218 1219 1220 427 3 3 782 783 784 785 786 1227 1228
def zuq:=uO 219 219 (S 50) 214 1191 787
def zcW:=N zay (N zoY zjg (N zEd .nil .nil)) zeD
def zcV:=N zqc (N zvk .nil .nil) .nil
def zcU:=N za4 zhu (N zxw (N zuX .nil .nil) .nil)
def zcT:=N (o76 P) (N Vd (N zoN zjd (N zD8 .nil .nil)) zeA) (N (U3 P) zhs (N zxB (N zu8 .nil .nil) .nil))
def zcS:=N UX (zex P) (N zxs (N zEm .nil .nil) .nil)
def zcR:=N zas (N zrB zja (N zuz .nil .nil)) zew
def zcQ:=N zxI (N zve .nil .nil) .nil
def zcP:=N zoZ zhj (N zpO (N zuR .nil .nil) .nil)
def zcO:=N (zo7 P) zhh (N zpZ (N zEt .nil .nil) .nil)
def zcN:=N zxM (N zEE .nil .nil) .nil
def zcM:=N US zer (N zxl (N zEl .nil .nil) .nil)
def zcL:=N zaw (N zrC zi2 (N zuC .nil .nil)) zeq
def zcK:=N zp9 (N zvh .nil .nil) .nil
def zcJ:=N za1 zg7 (N zpR (N zuU .nil .nil) .nil)
def zcI:=N o80 (N Va (N zoK ziZ (N zur .nil .nil)) zen) (N za8 zg5 (N zp2 (N zEu .nil .nil) .nil))
def zcH:=N zxN (N zEI .nil .nil) .nil
def zcG:=N UU (zem P) (N (zxp P) (N (zuI P) .nil .nil) .nil)
def zcF:=N o72 (N zap (N zoQ ziU (N zD9 .nil .nil)) zel) (N za9 zg0 (N (zxF P) (N zvb .nil .nil) .nil))
def zcE:=N zaV zei (N zpL (N zuO .nil .nil) .nil)
def zcD:=N zo3 zgU (N zxx (N zu0 .nil .nil) .nil)
def zcC:=N zqf (N zEB .nil .nil) .nil
def zcB:=N UP (zef P) (N zpE (N zEh .nil .nil) .nil)
def zsj:=N o0 (N o10 (N o26 (N (o61 P) zcL (N U9 zhb zcK)) (N o99 (zeo P) zcJ)) (N o45 zcI (N (uW P) (N WH zg2 zcH) (zcG P)))) (N o18 (N (o34 P) (zcF P) (N uY zej zcE)) (N o53 (N (o88 P) (zeg P) zcD) (N ZV (N WA zgR zcC) (zcB P))))
def zcA:=N Vi (N zoX ziP (N zEc .nil .nil)) zee
def zcz:=N zxJ (N zvi .nil .nil) .nil
def zcy:=N za3 zgK (N zpS (N zEq .nil .nil) .nil)
def zcx:=N o78 (N Vb (N zry ziM (N zus .nil .nil)) (zeb P)) (N U1 zgI (N zxA (N zu7 .nil .nil) .nil))
def zcw:=N UV zd8 (N zpH (N zuK .nil .nil) .nil)
def zcv:=N zaq (N zoR ziH (N zuy .nil .nil)) zd7
def zcu:=N zp5 (N zEx .nil .nil) .nil
def zct:=N zaX zd4 (N zxt (N zuQ .nil .nil) .nil)
def zcs:=N zo5 zgx (N zpY (N zu1 .nil .nil) .nil)
def zcr:=N zqg (N zEC .nil .nil) .nil
def zcq:=N zaR zd1 (N zxk (N zEj .nil .nil) .nil)
def zcp:=N (zau P) (N zoU ziC (N zuB .nil .nil)) zd0
def zco:=N (zp7 P) (N zEy .nil .nil) .nil
def zcn:=N za0 (zgn P) (N zpP (N zEp .nil .nil) .nil)
def zcm:=N zo9 zgl (N zp1 (N zu4 .nil .nil) .nil)
def zcl:=N zqj (N (zEG P) .nil .nil) .nil
def zck:=N zaS zdV (N zxn (N zuG .nil .nil) .nil)
def zcj:=N o74 (N Ve (N zoO ziu (N zuv .nil .nil)) zdU) (N U5 zgg (N zxD (N zva .nil .nil) .nil))
def zci:=N UY (zdR P) (N (zpJ P) (N zuN .nil .nil) .nil)
def zch:=N zo2 zga (N zpV (N zuY .nil .nil) .nil)
def zcg:=N zqd (N zvl .nil .nil) .nil
def zcf:=N UO zdO (N zpD (N zEf .nil .nil) .nil)
def zsi:=N o2 (N o12 (N (o28 P) (N o63 (zcp P) (N Wt zgr (zco P))) (N YY zdY (zcn P))) (N o47 (N (o82 P) (zdW P) zcm) (N ZY (N zad zgi (zcl P)) zck))) (N o20 (N o36 zcj (N (Z4 P) zdS (zci P))) (N (o55 P) (N o90 (zdP P) zch) (N uR (N Wz (zf7 P) zcg) zcf)))
def zsh:=N (boot_o_5 P) (N (boot_o_9 P) (N o8 (N o24 (N o59 zcA (N Wv zgO zcz)) (N (o97 P) zec zcy)) (N (o43 P) (zcx P) (N ZZ zd9 zcw))) (N o16 (N o32 (N (o70 P) zcv (N Wq zgD zcu)) (N YX zd5 zct)) (N o51 (N o86 zd2 zcs) (N uU (N WC zgu zcr) zcq)))) (zsi P)
def zce:=N zax (N zrD zio (N zuE .nil .nil)) zdN
def zcd:=N zqb (N zvj .nil .nil) .nil
def zcc:=N zo1 zf0 (N zpT (N zuW .nil .nil) .nil)
def zcb:=N o77 (N Vc (N zoM zil (N zut .nil .nil)) zdK) (N U2 zfY (N zp4 (N zEv .nil .nil) .nil))
def zca:=N UW zdH (N zxr (N zuL .nil .nil) .nil)
def zb9:=N zar (N zoS zii (N zEa .nil .nil)) zdG
def zb8:=N zxH (N zvd .nil .nil) .nil
def zb7:=N zaY zdD (N zpN (N zEo .nil .nil) .nil)
def zb6:=N zo6 zfP (N zxy (N zu2 .nil .nil) .nil)
def zb5:=N zqh (N zED .nil .nil) .nil
def zb4:=N UR zdA (N zpG (N zEk .nil .nil) .nil)
def zb3:=N zav (N zoV zia (N zEb .nil .nil)) zdz
def zb2:=N zp8 (N zvg .nil .nil) .nil
def zb1:=N zo0 zfF (N zpQ (N zuT .nil .nil) .nil)
def zb0:=N o81 (N W9 (N zoJ zh7 (N zuq .nil .nil)) zdw) (N za7 zfD (N zxz (N zu5 .nil .nil) .nil))
def zbZ:=N zqk (N zEH .nil .nil) .nil
def zbY:=N YV zdv (N zxo (N zuH .nil .nil) .nil)
def zbX:=N o73 (N Vf (N zoP zh4 (N zuw .nil .nil)) zdu) (N U6 zfy (N zxE (N zEw .nil .nil) .nil))
def zbW:=N UZ zdr (N zpK (N zEn .nil .nil) .nil)
def zbV:=N za6 zfs (N zpW (N zuZ .nil .nil) .nil)
def zbU:=N zqe (N zvm .nil .nil) .nil
def zbT:=N zaQ zdo (N zxj (N zEg .nil .nil) .nil)
def zsg:=N zGW (N o11 (N o27 (N o62 zb3 (N U8 zfJ zb2)) (N YZ zdx zb1)) (N o46 zb0 (N uF (N WF zfA zbZ) zbY))) (N o19 (N o35 zbX (N Z5 zds zbW)) (N o54 (N o89 zdp zbV) (N uS (N zab zfp zbU) zbT)))
def zbS:=N Vh (N zoW zhZ (N zuD .nil .nil)) zdn
def zbR:=N zqa (N zEz .nil .nil) .nil
def zbQ:=N za2 zfi (N zxv (N zuV .nil .nil) .nil)
def zbP:=N o79 (N zan (N zoL zhW (N zD7 .nil .nil)) zdk) (N U0 zfg (N zp3 (N zu6 .nil .nil) .nil))
def zbO:=N zaT zdh (N zxq (N zuJ .nil .nil) .nil)
def zbN:=N Vg (N zrA zhR (N zux .nil .nil)) zdg
def zbM:=N zxG (N zvc .nil .nil) .nil
def zbL:=N zaW zdd (N zpM (N zuP .nil .nil) .nil)
def zbK:=N zo4 ze5 (N zpX (N zEs .nil .nil) .nil)
def zbJ:=N zxL (N zvn .nil .nil) .nil
def zbI:=N UQ zda (N zpF (N zEi .nil .nil) .nil)
def zbH:=N zat (N zoT zhM (N zuA .nil .nil)) zc9
def zbG:=N zp6 (N zvf .nil .nil) .nil
def zbF:=N zaZ zeV (N zxu (N zuS .nil .nil) .nil)
def zbE:=N zo8 zeT (N zp0 (N zu3 .nil .nil) .nil)
def zbD:=N zqi (N zEF .nil .nil) .nil
def zbC:=N UT zc4 (N zxm (N zuF .nil .nil) .nil)
def zbB:=N o75 (N zao (N zrz zhE (N zuu .nil .nil)) zc3) (N U4 zeO (N zxC (N zu9 .nil .nil) .nil))
def zbA:=N zaU zc0 (N zpI (N zuM .nil .nil) .nil)
def zbz:=N za5 zeI (N zpU (N zEr .nil .nil) .nil)
def zby:=N zxK (N zEA .nil .nil) .nil
def zbx:=N UN zcX (N zpC (N zEe .nil .nil) .nil)
def zsf:=N o3 (N o13 (N o29 (N o64 zbH (N Ws zeZ zbG)) (N Z8 zc7 zbF)) (N o48 (N o83 zc5 zbE) (N ZX (N WE zeQ zbD) zbC))) (N (o21 P) (N o37 zbB (N Z3 zc1 zbA)) (N o56 (N o91 zcY zbz) (N uQ (N Wx zeF zby) zbx)))
def zse:=N (boot_o_6 P) (N (boot_o_10 P) (N o9 (N o25 (N o60 zbS (N Wu zfm zbR)) (N o98 zdl zbQ)) (N o44 zbP (N uX zdi zbO))) (N o17 (N o33 (N o71 zbN (N Wp zfb zbM)) (N YW zde zbL)) (N o52 (N o87 zdb zbK) (N uT (N WB ze2 zbJ) zbI)))) (zsf P)
def zsd:=N (boot_o_2 P) (N (boot_o_4 P) (N (boot_o_8 P) (N o7 (N o23 (N o58 zce (N Ww zf4 zcd)) (N o96 zdL zcc)) (N o42 zcb (N Z1 zdI zca))) (N (o15 P) (N o31 (N o69 zb9 (N U7 zfT zb8)) (N Z6 zdE zb7)) (N o50 (N o85 zdB zb6) (N ZW (N zac zfM zb5) zb4)))) zsg) (zse P)
def zsc:=N (boot_o_0 P) (N (boot_o_1 P) (N (zGX P) (N (boot_o_7 P) (N o6 (N o94 (N o57 zcW (N zaa zhy zcV)) (N o95 zeB zcU)) (N o41 (zcT P) (N Z2 zey (zcS P)))) (N o14 (N o30 (N o68 zcR (N Wr zhn zcQ)) (N (Z7 P) zeu zcP)) (N (o49 P) (N o84 zes (zcO P)) (N uV (N WD zhe zcN) zcM)))) (zsj P)) (zsh P)) (zsd P)
def zDK (w:World) (os:OsState):SharedT:=⟨(zsc w.params),789,(Life.mk [] [] [] 0 [] [] false #[] [] 0 false false false 0 [2000,10,10] false 0 true [] [] 0 false),⟨[]⟩,(Drawn.mk 0 0 0 0),1230,os⟩
def L12 (w:World) (os:OsState):Option (Flow×SharedT×Code×Pos):=segRunT treeTable pw w 11 an 1 582 (zDL w os) (piecesOf znj env cE (Pos.mk 370 0 377 15) B)
def R12 (w:World) (os:OsState):Option (Flow×SharedT×Code×Pos):=some (.next,zDK w os,cE,(Pos.mk 427 0 439 93))
theorem q12:tt (Hd.L12,Hd.R12)=true:=by k_qdec
theorem r12:∀ w,Fast.tw15962966748412412817 w=Hd.R12 w:=fun w=>by kernel_rfl
theorem e12 (w:World) (os:OsState):Hd.L12 w os=Hd.R12 w os:=(congrFun (congrFun Fast.te15962966748412412817 w) os).trans (congrFun (r12 w) os)
def zni:List Stmt:=[S 51,S 52,S 53,S 54,S 55,S 56,S 57,S 58]
def zup:=Obj.mk k4 .none (Data.dict #[en P 3 165 (sv 214 1191),en P 5 166 .none,en P 6 167 .none,en P 7 168 k5,en P 8 169 .none,en P 9 170 6,en P 10 171 4,en P 11 173 (sv 0 172),en P 12 174 .none,en P 13 193 21,en P 14 213 31,en P 15 229 44,en P 22 245 56,en P 23 261 68,en P 24 277 80,en P 25 293 92,en P 27 309 104,en P 28 325 116,en P 29 334 125,en P 30 342 130,en P 34 445 208,en P 67 642 358,en P 130 664 372,en P 131 711 414,en P 138 758 454,en P 144 811 494,en P 149 860 534,en P 156 913 574,en P 157 918 577,en P 158 924 578,en P 159 933 579,en P 160 938 580,en P 161 940 (.int 60 939),en P 162 942 (.int 8 941),en P 163 949 587,en P 164 957 594,en P 165 964 601,en P 166 974 608,en P 167 983 615,en P 191 989 620,en P 192 1059 658,en P 193 1063 (.int 12 1062),en P 194 1065 (.int 99 1064),en P 195 1074 669,en P 196 1082 676,en P 197 1092 683,en P 198 1104 690,en P 215 1190 756,en P 216 1200 767,en P 217 1207 774,en P 218 1217 781,en P 219 1229 788,en P 247 1244 795,en P 248 1251 802,en P 249 1258 809,en P 250 1269 816,en P 251 1282 823,en P 252 1293 830,en P 253 1299 835,en P 254 1307 842] 60) #[]
def zD6:=vO #[(iv 1),(iv 0),20,(iv 5),(iv 0),27,(iv 7),(iv 0),40,(iv 9),(iv 0),52,(iv 11),(iv 0),64,(iv 13),(iv 0),76,(iv 15),(iv 0),88,(iv 17),(iv 0),100,(iv 19),(iv 0),112,(iv 22),(iv 0),124,(iv 25),(iv 0),129,(iv 33),(iv 0),136,(iv 75),(iv 0),218,(iv 194),(iv 0),368,(iv 196),(iv 0),382,(iv 209),(iv 0),422,(iv 222),(iv 0),462,(iv 245),(iv 0),502,(iv 259),(iv 0),542,(iv 284),(iv 0),586,(iv 286),(iv 0),593,(iv 288),(iv 0),600,(iv 290),(iv 0),607,(iv 295),(iv 0),614,(iv 309),(iv 0),619,(iv 311),(iv 0),626,(iv 346),(iv 0),668,(iv 355),(iv 0),675,(iv 361),(iv 0),682,(iv 370),(iv 0),689,(iv 378),(iv 0),696,(iv 412),(iv 0),766,(iv 416),(iv 0),773,(iv 418),(iv 0),780,(iv 427),(iv 0),787,(iv 440),(iv 0),794,(iv 450),(iv 0),801,(iv 460),(iv 0),808,(iv 462),(iv 0),815,(iv 475),(iv 0),822,(iv 479),(iv 0),829,(iv 490),(iv 0),834,(iv 516),(iv 0),841]
def zuo:=tO #[]
def zD5:=vO #[]
def zun:=tO #[(sv 238 1233),(sv 255 1234),(sv 256 1235),(sv 257 1236),(sv 258 1237),(sv 259 1238),(sv 260 1239),(sv 261 1240),(sv 262 1241)]
def zum:=tO #[]
def zD4:=gO 247 247 (S 51)
def zul:=cO 247 247 1230 1231 1232 440 1 3 789 790 791 792 793 1242 1243
def zuk:=uO 247 247 (S 51) 214 1191 794
def zuj:=tO #[]
def zD3:=vO #[]
def zui:=tO #[(sv 263 1248)]
def zuh:=tO #[]
def zD2:=gO 248 248 (S 52)
def zug:=cO 248 248 1245 1246 1247 450 1 3 796 797 798 799 800 1249 1250
def zuf:=uO 248 248 (S 52) 214 1191 801
def zue:=tO #[]
def zD1:=vO #[]
def zud:=tO #[(sv 263 1255)]
def zuc:=tO #[]
def zD0:=gO 249 249 (S 53)
def zub:=cO 249 249 1252 1253 1254 460 1 3 803 804 805 806 807 1256 1257
def zua:=uO 249 249 (S 53) 214 1191 808
def zt9:=tO #[]
def zDZ:=vO #[]
def zt8:=tO #[(sv 263 1262),(sv 242 1263),(sv 245 1264),(sv 246 1265),(sv 259 1266)]
def zt7:=tO #[]
def zDY:=gO 250 250 (S 54)
def zt6:=cO 250 250 1259 1260 1261 462 2 3 810 811 812 813 814 1267 1268
def zt5:=uO 250 250 (S 54) 214 1191 815
def zt4:=tO #[]
def zDX:=vO #[]
def zt3:=tO #[(sv 263 1273),(sv 264 1274),(sv 265 1275),(sv 266 1276),(sv 267 1277),(sv 268 1278),(sv 242 1279)]
def zt2:=tO #[]
def zDW:=gO 251 251 (S 55)
def zt1:=cO 251 251 1270 1271 1272 475 6 3 817 818 819 820 821 1280 1281
def zt0:=uO 251 251 (S 55) 214 1191 822
def ztZ:=tO #[]
def zDV:=vO #[]
def ztY:=tO #[(sv 269 1286),(sv 266 1287),(sv 270 1288),(sv 240 1289),(sv 271 1290)]
def ztX:=tO #[]
def zDU:=gO 252 252 (S 56)
def ztW:=cO 252 252 1283 1284 1285 479 3 3 824 825 826 827 828 1291 1292
def ztV:=uO 252 252 (S 56) 214 1191 829
def ztU:=tO #[]
def zDT:=vO #[]
def zDS:=gO 253 253 (S 57)
def ztT:=Obj.mk k1 .none (Data.fields #[(sv 253 1294),(sv 253 1295),(sv 0 1296),(iv 490),(iv 1),(iv 0),(iv 0),(iv 3),831,(.bool true),(iv 181),832,.none,.none,.none,833,(iv 1297),(iv 490),(sv 0 1298)]) #[]
def ztS:=uO 253 253 (S 57) 214 1191 834
def ztR:=tO #[]
def zDR:=vO #[]
def ztQ:=tO #[(sv 235 1303),(sv 237 1304)]
def ztP:=tO #[]
def zDQ:=gO 254 254 (S 58)
def ztO:=cO 254 254 1300 1301 1302 516 1 3 836 837 838 839 840 1305 1306
def ztN:=uO 254 254 (S 58) 214 1191 841
def zsb:=N o14 (N o30 (N o68 zcR (N Wr (N zri zho (N ztP .nil .nil)) zcQ)) (N (Z7 P) (N zah (N zow zhl (N zD0 .nil .nil)) zev) zcP)) (N (o49 P) (N o84 (N W7 (N zoH zi7 (N zun .nil .nil)) zet) (zcO P)) (N uV (N WD (N zol zhf (N zt0 .nil .nil)) zcN) zcM))
def zsa:=N o18 (N (o34 P) (zcF P) (N uY (N WN (N zot zgY (N zDZ .nil .nil)) zek) zcE)) (N o53 (N (o88 P) (N WZ (N zoE (zgW P) (N zuk .nil .nil)) zeh) zcD) (N ZV (N WA (N zoi zgS (N ztX .nil .nil)) zcC) (zcB P)))
def zr9:=N o0 (N o10 (N o26 (N (o61 P) zcL (N U9 (N zoc zhc (N ztS .nil .nil)) zcK)) (N o99 (N zai (N zrt zg9 (N zue .nil .nil)) (zep P)) zcJ)) (N o45 zcI (N (uW P) (N WH (N zoo zg3 (N zt3 .nil .nil)) zcH) (zcG P)))) (zsa P)
def zr8:=N o16 (N o32 (N (o70 P) zcv (N Wq (N zn8 zgE (N ztO .nil .nil)) zcu)) (N YX (N WO (N zou zgB (N zua .nil .nil)) zd6) zct)) (N o51 (N o86 (N zal (N zoG zgz (N zD4 .nil .nil)) zd3) zcs) (N uU (N WC (N zrm zgv (N zDV .nil .nil)) zcr) zcq))
def zr7:=N o20 (N o36 zcj (N (Z4 P) (N WL (N zrq zge (N zt7 .nil .nil)) zdT) (zci P))) (N (o55 P) (N o90 (N WY (N zoD zgc (N zD3 .nil .nil)) (zdQ P)) zch) (N uR (N Wz (N zrl (zf8 P) (N ztW .nil .nil)) zcg) zcf))
def zr6:=N o2 (N o12 (N (o28 P) (N o63 (zcp P) (N Wt (N zob zgs (N zDR .nil .nil)) (zco P))) (N YY (N WR (N zox zgp (N zud .nil .nil)) zdZ) (zcn P))) (N o47 (N (o82 P) (N zam (N zrx (ziz P) (N zuo .nil .nil)) zdX) zcm) (N ZY (N zad (N zom zgj (N zDW .nil .nil)) (zcl P)) zck))) (zr7 P)
def zr5:=N (boot_o_5 P) (N (boot_o_9 P) (N o8 (N o24 (N o59 zcA (N Wv (N zoe zgP (N zDS .nil .nil)) zcz)) (N (o97 P) (N WU (N zoA zgM (N zug .nil .nil)) zed) zcy)) (N (o43 P) (zcx P) (N ZZ (N zae (N zrp zgG (N zt4 .nil .nil)) zea) zcw))) (zr8 P)) (zr6 P)
def zr4:=N (o15 P) (N o31 (N o69 zb9 (N U7 (N zn9 zfU (N zDQ .nil .nil)) zb8)) (N Z6 (N WP (N zov zfR (N zub .nil .nil)) zdF) zb7)) (N o50 (N o85 (N W2 (N zrw zif (N zum .nil .nil)) zdC) zb6) (N ZW (N zac (N zok zfN (N ztZ .nil .nil)) zb5) zb4))
def zr3:=N o19 (N o35 zbX (N Z5 (N WM (N zos zfw (N zt8 .nil .nil)) zdt) zbW)) (N o54 (N o89 (N zak (N zrv zfu (N zuj .nil .nil)) zdq) zbV) (N uS (N zab (N zoh zfq (N zDU .nil .nil)) zbU) zbT))
def zr2:=N zD6 (N o11 (N o27 (N o62 zb3 (N U8 (N zrj zfK (N ztR .nil .nil)) zb2)) (N YZ (N WS (N zoy zfH (N zD1 .nil .nil)) zdy) zb1)) (N o46 zb0 (N uF (N WF (N zon zfB (N zt2 .nil .nil)) zbZ) zbY))) zr3
def zr1:=N o17 (N o33 (N o71 zbN (N Wp (N zn7 zfc (N ztN .nil .nil)) zbM)) (N YW (N zag (N zrr ze9 (N zt9 .nil .nil)) zdf) zbL)) (N o52 (N o87 (N W0 (N zoF ze7 (N zul .nil .nil)) zdc) zbK) (N uT (N WB (N zoj ze3 (N ztY .nil .nil)) zbJ) zbI))
def zr0:=N (o21 P) (N o37 zbB (N Z3 (N zaf (N zor zeM (N zDY .nil .nil)) zc2) zbA)) (N o56 (N o91 (N WX (N zoC zeK (N zui .nil .nil)) zcZ) zbz) (N uQ (N Wx (N zog zeG (N ztV .nil .nil)) zby) zbx))
def zrZ:=N o3 (N o13 (N o29 (N o64 zbH (N Ws (N zoa ze0 (N ztQ .nil .nil)) zbG)) (N Z8 (N WQ (N zrs zeX (N zuc .nil .nil)) zc8) zbF)) (N o48 (N o83 (N W8 (N zoI zhJ (N zD5 .nil .nil)) zc6) zbE) (N ZX (N WE (N zrn zeR (N zt1 .nil .nil)) zbD) zbC))) (zr0 P)
def zrY:=N (boot_o_6 P) (N (boot_o_10 P) (N o9 (N o25 (N o60 zbS (N Wu (N zod zfn (N ztT .nil .nil)) zbR)) (N o98 (N WT (N zoz zfk (N zuf .nil .nil)) zdm) zbQ)) (N o44 zbP (N uX (N WI (N zro zfe (N zDX .nil .nil)) zdj) zbO))) zr1) (zrZ P)
def zrX:=N (boot_o_2 P) (N (boot_o_4 P) (N (boot_o_8 P) (N o7 (N o23 (N o58 zce (N Ww (N zrk zf5 (N zDT .nil .nil)) zcd)) (N o96 (N zaj (N zoB zf2 (N zD2 .nil .nil)) zdM) zcc)) (N o42 zcb (N Z1 (N WJ (N zop zfW (N zt5 .nil .nil)) zdJ) zca))) (zr4 P)) zr2) (zrY P)
def zrW:=N (boot_o_0 P) (N (boot_o_1 P) (N (zup P) (N (boot_o_7 P) (N o6 (N o94 (N o57 zcW (N zaa (N zof zhz (N ztU .nil .nil)) zcV)) (N o95 (N WV (N zru zhw (N zuh .nil .nil)) zeC) zcU)) (N o41 (zcT P) (N Z2 (N WK (N zoq zhq (N zt6 .nil .nil)) zez) (zcS P)))) (zsb P)) (zr9 P)) (zr5 P)) (zrX P)
def zDJ (w:World) (os:OsState):SharedT:=⟨(zrW w.params),843,(Life.mk [] [] [] 0 [] [] false #[] [] 0 false false false 0 [2000,10,10] false 0 true [] [] 0 false),⟨[]⟩,(Drawn.mk 0 0 0 0),1308,os⟩
def L13 (w:World) (os:OsState):Option (Flow×SharedT×Code×Pos):=segRunT treeTable pw w 11 an 1 253 (zDK w os) (piecesOf zni env cE (Pos.mk 427 0 439 93) B)
def R13 (w:World) (os:OsState):Option (Flow×SharedT×Code×Pos):=some (.next,zDJ w os,cE,(Pos.mk 516 0 520 15))
theorem q13:tt (Hd.L13,Hd.R13)=true:=by k_qdec
theorem r13:∀ w,Fast.tw2890041658171991945 w=Hd.R13 w:=fun w=>by kernel_rfl
theorem e13 (w:World) (os:OsState):Hd.L13 w os=Hd.R13 w os:=(congrFun (congrFun Fast.te2890041658171991945 w) os).trans (congrFun (r13 w) os)
def h70:List Obj:=zDQ::ztO::ztN::[]
def h69:List Obj:=zDU::ztW::ztV::ztU::zDT::zDS::ztT::ztS::ztR::zDR::ztQ::ztP::h70
def h68:List Obj:=zt5::zt4::zDX::zt3::zt2::zDW::zt1::zt0::ztZ::zDV::ztY::ztX::h69
def h67:List Obj:=zD1::zud::zuc::zD0::zub::zua::zt9::zDZ::zt8::zt7::zDY::zt6::h68
def h66:List Obj:=zum::zD4::zul::zuk::zuj::zD3::zui::zuh::zD2::zug::zuf::zue::h67
def h65:List Obj:=zuw::zuv::zuu::zD8::zut::zus::zD7::zur::zuq::zuo::zD5::zun::h66
def h64:List Obj:=zuE::zEc::zuD::zuC::zEb::zuB::zuA::zuz::zEa::zuy::zux::zD9::h65
def h63:List Obj:=zuH::zuG::zuF::zEl::zEk::zEj::zEi::zEh::zEg::zEf::zEe::zEd::h64
def h62:List Obj:=zEo::zuQ::zuP::zuO::zEn::zuN::zuM::zEm::zuL::zuK::zuJ::zuI P::h63
def h61:List Obj:=zuZ::zuY::zEr::zuX::zuW::zEq::zuV::zuU::zuT::zEp::zuS::zuR::h62 P
def h60:List Obj:=zEv::zu7::zu6::zEu::zu5::zu4::zu3::zEt::zu2::zu1::zEs::zu0::h61 P
def h59:List Obj:=zvg::zEy::zvf::zve::zvd::zEx::zvc::zvb::zEw::zva::zu9::zu8::h60 P
def h58:List Obj:=zED::zEC::zvn::zEB::zvm::zvl::zEA::zvk::zvj::zvi::zEz::zvh::h59 P
def h57:List Obj:=zvs::zEK::zvr::zvq::zEJ::zvp::zvo::zEI::zEH::zEG P::zEF::zEE::h58 P
def h56:List Obj:=zvB::zvA::zEN::zvz::zvy::zvx::zEM::zvw::zvv::zEL::zvu::zvt::h57 P
def h55:List Obj:=zvI::zES::zER::zvH::zEQ::zvG::zvF::zEP::zvE::zvD::zvC::zEO::h56 P
def h54:List Obj:=zvS::zvR::zEU::zvQ::zvP::zET::zvO::zvN::zvM::zvL P::zvK::zvJ::h55 P
def h53:List Obj:=zEY::zv0::zvZ::zEX::zvY::zvX::zvW::zEW::zvV::zvU::zEV::zvT::h54 P
def h52:List Obj:=zE4::zE3::zE2::zE1::zv6::zE0::zv5::zv4::zEZ::zv3::zv2::zv1::h53 P
def h51:List Obj:=zwc::zFa::zwb::zwa::zv9::zE9::zE8::zv8::zv7::zE7::zE6::zE5 P::h52 P
def h50:List Obj:=zwl::zwk::zwj::zFd::zwi::zwh::zFc::zwg::zwf::zwe::zFb::zwd::h51 P
def h49:List Obj:=zwt::zFh::zws::zwr::zFg::zwq::zwp::zwo::zFf::zwn::zwm::zFe::h50 P
def h48:List Obj:=zFk::zwC::zwB::zwA::zwz::zwy::zFj::zwx::zww::zFi::zwv::zwu::h49 P
def h47:List Obj:=zwL::zwK::zFn::zwJ::zwI::zFm::zwH::zwG::zwF::zwE P::zwD::zFl::h48 P
def h46:List Obj:=zFr::zwT::zwS::zFq::zwR::zwQ::zwP::zFp::zwO::zwN::zFo::zwM::h47 P
def h45:List Obj:=zFx::zFw::zFv::zFu::zwZ::zFt::zwY::zwX::zFs::zwW::zwV::zwU::h46 P
def h44:List Obj:=zw6::zFC::zw5::zw4::zw3::zw2 P::zw1::zFB::zFA::zw0::zFz::zFy P::h45 P
def h43:List Obj:=zxf::zxe::zxd::zFF::zxc::zxb::zFE::zxa::zw9::zw8::zFD::zw7::h44 P
def h42:List Obj:=zpG::zxk::zpF::zpE::zxj::zpD::zpC::zxi::zFH::zxh::zxg::zFG::h43 P
def h41:List Obj:=zpK::zpJ P::zpI::zxs::zxr::zpH::zxq::zxp P::zxo::zxn::zxm::zxl::h42 P
def h40:List Obj:=zpT::zpS::zxv::zpR::zpQ::zpP::zxu::zpO::zpN::zxt::zpM::zpL::h41 P
def h39:List Obj:=zxz::zp1::zp0::zpZ::zxy::zpY::zpX::zxx::zpW::zpV::zpU::zxw::h40 P
def h38:List Obj:=zxH::zp5::zxG::zxF P::zxE::zxD::zxC::zxB::zp4::zxA::zp3::zp2::h39 P
def h37:List Obj:=zqe::zqd::zxK::zqc::zqb::zxJ::zqa::zp9::zp8::zp7 P::zp6::zxI::h38 P
def h36:List Obj:=zxO::zqm::zql::zxN::zqk::zqj::zqi::zxM::zqh::zqg::zxL::zqf::h37 P
def h35:List Obj:=zxU::zxT::zxS::zxR::zqs::zxQ::zqr::zqq::zxP::zqp::zqo::zqn::h36 P
def h34:List Obj:=zqz::zxZ::zqy::zqx::zqw::zqv P::zqu::zxY::zxX::zqt::zxW::zxV P::h35 P
def h33:List Obj:=zqI::zqH::zqG::zx2::zqF::zqE::zx1::zqD::zqC::zqB::zx0::zqA::h34 P
def h32:List Obj:=zqQ::zx6::zqP::zqO::zx5::zqN::zqM::zqL::zx4::zqK::zqJ::zx3::h33 P
def h31:List Obj:=zpB::zqT::zqS::zye::zyd::zqR::zyc::zyb P::zya::zx9::zx8::zx7::h32 P
def h30:List Obj:=zqW::zyn::zym::zyl::zyk::zyj P::zyi::zyh::zyg::zyf::zqV::zqU P::h31 P
def h29:List Obj:=zyq::zq5::zq4::zq3::zyp::zyo::zq2::zq1::zq0::zqZ P::zqY::zqX::h30 P
def h28:List Obj:=zre::zrd::zyt::zrc::zrb::zys::zra::zq9::zq8::zyr::zq7::zq6::h29 P
def h27:List Obj:=zrj::zob::zoa::zri::zn9::zn8::zn7::zyv::zrh::zrg::zyu::zrf::h28 P
def h26:List Obj:=zok::zrm::zoj::zoi::zoh::zrl::zog::zof::zrk::zoe::zod::zoc::h27 P
def h25:List Obj:=zos::zrq::zor::zoq::zop::zrp::zro::zoo::zon::zom::zrn::zol::h26 P
def h24:List Obj:=zoB::zoA::zoz::zrt::zoy::zox::zrs::zow::zov::zou::zrr::zot::h25 P
def h23:List Obj:=zoJ::zrx::zoI::zoH::zrw::zoG::zoF::zoE::zrv::zoD::zoC::zru::h24 P
def h22:List Obj:=zoS::zoR::zrA::zoQ::zoP::zoO::zrz::zoN::zoM::zry::zoL::zoK::h23 P
def h21:List Obj:=zaQ::UO::UN::zoY::zrD::zoX::zoW::zrC::zoV::zoU::zoT::zrB::h22 P
def h20:List Obj:=UW::UV::zaT::UU::YV::zaS::UT::US::UR::zaR::UQ::UP::h21 P
def h19:List Obj:=zo0::za0::zaZ::zoZ::zaY::zaX::zaW::zaV::UZ::UY::zaU::UX::h20 P
def h18:List Obj:=zo6::zo5::zo4::zo3::za6::zo2::za5::za4::zo1::za3::za2::za1::h19 P
def h17:List Obj:=U6::U5::U4::U3 P::U2::U1::U0::za8::za7::zo9::zo8::zo7 P::h18 P
def h16:List Obj:=Ww::Wv::Wu::U9::U8::Wt::Ws::Wr::U7::Wq::Wp::za9::h17 P
def h15:List Obj:=WF::zad::WE::WD::zac::WC::WB::WA::zab::Wz::Wx::zaa::h16 P
def h14:List Obj:=WP::WO::zag::WN::WM::WL::zaf::WK::WJ::zae::WI::WH::h15 P
def h13:List Obj:=zak::WY::WX::WV::zaj::WU::WT::zai::WS::WR::WQ::zah::h14 P
def h12:List Obj:=Vc::Vb::zan::Va::W9::zam::W8::W7::W2::zal::W0::WZ::h13 P
def h11:List Obj:=zav::zau P::zat::zas::zar::zaq::Vg::zap::Vf::Ve::zao::Vd::h12 P
def h10:List Obj:=ZW::uU::uT::ZV::uS::uR::uQ::zay::zax::Vi::Vh::zaw::h11 P
def h9:List Obj:=Z5::Z4 P::Z3::Z2::Z1::ZZ::uX::uW P::uF::ZY::ZX::uV::h10 P
def h8:List Obj:=o96::o97 P::o98::o99::YZ::YY::Z8::Z7 P::Z6::YX::YW::uY::h9 P
def h7:List Obj:=o81::o82 P::o83::o84::o85::o86::o87::o88 P::o89::o90::o91::o95::h8 P
def h6:List Obj:=o69::o70 P::o71::o72::o73::o74::o75::o76 P::o77::o78::o79::o80::h7 P
def h5:List Obj:=o54::o55 P::o56::o57::o58::o59::o60::o61 P::o62::o63::o64::o68::h6 P
def h4:List Obj:=o42::o43 P::o44::o45::o46::o47::o48::o49 P::o50::o51::o52::o53::h5 P
def h3:List Obj:=o27::o28 P::o29::o30::o31::o32::o33::o34 P::o35::o36::o37::o41::h4 P
def h2:List Obj:=o15 P::o16::o17::o18::o19::o20::o21 P::o94::o23::o24::o25::o26::h3 P
def h1:List Obj:=zD6::o2::o3::o6::o7::o8::o9::o10::o11::o12::o13::o14::h2 P
def h0:List Obj:=boot_o_0 P::boot_o_1 P::boot_o_2 P::zup P::boot_o_4 P::boot_o_5 P::boot_o_6 P::boot_o_7 P::boot_o_8 P::boot_o_9 P::boot_o_10 P::o0::h1 P
def H1:Heap:=⟨⟨h0 P⟩,(Life.mk [] [] [] 0 [] [] false #[] [] 0 false false false 0 [2000,10,10] false 0 true [] [] 0 false)⟩
def sf (w:World) (os:OsState):Shared:=⟨H1 w.params,⟨[]⟩,(Drawn.mk 0 0 0 0),1308,os⟩
def Lf (w:World) (os:OsState):Option Shared:=topRun treeTable pw w 11 an 2 (zDJ w os).abs ⟨doneF .next,cE,(Pos.mk 516 0 520 15),B⟩
def Rf (w:World) (os:OsState):Option Shared:=some (sf w os)
theorem qf:tt (Hd.Lf,Hd.Rf)=true:=by k_qdec
theorem rf:∀ w,Fast.tw2640074843757178226 w=Hd.Rf w:=fun w=>by kernel_rfl
theorem ef (w:World) (os:OsState):Hd.Lf w os=Hd.Rf w os:=(congrFun (congrFun Fast.te2640074843757178226 w) os).trans (congrFun (rf w) os)
theorem cut:bE=zDA++(zDz++(zDy++(zDx++(zDw++(zDv++(zDu++(zDt++(zDs++(zDr++(znl++(znk++(znj++(zni++([])))))))))))))):=by kernel_rfl
theorem run (w:World) (os:OsState):topRun treeTable pw w 11 an (12+(1+(438+(427+(427+(500+(520+(841+(539+(340+(346+(342+(583+(516+(582+(253+2)))))))))))))))) (s0 w os) (topStub pw)=some (sf w os):=by
 refine go_top (ea w os) (piece_block (q:=qE) (env:=env) (b:=bE) (segRun_of (eb w os)) ?_)
 rw[show restOf bE env cE (Pos.mk 0 0 0 0) [topFrame qE]=restOf _ env cE _ [topFrame qE] from congrArg (fun l=>restOf l env cE (Pos.mk 0 0 0 0) [topFrame qE]) cut]
 refine piece_app (segRun_of (e0 w os)) ?_
 refine piece_app (segRun_of (e1 w os)) ?_
 refine piece_app (segRun_of (e2 w os)) ?_
 refine piece_app (segRun_of (e3 w os)) ?_
 refine piece_app (segRun_of (e4 w os)) ?_
 refine piece_app (segRun_of (e5 w os)) ?_
 refine piece_app (segRun_of (e6 w os)) ?_
 refine piece_app (segRun_of (e7 w os)) ?_
 refine piece_app (segRun_of (e8 w os)) ?_
 refine piece_app (segRun_of (e9 w os)) ?_
 refine piece_app (segRun_of (e10 w os)) ?_
 refine piece_app (segRun_of (e11 w os)) ?_
 refine piece_app (segRun_of (e12 w os)) ?_
 refine piece_app (segRun_of (e13 w os)) ?_
 exact ef w os
def M:Nat:=12+(1+(438+(427+(427+(500+(520+(841+(539+(340+(346+(342+(583+(516+(582+(253+2)))))))))))))))
abbrev rW:RowW:=(PySem.Challenge.rw_beatless_k40_one_hand_alone.row).toRowW
def Q:Program:={ pw with main:={ pw.main with body:=[S 0,S 2,S 3,S 4,S 5,S 6,S 7,S 8,S 9,S 11,S 13,S 14,S 16,S 18,S 19,S 20,S 21,S 22,S 23,S 25,S 26,S 27,S 28,S 29,S 30,S 31,S 32,S 33,S 34,S 35,S 36,S 37,S 39,S 40,S 41,S 42,S 43,S 44,S 45,S 47,S 48,S 49,S 50,S 51,S 52,S 53,S 54,S 55,S 56,S 57,S 58] } }
def Xt (s:Shared):Bool:=xlAt Q [] s&&recOk (RowW.records rW) s
def K:Frag:=(nat_lit 2,boot_o_2 P)::(nat_lit 3,zup P)::(nat_lit 15,o6)::(nat_lit 17,o8)::(nat_lit 18,o9)::(nat_lit 20,o11)::(nat_lit 21,o12)::(nat_lit 22,o13)::(nat_lit 29,o20)::(nat_lit 30,o21 P)::(nat_lit 31,o94)::(nat_lit 32,o23)::(nat_lit 35,o26)::(nat_lit 42,o33)::(nat_lit 43,o34 P)::(nat_lit 44,o35)::(nat_lit 47,o41)::(nat_lit 54,o48)::(nat_lit 55,o49 P)::(nat_lit 56,o50)::(nat_lit 59,o53)::(nat_lit 66,o60)::(nat_lit 67,o61 P)::(nat_lit 68,o62)::(nat_lit 71,o68)::(nat_lit 78,o75)::(nat_lit 79,o76 P)::(nat_lit 80,o77)::(nat_lit 83,o80)::(nat_lit 90,o87)::(nat_lit 91,o88 P)::(nat_lit 92,o89)::(nat_lit 95,o95)::(nat_lit 102,Z8)::(nat_lit 103,Z7 P)::(nat_lit 104,Z6)::(nat_lit 107,uY)::(nat_lit 114,uX)::(nat_lit 115,uW P)::(nat_lit 116,uF)::(nat_lit 119,uV)::(nat_lit 121,uU)::(nat_lit 122,uT)::(nat_lit 124,uS)::(nat_lit 125,uR)::(nat_lit 126,uQ)::(nat_lit 129,Vi)::(nat_lit 130,Vh)::(nat_lit 138,Vg)::(nat_lit 140,Vf)::(nat_lit 141,Ve)::(nat_lit 143,Vd)::(nat_lit 144,Vc)::(nat_lit 145,Vb)::(nat_lit 147,Va)::(nat_lit 148,W9)::(nat_lit 150,W8)::(nat_lit 151,W7)::(nat_lit 152,W2)::(nat_lit 154,W0)::(nat_lit 155,WZ)::(nat_lit 157,WY)::(nat_lit 158,WX)::(nat_lit 159,WV)::(nat_lit 161,WU)::(nat_lit 162,WT)::(nat_lit 164,WS)::(nat_lit 165,WR)::(nat_lit 166,WQ)::(nat_lit 168,WP)::(nat_lit 169,WO)::(nat_lit 171,WN)::(nat_lit 172,WM)::(nat_lit 173,WL)::(nat_lit 175,WK)::(nat_lit 176,WJ)::(nat_lit 178,WI)::(nat_lit 179,WH)::(nat_lit 180,WF)::(nat_lit 182,WE)::(nat_lit 183,WD)::(nat_lit 185,WC)::(nat_lit 186,WB)::(nat_lit 187,WA)::(nat_lit 189,Wz)::(nat_lit 190,Wx)::(nat_lit 192,Ww)::(nat_lit 193,Wv)::(nat_lit 194,Wu)::(nat_lit 197,Wt)::(nat_lit 198,Ws)::(nat_lit 199,Wr)::(nat_lit 201,Wq)::(nat_lit 202,Wp)::(nat_lit 204,U6)::(nat_lit 205,U5)::(nat_lit 206,U4)::(nat_lit 207,U3 P)::(nat_lit 208,U2)::(nat_lit 209,U1)::(nat_lit 210,U0)::(nat_lit 220,za6)::(nat_lit 222,za5)::(nat_lit 223,za4)::(nat_lit 225,za3)::(nat_lit 226,za2)::(nat_lit 227,za1)::(nat_lit 229,za0)::(nat_lit 230,zaZ)::(nat_lit 232,zaY)::(nat_lit 233,zaX)::(nat_lit 234,zaW)::(nat_lit 236,UZ)::(nat_lit 237,UY)::(nat_lit 239,UX)::(nat_lit 240,UW)::(nat_lit 241,UV)::(nat_lit 243,UU)::(nat_lit 244,YV)::(nat_lit 246,UT)::(nat_lit 247,US)::(nat_lit 248,UR)::(nat_lit 250,UQ)::(nat_lit 251,UP)::(nat_lit 253,UO)::(nat_lit 254,UN)::(nat_lit 255,zoY)::(nat_lit 257,zoX)::(nat_lit 258,zoW)::(nat_lit 260,zoV)::(nat_lit 261,zoU)::(nat_lit 262,zoT)::(nat_lit 264,zoS)::(nat_lit 265,zoR)::(nat_lit 267,zoQ)::(nat_lit 268,zoP)::(nat_lit 269,zoO)::(nat_lit 271,zoN)::(nat_lit 272,zoM)::(nat_lit 274,zoL)::(nat_lit 275,zoK)::(nat_lit 276,zoJ)::(nat_lit 278,zoI)::(nat_lit 279,zoH)::(nat_lit 281,zoG)::(nat_lit 282,zoF)::(nat_lit 283,zoE)::(nat_lit 285,zoD)::(nat_lit 286,zoC)::(nat_lit 288,zoB)::(nat_lit 289,zoA)::(nat_lit 290,zoz)::(nat_lit 292,zoy)::(nat_lit 293,zox)::(nat_lit 295,zow)::(nat_lit 296,zov)::(nat_lit 297,zou)::(nat_lit 299,zot)::(nat_lit 300,zos)::(nat_lit 302,zor)::(nat_lit 303,zoq)::(nat_lit 304,zop)::(nat_lit 307,zoo)::(nat_lit 308,zon)::(nat_lit 309,zom)::(nat_lit 311,zol)::(nat_lit 312,zok)::(nat_lit 314,zoj)::(nat_lit 315,zoi)::(nat_lit 316,zoh)::(nat_lit 318,zog)::(nat_lit 319,zof)::(nat_lit 321,zoe)::(nat_lit 322,zod)::(nat_lit 323,zoc)::(nat_lit 325,zob)::(nat_lit 326,zoa)::(nat_lit 328,zn9)::(nat_lit 329,zn8)::(nat_lit 330,zn7)::(nat_lit 332,zrh)::(nat_lit 333,zrg)::(nat_lit 335,zrf)::(nat_lit 336,zre)::(nat_lit 337,zrd)::(nat_lit 339,zrc)::(nat_lit 340,zrb)::(nat_lit 342,zra)::(nat_lit 343,zq9)::(nat_lit 344,zq8)::(nat_lit 346,zq7)::(nat_lit 347,zq6)::(nat_lit 349,zq5)::(nat_lit 350,zq4)::(nat_lit 351,zq3)::(nat_lit 354,zq2)::(nat_lit 355,zq1)::(nat_lit 356,zq0)::(nat_lit 357,zqZ P)::(nat_lit 358,zqY)::(nat_lit 359,zqX)::(nat_lit 360,zqW)::(nat_lit 370,zqV)::(nat_lit 371,zqU P)::(nat_lit 372,zpB)::(nat_lit 373,zqT)::(nat_lit 374,zqS)::(nat_lit 377,zqR)::(nat_lit 384,zqQ)::(nat_lit 386,zqP)::(nat_lit 387,zqO)::(nat_lit 389,zqN)::(nat_lit 390,zqM)::(nat_lit 391,zqL)::(nat_lit 393,zqK)::(nat_lit 394,zqJ)::(nat_lit 396,zqI)::(nat_lit 397,zqH)::(nat_lit 398,zqG)::(nat_lit 400,zqF)::(nat_lit 401,zqE)::(nat_lit 403,zqD)::(nat_lit 404,zqC)::(nat_lit 405,zqB)::(nat_lit 407,zqA)::(nat_lit 408,zqz)::(nat_lit 410,zqy)::(nat_lit 411,zqx)::(nat_lit 412,zqw)::(nat_lit 413,zqv P)::(nat_lit 414,zqu)::(nat_lit 417,zqt)::(nat_lit 424,zqs)::(nat_lit 426,zqr)::(nat_lit 427,zqq)::(nat_lit 429,zqp)::(nat_lit 430,zqo)::(nat_lit 431,zqn)::(nat_lit 433,zqm)::(nat_lit 434,zql)::(nat_lit 436,zqk)::(nat_lit 437,zqj)::(nat_lit 438,zqi)::(nat_lit 440,zqh)::(nat_lit 441,zqg)::(nat_lit 443,zqf)::(nat_lit 444,zqe)::(nat_lit 445,zqd)::(nat_lit 447,zqc)::(nat_lit 448,zqb)::(nat_lit 450,zqa)::(nat_lit 451,zp9)::(nat_lit 452,zp8)::(nat_lit 453,zp7 P)::(nat_lit 454,zp6)::(nat_lit 457,zp5)::(nat_lit 464,zp4)::(nat_lit 466,zp3)::(nat_lit 467,zp2)::(nat_lit 469,zp1)::(nat_lit 470,zp0)::(nat_lit 471,zpZ)::(nat_lit 473,zpY)::(nat_lit 474,zpX)::(nat_lit 476,zpW)::(nat_lit 477,zpV)::(nat_lit 478,zpU)::(nat_lit 480,zpT)::(nat_lit 481,zpS)::(nat_lit 483,zpR)::(nat_lit 484,zpQ)::(nat_lit 485,zpP)::(nat_lit 487,zpO)::(nat_lit 488,zpN)::(nat_lit 490,zpM)::(nat_lit 491,zpL)::(nat_lit 492,zpK)::(nat_lit 493,zpJ P)::(nat_lit 494,zpI)::(nat_lit 497,zpH)::(nat_lit 504,zpG)::(nat_lit 506,zpF)::(nat_lit 507,zpE)::(nat_lit 509,zpD)::(nat_lit 510,zpC)::(nat_lit 511,zxi)::(nat_lit 513,zxh)::(nat_lit 514,zxg)::(nat_lit 516,zxf)::(nat_lit 517,zxe)::(nat_lit 518,zxd)::(nat_lit 520,zxc)::(nat_lit 521,zxb)::(nat_lit 523,zxa)::(nat_lit 524,zw9)::(nat_lit 525,zw8)::(nat_lit 527,zw7)::(nat_lit 528,zw6)::(nat_lit 530,zw5)::(nat_lit 531,zw4)::(nat_lit 532,zw3)::(nat_lit 533,zw2 P)::(nat_lit 534,zw1)::(nat_lit 537,zw0)::(nat_lit 544,zwZ)::(nat_lit 546,zwY)::(nat_lit 547,zwX)::(nat_lit 549,zwW)::(nat_lit 550,zwV)::(nat_lit 551,zwU)::(nat_lit 553,zwT)::(nat_lit 554,zwS)::(nat_lit 556,zwR)::(nat_lit 557,zwQ)::(nat_lit 558,zwP)::(nat_lit 560,zwO)::(nat_lit 561,zwN)::(nat_lit 563,zwM)::(nat_lit 564,zwL)::(nat_lit 565,zwK)::(nat_lit 567,zwJ)::(nat_lit 568,zwI)::(nat_lit 570,zwH)::(nat_lit 571,zwG)::(nat_lit 572,zwF)::(nat_lit 573,zwE P)::(nat_lit 574,zwD)::(nat_lit 577,zwC)::(nat_lit 578,zwB)::(nat_lit 579,zwA)::(nat_lit 580,zwz)::(nat_lit 581,zwy)::(nat_lit 583,zwx)::(nat_lit 584,zww)::(nat_lit 586,zwv)::(nat_lit 587,zwu)::(nat_lit 588,zwt)::(nat_lit 590,zws)::(nat_lit 591,zwr)::(nat_lit 593,zwq)::(nat_lit 594,zwp)::(nat_lit 595,zwo)::(nat_lit 597,zwn)::(nat_lit 598,zwm)::(nat_lit 600,zwl)::(nat_lit 601,zwk)::(nat_lit 602,zwj)::(nat_lit 604,zwi)::(nat_lit 605,zwh)::(nat_lit 607,zwg)::(nat_lit 608,zwf)::(nat_lit 609,zwe)::(nat_lit 611,zwd)::(nat_lit 612,zwc)::(nat_lit 614,zwb)::(nat_lit 615,zwa)::(nat_lit 616,zv9)::(nat_lit 619,zv8)::(nat_lit 620,zv7)::(nat_lit 628,zv6)::(nat_lit 630,zv5)::(nat_lit 631,zv4)::(nat_lit 633,zv3)::(nat_lit 634,zv2)::(nat_lit 635,zv1)::(nat_lit 637,zv0)::(nat_lit 638,zvZ)::(nat_lit 640,zvY)::(nat_lit 641,zvX)::(nat_lit 642,zvW)::(nat_lit 644,zvV)::(nat_lit 645,zvU)::(nat_lit 647,zvT)::(nat_lit 648,zvS)::(nat_lit 649,zvR)::(nat_lit 651,zvQ)::(nat_lit 652,zvP)::(nat_lit 654,zvO)::(nat_lit 655,zvN)::(nat_lit 656,zvM)::(nat_lit 657,zvL P)::(nat_lit 658,zvK)::(nat_lit 659,zvJ)::(nat_lit 660,zvI)::(nat_lit 663,zvH)::(nat_lit 665,zvG)::(nat_lit 666,zvF)::(nat_lit 668,zvE)::(nat_lit 669,zvD)::(nat_lit 670,zvC)::(nat_lit 672,zvB)::(nat_lit 673,zvA)::(nat_lit 675,zvz)::(nat_lit 676,zvy)::(nat_lit 677,zvx)::(nat_lit 679,zvw)::(nat_lit 680,zvv)::(nat_lit 682,zvu)::(nat_lit 683,zvt)::(nat_lit 684,zvs)::(nat_lit 686,zvr)::(nat_lit 687,zvq)::(nat_lit 689,zvp)::(nat_lit 690,zvo)::(nat_lit 698,zvn)::(nat_lit 700,zvm)::(nat_lit 701,zvl)::(nat_lit 703,zvk)::(nat_lit 704,zvj)::(nat_lit 705,zvi)::(nat_lit 707,zvh)::(nat_lit 708,zvg)::(nat_lit 710,zvf)::(nat_lit 711,zve)::(nat_lit 712,zvd)::(nat_lit 714,zvc)::(nat_lit 715,zvb)::(nat_lit 717,zva)::(nat_lit 718,zu9)::(nat_lit 719,zu8)::(nat_lit 721,zu7)::(nat_lit 722,zu6)::(nat_lit 724,zu5)::(nat_lit 725,zu4)::(nat_lit 726,zu3)::(nat_lit 728,zu2)::(nat_lit 729,zu1)::(nat_lit 731,zu0)::(nat_lit 732,zuZ)::(nat_lit 733,zuY)::(nat_lit 735,zuX)::(nat_lit 736,zuW)::(nat_lit 738,zuV)::(nat_lit 739,zuU)::(nat_lit 740,zuT)::(nat_lit 742,zuS)::(nat_lit 743,zuR)::(nat_lit 745,zuQ)::(nat_lit 746,zuP)::(nat_lit 747,zuO)::(nat_lit 749,zuN)::(nat_lit 750,zuM)::(nat_lit 752,zuL)::(nat_lit 753,zuK)::(nat_lit 754,zuJ)::(nat_lit 755,zuI P)::(nat_lit 756,zuH)::(nat_lit 757,zuG)::(nat_lit 758,zuF)::(nat_lit 768,zuE)::(nat_lit 770,zuD)::(nat_lit 771,zuC)::(nat_lit 773,zuB)::(nat_lit 774,zuA)::(nat_lit 775,zuz)::(nat_lit 777,zuy)::(nat_lit 778,zux)::(nat_lit 780,zuw)::(nat_lit 781,zuv)::(nat_lit 782,zuu)::(nat_lit 784,zut)::(nat_lit 785,zus)::(nat_lit 787,zur)::(nat_lit 788,zuq)::(nat_lit 789,zuo)::(nat_lit 791,zun)::(nat_lit 792,zum)::(nat_lit 794,zul)::(nat_lit 795,zuk)::(nat_lit 796,zuj)::(nat_lit 798,zui)::(nat_lit 799,zuh)::(nat_lit 801,zug)::(nat_lit 802,zuf)::(nat_lit 803,zue)::(nat_lit 805,zud)::(nat_lit 806,zuc)::(nat_lit 808,zub)::(nat_lit 809,zua)::(nat_lit 810,zt9)::(nat_lit 812,zt8)::(nat_lit 813,zt7)::(nat_lit 815,zt6)::(nat_lit 816,zt5)::(nat_lit 817,zt4)::(nat_lit 819,zt3)::(nat_lit 820,zt2)::(nat_lit 822,zt1)::(nat_lit 823,zt0)::(nat_lit 824,ztZ)::(nat_lit 826,ztY)::(nat_lit 827,ztX)::(nat_lit 829,ztW)::(nat_lit 830,ztV)::(nat_lit 831,ztU)::(nat_lit 834,ztT)::(nat_lit 835,ztS)::(nat_lit 836,ztR)::(nat_lit 838,ztQ)::(nat_lit 839,ztP)::(nat_lit 841,ztO)::(nat_lit 842,ztN)::[]
def as:List Addr:=[2,3,15,17,18,20,21,22,29,30,31,32,35,42,43,44,47,54,55,56,59,66,67,68,71,78,79,80,83,90,91,92,95,102,103,104,107,114,115,116,119,121,122,124,125,126,129,130,138,140,141,143,144,145,147,148,150,151,152,154,155,157,158,159,161,162,164,165,166,168,169,171,172,173,175,176,178,179,180,182,183,185,186,187,189,190,192,193,194,197,198,199,201,202,204,205,206,207,208,209,210,220,222,223,225,226,227,229,230,232,233,234,236,237,239,240,241,243,244,246,247,248,250,251,253,254,255,257,258,260,261,262,264,265,267,268,269,271,272,274,275,276,278,279,281,282,283,285,286,288,289,290,292,293,295,296,297,299,300,302,303,304,307,308,309,311,312,314,315,316,318,319,321,322,323,325,326,328,329,330,332,333,335,336,337,339,340,342,343,344,346,347,349,350,351,354,355,356,357,358,359,360,370,371,372,373,374,377,384,386,387,389,390,391,393,394,396,397,398,400,401,403,404,405,407,408,410,411,412,413,414,417,424,426,427,429,430,431,433,434,436,437,438,440,441,443,444,445,447,448,450,451,452,453,454,457,464,466,467,469,470,471,473,474,476,477,478,480,481,483,484,485,487,488,490,491,492,493,494,497,504,506,507,509,510,511,513,514,516,517,518,520,521,523,524,525,527,528,530,531,532,533,534,537,544,546,547,549,550,551,553,554,556,557,558,560,561,563,564,565,567,568,570,571,572,573,574,577,578,579,580,581,583,584,586,587,588,590,591,593,594,595,597,598,600,601,602,604,605,607,608,609,611,612,614,615,616,619,620,628,630,631,633,634,635,637,638,640,641,642,644,645,647,648,649,651,652,654,655,656,657,658,659,660,663,665,666,668,669,670,672,673,675,676,677,679,680,682,683,684,686,687,689,690,698,700,701,703,704,705,707,708,710,711,712,714,715,717,718,719,721,722,724,725,726,728,729,731,732,733,735,736,738,739,740,742,743,745,746,747,749,750,752,753,754,755,756,757,758,768,770,771,773,774,775,777,778,780,781,782,784,785,787,788,789,791,792,794,795,796,798,799,801,802,803,805,806,808,809,810,812,813,815,816,817,819,820,822,823,824,826,827,829,830,831,834,835,836,838,839,841,842]
theorem asK (P:Params):as=(K P).map (·.1):=by kernel_rfl
def Ly (w:World) (os:OsState):List (Option Obj):=as.map (sf w os).heap.get?
def Ry (w:World) (_:OsState):List (Option Obj):=(K w.params).map fun p=>some p.2
theorem qy:tt (Hd.Ly,Hd.Ry)=true:=by k_qdec
theorem ry:∀ w,Fast.tw691215026958702249 w=Hd.Ry w:=fun w=>by kernel_rfl
theorem ey (w:World) (os:OsState):Hd.Ly w os=Hd.Ry w os:=(congrFun (congrFun Fast.te691215026958702249 w) os).trans (congrFun (ry w) os)
abbrev hk:Hook:=kHook K as asK
abbrev zFI:List Str:=importedModules pw.main.body
def A (w:World) (os:OsState):=openSeen Q [] zFI Xt true (sf w os)
def G (_:World) (_:OsState):=openGood Q []
def A0 (w:World) (os:OsState):=(A w os).1
def G0 (w:World) (os:OsState):=(G w os).1
theorem qA0:tt (Hd.A0,Hd.G0)=true:=by k_qdec
theorem rA0:∀ w,Fast.tw6131166808449026830 w=Hd.G0 w:=fun w=>by kernel_rfl
theorem eA0 (w:World) (os:OsState):Hd.A0 w os=Hd.G0 w os:=(congrFun (congrFun Fast.te6131166808449026830 w) os).trans (congrFun (rA0 w) os)
def A1 (w:World) (os:OsState):=(A w os).2.1
def G1 (w:World) (os:OsState):=(G w os).2.1
theorem qA1:tt (Hd.A1,Hd.G1)=true:=by k_qdec
theorem rA1:∀ w,Fast.tw7581016493306269660 w=Hd.G1 w:=fun w=>by kernel_rfl
theorem eA1 (w:World) (os:OsState):Hd.A1 w os=Hd.G1 w os:=(congrFun (congrFun Fast.te7581016493306269660 w) os).trans (congrFun (rA1 w) os)
def A2 (w:World) (os:OsState):=(A w os).2.2.1
def G2 (w:World) (os:OsState):=(G w os).2.2.1
theorem qA2:tt (Hd.A2,Hd.G2)=true:=by k_qdec
theorem rA2:∀ w,Fast.tw2900191123710467766 w=Hd.G2 w:=fun w=>by kernel_rfl
theorem eA2 (w:World) (os:OsState):Hd.A2 w os=Hd.G2 w os:=(congrFun (congrFun Fast.te2900191123710467766 w) os).trans (congrFun (rA2 w) os)
def A3 (w:World) (os:OsState):=(A w os).2.2.2.1
def G3 (w:World) (os:OsState):=(G w os).2.2.2.1
theorem qA3:tt (Hd.A3,Hd.G3)=true:=by k_qdec
theorem rA3:∀ w,Fast.tw447134267514248570 w=Hd.G3 w:=fun w=>by kernel_rfl
theorem eA3 (w:World) (os:OsState):Hd.A3 w os=Hd.G3 w os:=(congrFun (congrFun Fast.te447134267514248570 w) os).trans (congrFun (rA3 w) os)
def A4 (w:World) (os:OsState):=(A w os).2.2.2.2.1
def G4 (w:World) (os:OsState):=(G w os).2.2.2.2.1
theorem qA4:tt (Hd.A4,Hd.G4)=true:=by k_qdec
theorem rA4:∀ w,Fast.tw14409291123802741499 w=Hd.G4 w:=fun w=>by kernel_rfl
theorem eA4 (w:World) (os:OsState):Hd.A4 w os=Hd.G4 w os:=(congrFun (congrFun Fast.te14409291123802741499 w) os).trans (congrFun (rA4 w) os)
def A5 (w:World) (os:OsState):=(A w os).2.2.2.2.2.1
def G5 (w:World) (os:OsState):=(G w os).2.2.2.2.2.1
theorem qA5:tt (Hd.A5,Hd.G5)=true:=by k_qdec
theorem rA5:∀ w,Fast.tw7163156141784225904 w=Hd.G5 w:=fun w=>by kernel_rfl
theorem eA5 (w:World) (os:OsState):Hd.A5 w os=Hd.G5 w os:=(congrFun (congrFun Fast.te7163156141784225904 w) os).trans (congrFun (rA5 w) os)
def A6 (w:World) (os:OsState):=(A w os).2.2.2.2.2.2.1
def G6 (w:World) (os:OsState):=(G w os).2.2.2.2.2.2.1
theorem qA6:tt (Hd.A6,Hd.G6)=true:=by k_qdec
theorem rA6:∀ w,Fast.tw148487786646926683 w=Hd.G6 w:=fun w=>by kernel_rfl
theorem eA6 (w:World) (os:OsState):Hd.A6 w os=Hd.G6 w os:=(congrFun (congrFun Fast.te148487786646926683 w) os).trans (congrFun (rA6 w) os)
def A7 (w:World) (os:OsState):=(A w os).2.2.2.2.2.2.2.1
def G7 (w:World) (os:OsState):=(G w os).2.2.2.2.2.2.2.1
theorem qA7:tt (Hd.A7,Hd.G7)=true:=by k_qdec
theorem rA7:∀ w,Fast.tw17782257788342479682 w=Hd.G7 w:=fun w=>by kernel_rfl
theorem eA7 (w:World) (os:OsState):Hd.A7 w os=Hd.G7 w os:=(congrFun (congrFun Fast.te17782257788342479682 w) os).trans (congrFun (rA7 w) os)
def A8 (w:World) (os:OsState):=(A w os).2.2.2.2.2.2.2.2
def G8 (w:World) (os:OsState):=(G w os).2.2.2.2.2.2.2.2
theorem qA8:tt (Hd.A8,Hd.G8)=true:=by k_qdec
theorem rA8:∀ w,Fast.tw8885869309975874061 w=Hd.G8 w:=fun w=>by kernel_rfl
theorem eA8 (w:World) (os:OsState):Hd.A8 w os=Hd.G8 w os:=(congrFun (congrFun Fast.te8885869309975874061 w) os).trans (congrFun (rA8 w) os)
def Ls (w:World) (os:OsState):Bool:=staticsOk zFI (boot_heap w.params) (H1 w.params)&&namesBound pw (H1 w.params)&&gensDone (sf w os)&&laidKept (boot_heap w.params) (H1 w.params)
def Rs (_:World) (_:OsState):Bool:=true
def Lz (w:World) (_:OsState):=((boot_heap w.params).isNs mainGlobals&&(⟨[]⟩:Array GenState).size == 0,(boot_heap w.params).objs.size,(boot_heap w.params).nsMap mainGlobals "__annotations__")
def Rz (_:World) (_:OsState):Bool×Nat×Option Value:=(true,11,an)
theorem qs:tt Hd.Ls=true:=by k_qdec
theorem rs:∀ w,Fast.tw4959303863618478765 w=Hd.Rs w:=fun w=>by kernel_rfl
theorem es (w:World) (os:OsState):Hd.Ls w os=Hd.Rs w os:=(congrFun (congrFun Fast.te4959303863618478765 w) os).trans (congrFun (rs w) os)
theorem qz:tt Hd.Lz=true:=by k_qdec
theorem rz:∀ w,Fast.tw17831390912981975158 w=Hd.Rz w:=fun w=>by kernel_rfl
theorem ez (w:World) (os:OsState):Hd.Lz w os=Hd.Rz w os:=(congrFun (congrFun Fast.te17831390912981975158 w) os).trans (congrFun (rz w) os)
theorem op:opening pw=plainProg pw.main.scope.names:=by kernel_rfl
theorem fe (s:Shared):fenceModules? pw s=some s:=by kernel_rfl
theorem left:LeftO pw Q [] Xt hk.obs hk.val 13406 :=
 LeftO.of_pieces (M:=M) (m₀:=11) (ann:=an) (H₀:=boot_heap) (H₁:=H1) (boot_open op (by kernel_rfl) fe) (fun w=>ez w (start pw).1.os) run (by kernel_rfl) (fun w=>funext fun os=>looks_pair (es w os) (looks_pair
  (Prod.ext (eA0 w os) (Prod.ext (eA1 w os) (Prod.ext (eA2 w os) (Prod.ext (eA3 w os) (Prod.ext (eA4 w os) (Prod.ext (eA5 w os) (Prod.ext (eA6 w os) (Prod.ext (eA7 w os) (eA8 w os)))))))))
  (ey w os)))
theorem both {a b:Bool}(z:(a&&b)=true):a=true∧b=true:=Bool.and_eq_true_iff.mp z
end Hd
end
namespace K04
open PySem L2
open PySem.W (nsIn findIn isFn codeIn keepIn plainGet hasDictIn plainOver makesIn mroIn specialIn takesIn kitOne mg_of mg_none_of excIn)
theorem txt_mk {w:World}{K:PySem.W.Frag}{h:Heap}{mg:Str→Option Value}(X:K.In h) (G:h.Ns mainGlobals mg)
  {f_qa f_qb f_qc f_qd f_qe f_qf f_qg f_qh f_qi f_qj f_qk f_ql f_qm f_qn f_qo f_qp f_qq f_qr f_qs f_qt f_qu f_qv f_qw f_qx f_qy f_qz f_qA f_qB f_qC f_qD f_qE f_qF f_qG f_qH f_qI f_qJ f_qK f_qL f_qM f_qN f_qO f_qP f_qQ f_qR f_qS f_qT f_qU f_qV f_qW f_qX f_qY f_qZ f_qa0 f_qa1 f_qa2 f_qa3 f_qa4 f_qa5 f_qa6 f_qa7 f_qa8 f_qa9 f_qb0 f_qb1 f_qb2 f_qb3 f_qb4 c_Way c_Seat c_Num c_Name c_Two c_Mod c_Less c_Program c_Web c_NoRound c_BeatlessError c_NoHand c_NoLetter c_NoWay c_Fallen t_START_NAMES:Addr}{od_START_NAMES:Option Addr}{n_START_NAMES:Nat}{sl_START_NAMES:Array (Option Value)}{u_START_NAMES0 u_START_NAMES1:Tok}{t_SEND_NAMES:Addr}{od_SEND_NAMES:Option Addr}{n_SEND_NAMES:Nat}{sl_SEND_NAMES:Array (Option Value)}{u_SEND_NAMES0 u_SEND_NAMES1 u_SEND_NAMES2 u_SEND_NAMES3 u_SEND_NAMES4:Tok}{t_RENEW_NAMES:Addr}{od_RENEW_NAMES:Option Addr}{n_RENEW_NAMES:Nat}{sl_RENEW_NAMES:Array (Option Value)}{u_RENEW_NAMES0 u_RENEW_NAMES1 u_RENEW_NAMES2 u_RENEW_NAMES3 u_RENEW_NAMES4 u_RENEW_NAMES5 u_RENEW_NAMES6 u_RENEW_NAMES7:Tok}{t_TWO_WORDS:Addr}{od_TWO_WORDS:Option Addr}{n_TWO_WORDS:Nat}{sl_TWO_WORDS:Array (Option Value)}{u_TWO_WORDS0 u_TWO_WORDS1 u_TWO_WORDS2 u_TWO_WORDS3:Tok}{t_MOST_WORDS:Tok}{t_MOST_DEEP:Tok}{t_MOST_HANDS:Tok}{t_LAST_HAND:Tok}
  (z_len:nsIn K mainGlobals "len" = some none)
  (z_int:nsIn K mainGlobals "int" = some none)
  (z_min:nsIn K mainGlobals "min" = some none)
  (z_max:nsIn K mainGlobals "max" = some none)
  (z_range:nsIn K mainGlobals "range" = some none)
  (z_isinstance:nsIn K mainGlobals "isinstance" = some none)
  (z_list:nsIn K mainGlobals "list" = some none)
  (z_dict:nsIn K mainGlobals "dict" = some none)
  (z_abs:nsIn K mainGlobals "abs" = some none)
  (z_sorted:nsIn K mainGlobals "sorted" = some none)
  (z_str:nsIn K mainGlobals "str" = some none)
  (z_sum:nsIn K mainGlobals "sum" = some none)
  (z_bool:nsIn K mainGlobals "bool" = some none)
  (z_tuple:nsIn K mainGlobals "tuple" = some none)
  (z_set:nsIn K mainGlobals "set" = some none)
  (z_ValueError:nsIn K mainGlobals "ValueError" = some none)
  (A_Way:nsIn K mainGlobals "Way" = some (some (.ref c_Way)))
  (A_Seat:nsIn K mainGlobals "Seat" = some (some (.ref c_Seat)))
  (A_Num:nsIn K mainGlobals "Num" = some (some (.ref c_Num)))
  (A_Name:nsIn K mainGlobals "Name" = some (some (.ref c_Name)))
  (A_Two:nsIn K mainGlobals "Two" = some (some (.ref c_Two)))
  (A_Mod:nsIn K mainGlobals "Mod" = some (some (.ref c_Mod)))
  (A_Less:nsIn K mainGlobals "Less" = some (some (.ref c_Less)))
  (A_Program:nsIn K mainGlobals "Program" = some (some (.ref c_Program)))
  (A_Web:nsIn K mainGlobals "Web" = some (some (.ref c_Web)))
  (a_0:nsIn K mainGlobals "is_whole" = some (some (.ref f_qa)))
  (a_1:nsIn K mainGlobals "copied" = some (some (.ref f_qb)))
  (a_2:nsIn K mainGlobals "is_short_number" = some (some (.ref f_qc)))
  (a_3:nsIn K mainGlobals "is_word_of" = some (some (.ref f_qd)))
  (a_4:nsIn K mainGlobals "is_divisor" = some (some (.ref f_qe)))
  (a_5:nsIn K mainGlobals "are_sound" = some (some (.ref f_qf)))
  (a_6:nsIn K mainGlobals "is_sound" = some (some (.ref f_qg)))
  (a_7:nsIn K mainGlobals "count_words" = some (some (.ref f_qh)))
  (a_8:nsIn K mainGlobals "are_hands" = some (some (.ref f_qi)))
  (a_9:nsIn K mainGlobals "is_line" = some (some (.ref f_qj)))
  (a_10:nsIn K mainGlobals "are_lines" = some (some (.ref f_qk)))
  (a_11:nsIn K mainGlobals "near_by_hand" = some (some (.ref f_ql)))
  (a_12:nsIn K mainGlobals "_law_well" = some (some (.ref f_qm)))
  (a_13:nsIn K mainGlobals "_law_draw" = some (some (.ref f_qn)))
  (a_14:nsIn K mainGlobals "_law_expr" = some (some (.ref f_qo)))
  (a_15:nsIn K mainGlobals "_law_told" = some (some (.ref f_qp)))
  (a_16:nsIn K mainGlobals "_law_made" = some (some (.ref f_qq)))
  (a_17:nsIn K mainGlobals "_law_program" = some (some (.ref f_qr)))
  (a_18:nsIn K mainGlobals "_law_value" = some (some (.ref f_qs)))
  (a_19:nsIn K mainGlobals "_law_renewed" = some (some (.ref f_qt)))
  (a_20:nsIn K mainGlobals "_law_classes" = some (some (.ref f_qu)))
  (a_21:nsIn K mainGlobals "_law_right" = some (some (.ref f_qv)))
  (a_22:nsIn K mainGlobals "law" = some (some (.ref f_qw)))
  (a_23:findIn K (.ref c_Way) "__init__" = some (some (.ref f_qx)))
  (i_23:isFn K (.ref f_qx)=true)
  (a_24:findIn K (.ref c_Way) "parent_of" = some (some (.ref f_qy)))
  (i_24:isFn K (.ref f_qy)=true)
  (a_25:findIn K (.ref c_Way) "children" = some (some (.ref f_qz)))
  (i_25:isFn K (.ref f_qz)=true)
  (a_26:findIn K (.ref c_Way) "bridges_at" = some (some (.ref f_qA)))
  (i_26:isFn K (.ref f_qA)=true)
  (a_27:findIn K (.ref c_Seat) "__init__" = some (some (.ref f_qB)))
  (i_27:isFn K (.ref f_qB)=true)
  (a_28:findIn K (.ref c_Seat) "begin" = some (some (.ref f_qC)))
  (i_28:isFn K (.ref f_qC)=true)
  (a_29:findIn K (.ref c_Seat) "ended" = some (some (.ref f_qD)))
  (i_29:isFn K (.ref f_qD)=true)
  (a_30:findIn K (.ref c_Seat) "worth" = some (some (.ref f_qE)))
  (i_30:isFn K (.ref f_qE)=true)
  (a_31:findIn K (.ref c_Seat) "heard" = some (some (.ref f_qF)))
  (i_31:isFn K (.ref f_qF)=true)
  (a_32:findIn K (.ref c_Seat) "last_worth" = some (some (.ref f_qG)))
  (i_32:isFn K (.ref f_qG)=true)
  (a_33:findIn K (.ref c_Seat) "come" = some (some (.ref f_qH)))
  (i_33:isFn K (.ref f_qH)=true)
  (a_34:findIn K (.ref c_Seat) "has_come" = some (some (.ref f_qI)))
  (i_34:isFn K (.ref f_qI)=true)
  (a_35:findIn K (.ref c_Seat) "tell_each" = some (some (.ref f_qJ)))
  (i_35:isFn K (.ref f_qJ)=true)
  (a_36:findIn K (.ref c_Seat) "begin_round" = some (some (.ref f_qK)))
  (i_36:isFn K (.ref f_qK)=true)
  (a_37:findIn K (.ref c_Seat) "go_as_far_as_can_be" = some (some (.ref f_qL)))
  (i_37:isFn K (.ref f_qL)=true)
  (a_38:findIn K (.ref c_Seat) "is_let" = some (some (.ref f_qM)))
  (i_38:isFn K (.ref f_qM)=true)
  (a_39:findIn K (.ref c_Seat) "tell_through" = some (some (.ref f_qN)))
  (i_39:isFn K (.ref f_qN)=true)
  (a_40:findIn K (.ref c_Seat) "tell_all" = some (some (.ref f_qO)))
  (i_40:isFn K (.ref f_qO)=true)
  (a_41:findIn K (.ref c_Seat) "tell_clear" = some (some (.ref f_qP)))
  (i_41:isFn K (.ref f_qP)=true)
  (a_42:findIn K (.ref c_Seat) "end_round" = some (some (.ref f_qQ)))
  (i_42:isFn K (.ref f_qQ)=true)
  (a_43:findIn K (.ref c_Num) "__init__" = some (some (.ref f_qR)))
  (i_43:isFn K (.ref f_qR)=true)
  (a_44:findIn K (.ref c_Num) "reckon" = some (some (.ref f_qS)))
  (i_44:isFn K (.ref f_qS)=true)
  (a_45:findIn K (.ref c_Num) "words" = some (some (.ref f_qT)))
  (i_45:isFn K (.ref f_qT)=true)
  (a_46:findIn K (.ref c_Name) "__init__" = some (some (.ref f_qU)))
  (i_46:isFn K (.ref f_qU)=true)
  (a_47:findIn K (.ref c_Name) "reckon" = some (some (.ref f_qV)))
  (i_47:isFn K (.ref f_qV)=true)
  (a_48:findIn K (.ref c_Name) "words" = some (some (.ref f_qW)))
  (i_48:isFn K (.ref f_qW)=true)
  (a_49:findIn K (.ref c_Two) "__init__" = some (some (.ref f_qX)))
  (i_49:isFn K (.ref f_qX)=true)
  (a_50:findIn K (.ref c_Two) "reckon" = some (some (.ref f_qY)))
  (i_50:isFn K (.ref f_qY)=true)
  (a_51:findIn K (.ref c_Two) "words" = some (some (.ref f_qZ)))
  (i_51:isFn K (.ref f_qZ)=true)
  (a_52:findIn K (.ref c_Mod) "__init__" = some (some (.ref f_qa0)))
  (i_52:isFn K (.ref f_qa0)=true)
  (a_53:findIn K (.ref c_Mod) "reckon" = some (some (.ref f_qa1)))
  (i_53:isFn K (.ref f_qa1)=true)
  (a_54:findIn K (.ref c_Mod) "words" = some (some (.ref f_qa2)))
  (i_54:isFn K (.ref f_qa2)=true)
  (a_55:findIn K (.ref c_Less) "__init__" = some (some (.ref f_qa3)))
  (i_55:isFn K (.ref f_qa3)=true)
  (a_56:findIn K (.ref c_Less) "reckon" = some (some (.ref f_qa4)))
  (i_56:isFn K (.ref f_qa4)=true)
  (a_57:findIn K (.ref c_Less) "words" = some (some (.ref f_qa5)))
  (i_57:isFn K (.ref f_qa5)=true)
  (a_58:findIn K (.ref c_Program) "__init__" = some (some (.ref f_qa6)))
  (i_58:isFn K (.ref f_qa6)=true)
  (a_59:findIn K (.ref c_Program) "first_worth" = some (some (.ref f_qa7)))
  (i_59:isFn K (.ref f_qa7)=true)
  (a_60:findIn K (.ref c_Program) "word_to" = some (some (.ref f_qa8)))
  (i_60:isFn K (.ref f_qa8)=true)
  (a_61:findIn K (.ref c_Program) "next_worth" = some (some (.ref f_qa9)))
  (i_61:isFn K (.ref f_qa9)=true)
  (a_62:findIn K (.ref c_Web) "__init__" = some (some (.ref f_qb0)))
  (i_62:isFn K (.ref f_qb0)=true)
  (a_63:findIn K (.ref c_Web) "hands" = some (some (.ref f_qb1)))
  (i_63:isFn K (.ref f_qb1)=true)
  (a_64:findIn K (.ref c_Web) "lines" = some (some (.ref f_qb2)))
  (i_64:isFn K (.ref f_qb2)=true)
  (a_65:findIn K (.ref c_Web) "has_hand" = some (some (.ref f_qb3)))
  (i_65:isFn K (.ref f_qb3)=true)
  (a_66:findIn K (.ref c_Web) "neighbours" = some (some (.ref f_qb4)))
  (i_66:isFn K (.ref f_qb4)=true)
  (F_0:∃ d,Fun K "is_whole" "is_whole" VS f_qa d)
  (F_1:∃ d,Fun K "copied" "copied" VR f_qb d)
  (F_2:∃ d,Fun K "is_short_number" "is_short_number" VQ f_qc d)
  (F_3:∃ d,Fun K "is_word_of" "is_word_of" VP f_qd d)
  (F_4:∃ d,Fun K "is_divisor" "is_divisor" VO f_qe d)
  (F_5:∃ d,Fun K "are_sound" "are_sound" VN f_qf d)
  (F_6:∃ d,Fun K "is_sound" "is_sound" VM f_qg d)
  (F_7:∃ d,Fun K "count_words" "count_words" Y9 f_qh d)
  (F_8:∃ d,Fun K "are_hands" "are_hands" VL f_qi d)
  (F_9:∃ d,Fun K "is_line" "is_line" znm f_qj d)
  (F_10:∃ d,Fun K "are_lines" "are_lines" VJ f_qk d)
  (F_11:∃ d,Fun K "near_by_hand" "near_by_hand" VI f_ql d)
  (F_12:∃ d,Fun K "_law_well" "_law_well" VH f_qm d)
  (F_13:∃ d,Fun K "_law_draw" "_law_draw" VG f_qn d)
  (F_14:∃ d,Fun K "_law_expr" "_law_expr" VF f_qo d)
  (F_15:∃ d,Fun K "_law_told" "_law_told" VE f_qp d)
  (F_16:∃ d,Fun K "_law_made" "_law_made" VD f_qq d)
  (F_17:∃ d,Fun K "_law_program" "_law_program" VC f_qr d)
  (F_18:∃ d,Fun K "_law_value" "_law_value" VB f_qs d)
  (F_19:∃ d,Fun K "_law_renewed" "_law_renewed" VA f_qt d)
  (F_20:∃ d,Fun K "_law_classes" "_law_classes" Vz f_qu d)
  (F_21:∃ d,Fun K "_law_right" "_law_right" Y8 f_qv d)
  (F_22:∃ d,Fun K "law" "law" Vy f_qw d)
  (F_23:∃ d,Fun K "__init__" "Way.__init__" Vx f_qx d)
  (F_24:∃ d,Fun K "parent_of" "Way.parent_of" Vw f_qy d)
  (F_25:∃ d,Fun K "children" "Way.children" Vv f_qz d)
  (F_26:∃ d,Fun K "bridges_at" "Way.bridges_at" Ui f_qA d)
  (F_27:∃ d,Fun K "__init__" "Seat.__init__" Uh f_qB d)
  (F_28:∃ d,Fun K "begin" "Seat.begin" Ug f_qC d)
  (F_29:∃ d,Fun K "ended" "Seat.ended" Uf f_qD d)
  (F_30:∃ d,Fun K "worth" "Seat.worth" Ue f_qE d)
  (F_31:∃ d,Fun K "heard" "Seat.heard" Ud f_qF d)
  (F_32:∃ d,Fun K "last_worth" "Seat.last_worth" Uc f_qG d)
  (F_33:∃ d,Fun K "come" "Seat.come" Ub f_qH d)
  (F_34:∃ d,Fun K "has_come" "Seat.has_come" Ua f_qI d)
  (F_35:∃ d,Fun K "tell_each" "Seat.tell_each" V9 f_qJ d)
  (F_36:∃ d,Fun K "begin_round" "Seat.begin_round" V8 f_qK d)
  (F_37:∃ d,Fun K "go_as_far_as_can_be" "Seat.go_as_far_as_can_be" V7 f_qL d)
  (F_38:∃ d,Fun K "is_let" "Seat.is_let" Xa f_qM d)
  (F_39:∃ d,Fun K "tell_through" "Seat.tell_through" V6 f_qN d)
  (F_40:∃ d,Fun K "tell_all" "Seat.tell_all" V5 f_qO d)
  (F_41:∃ d,Fun K "tell_clear" "Seat.tell_clear" V4 f_qP d)
  (F_42:∃ d,Fun K "end_round" "Seat.end_round" V3 f_qQ d)
  (F_43:∃ d,Fun K "__init__" "Num.__init__" V2 f_qR d)
  (F_44:∃ d,Fun K "reckon" "Num.reckon" V1 f_qS d)
  (F_45:∃ d,Fun K "words" "Num.words" V0 f_qT d)
  (F_46:∃ d,Fun K "__init__" "Name.__init__" VZ f_qU d)
  (F_47:∃ d,Fun K "reckon" "Name.reckon" VY f_qV d)
  (F_48:∃ d,Fun K "words" "Name.words" VX f_qW d)
  (F_49:∃ d,Fun K "__init__" "Two.__init__" VW f_qX d)
  (F_50:∃ d,Fun K "reckon" "Two.reckon" VU f_qY d)
  (F_51:∃ d,Fun K "words" "Two.words" VT f_qZ d)
  (F_52:∃ d,Fun K "__init__" "Mod.__init__" Zv f_qa0 d)
  (F_53:∃ d,Fun K "reckon" "Mod.reckon" Zu f_qa1 d)
  (F_54:∃ d,Fun K "words" "Mod.words" Zs f_qa2 d)
  (F_55:∃ d,Fun K "__init__" "Less.__init__" Zr f_qa3 d)
  (F_56:∃ d,Fun K "reckon" "Less.reckon" Zq f_qa4 d)
  (F_57:∃ d,Fun K "words" "Less.words" Zp f_qa5 d)
  (F_58:∃ d,Fun K "__init__" "Program.__init__" Zo f_qa6 d)
  (F_59:∃ d,Fun K "first_worth" "Program.first_worth" v7 f_qa7 d)
  (F_60:∃ d,Fun K "word_to" "Program.word_to" We f_qa8 d)
  (F_61:∃ d,Fun K "next_worth" "Program.next_worth" v6 f_qa9 d)
  (F_62:∃ d,Fun K "__init__" "Web.__init__" Zn f_qb0 d)
  (F_63:∃ d,Fun K "hands" "Web.hands" Zm f_qb1 d)
  (F_64:∃ d,Fun K "lines" "Web.lines" Wd f_qb2 d)
  (F_65:∃ d,Fun K "has_hand" "Web.has_hand" Zl f_qb3 d)
  (F_66:∃ d,Fun K "neighbours" "Web.neighbours" Zk f_qb4 d)
  (pg_Way:plainGet K c_Way Str.empty=true)
  (hd_Way:hasDictIn K c_Way=true)
  (po_Way:plainOver K c_Way=true)
  (sa_Way:findIn K (.ref c_Way) "__setattr__" = some (some (.builtin "object.__setattr__")))
  (mk_Way:makesIn K c_Way=true)
  (kc_Way:keepIn K (.ref c_Way)=true)
  (ha_Way:findIn K (.ref c_Way) "__class__" = some (some (.builtin "object.__class__")))
  (hm_Way:mroIn K c_Way (.type "object")=some true)
  (na_Way_own_parents:findIn K (.ref c_Way) "own_parents" = some none)
  (na_Way_own_bridges:findIn K (.ref c_Way) "own_bridges" = some none)
  (pg_Seat:plainGet K c_Seat Str.empty=true)
  (hd_Seat:hasDictIn K c_Seat=true)
  (po_Seat:plainOver K c_Seat=true)
  (sa_Seat:findIn K (.ref c_Seat) "__setattr__" = some (some (.builtin "object.__setattr__")))
  (mk_Seat:makesIn K c_Seat=true)
  (kc_Seat:keepIn K (.ref c_Seat)=true)
  (ha_Seat:findIn K (.ref c_Seat) "__class__" = some (some (.builtin "object.__class__")))
  (hm_Seat:mroIn K c_Seat (.type "object")=some true)
  (na_Seat_web:findIn K (.ref c_Seat) "web" = some none)
  (na_Seat_way:findIn K (.ref c_Seat) "way" = some none)
  (na_Seat_program:findIn K (.ref c_Seat) "program" = some none)
  (na_Seat_rounds:findIn K (.ref c_Seat) "rounds" = some none)
  (na_Seat_me:findIn K (.ref c_Seat) "me" = some none)
  (na_Seat_near:findIn K (.ref c_Seat) "near" = some none)
  (na_Seat_above:findIn K (.ref c_Seat) "above" = some none)
  (na_Seat_below:findIn K (.ref c_Seat) "below" = some none)
  (na_Seat_across:findIn K (.ref c_Seat) "across" = some none)
  (na_Seat_worths:findIn K (.ref c_Seat) "worths" = some none)
  (na_Seat_pairs_heard:findIn K (.ref c_Seat) "pairs_heard" = some none)
  (na_Seat_mail:findIn K (.ref c_Seat) "mail" = some none)
  (na_Seat_turn:findIn K (.ref c_Seat) "turn" = some none)
  (na_Seat_awaited:findIn K (.ref c_Seat) "awaited" = some none)
  (na_Seat_did:findIn K (.ref c_Seat) "did" = some none)
  (pg_Num:plainGet K c_Num Str.empty=true)
  (hd_Num:hasDictIn K c_Num=true)
  (po_Num:plainOver K c_Num=true)
  (sa_Num:findIn K (.ref c_Num) "__setattr__" = some (some (.builtin "object.__setattr__")))
  (mk_Num:makesIn K c_Num=true)
  (kc_Num:keepIn K (.ref c_Num)=true)
  (ha_Num:findIn K (.ref c_Num) "__class__" = some (some (.builtin "object.__class__")))
  (hm_Num:mroIn K c_Num (.type "object")=some true)
  (na_Num_value:findIn K (.ref c_Num) "value" = some none)
  (pg_Name:plainGet K c_Name Str.empty=true)
  (hd_Name:hasDictIn K c_Name=true)
  (po_Name:plainOver K c_Name=true)
  (sa_Name:findIn K (.ref c_Name) "__setattr__" = some (some (.builtin "object.__setattr__")))
  (mk_Name:makesIn K c_Name=true)
  (kc_Name:keepIn K (.ref c_Name)=true)
  (ha_Name:findIn K (.ref c_Name) "__class__" = some (some (.builtin "object.__class__")))
  (hm_Name:mroIn K c_Name (.type "object")=some true)
  (na_Name_word:findIn K (.ref c_Name) "word" = some none)
  (pg_Two:plainGet K c_Two Str.empty=true)
  (hd_Two:hasDictIn K c_Two=true)
  (po_Two:plainOver K c_Two=true)
  (sa_Two:findIn K (.ref c_Two) "__setattr__" = some (some (.builtin "object.__setattr__")))
  (mk_Two:makesIn K c_Two=true)
  (kc_Two:keepIn K (.ref c_Two)=true)
  (ha_Two:findIn K (.ref c_Two) "__class__" = some (some (.builtin "object.__class__")))
  (hm_Two:mroIn K c_Two (.type "object")=some true)
  (na_Two_word:findIn K (.ref c_Two) "word" = some none)
  (na_Two_one:findIn K (.ref c_Two) "one" = some none)
  (na_Two_other:findIn K (.ref c_Two) "other" = some none)
  (pg_Mod:plainGet K c_Mod Str.empty=true)
  (hd_Mod:hasDictIn K c_Mod=true)
  (po_Mod:plainOver K c_Mod=true)
  (sa_Mod:findIn K (.ref c_Mod) "__setattr__" = some (some (.builtin "object.__setattr__")))
  (mk_Mod:makesIn K c_Mod=true)
  (kc_Mod:keepIn K (.ref c_Mod)=true)
  (ha_Mod:findIn K (.ref c_Mod) "__class__" = some (some (.builtin "object.__class__")))
  (hm_Mod:mroIn K c_Mod (.type "object")=some true)
  (na_Mod_inner:findIn K (.ref c_Mod) "inner" = some none)
  (na_Mod_number:findIn K (.ref c_Mod) "number" = some none)
  (pg_Less:plainGet K c_Less Str.empty=true)
  (hd_Less:hasDictIn K c_Less=true)
  (po_Less:plainOver K c_Less=true)
  (sa_Less:findIn K (.ref c_Less) "__setattr__" = some (some (.builtin "object.__setattr__")))
  (mk_Less:makesIn K c_Less=true)
  (kc_Less:keepIn K (.ref c_Less)=true)
  (ha_Less:findIn K (.ref c_Less) "__class__" = some (some (.builtin "object.__class__")))
  (hm_Less:mroIn K c_Less (.type "object")=some true)
  (na_Less_one:findIn K (.ref c_Less) "one" = some none)
  (na_Less_other:findIn K (.ref c_Less) "other" = some none)
  (na_Less_third:findIn K (.ref c_Less) "third" = some none)
  (na_Less_fourth:findIn K (.ref c_Less) "fourth" = some none)
  (pg_Program:plainGet K c_Program Str.empty=true)
  (hd_Program:hasDictIn K c_Program=true)
  (po_Program:plainOver K c_Program=true)
  (sa_Program:findIn K (.ref c_Program) "__setattr__" = some (some (.builtin "object.__setattr__")))
  (mk_Program:makesIn K c_Program=true)
  (kc_Program:keepIn K (.ref c_Program)=true)
  (ha_Program:findIn K (.ref c_Program) "__class__" = some (some (.builtin "object.__class__")))
  (hm_Program:mroIn K c_Program (.type "object")=some true)
  (na_Program_start:findIn K (.ref c_Program) "start" = some none)
  (na_Program_send:findIn K (.ref c_Program) "send" = some none)
  (na_Program_when:findIn K (.ref c_Program) "when" = some none)
  (na_Program_renew:findIn K (.ref c_Program) "renew" = some none)
  (pg_Web:plainGet K c_Web Str.empty=true)
  (hd_Web:hasDictIn K c_Web=true)
  (po_Web:plainOver K c_Web=true)
  (sa_Web:findIn K (.ref c_Web) "__setattr__" = some (some (.builtin "object.__setattr__")))
  (mk_Web:makesIn K c_Web=true)
  (kc_Web:keepIn K (.ref c_Web)=true)
  (ha_Web:findIn K (.ref c_Web) "__class__" = some (some (.builtin "object.__class__")))
  (hm_Web:mroIn K c_Web (.type "object")=some true)
  (na_Web_own_hands:findIn K (.ref c_Web) "own_hands" = some none)
  (na_Web_own_lines:findIn K (.ref c_Web) "own_lines" = some none)
  (na_Web_near:findIn K (.ref c_Web) "near" = some none)
  (hn:specialIn K (.builtin "object.__class__") "__get__" = some (some (.builtin "getset_descriptor.__get__")))
  (htk:takesIn K (.builtin "object.__class__")=some true)
  (A_NoHand:nsIn K mainGlobals "NoHand" = some (some (.ref c_NoHand)))
  (A_NoLetter:nsIn K mainGlobals "NoLetter" = some (some (.ref c_NoLetter)))
  (A_NoWay:nsIn K mainGlobals "NoWay" = some (some (.ref c_NoWay)))
  (A_Fallen:nsIn K mainGlobals "Fallen" = some (some (.ref c_Fallen)))
  (A_NoRound:nsIn K mainGlobals "NoRound" = some (some (.ref c_NoRound)))
  (X_NoRound:excIn K c_NoRound vS "ValueError.__new__" = true)
  (A_BeatlessError:nsIn K mainGlobals "BeatlessError" = some (some (.ref c_BeatlessError)))
  (X_BeatlessError:excIn K c_BeatlessError vS "ValueError.__new__" = true)
  (xga_NoRound:findIn K (.ref c_NoRound) "__getattribute__" = some (some (.builtin "BaseException.__getattribute__")))
  (xgt_NoRound:findIn K (.ref c_NoRound) "__getattr__" = some none)
  (xha_NoRound:findIn K (.ref c_NoRound) "__class__" = some (some (.builtin "object.__class__")))
  (xhm_NoRound:mroIn K c_NoRound (.type "object")=some true)
  (xhb_NoRound:mroIn K c_NoRound (.type "BaseException")=some true)
  (xhd_NoRound:hasDictIn K c_NoRound=true)
  (Y_NoRound_BeatlessError:zbc K c_NoRound c_BeatlessError=some true)
  (k_Num_Num:kitOne K (.ref c_Num) (.ref c_Num)=some true)
  (k_Name_Num:kitOne K (.ref c_Name) (.ref c_Num)=some false)
  (k_Name_Name:kitOne K (.ref c_Name) (.ref c_Name)=some true)
  (k_Two_Num:kitOne K (.ref c_Two) (.ref c_Num)=some false)
  (k_Two_Name:kitOne K (.ref c_Two) (.ref c_Name)=some false)
  (k_Two_Two:kitOne K (.ref c_Two) (.ref c_Two)=some true)
  (k_Mod_Num:kitOne K (.ref c_Mod) (.ref c_Num)=some false)
  (k_Mod_Name:kitOne K (.ref c_Mod) (.ref c_Name)=some false)
  (k_Mod_Two:kitOne K (.ref c_Mod) (.ref c_Two)=some false)
  (k_Mod_Mod:kitOne K (.ref c_Mod) (.ref c_Mod)=some true)
  (k_Less_Num:kitOne K (.ref c_Less) (.ref c_Num)=some false)
  (k_Less_Name:kitOne K (.ref c_Less) (.ref c_Name)=some false)
  (k_Less_Two:kitOne K (.ref c_Less) (.ref c_Two)=some false)
  (k_Less_Mod:kitOne K (.ref c_Less) (.ref c_Mod)=some false)
  (k_Less_Less:kitOne K (.ref c_Less) (.ref c_Less)=some true)
  (k_tint_tint:kitOne K (.type "int") (.type "int")=some true)
  (k_tint_tbool:kitOne K (.type "int") (.type "bool")=some false)
  (k_tstr_tstr:kitOne K (.type "str") (.type "str")=some true)
  (k_ttuple_ttuple:kitOne K (.type "tuple") (.type "tuple")=some true)
  (k_tint_ttuple:kitOne K (.type "int") (.type "tuple")=some false)
  (k_tstr_ttuple:kitOne K (.type "str") (.type "tuple")=some false)
  (k_tint_tstr:kitOne K (.type "int") (.type "str")=some false)
  (k_tstr_tint:kitOne K (.type "str") (.type "int")=some false)
  (k_tstr_tbool:kitOne K (.type "str") (.type "bool")=some false)
  (k_Program_Program:kitOne K (.ref c_Program) (.ref c_Program)=some true)
  (k_tNoneType_tbool:kitOne K (.type "NoneType") (.type "bool")=some false)
  (k_tlist_tlist:kitOne K (.type "list") (.type "list")=some true)
  (k_ttuple_tlist:kitOne K (.type "tuple") (.type "list")=some false)
  (k_tdict_tlist:kitOne K (.type "dict") (.type "list")=some false)
  (k_tdict_ttuple:kitOne K (.type "dict") (.type "tuple")=some false)
  (k_tdict_tdict:kitOne K (.type "dict") (.type "dict")=some true)
  (k_tint_tlist:kitOne K (.type "int") (.type "list")=some false)
  (k_tint_tdict:kitOne K (.type "int") (.type "dict")=some false)
  (k_tNoneType_tlist:kitOne K (.type "NoneType") (.type "list")=some false)
  (k_tNoneType_ttuple:kitOne K (.type "NoneType") (.type "tuple")=some false)
  (k_tNoneType_tdict:kitOne K (.type "NoneType") (.type "dict")=some false)
  (k_tNoneType_tint:kitOne K (.type "NoneType") (.type "int")=some false)
  (k_Way_Way:kitOne K (.ref c_Way) (.ref c_Way)=some true)
  (k_tbool_tbool:kitOne K (.type "bool") (.type "bool")=some true)
  (k_NoRound_NoHand:kitOne K (.ref c_NoRound) (.ref c_NoHand)=some false)
  (k_NoRound_NoLetter:kitOne K (.ref c_NoRound) (.ref c_NoLetter)=some false)
  (k_NoRound_NoWay:kitOne K (.ref c_NoRound) (.ref c_NoWay)=some false)
  (k_NoRound_Fallen:kitOne K (.ref c_NoRound) (.ref c_Fallen)=some false)
  (k_NoRound_tValueError:kitOne K (.ref c_NoRound) (.type "ValueError")=some true)
  (k_NoRound_NoRound:kitOne K (.ref c_NoRound) (.ref c_NoRound)=some true)
  (k_tbool_tint:kitOne K (.type "bool") (.type "int")=some true)
  (k_ttuple_tint:kitOne K (.type "tuple") (.type "int")=some false)
  (k_tlist_tint:kitOne K (.type "list") (.type "int")=some false)
  (k_tbool_tstr:kitOne K (.type "bool") (.type "str")=some false)
  (k_tNoneType_tstr:kitOne K (.type "NoneType") (.type "str")=some false)
  (k_ttuple_tbool:kitOne K (.type "tuple") (.type "bool")=some false)
  (k_ttuple_tstr:kitOne K (.type "tuple") (.type "str")=some false)
  (k_tlist_tbool:kitOne K (.type "list") (.type "bool")=some false)
  (k_tlist_tstr:kitOne K (.type "list") (.type "str")=some false)
  (G_START_NAMES:nsIn K mainGlobals "START_NAMES" = some (some (.ref t_START_NAMES)))
  (L_START_NAMES:K.lookup t_START_NAMES=some ⟨.type "tuple",od_START_NAMES,.seq #[.str "me" u_START_NAMES0,.str "lines" u_START_NAMES1] n_START_NAMES,sl_START_NAMES⟩)
  (G_SEND_NAMES:nsIn K mainGlobals "SEND_NAMES" = some (some (.ref t_SEND_NAMES)))
  (L_SEND_NAMES:K.lookup t_SEND_NAMES=some ⟨.type "tuple",od_SEND_NAMES,.seq #[.str "worth" u_SEND_NAMES0,.str "me" u_SEND_NAMES1,.str "round" u_SEND_NAMES2,.str "lines" u_SEND_NAMES3,.str "to" u_SEND_NAMES4] n_SEND_NAMES,sl_SEND_NAMES⟩)
  (G_RENEW_NAMES:nsIn K mainGlobals "RENEW_NAMES" = some (some (.ref t_RENEW_NAMES)))
  (L_RENEW_NAMES:K.lookup t_RENEW_NAMES=some ⟨.type "tuple",od_RENEW_NAMES,.seq #[.str "worth" u_RENEW_NAMES0,.str "me" u_RENEW_NAMES1,.str "round" u_RENEW_NAMES2,.str "lines" u_RENEW_NAMES3,.str "sum" u_RENEW_NAMES4,.str "least" u_RENEW_NAMES5,.str "most" u_RENEW_NAMES6,.str "count" u_RENEW_NAMES7] n_RENEW_NAMES,sl_RENEW_NAMES⟩)
  (G_TWO_WORDS:nsIn K mainGlobals "TWO_WORDS" = some (some (.ref t_TWO_WORDS)))
  (L_TWO_WORDS:K.lookup t_TWO_WORDS=some ⟨.type "tuple",od_TWO_WORDS,.seq #[.str "add" u_TWO_WORDS0,.str "sub" u_TWO_WORDS1,.str "min" u_TWO_WORDS2,.str "max" u_TWO_WORDS3] n_TWO_WORDS,sl_TWO_WORDS⟩)
  (G_MOST_WORDS:nsIn K mainGlobals "MOST_WORDS" = some (some (.int 60 t_MOST_WORDS)))
  (G_MOST_DEEP:nsIn K mainGlobals "MOST_DEEP" = some (some (.int 8 t_MOST_DEEP)))
  (G_MOST_HANDS:nsIn K mainGlobals "MOST_HANDS" = some (some (.int 12 t_MOST_HANDS)))
  (G_LAST_HAND:nsIn K mainGlobals "LAST_HAND" = some (some (.int 99 t_LAST_HAND))) :
  ∃ a:Ad,Txt w K mg a:=by
 obtain⟨d0,F0⟩:=F_0
 obtain⟨d1,F1⟩:=F_1
 obtain⟨d2,F2⟩:=F_2
 obtain⟨d3,F3⟩:=F_3
 obtain⟨d4,F4⟩:=F_4
 obtain⟨d5,F5⟩:=F_5
 obtain⟨d6,F6⟩:=F_6
 obtain⟨d7,F7⟩:=F_7
 obtain⟨d8,F8⟩:=F_8
 obtain⟨d9,F9⟩:=F_9
 obtain⟨d10,F10⟩:=F_10
 obtain⟨d11,F11⟩:=F_11
 obtain⟨d12,F12⟩:=F_12
 obtain⟨d13,F13⟩:=F_13
 obtain⟨d14,F14⟩:=F_14
 obtain⟨d15,F15⟩:=F_15
 obtain⟨d16,F16⟩:=F_16
 obtain⟨d17,F17⟩:=F_17
 obtain⟨d18,F18⟩:=F_18
 obtain⟨d19,F19⟩:=F_19
 obtain⟨d20,F20⟩:=F_20
 obtain⟨d21,F21⟩:=F_21
 obtain⟨d22,F22⟩:=F_22
 obtain⟨d23,F23⟩:=F_23
 obtain⟨d24,F24⟩:=F_24
 obtain⟨d25,F25⟩:=F_25
 obtain⟨d26,F26⟩:=F_26
 obtain⟨d27,F27⟩:=F_27
 obtain⟨d28,F28⟩:=F_28
 obtain⟨d29,F29⟩:=F_29
 obtain⟨d30,F30⟩:=F_30
 obtain⟨d31,F31⟩:=F_31
 obtain⟨d32,F32⟩:=F_32
 obtain⟨d33,F33⟩:=F_33
 obtain⟨d34,F34⟩:=F_34
 obtain⟨d35,F35⟩:=F_35
 obtain⟨d36,F36⟩:=F_36
 obtain⟨d37,F37⟩:=F_37
 obtain⟨d38,F38⟩:=F_38
 obtain⟨d39,F39⟩:=F_39
 obtain⟨d40,F40⟩:=F_40
 obtain⟨d41,F41⟩:=F_41
 obtain⟨d42,F42⟩:=F_42
 obtain⟨d43,F43⟩:=F_43
 obtain⟨d44,F44⟩:=F_44
 obtain⟨d45,F45⟩:=F_45
 obtain⟨d46,F46⟩:=F_46
 obtain⟨d47,F47⟩:=F_47
 obtain⟨d48,F48⟩:=F_48
 obtain⟨d49,F49⟩:=F_49
 obtain⟨d50,F50⟩:=F_50
 obtain⟨d51,F51⟩:=F_51
 obtain⟨d52,F52⟩:=F_52
 obtain⟨d53,F53⟩:=F_53
 obtain⟨d54,F54⟩:=F_54
 obtain⟨d55,F55⟩:=F_55
 obtain⟨d56,F56⟩:=F_56
 obtain⟨d57,F57⟩:=F_57
 obtain⟨d58,F58⟩:=F_58
 obtain⟨d59,F59⟩:=F_59
 obtain⟨d60,F60⟩:=F_60
 obtain⟨d61,F61⟩:=F_61
 obtain⟨d62,F62⟩:=F_62
 obtain⟨d63,F63⟩:=F_63
 obtain⟨d64,F64⟩:=F_64
 obtain⟨d65,F65⟩:=F_65
 obtain⟨d66,F66⟩:=F_66
 refine⟨⟨f_qa,d0,f_qb,d1,f_qc,d2,f_qd,d3,f_qe,d4,f_qf,d5,f_qg,d6,f_qh,d7,f_qi,d8,f_qj,d9,f_qk,d10,f_ql,d11,f_qm,d12,f_qn,d13,f_qo,d14,f_qp,d15,f_qq,d16,f_qr,d17,f_qs,d18,f_qt,d19,f_qu,d20,f_qv,d21,f_qw,d22,f_qx,d23,f_qy,d24,f_qz,d25,f_qA,d26,f_qB,d27,f_qC,d28,f_qD,d29,f_qE,d30,f_qF,d31,f_qG,d32,f_qH,d33,f_qI,d34,f_qJ,d35,f_qK,d36,f_qL,d37,f_qM,d38,f_qN,d39,f_qO,d40,f_qP,d41,f_qQ,d42,f_qR,d43,f_qS,d44,f_qT,d45,f_qU,d46,f_qV,d47,f_qW,d48,f_qX,d49,f_qY,d50,f_qZ,d51,f_qa0,d52,f_qa1,d53,f_qa2,d54,f_qa3,d55,f_qa4,d56,f_qa5,d57,f_qa6,d58,f_qa7,d59,f_qa8,d60,f_qa9,d61,f_qb0,d62,f_qb1,d63,f_qb2,d64,f_qb3,d65,f_qb4,d66,c_Way,c_Seat,c_Num,c_Name,c_Two,c_Mod,c_Less,c_Program,c_Web,c_NoRound,c_BeatlessError,c_NoHand,c_NoLetter,c_NoWay,c_Fallen,t_START_NAMES,t_SEND_NAMES,t_RENEW_NAMES,t_TWO_WORDS,t_MOST_WORDS,t_MOST_DEEP,t_MOST_HANDS,t_LAST_HAND⟩,?_⟩
 exact⟨mg_none_of X G z_len,
  mg_none_of X G z_int,
  mg_none_of X G z_min,
  mg_none_of X G z_max,
  mg_none_of X G z_range,
  mg_none_of X G z_isinstance,
  mg_none_of X G z_list,
  mg_none_of X G z_dict,
  mg_none_of X G z_abs,
  mg_none_of X G z_sorted,
  mg_none_of X G z_str,
  mg_none_of X G z_sum,
  mg_none_of X G z_bool,
  mg_none_of X G z_tuple,
  mg_none_of X G z_set,
  mg_none_of X G z_ValueError,
  F0,
  F0.binds fun _ _ _ _ _ _ us hl=>match us,hl with | [_],_=>rfl,
  mg_of X G a_0,
  F1,
  F1.binds fun _ _ _ _ _ _ us hl=>match us,hl with | [_],_=>rfl,
  mg_of X G a_1,
  F2,
  F2.binds fun _ _ _ _ _ _ us hl=>match us,hl with | [_],_=>rfl,
  mg_of X G a_2,
  F3,
  F3.binds fun _ _ _ _ _ _ us hl=>match us,hl with | [_,_],_=>rfl,
  mg_of X G a_3,
  F4,
  F4.binds fun _ _ _ _ _ _ us hl=>match us,hl with | [_],_=>rfl,
  mg_of X G a_4,
  F5,
  F5.binds fun _ _ _ _ _ _ us hl=>match us,hl with | [_,_,_],_=>rfl,
  mg_of X G a_5,
  F6,
  F6.binds fun _ _ _ _ _ _ us hl=>match us,hl with | [_,_,_],_=>rfl,
  mg_of X G a_6,
  F7,
  F7.binds fun _ _ _ _ _ _ us hl=>match us,hl with | [_],_=>rfl,
  mg_of X G a_7,
  F8,
  F8.binds fun _ _ _ _ _ _ us hl=>match us,hl with | [_],_=>rfl,
  mg_of X G a_8,
  F9,
  F9.binds fun _ _ _ _ _ _ us hl=>match us,hl with | [_,_],_=>rfl,
  mg_of X G a_9,
  F10,
  F10.binds fun _ _ _ _ _ _ us hl=>match us,hl with | [_,_],_=>rfl,
  mg_of X G a_10,
  F11,
  F11.binds fun _ _ _ _ _ _ us hl=>match us,hl with | [_,_],_=>rfl,
  mg_of X G a_11,
  F12,
  F12.binds fun _ _ _ _ _ _ us hl=>match us,hl with | [_],_=>rfl,
  mg_of X G a_12,
  F13,
  F13.binds fun _ _ _ _ _ _ us hl=>match us,hl with | [_,_],_=>rfl,
  mg_of X G a_13,
  F14,
  F14.binds fun _ _ _ _ _ _ us hl=>match us,hl with | [_,_,_],_=>rfl,
  mg_of X G a_14,
  F15,
  F15.binds fun _ _ _ _ _ _ us hl=>match us,hl with | [_],_=>rfl,
  mg_of X G a_15,
  F16,
  F16.binds fun _ _ _ _ _ _ us hl=>match us,hl with | [_],_=>rfl,
  mg_of X G a_16,
  F17,
  F17.binds fun _ _ _ _ _ _ us hl=>match us,hl with | [_],_=>rfl,
  mg_of X G a_17,
  F18,
  F18.binds fun _ _ _ _ _ _ us hl=>match us,hl with | [_,_],_=>rfl,
  mg_of X G a_18,
  F19,
  F19.binds fun _ _ _ _ _ _ us hl=>match us,hl with | [_,_,_,_,_,_],_=>rfl,
  mg_of X G a_19,
  F20,
  F20.binds fun _ _ _ _ _ _ us hl=>match us,hl with | [_,_,_],_=>rfl,
  mg_of X G a_20,
  F21,
  F21.binds fun _ _ _ _ _ _ us hl=>match us,hl with | [_],_=>rfl,
  mg_of X G a_21,
  F22,
  F22.binds fun _ _ _ _ _ _ us hl=>match us,hl with | [_],_=>rfl,
  by obtain⟨_,_,_,_,_,_,_,_,_,rfl,_,_⟩:=F22.ex;exact fun s v=>.of_eq rfl,
  mg_of X G a_22,
  F23,
  F23.binds fun _ _ _ _ _ _ us hl=>match us,hl with | [_,_,_],_=>rfl,
  F24,
  F24.binds fun _ _ _ _ _ _ us hl=>match us,hl with | [_,_],_=>rfl,
  ⟨a_24,i_24,F24.kp⟩,
  F25,
  F25.binds fun _ _ _ _ _ _ us hl=>match us,hl with | [_,_],_=>rfl,
  ⟨a_25,i_25,F25.kp⟩,
  F26,
  F26.binds fun _ _ _ _ _ _ us hl=>match us,hl with | [_,_],_=>rfl,
  ⟨a_26,i_26,F26.kp⟩,
  F27,
  F27.binds fun _ _ _ _ _ _ us hl=>match us,hl with | [_,_,_,_,_,_],_=>rfl,
  F28,
  F28.binds fun _ _ _ _ _ _ us hl=>match us,hl with | [_],_=>rfl,
  ⟨a_28,i_28,F28.kp⟩,
  F29,
  F29.binds fun _ _ _ _ _ _ us hl=>match us,hl with | [_],_=>rfl,
  ⟨a_29,i_29,F29.kp⟩,
  F30,
  F30.binds fun _ _ _ _ _ _ us hl=>match us,hl with | [_,_],_=>rfl,
  ⟨a_30,i_30,F30.kp⟩,
  F31,
  F31.binds fun _ _ _ _ _ _ us hl=>match us,hl with | [_,_],_=>rfl,
  ⟨a_31,i_31,F31.kp⟩,
  F32,
  F32.binds fun _ _ _ _ _ _ us hl=>match us,hl with | [_],_=>rfl,
  ⟨a_32,i_32,F32.kp⟩,
  F33,
  F33.binds fun _ _ _ _ _ _ us hl=>match us,hl with | [_,_],_=>rfl,
  ⟨a_33,i_33,F33.kp⟩,
  F34,
  F34.binds fun _ _ _ _ _ _ us hl=>match us,hl with | [_,_,_],_=>rfl,
  ⟨a_34,i_34,F34.kp⟩,
  F35,
  F35.binds fun _ _ _ _ _ _ us hl=>match us,hl with | [_,_,_],_=>rfl,
  ⟨a_35,i_35,F35.kp⟩,
  F36,
  F36.binds fun _ _ _ _ _ _ us hl=>match us,hl with | [_],_=>rfl,
  ⟨a_36,i_36,F36.kp⟩,
  F37,
  F37.binds fun _ _ _ _ _ _ us hl=>match us,hl with | [_],_=>rfl,
  ⟨a_37,i_37,F37.kp⟩,
  F38,
  F38.binds fun _ _ _ _ _ _ us hl=>match us,hl with | [_,_,_],_=>rfl,
  ⟨a_38,i_38,F38.kp⟩,
  F39,
  F39.binds fun _ _ _ _ _ _ us hl=>match us,hl with | [_],_=>rfl,
  ⟨a_39,i_39,F39.kp⟩,
  F40,
  F40.binds fun _ _ _ _ _ _ us hl=>match us,hl with | [_],_=>rfl,
  ⟨a_40,i_40,F40.kp⟩,
  F41,
  F41.binds fun _ _ _ _ _ _ us hl=>match us,hl with | [_],_=>rfl,
  ⟨a_41,i_41,F41.kp⟩,
  F42,
  F42.binds fun _ _ _ _ _ _ us hl=>match us,hl with | [_],_=>rfl,
  ⟨a_42,i_42,F42.kp⟩,
  F43,
  F43.binds fun _ _ _ _ _ _ us hl=>match us,hl with | [_,_],_=>rfl,
  F44,
  F44.binds fun _ _ _ _ _ _ us hl=>match us,hl with | [_,_],_=>rfl,
  ⟨a_44,i_44,F44.kp⟩,
  F45,
  F45.binds fun _ _ _ _ _ _ us hl=>match us,hl with | [_],_=>rfl,
  ⟨a_45,i_45,F45.kp⟩,
  F46,
  F46.binds fun _ _ _ _ _ _ us hl=>match us,hl with | [_,_],_=>rfl,
  F47,
  F47.binds fun _ _ _ _ _ _ us hl=>match us,hl with | [_,_],_=>rfl,
  ⟨a_47,i_47,F47.kp⟩,
  F48,
  F48.binds fun _ _ _ _ _ _ us hl=>match us,hl with | [_],_=>rfl,
  ⟨a_48,i_48,F48.kp⟩,
  F49,
  F49.binds fun _ _ _ _ _ _ us hl=>match us,hl with | [_,_,_,_],_=>rfl,
  F50,
  F50.binds fun _ _ _ _ _ _ us hl=>match us,hl with | [_,_],_=>rfl,
  ⟨a_50,i_50,F50.kp⟩,
  F51,
  F51.binds fun _ _ _ _ _ _ us hl=>match us,hl with | [_],_=>rfl,
  ⟨a_51,i_51,F51.kp⟩,
  F52,
  F52.binds fun _ _ _ _ _ _ us hl=>match us,hl with | [_,_,_],_=>rfl,
  F53,
  F53.binds fun _ _ _ _ _ _ us hl=>match us,hl with | [_,_],_=>rfl,
  ⟨a_53,i_53,F53.kp⟩,
  F54,
  F54.binds fun _ _ _ _ _ _ us hl=>match us,hl with | [_],_=>rfl,
  ⟨a_54,i_54,F54.kp⟩,
  F55,
  F55.binds fun _ _ _ _ _ _ us hl=>match us,hl with | [_,_,_,_,_],_=>rfl,
  F56,
  F56.binds fun _ _ _ _ _ _ us hl=>match us,hl with | [_,_],_=>rfl,
  ⟨a_56,i_56,F56.kp⟩,
  F57,
  F57.binds fun _ _ _ _ _ _ us hl=>match us,hl with | [_],_=>rfl,
  ⟨a_57,i_57,F57.kp⟩,
  F58,
  F58.binds fun _ _ _ _ _ _ us hl=>match us,hl with | [_,_,_,_,_],_=>rfl,
  F59,
  F59.binds fun _ _ _ _ _ _ us hl=>match us,hl with | [_,_,_],_=>rfl,
  ⟨a_59,i_59,F59.kp⟩,
  F60,
  F60.binds fun _ _ _ _ _ _ us hl=>match us,hl with | [_,_,_,_,_,_],_=>rfl,
  ⟨a_60,i_60,F60.kp⟩,
  F61,
  F61.binds fun _ _ _ _ _ _ us hl=>match us,hl with | [_,_,_,_,_,_],_=>rfl,
  ⟨a_61,i_61,F61.kp⟩,
  F62,
  F62.binds fun _ _ _ _ _ _ us hl=>match us,hl with | [_,_,_],_=>rfl,
  F63,
  F63.binds fun _ _ _ _ _ _ us hl=>match us,hl with | [_],_=>rfl,
  ⟨a_63,i_63,F63.kp⟩,
  F64,
  F64.binds fun _ _ _ _ _ _ us hl=>match us,hl with | [_],_=>rfl,
  ⟨a_64,i_64,F64.kp⟩,
  F65,
  F65.binds fun _ _ _ _ _ _ us hl=>match us,hl with | [_,_],_=>rfl,
  ⟨a_65,i_65,F65.kp⟩,
  F66,
  F66.binds fun _ _ _ _ _ _ us hl=>match us,hl with | [_,_],_=>rfl,
  ⟨a_66,i_66,F66.kp⟩,
  mg_of X G A_Way,
  ⟨pg_Way,hd_Way,po_Way,sa_Way⟩,
  ⟨mk_Way,a_23,i_23,kc_Way⟩,
  fun H p dx fs e=>.ins e ⟨pg_Way,hd_Way,po_Way,sa_Way⟩ ha_Way hn htk hm_Way,
  na_Way_own_parents,
  na_Way_own_bridges,
  mg_of X G A_Seat,
  ⟨pg_Seat,hd_Seat,po_Seat,sa_Seat⟩,
  ⟨mk_Seat,a_27,i_27,kc_Seat⟩,
  fun H p dx fs e=>.ins e ⟨pg_Seat,hd_Seat,po_Seat,sa_Seat⟩ ha_Seat hn htk hm_Seat,
  na_Seat_web,
  na_Seat_way,
  na_Seat_program,
  na_Seat_rounds,
  na_Seat_me,
  na_Seat_near,
  na_Seat_above,
  na_Seat_below,
  na_Seat_across,
  na_Seat_worths,
  na_Seat_pairs_heard,
  na_Seat_mail,
  na_Seat_turn,
  na_Seat_awaited,
  na_Seat_did,
  mg_of X G A_Num,
  ⟨pg_Num,hd_Num,po_Num,sa_Num⟩,
  ⟨mk_Num,a_43,i_43,kc_Num⟩,
  fun H p dx fs e=>.ins e ⟨pg_Num,hd_Num,po_Num,sa_Num⟩ ha_Num hn htk hm_Num,
  na_Num_value,
  mg_of X G A_Name,
  ⟨pg_Name,hd_Name,po_Name,sa_Name⟩,
  ⟨mk_Name,a_46,i_46,kc_Name⟩,
  fun H p dx fs e=>.ins e ⟨pg_Name,hd_Name,po_Name,sa_Name⟩ ha_Name hn htk hm_Name,
  na_Name_word,
  mg_of X G A_Two,
  ⟨pg_Two,hd_Two,po_Two,sa_Two⟩,
  ⟨mk_Two,a_49,i_49,kc_Two⟩,
  fun H p dx fs e=>.ins e ⟨pg_Two,hd_Two,po_Two,sa_Two⟩ ha_Two hn htk hm_Two,
  na_Two_word,
  na_Two_one,
  na_Two_other,
  mg_of X G A_Mod,
  ⟨pg_Mod,hd_Mod,po_Mod,sa_Mod⟩,
  ⟨mk_Mod,a_52,i_52,kc_Mod⟩,
  fun H p dx fs e=>.ins e ⟨pg_Mod,hd_Mod,po_Mod,sa_Mod⟩ ha_Mod hn htk hm_Mod,
  na_Mod_inner,
  na_Mod_number,
  mg_of X G A_Less,
  ⟨pg_Less,hd_Less,po_Less,sa_Less⟩,
  ⟨mk_Less,a_55,i_55,kc_Less⟩,
  fun H p dx fs e=>.ins e ⟨pg_Less,hd_Less,po_Less,sa_Less⟩ ha_Less hn htk hm_Less,
  na_Less_one,
  na_Less_other,
  na_Less_third,
  na_Less_fourth,
  mg_of X G A_Program,
  ⟨pg_Program,hd_Program,po_Program,sa_Program⟩,
  ⟨mk_Program,a_58,i_58,kc_Program⟩,
  fun H p dx fs e=>.ins e ⟨pg_Program,hd_Program,po_Program,sa_Program⟩ ha_Program hn htk hm_Program,
  na_Program_start,
  na_Program_send,
  na_Program_when,
  na_Program_renew,
  mg_of X G A_Web,
  ⟨pg_Web,hd_Web,po_Web,sa_Web⟩,
  ⟨mk_Web,a_62,i_62,kc_Web⟩,
  fun H p dx fs e=>.ins e ⟨pg_Web,hd_Web,po_Web,sa_Web⟩ ha_Web hn htk hm_Web,
  na_Web_own_hands,
  na_Web_own_lines,
  na_Web_near,
  k_Num_Num,
  k_Name_Num,
  k_Name_Name,
  k_Two_Num,
  k_Two_Name,
  k_Two_Two,
  k_Mod_Num,
  k_Mod_Name,
  k_Mod_Two,
  k_Mod_Mod,
  k_Less_Num,
  k_Less_Name,
  k_Less_Two,
  k_Less_Mod,
  k_Less_Less,
  k_tint_tint,
  k_tint_tbool,
  k_tstr_tstr,
  k_ttuple_ttuple,
  k_tint_ttuple,
  k_tstr_ttuple,
  k_tint_tstr,
  k_tstr_tint,
  k_tstr_tbool,
  k_Program_Program,
  k_tNoneType_tbool,
  k_tlist_tlist,
  k_ttuple_tlist,
  k_tdict_tlist,
  k_tdict_ttuple,
  k_tdict_tdict,
  k_tint_tlist,
  k_tint_tdict,
  k_tNoneType_tlist,
  k_tNoneType_ttuple,
  k_tNoneType_tdict,
  k_tNoneType_tint,
  k_Way_Way,
  k_tbool_tbool,
  k_NoRound_NoHand,
  k_NoRound_NoLetter,
  k_NoRound_NoWay,
  k_NoRound_Fallen,
  k_NoRound_tValueError,
  k_NoRound_NoRound,
  k_tbool_tint,
  k_ttuple_tint,
  k_tlist_tint,
  k_tbool_tstr,
  k_tNoneType_tstr,
  k_ttuple_tbool,
  k_ttuple_tstr,
  k_tlist_tbool,
  k_tlist_tstr,
  mg_of X G G_START_NAMES,
  fun H=>.inr ⟨_,_,_,L_START_NAMES,rfl,rfl,by show 2≤sizeLine;decide,by exact .cons ⟨_,rfl⟩ (.cons ⟨_,rfl⟩ (.nil))⟩,
  mg_of X G G_SEND_NAMES,
  fun H=>.inr ⟨_,_,_,L_SEND_NAMES,rfl,rfl,by show 5≤sizeLine;decide,by exact .cons ⟨_,rfl⟩ (.cons ⟨_,rfl⟩ (.cons ⟨_,rfl⟩ (.cons ⟨_,rfl⟩ (.cons ⟨_,rfl⟩ (.nil)))))⟩,
  mg_of X G G_RENEW_NAMES,
  fun H=>.inr ⟨_,_,_,L_RENEW_NAMES,rfl,rfl,by show 8≤sizeLine;decide,by exact .cons ⟨_,rfl⟩ (.cons ⟨_,rfl⟩ (.cons ⟨_,rfl⟩ (.cons ⟨_,rfl⟩ (.cons ⟨_,rfl⟩ (.cons ⟨_,rfl⟩ (.cons ⟨_,rfl⟩ (.cons ⟨_,rfl⟩ (.nil))))))))⟩,
  mg_of X G G_TWO_WORDS,
  fun H=>.inr ⟨_,_,_,L_TWO_WORDS,rfl,rfl,by show 4≤sizeLine;decide,by exact .cons ⟨_,rfl⟩ (.cons ⟨_,rfl⟩ (.cons ⟨_,rfl⟩ (.cons ⟨_,rfl⟩ (.nil))))⟩,
  mg_of X G G_MOST_WORDS,
  mg_of X G G_MOST_DEEP,
  mg_of X G G_MOST_HANDS,
  mg_of X G G_LAST_HAND,
  mg_of X G A_NoRound,
  X_NoRound,
  mg_of X G A_BeatlessError,
  X_BeatlessError,
  mg_of X G A_NoHand,
  mg_of X G A_NoLetter,
  mg_of X G A_NoWay,
  mg_of X G A_Fallen,
  ⟨xga_NoRound,xgt_NoRound,xha_NoRound,hn,htk,xhm_NoRound,xhb_NoRound,xhd_NoRound⟩,
  Y_NoRound_BeatlessError⟩
end K04
open PySem PySem.W PyProof.Rows
set_option maxRecDepth 100000 in
set_option maxHeartbeats 0 in
theorem PySem.Challenge.cw_beatless_k40_one_hand_alone_holds : PySem.Challenge.rw_beatless_k40_one_hand_alone.Holds := by
 w_on;o_law
 refine holds_open (XP:=XL Hd.Q []) (YP:=(kHook Hd.K Hd.as Hd.asK).says) Hd.left Hd.hk.of Hd.hk.keeps
  (fun s z=>xl_of s (Hd.both z).1) XL.keeps (by rfl) (by rfl) (by rfl)
  (fun s z=>recFacts_of (Hd.both z).2) (by rfl) (by assumption) (by decide +kernel)
  ⟨rfl,rfl,rfl,rfl,rfl,by decide +kernel⟩ ?hw ?hc
 case hw=>w_witness2
 k_fill
 refine L2.walk_ofK (l:=PySem.Challenge.rw_beatless_k40_one_hand_alone) (n:=63) (k:=26) (x := "_law_script") (CX:=L2.CX0) (sp:=K04.spLaw) rfl (by decide) rfl ⟨rfl,by decide,by decide⟩ (fun w h Y=>PySem.W.kIn_of Y) ?F ?S ?C
 case F =>
  intro w mg fa h KX G hmg
  have T:∃ a,K04.Txt w (L2.KOf KX) mg a:=by
   dsimp only[L2.KOf]
   refine' K04.txt_mk KX G ?z_len ?z_int ?z_min ?z_max ?z_range ?z_isinstance ?z_list ?z_dict ?z_abs ?z_sorted ?z_str ?z_sum ?z_bool ?z_tuple ?z_set ?z_ValueError ?A_Way ?A_Seat ?A_Num ?A_Name ?A_Two ?A_Mod ?A_Less ?A_Program ?A_Web ?a_0 ?a_1 ?a_2 ?a_3 ?a_4 ?a_5 ?a_6 ?a_7 ?a_8 ?a_9 ?a_10 ?a_11 ?a_12 ?a_13 ?a_14 ?a_15 ?a_16 ?a_17 ?a_18 ?a_19 ?a_20 ?a_21 ?a_22 ?a_23 ?i_23 ?a_24 ?i_24 ?a_25 ?i_25 ?a_26 ?i_26 ?a_27 ?i_27 ?a_28 ?i_28 ?a_29 ?i_29 ?a_30 ?i_30 ?a_31 ?i_31 ?a_32 ?i_32 ?a_33 ?i_33 ?a_34 ?i_34 ?a_35 ?i_35 ?a_36 ?i_36 ?a_37 ?i_37 ?a_38 ?i_38 ?a_39 ?i_39 ?a_40 ?i_40 ?a_41 ?i_41 ?a_42 ?i_42 ?a_43 ?i_43 ?a_44 ?i_44 ?a_45 ?i_45 ?a_46 ?i_46 ?a_47 ?i_47 ?a_48 ?i_48 ?a_49 ?i_49 ?a_50 ?i_50 ?a_51 ?i_51 ?a_52 ?i_52 ?a_53 ?i_53 ?a_54 ?i_54 ?a_55 ?i_55 ?a_56 ?i_56 ?a_57 ?i_57 ?a_58 ?i_58 ?a_59 ?i_59 ?a_60 ?i_60 ?a_61 ?i_61 ?a_62 ?i_62 ?a_63 ?i_63 ?a_64 ?i_64 ?a_65 ?i_65 ?a_66 ?i_66 ?F_0 ?F_1 ?F_2 ?F_3 ?F_4 ?F_5 ?F_6 ?F_7 ?F_8 ?F_9 ?F_10 ?F_11 ?F_12 ?F_13 ?F_14 ?F_15 ?F_16 ?F_17 ?F_18 ?F_19 ?F_20 ?F_21 ?F_22 ?F_23 ?F_24 ?F_25 ?F_26 ?F_27 ?F_28 ?F_29 ?F_30 ?F_31 ?F_32 ?F_33 ?F_34 ?F_35 ?F_36 ?F_37 ?F_38 ?F_39 ?F_40 ?F_41 ?F_42 ?F_43 ?F_44 ?F_45 ?F_46 ?F_47 ?F_48 ?F_49 ?F_50 ?F_51 ?F_52 ?F_53 ?F_54 ?F_55 ?F_56 ?F_57 ?F_58 ?F_59 ?F_60 ?F_61 ?F_62 ?F_63 ?F_64 ?F_65 ?F_66 ?pg_Way ?hd_Way ?po_Way ?sa_Way ?mk_Way ?kc_Way ?ha_Way ?hm_Way ?na_Way_own_parents ?na_Way_own_bridges ?pg_Seat ?hd_Seat ?po_Seat ?sa_Seat ?mk_Seat ?kc_Seat ?ha_Seat ?hm_Seat ?na_Seat_web ?na_Seat_way ?na_Seat_program ?na_Seat_rounds ?na_Seat_me ?na_Seat_near ?na_Seat_above ?na_Seat_below ?na_Seat_across ?na_Seat_worths ?na_Seat_pairs_heard ?na_Seat_mail ?na_Seat_turn ?na_Seat_awaited ?na_Seat_did ?pg_Num ?hd_Num ?po_Num ?sa_Num ?mk_Num ?kc_Num ?ha_Num ?hm_Num ?na_Num_value ?pg_Name ?hd_Name ?po_Name ?sa_Name ?mk_Name ?kc_Name ?ha_Name ?hm_Name ?na_Name_word ?pg_Two ?hd_Two ?po_Two ?sa_Two ?mk_Two ?kc_Two ?ha_Two ?hm_Two ?na_Two_word ?na_Two_one ?na_Two_other ?pg_Mod ?hd_Mod ?po_Mod ?sa_Mod ?mk_Mod ?kc_Mod ?ha_Mod ?hm_Mod ?na_Mod_inner ?na_Mod_number ?pg_Less ?hd_Less ?po_Less ?sa_Less ?mk_Less ?kc_Less ?ha_Less ?hm_Less ?na_Less_one ?na_Less_other ?na_Less_third ?na_Less_fourth ?pg_Program ?hd_Program ?po_Program ?sa_Program ?mk_Program ?kc_Program ?ha_Program ?hm_Program ?na_Program_start ?na_Program_send ?na_Program_when ?na_Program_renew ?pg_Web ?hd_Web ?po_Web ?sa_Web ?mk_Web ?kc_Web ?ha_Web ?hm_Web ?na_Web_own_hands ?na_Web_own_lines ?na_Web_near ?hn ?htk ?A_NoHand ?A_NoLetter ?A_NoWay ?A_Fallen ?A_NoRound ?X_NoRound ?A_BeatlessError ?X_BeatlessError ?xga_NoRound ?xgt_NoRound ?xha_NoRound ?xhm_NoRound ?xhb_NoRound ?xhd_NoRound ?Y_NoRound_BeatlessError ?k_Num_Num ?k_Name_Num ?k_Name_Name ?k_Two_Num ?k_Two_Name ?k_Two_Two ?k_Mod_Num ?k_Mod_Name ?k_Mod_Two ?k_Mod_Mod ?k_Less_Num ?k_Less_Name ?k_Less_Two ?k_Less_Mod ?k_Less_Less ?k_tint_tint ?k_tint_tbool ?k_tstr_tstr ?k_ttuple_ttuple ?k_tint_ttuple ?k_tstr_ttuple ?k_tint_tstr ?k_tstr_tint ?k_tstr_tbool ?k_Program_Program ?k_tNoneType_tbool ?k_tlist_tlist ?k_ttuple_tlist ?k_tdict_tlist ?k_tdict_ttuple ?k_tdict_tdict ?k_tint_tlist ?k_tint_tdict ?k_tNoneType_tlist ?k_tNoneType_ttuple ?k_tNoneType_tdict ?k_tNoneType_tint ?k_Way_Way ?k_tbool_tbool ?k_NoRound_NoHand ?k_NoRound_NoLetter ?k_NoRound_NoWay ?k_NoRound_Fallen ?k_NoRound_tValueError ?k_NoRound_NoRound ?k_tbool_tint ?k_ttuple_tint ?k_tlist_tint ?k_tbool_tstr ?k_tNoneType_tstr ?k_ttuple_tbool ?k_ttuple_tstr ?k_tlist_tbool ?k_tlist_tstr ?G_START_NAMES ?L_START_NAMES ?G_SEND_NAMES ?L_SEND_NAMES ?G_RENEW_NAMES ?L_RENEW_NAMES ?G_TWO_WORDS ?L_TWO_WORDS ?G_MOST_WORDS ?G_MOST_DEEP ?G_MOST_HANDS ?G_LAST_HAND
   (case z_len|z_int|z_min|z_max|z_range|z_isinstance|z_list|z_dict|z_abs|z_sorted|z_str|z_sum|z_bool|z_tuple|z_set|z_ValueError|A_Way|A_Seat|A_Num|A_Name|A_Two|A_Mod|A_Less|A_Program|A_Web|a_0|a_1|a_2|a_3|a_4|a_5|a_6|a_7|a_8|a_9|a_10|a_11|a_12|a_13|a_14|a_15|a_16|a_17|a_18|a_19|a_20|a_21|a_22|a_23|i_23|a_24|i_24|a_25|i_25|a_26|i_26|a_27|i_27|a_28|i_28=>k_is)
   (case a_29|i_29|a_30|i_30|a_31|i_31|a_32|i_32|a_33|i_33|a_34|i_34|a_35|i_35|a_36|i_36|a_37|i_37|a_38|i_38|a_39|i_39|a_40|i_40|a_41|i_41|a_42|i_42|a_43|i_43|a_44|i_44|a_45|i_45|a_46|i_46|a_47|i_47|a_48|i_48|a_49|i_49|a_50|i_50|a_51|i_51|a_52|i_52|a_53|i_53|a_54|i_54|a_55|i_55|a_56|i_56|a_57|i_57|a_58|i_58=>k_is)
   (case a_59|i_59|a_60|i_60|a_61|i_61|a_62|i_62|a_63|i_63|a_64|i_64|a_65|i_65|a_66|i_66=>k_is)
   (case F_0|F_1|F_2|F_3|F_4|F_5|F_6|F_7|F_8|F_9|F_10|F_11|F_12|F_13|F_14|F_15|F_16|F_17|F_18|F_19|F_20|F_21|F_22|F_23|F_24|F_25|F_26|F_27|F_28|F_29|F_30|F_31|F_32|F_33|F_34|F_35|F_36|F_37|F_38|F_39|F_40|F_41|F_42|F_43|F_44|F_45|F_46|F_47|F_48|F_49|F_50|F_51|F_52|F_53|F_54|F_55|F_56|F_57|F_58|F_59=>exact⟨_,L2.fun_mk (by k_is) (by k_is) (by k_is)⟩)
   (case F_60|F_61|F_62|F_63|F_64|F_65|F_66=>exact⟨_,L2.fun_mk (by k_is) (by k_is) (by k_is)⟩)
   (case pg_Way|hd_Way|po_Way|sa_Way|mk_Way|kc_Way|ha_Way|hm_Way|na_Way_own_parents|na_Way_own_bridges|pg_Seat|hd_Seat|po_Seat|sa_Seat|mk_Seat|kc_Seat|ha_Seat|hm_Seat|na_Seat_web|na_Seat_way|na_Seat_program|na_Seat_rounds|na_Seat_me|na_Seat_near|na_Seat_above|na_Seat_below|na_Seat_across|na_Seat_worths|na_Seat_pairs_heard|na_Seat_mail|na_Seat_turn|na_Seat_awaited|na_Seat_did|pg_Num|hd_Num|po_Num|sa_Num|mk_Num|kc_Num|ha_Num|hm_Num|na_Num_value|pg_Name|hd_Name|po_Name|sa_Name|mk_Name|kc_Name|ha_Name|hm_Name|na_Name_word|pg_Two|hd_Two|po_Two|sa_Two|mk_Two|kc_Two|ha_Two|hm_Two|na_Two_word=>k_is)
   (case na_Two_one|na_Two_other|pg_Mod|hd_Mod|po_Mod|sa_Mod|mk_Mod|kc_Mod|ha_Mod|hm_Mod|na_Mod_inner|na_Mod_number|pg_Less|hd_Less|po_Less|sa_Less|mk_Less|kc_Less|ha_Less|hm_Less|na_Less_one|na_Less_other|na_Less_third|na_Less_fourth|pg_Program|hd_Program|po_Program|sa_Program|mk_Program|kc_Program|ha_Program|hm_Program|na_Program_start|na_Program_send|na_Program_when|na_Program_renew|pg_Web|hd_Web|po_Web|sa_Web|mk_Web|kc_Web|ha_Web|hm_Web|na_Web_own_hands|na_Web_own_lines|na_Web_near|hn|htk|A_NoHand|A_NoLetter|A_NoWay|A_Fallen|A_NoRound=>k_is)
   (case X_NoRound=>k_exc)
   (case A_BeatlessError=>k_is)
   (case X_BeatlessError=>k_exc)
   (case xga_NoRound|xgt_NoRound|xha_NoRound|xhm_NoRound|xhb_NoRound|xhd_NoRound=>k_is)
   (case Y_NoRound_BeatlessError=>kernel_rfl)
   (case k_Num_Num|k_Name_Num|k_Name_Name|k_Two_Num|k_Two_Name|k_Two_Two|k_Mod_Num|k_Mod_Name|k_Mod_Two|k_Mod_Mod|k_Less_Num|k_Less_Name|k_Less_Two|k_Less_Mod|k_Less_Less|k_tint_tint|k_tint_tbool|k_tstr_tstr|k_ttuple_ttuple|k_tint_ttuple|k_tstr_ttuple|k_tint_tstr|k_tstr_tint|k_tstr_tbool|k_Program_Program|k_tNoneType_tbool|k_tlist_tlist|k_ttuple_tlist|k_tdict_tlist|k_tdict_ttuple|k_tdict_tdict|k_tint_tlist|k_tint_tdict|k_tNoneType_tlist|k_tNoneType_ttuple|k_tNoneType_tdict|k_tNoneType_tint|k_Way_Way|k_tbool_tbool|k_NoRound_NoHand|k_NoRound_NoLetter|k_NoRound_NoWay|k_NoRound_Fallen|k_NoRound_tValueError|k_NoRound_NoRound|k_tbool_tint|k_ttuple_tint|k_tlist_tint|k_tbool_tstr|k_tNoneType_tstr|k_ttuple_tbool|k_ttuple_tstr|k_tlist_tbool|k_tlist_tstr=>kit_is)
   (case G_START_NAMES|L_START_NAMES|G_SEND_NAMES|L_SEND_NAMES|G_RENEW_NAMES|L_RENEW_NAMES|G_TWO_WORDS|L_TWO_WORDS|G_MOST_WORDS|G_MOST_DEEP|G_MOST_HANDS|G_LAST_HAND=>k_is)
  obtain⟨a,T⟩:=T
  have e0:=hmg.symm.trans T.g_qw
  cases e0
  exact⟨_,T.b0_qw,fun base kb nb=>K04.ok_law T⟩
 case S=>exact fun K H a ns hl hO hS=>K04.sp_law_of hl hO hS
 case C=>exact fun _ _ _ _ z=>z