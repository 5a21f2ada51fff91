import PyProof.Rows.All
import Wide.All
import OpenK.AllK
import Wide.FinOn
import PySem.Challenge.RW_beatless_k12_whole_texts_read
import Lean
import PyProof.EqAt
import PyProof.EqKinds
import PyProof.TupleCall
import PyProof.ZipIter
import PyProof.WalksMore
import KE.KRevSl
import KE.KIntText
import KE.KRevIter
import PyProof.Draws
import PyProof.EnumFor
import PyProof.EnumStmt
import PyProof.AttrMissHeap
import PyProof.DictUpdate
import PyProof.Rows.StrFacts2
import PyProof.StrLawsTight
import PyProof.StrLawsChain
set_option Elab.async false
set_option linter.all false
set_option maxRecDepth 100000
noncomputable section
namespace L2
open PySem PySem.Spec PyProof.Rows
abbrev Key:=Sum Int Str
noncomputable def ZH:Key→Value→Bool
 |.inl k,v=>Value.isInt k v
 |.inr x,v=>Value.isStrOf x v
noncomputable def zqA (w:World):Key→Int
 |.inl k=>hashInt k
 |.inr x=>hashStr w x
theorem zI:∀ {k:Key}{v:Value},ZH k v=true→(∃ i t,k=Sum.inl i∧v=Value.int i t)∨(∃ x t,k=Sum.inr x∧v=Value.str x t)
 |.inl i,v,h=>by
  obtain⟨t,e⟩:=Value.isInt_shape (k:=i) (v:=v) h
  exact .inl ⟨i,t,rfl,e⟩
 |.inr x,v,h=>by
  obtain⟨t,e⟩:=Value.isStrOf_shape (x:=x) (v:=v) h
  exact .inr ⟨x,t,rfl,e⟩
theorem Xy (i:Int) (t:Tok):ZH (.inl i) (.int i t)=true:=by simp[ZH,Value.isInt]
theorem Xx (x:Str) (t:Tok):ZH (.inr x) (.str x t)=true:=by simp[ZH,Value.isStrOf]
theorem zdA (a b:Int):decide ((Sum.inl a:Key)=Sum.inl b)=(a == b):=by
 by_cases e:a=b
 ·subst e;simp
 ·have h:¬ (Sum.inl a:Key)=Sum.inl b:=fun q=>e (Sum.inl.inj q)
  rw[decide_eq_false h]
  exact(beq_eq_false_iff_ne.mpr e).symm
theorem zdx (a b:Str):decide ((Sum.inr a:Key)=Sum.inr b)=decide (a=b):=by
 by_cases e:a=b
 ·subst e;simp
 ·have h:¬ (Sum.inr a:Key)=Sum.inr b:=fun q=>e (Sum.inr.inj q)
  rw[decide_eq_false h,decide_eq_false e]
theorem zdz (a:Int) (b:Str):decide ((Sum.inl a:Key)=Sum.inr b)=false:=decide_eq_false (fun q=>nomatch q)
theorem zdy (a:Str) (b:Int):decide ((Sum.inr a:Key)=Sum.inl b)=false:=decide_eq_false (fun q=>nomatch q)
noncomputable def ya (prog:Program) (w:World):PySem.KeyKind prog w Key where
 is:=ZH
 hash:=zqA w
 inj:=fun v a b ha hb=>by
  rcases zI ha with⟨i,t,rfl,rfl⟩ | ⟨x,t,rfl,rfl⟩
  ·rcases zI hb with⟨j,u,rfl,e⟩ | ⟨y,u,rfl,e⟩
   ·injection e with e1 _;rw[e1]
   ·exact nomatch e
  ·rcases zI hb with⟨j,u,rfl,e⟩ | ⟨y,u,rfl,e⟩
   ·exact nomatch e
   ·injection e with e1 _;rw[e1]
 byValue:=fun k v h=>by
  rcases zI h with⟨i,t,rfl,rfl⟩ | ⟨x,t,rfl,rfl⟩<;>rfl
 pyHash:=fun hv h=>by
  rcases zI hv with⟨i,t,rfl,rfl⟩ | ⟨x,t,rfl,rfl⟩
  ·exact wpAny_pyHash_int h
  ·exact wpAny_pyHash_str h
 eqBool:=fun hu hv h=>by
  rcases zI hu with⟨i,t,rfl,rfl⟩ | ⟨x,t,rfl,rfl⟩
  ·rcases zI hv with⟨j,u,rfl,rfl⟩ | ⟨y,u,rfl,rfl⟩
   ·rw[zdA] at h;exact wpAny_eqBool_int h
   ·rw[zdz] at h;exact SeqAt.EqAt.int_str i t y u _ _ _ _ h
  ·rcases zI hv with⟨j,u,rfl,rfl⟩ | ⟨y,u,rfl,rfl⟩
   ·rw[zdy] at h;exact SeqAt.EqAt.str_int x t j u _ _ _ _ h
   ·rw[zdx] at h;exact wpAny_eqBool_str h
 «strs»:=fun k x t v h=>by
  rcases zI h with⟨i,u,rfl,e⟩ | ⟨y,u,rfl,e⟩
  ·exact nomatch e
  ·injection e with e1 _
   subst e1
   cases v<;>rfl
theorem ul (prog:Program) (w:World) (i:Int) (t:Tok):(ya prog w).is (.inl i) (.int i t)=true:=Xy i t
theorem uk (prog:Program) (w:World) (x:Str) (t:Tok):(ya prog w).is (.inr x) (.str x t)=true:=Xx x t
end L2
namespace L2
open PySem PySem.Spec PyProof.Rows
inductive V where
 |non | bl (b:Bool) | int (i:Int) | str (x:Str) | byt (b:Array UInt8) | flt (b:UInt64) | ref (a:Addr) | ty (n:String)
 deriving DecidableEq
def RelV:V→Value→Prop
 |.non,u=>u=Value.none
 |.bl b,u=>u=Value.bool b
 |.int i,u=>∃ t,u=Value.int i t
 |.str x,u=>∃ t,u=Value.str x t
 |.byt b,u=>∃ t,u=Value.bytes b t
 |.flt b,u=>∃ t,u=Value.float b t
 |.ref a,u=>u=Value.ref a
 |.ty n,u=>u=Value.type n
abbrev Vals:List V→List Value→Prop:=Paired RelV
theorem Vals.length {xs:List V}{us:List Value}(r:Vals xs us):xs.length=us.length:=Paired.length r
theorem Vals.get:∀ {xs:List V}{us:List Value}{i:Nat}{x:V},Vals xs us→xs[i]?=some x→∃ u,us[i]?=some u∧RelV x u
 |_,_,_,_,.nil,e=>by simp at e
 |_,_,0,_,.cons r _,e=>by simp at e;subst e;exact⟨_,rfl,r⟩
 |_,_,i+1,x,.cons _ t,e=>by
  obtain⟨u,h1,h2⟩:=Vals.get (i:=i) (x:=x) t (by simpa using e)
  exact⟨u,by simpa using h1,h2⟩
theorem Vals.set {x:V}{u:Value}(r:RelV x u):∀ {xs:List V}{us:List Value}(i:Nat),Vals xs us→Vals (xs.set i x) (us.set i u)
 |_,_,_,.nil=>.nil
 |_,_,0,.cons _ t=>.cons r t
 |_,_,i+1,.cons q t=>.cons q (Vals.set r i t)
theorem Vals.append:∀ {xs ys:List V}{us ws:List Value},Vals xs us→Vals ys ws→Vals (xs++ys) (us++ws)
 |_,_,_,_,.nil,s=>s
 |_,_,_,_,.cons r t,s=>.cons r (Vals.append t s)
theorem Vals.take:∀ {xs:List V}{us:List Value}(n:Nat),Vals xs us→Vals (xs.take n) (us.take n)
 |_,_,0,_=>.nil
 |_,_,_+1,.nil=>.nil
 |_,_,n+1,.cons r t=>.cons r (Vals.take n t)
theorem Vals.drop:∀ {xs:List V}{us:List Value}(n:Nat),Vals xs us→Vals (xs.drop n) (us.drop n)
 |_,_,0,r=>r
 |_,_,_+1,.nil=>.nil
 |_,_,n+1,.cons _ t=>Vals.drop n t
def RelO:Option V→Option Value→Prop
 |some v,some u=>RelV v u
 |none,none=>True
 |_,_=>False
def KV {κ:Type}:List (κ×V)→List (κ×Value)→Prop:=Paired fun(p:κ×V) (q:κ×Value)=>p.1=q.1∧RelV p.2 q.2
noncomputable def kV:Key→V
 |.inl i=>.int i
 |.inr x=>.str x
inductive HO where
 /-- a list -/
 |lst (xs:List V)
 /-- a tuple (never changes) -/
 |tup (xs:List V)
 /-- a dict whose keys are ints and texts;one whose keys are tuples of ints and texts (the empty one is both) -/
 |dK (kvs:List (Key×V)) | dT (kvs:List (List Key×V))
 /-- a set of ints: its members,its size -/
 |set (S:Int→Bool) (n:Nat)
 /-- an instance of the class at C,its dict at dx,its attributes -/
 |ins (C dx:Addr) (fs:List (Str×V))
 /-- the dict of the instance at x -/
 |own (x:Addr)
 /-- the dict of an exception -/
 |xd (fs:List (Str×V))
 /-- a bound method,f of x -/
 |met (f x:Addr)
 /-- a range object lo,lo+1,.. below hi -/
 |rng (lo hi:Int)
 /-- a thing that is known to the object (the script;a dict while a loop walks it): read,never written while it is so -/
 |frz (o:Obj) (u:HO)
 /-- a code object's table -/
 |tbl (ps:Array Value)
 /-- any other thing,by what is true of its one object (a def of one's own: SetO a S n:=HO.ext fun h=>..) -/
 |ext (φ:Heap→Prop)
abbrev Hp:=Addr→Option HO
noncomputable def upd (H:Hp) (a:Addr) (o:HO):Hp:=fun b=>if b=a then some o else H b
theorem upd_same {H:Hp}{a:Addr}{o:HO}:upd H a o a=some o:=by unfold upd;rw[if_pos rfl]
theorem upd_ne {H:Hp}{a b:Addr}{o:HO}(h:b≠a):upd H a o b=H b:=by unfold upd;rw[if_neg h]
theorem yu {H:Hp}{a:Addr}{o u:HO}:upd (upd H a o) a u=upd H a u:=by
 funext b;unfold upd;split<;>rfl
theorem Xn {H:Hp}{a b:Addr}{o u:HO}(h:H a=some o) (h':H b=some u) (d:o≠u):a≠b:=by
 intro e;subst e;rw[h] at h';exact d (Option.some.inj h')
theorem ne_of_none {H:Hp}{a b:Addr}{o:HO}(h:H a=some o) (h':H b=none):a≠b:=by
 intro e;subst e;rw[h] at h';cases h'
section
variable (P:Program) (w:World)
def ObjOk (H:Hp) (h:Heap) (a:Addr):HO→Prop
 |.lst xs=>xs.length≤sizeLine∧∃ (its:List Value) (n:Nat),Vals xs its∧h.get? a=some { cls:=.type "list",data:=.seq its.toArray n }
 |.tup xs=>xs.length≤sizeLine∧∃ its:List Value,Vals xs its∧IsTup h a its.toArray
 |.dK kvs=>kvs.length≤sizeLine∧(a == sysModules)=false∧∃ vs,KV kvs vs∧h.DictOf (ya P w) a vs
 |.dT kvs=>kvs.length≤sizeLine∧(a == sysModules)=false∧∃ xs:List (List Key×Addr×Value),
   Paired (fun(p:List Key×V) (q:List Key×Addr×Value)=>p.1=q.1∧H q.2.1=some (.tup (p.1.map kV))∧RelV p.2 q.2.2) kvs xs ∧
   ∃ o es ep,h.get? a=some o∧o.ExactDict∧o.data=.dict es ep∧es.toList=xs.map (entryOfKey (tupleKind (ya P w)))∧(xs.map (·.1)).Nodup
 |.set S n=>h.SetOf (intKind P w) a S n
 |.ins C dx fs=>H dx=some (.own a)∧fs.length≤1000∧dx≠a∧h.get? a=some (PySem.W.instObj C dx) ∧
   ∃ mA,h.Ns1 dx mA∧(∀ f,RelO (fs.lookup f) (mA f))∧PySem.Within mA (fs.map (·.1))
 |.own _=>∃ o,h.get? a=some o
 |.xd fs=>∃ mA,h.Ns1 a mA∧∀ f,RelO (fs.lookup f) (mA f)
 |.rng lo hi=>∃ t u v,h.get? a=some { cls:=.type "range",data:=.fields #[.int lo t,.int hi u,.int 1 v] }
 |.frz o u=>h.get? a=some o∧ObjOk H h a u
 |.tbl ps=>h.get? a=some { cls:=.none,data:=.fields ps }
 |.met f x=>h.get? a=some (PySem.W.methodObj (.ref f) (.ref x))
 |.ext φ=>φ h∧(∃ o,h.get? a=some o)∧∀ h1 h2:Heap,φ h1→(∀ o,h1.get? a=some o→h2.get? a=some o)→φ h2
def HOk (H:Hp) (h:Heap):Prop:=∀ a o,H a=some o→ObjOk P w H h a o
end
section
variable {P:Program}{w:World}{H H':Hp}{h h':Heap}{a:Addr}{o:HO}
theorem ObjOk.lt (x:ObjOk P w H h a o):a<h.objs.size:=by
 cases o with
 |lst xs=>obtain⟨_,_,_,_,e⟩:=x;exact Heap.lt_size e
 |tup xs=>obtain⟨_,_,_,p⟩:=x;exact p.lt
 |dK kvs=>obtain⟨_,_,_,_,o,_,_,e,_⟩:=x;exact Heap.lt_size e
 |dT kvs=>obtain⟨_,_,_,_,o,_,_,e,_⟩:=x;exact Heap.lt_size e
 |set S n=>obtain⟨o,_,_,_,e,_⟩:=x;exact Heap.lt_size e
 |ins C dx fs=>obtain⟨_,_,_,e,_⟩:=x;exact Heap.lt_size e
 |own y=>obtain⟨_,e⟩:=x;exact Heap.lt_size e
 |xd fs=>obtain⟨_,⟨_,_,_,e,_⟩,_⟩:=x;exact Heap.lt_size e
 |rng lo hi=>obtain⟨_,_,_,e⟩:=x;exact Heap.lt_size e
 |frz ob u=>obtain⟨e,_⟩:=x;exact Heap.lt_size e
 |tbl ps=>exact Heap.lt_size (show h.get? a=some _ from x)
 |met f y=>exact Heap.lt_size (show h.get? a=some _ from x)
 |ext φ=>obtain⟨_,⟨_,e⟩,_⟩:=x;exact Heap.lt_size e
theorem Paired.mapP {α β:Type}{F G:α→β→Prop}:∀ {l₁:List α}{l₂:List β},Paired F l₁ l₂→(∀ a b,F a b→G a b)→Paired G l₁ l₂
 |_,_,.nil,_=>.nil
 |_,_,.cons r t,f=>.cons (f _ _ r) (Paired.mapP t f)
theorem Paired.imp' {α β:Type}{F G:α→β→Prop}(f:∀ a b,F a b→G a b){l₁:List α}{l₂:List β}(r:Paired F l₁ l₂):Paired G l₁ l₂:=Paired.mapP r f
theorem ObjOk.stay (x:ObjOk P w H h a o) (k:∀ b u,(b=a∨H b=some (.own a))→h.get? b=some u→h'.get? b=some u)
  (ho:∀ b,H b=some (.own a)→H' b=some (.own a)) (ht:∀ b xs,H b=some (.tup xs)→H' b=some (.tup xs)):ObjOk P w H' h' a o:=by
 induction o with
 |lst xs=>obtain⟨z,its,n,r,e⟩:=x;exact⟨z,its,n,r,k _ _ (.inl rfl) e⟩
 |tup xs=>obtain⟨z,its,r,ob,e,c⟩:=x;exact⟨z,its,r,ob,k _ _ (.inl rfl) e,c⟩
 |dK kvs=>obtain⟨z,y,vs,r,ob,es,ep,e,c⟩:=x;exact⟨z,y,vs,r,ob,es,ep,k _ _ (.inl rfl) e,c⟩
 |dT kvs =>
  obtain⟨z,y,xs,r,ob,es,ep,e,c⟩:=x
  exact⟨z,y,xs,Paired.mapP r fun p q z=>⟨z.1,ht _ _ z.2.1,z.2.2⟩,ob,es,ep,k _ _ (.inl rfl) e,c⟩
 |set S n=>obtain⟨ob,es,ep,t,e,c⟩:=x;exact⟨ob,es,ep,t,k _ _ (.inl rfl) e,c⟩
 |ins C dx fs =>
  obtain⟨d,z,ne,e,mA,⟨od,es,ep,e2,c⟩,r⟩:=x
  exact⟨ho _ d,z,ne,k _ _ (.inl rfl) e,mA,⟨od,es,ep,k _ _ (.inr d) e2,c⟩,r⟩
 |own y=>obtain⟨ob,e⟩:=x;exact⟨ob,k _ _ (.inl rfl) e⟩
 |xd fs=>obtain⟨mA,⟨od,es,ep,e,c⟩,r⟩:=x;exact⟨mA,⟨od,es,ep,k _ _ (.inl rfl) e,c⟩,r⟩
 |rng lo hi=>obtain⟨t,u,v,e⟩:=x;exact⟨t,u,v,k _ _ (.inl rfl) e⟩
 |frz ob u ih=>obtain⟨e,q⟩:=x;exact⟨k _ _ (.inl rfl) e,ih q⟩
 |tbl ps =>
  have e:h.get? a=some { cls:=.none,data:=.fields ps }:=x
  show h'.get? a=some { cls:=.none,data:=.fields ps }
  exact k a _ (.inl rfl) e
 |met f y =>
  have e:h.get? a=some (PySem.W.methodObj (.ref f) (.ref y)):=x
  show h'.get? a=some (PySem.W.methodObj (.ref f) (.ref y))
  exact k a _ (.inl rfl) e
 |ext φ=>obtain⟨p,⟨o,e⟩,st⟩:=x;exact⟨st _ _ p fun o q=>k _ _ (.inl rfl) q,⟨o,k _ _ (.inl rfl) e⟩,st⟩
theorem HOk.lt (x:HOk P w H h) (e:H a=some o):a<h.objs.size:=(x a o e).lt
theorem HOk.fresh (x:HOk P w H h) (e:h.objs.size≤a):H a=none:=by
 cases q:H a with
 |none=>rfl
 |some u=>exact absurd (Nat.lt_of_lt_of_le (x.lt q) e) (Nat.lt_irrefl _)
theorem HOk.kept (x:HOk P w H h) (k:∀ b u,h.get? b=some u→h'.get? b=some u):HOk P w H h':=fun a o e =>
 (x a o e).stay (fun b u _ q=>k b u q) (fun _ q=>q) fun _ _ q=>q
theorem HOk.laid (x:HOk P w H h) (k:∀ b u,h.get? b=some u→h'.get? b=some u) (hp:h.objs.size≤a) (new:ObjOk P w (upd H a o) h' a o):HOk P w (upd H a o) h':=fun b u e=>by
 have hn:=x.fresh hp
 by_cases hb:b=a
 ·subst hb;rw[upd_same] at e;cases e;exact new
 ·rw[upd_ne hb] at e
  exact(x b u e).stay (fun c v _ q=>k c v q) (fun c q=>by rw[upd_ne (ne_of_none q hn)];exact q) fun c xs q=>by rw[upd_ne (ne_of_none q hn)];exact q
end
def Rd (H:Hp) (a:Addr) (u:HO):Prop:=H a=some u∨∃ o,H a=some (.frz o u)
theorem Rd.ok {P:Program}{w:World}{H:Hp}{h:Heap}{a:Addr}{u:HO}(r:Rd H a u) (x:HOk P w H h):ObjOk P w H h a u:=by
 rcases r with r | ⟨o,r⟩
 ·exact x a u r
 ·obtain⟨_,q⟩:=x a _ r
  exact q
def Mut:Option HO→Prop
 |some (.lst _)=>True
 |some (.dK _)=>True
 |some (.dT _)=>True
 |some (.set _ _)=>True
 |some (.ins _ _ _)=>True
 |some (.ext _)=>True
 |_=>False
section
variable {P:Program}{w:World}{H:Hp}{h h':Heap}{x e:Addr}{o':HO}
theorem HOk.write (ok:HOk P w H h) (mu:Mut (H x)) (he:e=x∨H e=some (.own x)) (k:∀ b u,b≠e→h.get? b=some u→h'.get? b=some u) (heo:∃ u,h'.get? e=some u)
  (new:ObjOk P w (upd H x o') h' x o'):HOk P w (upd H x o') h':=fun b u q=>by
 have nown:∀ c y,H c=some (.own y)→c≠x:=fun c y r z=>by subst z;rw[r] at mu;exact mu
 have ntup:∀ c xs,H c=some (.tup xs)→c≠x:=fun c xs r z=>by subst z;rw[r] at mu;exact mu
 by_cases hb:b=x
 ·subst hb;rw[upd_same] at q;cases q;exact new
 ·rw[upd_ne hb] at q
  by_cases hbe:b=e
  ·have q':H b=some (.own x):=by
    rcases he with z | z
    ·exact absurd (hbe.trans z) hb
    ·rw[hbe];exact z
   rw[q] at q';cases q'
   obtain⟨v,hv⟩:=heo
   exact⟨v,by rw[hbe];exact hv⟩
  ·refine(ok b u q).stay (fun c v hc r=>k c v ?_ r) (fun c r=>by rw[upd_ne (nown c b r)];exact r) fun c xs r=>by rw[upd_ne (ntup c xs r)];exact r
   rcases hc with rfl | hc
   ·exact hbe
   ·rintro rfl
    rcases he with z | z
    ·exact nown c b hc z
    ·rw[hc] at z;cases z;exact hb rfl
end
structure Un (fs ex:List Addr) (H H':Hp) (h h':Heap):Prop where
 keep:∀ b o,h.get? b=some o→H b=none→b∉fs→b∉ex→h'.get? b=some o
 slot:∀ b o,h.get? b=some o→H b=none→b∈fs→b∉ex→∃ sl,h'.get? b=some { o with slots:=sl }
 free:∀ b o,h.get? b=some o→H b=none→b∉ex→H' b=none
 there:∀ b o,h.get? b=some o→b∉ex→∃ o',h'.get? b=some o'
 tups:∀ b xs,H b=some (.tup xs)→H' b=some (.tup xs)
 frzs:∀ b o u,H b=some (.frz o u)→H' b=some (.frz o u)
 tbls:∀ b ps,H b=some (.tbl ps)→∃ more,H' b=some (.tbl (ps++more))
section
variable {fs fs' ex ex':List Addr}{H H1 H2:Hp}{h h1 h2 h':Heap}{a x e:Addr}{o:HO}
theorem Un.any (u:Un fs ex H H1 h h1){b:Addr}{ob:Obj}(q:h.get? b=some ob) (n:H b=none) (hx:b∉ex):∃ sl,h1.get? b=some { ob with slots:=sl }:=by
 by_cases hb:b∈fs
 ·exact u.slot b ob q n hb hx
 ·exact⟨ob.slots,u.keep b ob q n hb hx⟩
theorem Un.kept (k:∀ b u,h.get? b=some u→h'.get? b=some u):Un fs ex H H h h' :=
 ⟨fun b ob q _ _ _=>k b ob q,fun b ob q _ _ _=>⟨ob.slots,k b ob q⟩,fun _ _ _ n _=>n,fun b ob q _=>⟨ob,k b ob q⟩,fun _ _ q=>q,fun _ _ _ q=>q,fun _ ps q=>⟨#[],by rw[q];simp⟩⟩
theorem Un.refl:Un fs ex H H h h:=Un.kept fun _ _ q=>q
theorem Un.laid (k:∀ b u,h.get? b=some u→h'.get? b=some u) (hp:h.objs.size≤a) (hn:H a=none):Un fs ex H (upd H a o) h h' where
 keep:=fun b u q _ _ _=>k b u q
 slot:=fun b u q _ _ _=>⟨u.slots,k b u q⟩
 free:=fun b u q n _=>by rw[upd_ne (Nat.ne_of_lt (Nat.lt_of_lt_of_le (Heap.lt_size q) hp))];exact n
 there:=fun b u q _=>⟨u,k b u q⟩
 tups:=fun b xs q=>by rw[upd_ne (ne_of_none q hn)];exact q
 frzs:=fun b u xs q=>by rw[upd_ne (ne_of_none q hn)];exact q
 tbls:=fun b ps q=>⟨#[],by rw[upd_ne (ne_of_none q hn),q];simp⟩
theorem Un.write (mu:Mut (H x)) (he:e=x∨H e=some (.own x)) (k:∀ b u,b≠e→h.get? b=some u→h'.get? b=some u) (heo:∃ u,h'.get? e=some u):Un fs ex H (upd H x o) h h':=by
 have hx:∀ b,H b=none→b≠x:=fun b n z=>by subst z;rw[n] at mu;exact mu
 have hb:∀ b,H b=none→b≠e:=fun b n z=>by
  subst z
  rcases he with r | r
  ·exact hx b n r
  ·rw[n] at r;cases r
 have hm:∀ b u,H b=some u→¬ Mut (some u)→b≠x:=fun b u q nm z=>by subst z;rw[q] at mu;exact nm mu
 refine⟨fun b u q n _ _=>k b u (hb b n) q,fun b u q n _ _=>⟨u.slots,k b u (hb b n) q⟩,fun b u q n _=>by rw[upd_ne (hx b n)];exact n,fun b u q _=>?_,
  fun b xs q=>by rw[upd_ne (hm b _ q fun z=>z)];exact q,fun b u xs q=>by rw[upd_ne (hm b _ q fun z=>z)];exact q,fun b ps q=>⟨#[],by rw[upd_ne (hm b _ q fun z=>z),q];simp⟩⟩
 by_cases hbe:b=e
 ·subst hbe;exact heo
 ·exact⟨u,k b u hbe q⟩
end
noncomputable def trk (h:Heap) (H:Hp):List Addr:=(List.range h.objs.size).filter fun a=>(H a).isSome
def WZ (h:Heap) (H:Hp):Heap:=PySem.W.hideAll h (trk h H)
theorem XF (h:Heap) (H:Hp):(WZ h H).objs.size=h.objs.size:=PySem.W.hideAll_size _ _
theorem WY {h:Heap}{H:Hp}{b:Addr}{o:Obj}(e:h.get? b=some o) (n:H b=none):(WZ h H).get? b=some o :=
 PySem.W.hideAll_get _ e fun hm=>by
  have q:(H b).isSome=true:=(List.mem_filter.mp hm).2
  rw[n] at q;simp at q
theorem Uz {h:Heap}{H:Hp}{b:Addr}{o:Obj}(e:(WZ h H).get? b=some o):h.get? b=some o∧H b=none:=by
 have e':h.get? b=some o:=PySem.W.of_hideAll (trk h H) e
 refine⟨e',?_⟩
 cases q:H b with
 |none=>rfl
 |some x =>
  have hm:b∈trk h H:=List.mem_filter.mpr ⟨List.mem_range.mpr (Heap.lt_size e'),by simp[q]⟩
  have z:(WZ h H).get? b=none:=PySem.W.hideAll_none (trk h H) hm
  rw[z] at e;cases e
end L2
namespace L2
open PySem PySem.Spec PyProof.Rows
structure Mod (K:PySem.W.Frag) (mg:Str→Option Value) (base:Heap):Prop where
 kin:K.In base
 glob:base.Ns mainGlobals mg
 blt:∃ mb,base.Ns builtinsNs mb∧∀ x:Str,x ≠ "__name__" → mb x=bootBuiltins x
 nolimit:base.NoLimit
structure Cx where
 prog:Program
 w:World
 K:PySem.W.Frag
 mg:Str→Option Value
 base:Heap
 A:Around
 N:List Str
 s₀:Shared
 H₀:Hp
 env:Env
 outer:List Env
 stack:List Env
 ex:List Addr
 fn:Str→Bool
 calm:Bool
 pn:List (Addr×Obj)
 xe:Value→Shared→Prop
noncomputable def frs (l:List Env):List Addr:=l.filterMap (·.frame)
abbrev Cx.fs (X:Cx):List Addr:=frs X.outer
def Vis (sc:Scope) (x:Str):Prop:=sc.names.lookup x=some .local∨sc.names.lookup x=some .cell∨sc.names.lookup x=some .free
def Loc (sc:Scope) (x:Str):Prop:=sc.names.lookup x=some .local∨sc.names.lookup x=some .cell
def zqF (env:Env) (h:Heap) (m:Str→Option Value) (x:Str) (u:Value):Prop :=
 (env.kindOf x=some .local∧m x=some u)∨((env.kindOf x=some .cell∨env.kindOf x=some .free)∧∃ c,env.cells.lookup x=some c∧h.IsCell c (some u))
structure Cx.Ok (X:Cx):Prop where
 mod:Mod X.K X.mg X.base
 kind:X.env.scope.kind=.function
 glob:X.env.globals=mainGlobals
 blt:X.env.builtins=builtinsNs
 above:X.s₀.heap.objs.size≤X.env.locals
 inj:∀ x y c,X.env.cells.lookup x=some c→X.env.cells.lookup y=some c→x=y
 has:∀ x,(X.env.kindOf x=some .cell∨X.env.kindOf x=some .free)→∃ c,X.env.cells.lookup x=some c
 cab:∀ x c,X.fn x=true→X.env.cells.lookup x=some c→X.s₀.heap.objs.size≤c
 hd:X.calm=true→X.A.handled=none
 frames:X.A.frames=some X.stack
 stk:X.stack=X.outer∨(X.stack=X.env::X.outer∧X.env.frame=some X.env.locals)
 exf:∀ b∈X.ex,b≠X.env.locals∧∀ x c,X.env.cells.lookup x=some c→c≠b
 bs:∀ b o,X.base.get? b=some o→X.s₀.heap.get? b=some o∧X.H₀ b=none
 bsz:X.base.objs.size≤X.s₀.heap.objs.size
 noex:∀ b o,X.base.get? b=some o→b∉X.ex
 exfs:∀ b∈X.ex,b∉X.fs
 funs:X.s₀.heap.FunFrames X.base X.outer
 frf:∀ b∈X.fs,X.H₀ b=none
structure Inv (X:Cx) (pins:List (Addr×Obj)) (σ:List (Option V)) (H:Hp) (s:Shared):Prop where
 ok:X.Ok
 os:s.os=X.s₀.os
 bare:AllBare s.gens
 base:Un X.fs X.ex X.H₀ H X.s₀.heap s.heap
 loc:∃ m,s.heap.Ns X.env.locals m∧∀ (i:Nat) (x:Str) (v:V),X.N[i]?=some x→σ[i]?=some (some v)→Vis X.env.scope x→∃ u,RelV v u∧zqF X.env s.heap m x u
 cell:∀ x c,X.env.cells.lookup x=some c→∃ v,s.heap.IsCell c v
 free:H X.env.locals=none
 freeC:∀ x c,X.env.cells.lookup x=some c→H c=none
 pin:∀ p∈X.pn++pins,s.heap.get? p.1=some p.2∧H p.1=none∧p.1≠X.env.locals∧p.1∉X.fs∧∀ v,p.2.data≠.cell v
 hok:HOk X.prog X.w H s.heap
 len:σ.length=X.N.length
section
variable {X:Cx}{pins:List (Addr×Obj)}{σ:List (Option V)}{H H':Hp}{s:Shared}{h':Heap}
theorem Cx.Ok.nofr (ok:X.Ok){b:Addr}{o:Obj}(e:X.base.get? b=some o):b∉X.fs:=fun hb=>by
 have:=(ok.funs.mem hb).1
 rw[e] at this;cases this
theorem Inv.bs (I:Inv X pins σ H s):∀ b o,X.base.get? b=some o→s.heap.get? b=some o∧H b=none:=fun b o e =>
 ⟨I.base.keep b o (I.ok.bs b o e).1 (I.ok.bs b o e).2 (I.ok.nofr e) (I.ok.noex b o e),I.base.free b o (I.ok.bs b o e).1 (I.ok.bs b o e).2 (I.ok.noex b o e)⟩
theorem Inv.bk (I:Inv X pins σ H s):∀ b o,X.base.get? b=some o→s.heap.get? b=some o:=fun b o e=>(I.bs b o e).1
theorem Inv.mod (I:Inv X pins σ H s):Mod X.K X.mg X.base:=I.ok.mod
theorem Inv.kIn (I:Inv X pins σ H s):X.K.In s.heap:=I.ok.mod.kin.keeps I.bk
theorem Inv.lt (I:Inv X pins σ H s):X.env.locals<s.heap.objs.size:=let ⟨_,hn,_⟩:=I.loc;hn.lt
theorem Inv.sz (I:Inv X pins σ H s):X.s₀.heap.objs.size≤s.heap.objs.size:=Nat.le_trans I.ok.above (Nat.le_of_lt I.lt)
theorem Inv.nofs (I:Inv X pins σ H s){a:Addr}(h:s.heap.objs.size≤a):a∉X.fs:=fun hb=>by
 obtain⟨_,o,ho,_⟩:=I.ok.funs.mem hb
 exact absurd (Nat.lt_of_lt_of_le (Heap.lt_size ho) (Nat.le_trans I.sz h)) (Nat.lt_irrefl _)
theorem Inv.cne (I:Inv X pins σ H s):∀ x c,X.env.cells.lookup x=some c→c≠X.env.locals:=fun x c e z=>by
 obtain⟨v,o,ho,hd⟩:=I.cell x c e
 obtain⟨m,⟨o',es,ep,ho',hd',_⟩,_⟩:=I.loc
 rw[z,ho'] at ho;cases ho;rw[hd'] at hd;cases hd
theorem Inv.funs (I:Inv X pins σ H s):s.heap.FunFrames X.base X.outer:=by
 have all:∀ (l:List Env),(∀ b∈frs l,b∈X.fs)→X.s₀.heap.FunFrames X.base l→s.heap.FunFrames X.base l:=by
  intro l
  induction l with
  |nil=>intro _ _;trivial
  |cons env r ih =>
   intro hs hl
   obtain⟨hk,⟨L,o,hf,hn,ho,hd⟩,hr⟩:=hl
   have hL:L∈X.fs:=hs L (by unfold frs;rw[List.filterMap_cons,hf];exact List.mem_cons_self)
   obtain⟨sl,e⟩:=I.base.slot L o ho (I.ok.frf L hL) hL fun z=>I.ok.exfs L z hL
   exact⟨hk,⟨L,_,hf,hn,e,hd⟩,ih (fun b hb=>hs b (by unfold frs;rw[List.filterMap_cons,hf];exact List.mem_cons_of_mem _ hb)) hr⟩
 exact all X.outer (fun _ hb=>hb) I.ok.funs
theorem Inv.stack (I:Inv X pins σ H s):s.heap.FunFrames X.base X.stack:=by
 rcases I.ok.stk with e | ⟨e,hf⟩
 ·rw[e];exact I.funs
 ·rw[e]
  obtain⟨m,hn,_⟩:=I.loc
  refine .cons (by rw[I.ok.kind];decide) hf hn ?_ I.funs
  exact Heap.get?_none_of_le (Nat.le_trans I.ok.bsz I.ok.above)
theorem Inv.stkSub (I:Inv X pins σ H s):∀ b∈frs X.stack,b∈X.env.locals::X.fs:=fun b hb=>by
 rcases I.ok.stk with e | ⟨e,hf⟩
 ·rw[e] at hb;exact List.mem_cons_of_mem _ hb
 ·rw[e] at hb
  unfold frs at hb
  rw[List.filterMap_cons,hf] at hb
  exact hb
theorem Inv.stkFree (I:Inv X pins σ H s):∀ b∈frs X.stack,H b=none:=fun b hb=>by
 rcases List.mem_cons.mp (I.stkSub b hb) with e | hb
 ·rw[e];exact I.free
 ·obtain⟨_,o,ho,_⟩:=I.ok.funs.mem hb
  exact I.base.free b o ho (I.ok.frf b hb) fun z=>I.ok.exfs b z hb
theorem Inv.step {g':Array GenState}{t':Nat}{d':Drawn}{ch:List Addr}(I:Inv X pins σ H s)
  (hch:∀ b∈ch,(b∈X.ex∨X.s₀.heap.objs.size≤b)∧b≠X.env.locals∧(∀ x c,X.env.cells.lookup x=some c→c≠b)∧∀ p∈X.pn++pins,p.1≠b)
  (keep:∀ b o,b≠X.env.locals→b∉X.fs→b∉ch→s.heap.get? b=some o→H b=none→h'.get? b=some o)
  (slot:∀ b o,b≠X.env.locals→b∈X.fs→b∉ch→s.heap.get? b=some o→H b=none→∃ sl,h'.get? b=some { o with slots:=sl }) (free:∀ b o,b∉ch→s.heap.get? b=some o→H b=none→H' b=none)
  (there:∀ b o,b∉ch→s.heap.get? b=some o→∃ o',h'.get? b=some o')
  (tups:∀ b xs,H b=some (.tup xs)→H' b=some (.tup xs)) (frzs:∀ b o u,H b=some (.frz o u)→H' b=some (.frz o u)) (tbls:∀ b ps,H b=some (.tbl ps)→∃ more,H' b=some (.tbl (ps++more)))
  (ns:∀ m,s.heap.Ns X.env.locals m→h'.Ns X.env.locals m) (hok:HOk X.prog X.w H' h') (hg:AllBare g') :
  Inv X pins σ H' { s with heap:=h',gens:=g',drawn:=d',toks:=t' }:=by
 have neL:∀ b o,X.s₀.heap.get? b=some o→b≠X.env.locals:=fun b o e=>Nat.ne_of_lt (Nat.lt_of_lt_of_le (Heap.lt_size e) I.ok.above)
 have neC:∀ b o,X.s₀.heap.get? b=some o→b∉X.ex→b∉ch:=fun b o e hx hb=>by
  rcases(hch b hb).1 with z | z
  ·exact hx z
  ·exact absurd (Nat.lt_of_lt_of_le (Heap.lt_size e) z) (Nat.lt_irrefl _)
 have cellK:∀ x c,X.env.cells.lookup x=some c→∀ v,s.heap.IsCell c v→h'.IsCell c v:=fun x c e v ⟨o,ho,hd⟩=>by
  have nch:c∉ch:=fun z=>(hch c z).2.2.1 x c e rfl
  by_cases hc:c∈X.fs
  ·obtain⟨sl,q⟩:=slot c o (I.cne x c e) hc nch ho (I.freeC x c e)
   exact⟨_,q,hd⟩
  ·exact⟨o,keep c o (I.cne x c e) hc nch ho (I.freeC x c e),hd⟩
 refine⟨I.ok,I.os,hg,⟨fun b o e n hb hx=>?_,fun b o e n hb hx=>?_,fun b o e n hx=>?_,fun b o e hx=>?_,fun b xs e=>tups b xs (I.base.tups b xs e),fun b o xs e=>frzs b o xs (I.base.frzs b o xs e),fun b ps e=>?_⟩,?_,fun x c e=>?_,?_,fun x c e=>?_,fun p hp=>?_,hok,I.len⟩
 ·exact keep b o (neL b o e) hb (neC b o e hx) (I.base.keep b o e n hb hx) (I.base.free b o e n hx)
 ·obtain⟨sl,e1⟩:=I.base.slot b o e n hb hx
  obtain⟨sl',e2⟩:=slot b _ (neL b o e) hb (neC b o e hx) e1 (I.base.free b o e n hx)
  exact⟨sl',e2⟩
 ·obtain⟨o',e1⟩:=I.base.there b o e hx
  exact free b o' (neC b o e hx) e1 (I.base.free b o e n hx)
 ·obtain⟨o',e1⟩:=I.base.there b o e hx
  exact there b o' (neC b o e hx) e1
 ·obtain⟨m1,e1⟩:=I.base.tbls b ps e
  obtain⟨m2,e2⟩:=tbls b _ e1
  exact⟨m1++m2,by rw[e2,Array.append_assoc]⟩
 ·obtain⟨m,hn,hl⟩:=I.loc
  refine⟨m,ns m hn,fun i x v e1 e2 e3=>?_⟩
  obtain⟨u,r,l⟩:=hl i x v e1 e2 e3
  refine⟨u,r,?_⟩
  rcases l with l | ⟨k,c,e,z⟩
  ·exact .inl l
  ·exact .inr ⟨k,c,e,cellK x c e _ z⟩
 ·obtain⟨v,z⟩:=I.cell x c e
  exact⟨v,cellK x c e v z⟩
 ·obtain⟨m,⟨o,_,_,ho,_⟩,_⟩:=I.loc
  exact free _ o (fun z=>(hch _ z).2.1 rfl) ho I.free
 ·obtain⟨v,o,ho,hd⟩:=I.cell x c e
  exact free c o (fun z=>(hch c z).2.2.1 x c e rfl) ho (I.freeC x c e)
 ·obtain⟨e,n,ne,nf,d⟩:=I.pin p hp
  have nch:p.1∉ch:=fun z=>(hch p.1 z).2.2.2 p hp rfl
  exact⟨keep p.1 p.2 ne nf nch e n,free p.1 p.2 nch e n,ne,nf,d⟩
theorem Inv.un {t':Nat}(I:Inv X pins σ H s) (u:Un X.fs [] H H' s.heap h') (hok:HOk X.prog X.w H' h'):Inv X pins σ H' { s with heap:=h',toks:=t' }:=by
 obtain⟨m,⟨o,es,ep,ho,r⟩,_⟩:=id I.loc
 obtain⟨sl,hL⟩:=u.any ho I.free (by simp)
 exact I.step (g':=s.gens) (d':=s.drawn) (ch:=[]) (fun _ z=>nomatch z) (fun b o _ hb _ e n=>u.keep b o e n hb (by simp)) (fun b o _ hb _ e n=>u.slot b o e n hb (by simp)) (fun b o _ e n=>u.free b o e n (by simp)) (fun b o _ e=>u.there b o e (by simp)) u.tups u.frzs u.tbls (fun m' hm=>by
  obtain⟨o',es',ep',ho',r'⟩:=hm
  rw[ho] at ho';cases ho'
  exact⟨_,es',ep',hL,r'⟩) hok I.bare
theorem Inv.call {g':Array GenState}{t':Nat}{d':Drawn}{ch:List Addr}(I:Inv X pins σ H s) (u:Un (frs X.stack) ch H H' s.heap h') (hok:HOk X.prog X.w H' h') (hg:AllBare g')
  (hch:∀ b∈ch,(b∈X.ex∨X.s₀.heap.objs.size≤b)∧b≠X.env.locals∧(∀ x c,X.env.cells.lookup x=some c→c≠b)∧∀ p∈X.pn++pins,p.1≠b) :
  Inv X pins σ H' { s with heap:=h',gens:=g',drawn:=d',toks:=t' }:=by
 obtain⟨m,⟨o,es,ep,ho,r⟩,_⟩:=id I.loc
 obtain⟨sl,hL⟩:=u.any ho I.free fun z=>(hch _ z).2.1 rfl
 exact I.step (ch:=ch) hch (fun b o hL hb hc e n=>u.keep b o e n (fun z=>(List.mem_cons.mp (I.stkSub b z)).elim hL hb) hc) (fun b o _ _ hc e n=>u.any e n hc) (fun b o hc e n=>u.free b o e n hc) (fun b o hc e=>u.there b o e hc) u.tups u.frzs u.tbls (fun m' hm=>by
  obtain⟨o',es',ep',ho',r'⟩:=hm
  rw[ho] at ho';cases ho'
  exact⟨_,es',ep',hL,r'⟩) hok hg
theorem Inv.turned {t':Nat}{it:Addr}(I:Inv X pins σ H s) (k:∀ b o,b≠it→s.heap.get? b=some o→h'.get? b=some o) (hn:H it=none) (hL:it≠X.env.locals)
  (h1:it∈X.ex∨X.s₀.heap.objs.size≤it) (h2:∀ x c,X.env.cells.lookup x=some c→c≠it) (h3:∀ p∈X.pn++pins,p.1≠it):Inv X pins σ H { s with heap:=h',toks:=t' }:=by
 have nit:∀ b u,H b=some u→b≠it:=fun b u e z=>by rw[z,hn] at e;cases e
 refine I.step (g':=s.gens) (d':=s.drawn) (ch:=[it]) (fun b hb=>?_) (fun b o _ _ hc e _=>k b o (fun z=>hc (by simp[z])) e) (fun b o _ _ hc e _=>⟨o.slots,k b o (fun z=>hc (by simp[z])) e⟩) (fun _ _ _ _ n=>n)
  (fun b o hc e=>⟨o,k b o (fun z=>hc (by simp[z])) e⟩) (fun _ _ e=>e) (fun _ _ _ e=>e) (fun b ps e=>⟨#[],by rw[e];simp⟩) (fun m hm=>?_) (fun b u e=>?_) I.bare
 ·have e:b=it:=by simpa using hb
  subst e
  exact⟨h1,hL,h2,h3⟩
 ·obtain⟨o,es,ep,ho,r⟩:=hm
  exact⟨o,es,ep,k _ o (Ne.symm hL) ho,r⟩
 ·refine(I.hok b u e).stay (fun c v hc q=>k c v ?_ q) (fun _ q=>q) fun _ _ q=>q
  rcases hc with z | z
  ·rw[z];exact nit b u e
  ·exact nit c _ z
theorem Inv.tok (I:Inv X pins σ H s) (t:Nat):Inv X pins σ H { s with toks:=t }:=I.un (h':=s.heap) (t':=t) Un.refl I.hok
theorem Inv.kept {t':Nat}(I:Inv X pins σ H s) (k:∀ b u,s.heap.get? b=some u→h'.get? b=some u):Inv X pins σ H { s with heap:=h',toks:=t' }:=I.un (Un.kept k) (I.hok.kept k)
theorem Inv.laid {a:Addr}{o:HO}{t':Nat}(I:Inv X pins σ H s) (k:∀ b u,s.heap.get? b=some u→h'.get? b=some u) (hp:s.heap.objs.size≤a) (new:ObjOk X.prog X.w (upd H a o) h' a o) :
  Inv X pins σ (upd H a o) { s with heap:=h',toks:=t' }:=I.un (Un.laid k hp (I.hok.fresh hp)) (I.hok.laid k hp new)
theorem Inv.write {x e:Addr}{o:HO}{t':Nat}(I:Inv X pins σ H s) (mu:Mut (H x)) (he:e=x∨H e=some (.own x)) (k:∀ b u,b≠e→s.heap.get? b=some u→h'.get? b=some u) (heo:∃ u,h'.get? e=some u)
  (new:ObjOk X.prog X.w (upd H x o) h' x o):Inv X pins σ (upd H x o) { s with heap:=h',toks:=t' }:=I.un (Un.write mu he k heo) (I.hok.write mu he k heo new)
theorem Inv.pins_of {pins':List (Addr×Obj)}(I:Inv X pins σ H s) (h:∀ p∈pins',s.heap.get? p.1=some p.2∧H p.1=none∧p.1≠X.env.locals∧p.1∉X.fs∧∀ v,p.2.data≠.cell v):Inv X pins' σ H s :=
 ⟨I.ok,I.os,I.bare,I.base,I.loc,I.cell,I.free,I.freeC,fun p hp=>(List.mem_append.mp hp).elim (fun z=>I.pin p (List.mem_append_left _ z)) (h p),I.hok,I.len⟩
theorem nodup_ix {N:List Str}(hN:N.Nodup){i j:Nat}{x:Str}(a:N[i]?=some x) (b:N[j]?=some x):i=j:=by
 obtain⟨h1,e1⟩:=List.getElem?_eq_some_iff.mp a
 obtain⟨h2,e2⟩:=List.getElem?_eq_some_iff.mp b
 exact(List.getElem_inj hN).mp (e1.trans e2.symm)
theorem vj {M:Model}{A:Around}{E:Value→Shared→Prop}{i:Nat}{x:Str}{v:V}{u:Value}{Q:Unit→Shared→Prop}(I:Inv X pins σ H s) (hN:X.N.Nodup) (hi:X.N[i]?=some x) (hx:Loc X.env.scope x) (r:RelV v u)
  (h:∀ s',Inv X pins (σ.set i (some v)) H s'→(∃ a,Heap.SameBut a s.heap s'.heap∧(a=X.env.locals∨X.env.cells.lookup x=some a))→Q () s') (hf:X.fn x=true∨X.env.scope.names.lookup x=some .local:=by first | exact .inl rfl | exact .inr rfl | assumption):wpAny M A (storeName X.env x u) Q E s:=by
 obtain⟨m,hn,hl⟩:=id I.loc
 have hcls:(X.env.scope.kind == .class||(X.env.scope.kind == .module&&X.env.locals != X.env.globals))=false:=by rw[I.ok.kind];rfl
 have hiσ:i<σ.length:=by rw[I.len];exact(List.getElem?_eq_some_iff.mp hi).1
 have cne:=I.cne
 have tracked:∀ {a:Addr}{h':Heap},(∃ o,s.heap.get? a=some o∧H a=none)→Heap.SameBut a s.heap h'→HOk X.prog X.w H h':=fun {a h'} ha hs b ob e=>by
  obtain⟨_,_,hfree⟩:=ha
  refine(I.hok b ob e).stay (fun c w' hc q=>(hs.2 c ?_).trans q) (fun _ q=>q) fun _ _ q=>q
  rintro rfl
  rcases hc with rfl | hc
  ·rw[hfree] at e;cases e
  ·rw[hfree] at hc;cases hc
 rcases hx with hk | hk
 ·refine wpAny_storeName_local hk hn (fun h' hn' hs=>?_) hcls
  obtain⟨oL,_,_,hoL,_⟩:=id hn
  refine h _ ⟨I.ok,I.os,I.bare,⟨fun b o e n hb hx=>?_,fun b o e n hb hx=>?_,I.base.free,fun b o e hx=>?_,I.base.tups,I.base.frzs,I.base.tbls⟩,⟨_,hn',fun j y v' e1 e2 e3=>?_⟩,fun y c e=>?_,I.free,I.freeC,fun p hp=>?_,tracked ⟨oL,hoL,I.free⟩ hs,by simpa using I.len⟩ ⟨_,hs,.inl rfl⟩
  ·exact(hs.2 b (Nat.ne_of_lt (Nat.lt_of_lt_of_le (Heap.lt_size e) I.ok.above))).trans (I.base.keep b o e n hb hx)
  ·obtain⟨sl,e1⟩:=I.base.slot b o e n hb hx
   exact⟨sl,(hs.2 b (Nat.ne_of_lt (Nat.lt_of_lt_of_le (Heap.lt_size e) I.ok.above))).trans e1⟩
  ·obtain⟨o',e1⟩:=I.base.there b o e hx
   exact⟨o',(hs.2 b (Nat.ne_of_lt (Nat.lt_of_lt_of_le (Heap.lt_size e) I.ok.above))).trans e1⟩
  ·by_cases hj:j=i
   ·subst hj
    rw[hi] at e1;cases e1
    rw[List.getElem?_set_self hiσ] at e2
    cases e2
    exact⟨u,r,.inl ⟨hk,by simp⟩⟩
   ·rw[List.getElem?_set_ne (Ne.symm hj)] at e2
    obtain⟨u',r',q⟩:=hl j y v' e1 e2 e3
    refine⟨u',r',?_⟩
    rcases q with⟨k,e⟩ | ⟨k,c,e,z⟩
    ·refine .inl ⟨k,?_⟩
     have:y≠x:=fun e=>hj (nodup_ix hN e1 (e ▸ hi))
     simp[this,e]
    ·exact .inr ⟨k,c,e,z.sameBut hs (cne y c e)⟩
  ·obtain⟨w',z⟩:=I.cell y c e
   exact⟨w',z.sameBut hs (cne y c e)⟩
  ·obtain⟨e,n,ne,nf,d⟩:=I.pin p hp
   exact⟨(hs.2 p.1 ne).trans e,n,ne,nf,d⟩
 ·have hfn:X.fn x=true:=by
   rcases hf with z | z
   ·exact z
   ·rw[z] at hk;cases hk
  obtain⟨c,hc⟩:=I.ok.has x (.inl hk)
  obtain⟨w',z⟩:=I.cell x c hc
  refine wpAny_storeName_cell I.ok.kind hk hc z (fun h' hc' hs=>?_)
  obtain⟨oc,hoc,hocd⟩:=id z
  refine h { s with heap:=h' } ⟨I.ok,I.os,I.bare,⟨fun b o e n hb hx=>?_,fun b o e n hb hx=>?_,I.base.free,fun b o e hx=>?_,I.base.tups,I.base.frzs,I.base.tbls⟩,⟨m,hn.sameBut hs (Ne.symm (cne x c hc)),fun j y v' e1 e2 e3=>?_⟩,fun y c' e=>?_,I.free,I.freeC,fun p hp=>?_,tracked ⟨oc,hoc,I.freeC x c hc⟩ hs,by simpa using I.len⟩ ⟨c,hs,.inr hc⟩
  ·exact(hs.2 b (Nat.ne_of_lt (Nat.lt_of_lt_of_le (Heap.lt_size e) (I.ok.cab x c hfn hc)))).trans (I.base.keep b o e n hb hx)
  ·obtain⟨sl,e1⟩:=I.base.slot b o e n hb hx
   exact⟨sl,(hs.2 b (Nat.ne_of_lt (Nat.lt_of_lt_of_le (Heap.lt_size e) (I.ok.cab x c hfn hc)))).trans e1⟩
  ·obtain⟨o',e1⟩:=I.base.there b o e hx
   exact⟨o',(hs.2 b (Nat.ne_of_lt (Nat.lt_of_lt_of_le (Heap.lt_size e) (I.ok.cab x c hfn hc)))).trans e1⟩
  ·by_cases hj:j=i
   ·subst hj
    rw[hi] at e1;cases e1
    rw[List.getElem?_set_self hiσ] at e2
    cases e2
    exact⟨u,r,.inr ⟨.inl hk,c,hc,hc'⟩⟩
   ·rw[List.getElem?_set_ne (Ne.symm hj)] at e2
    obtain⟨u',r',q⟩:=hl j y v' e1 e2 e3
    refine⟨u',r',?_⟩
    rcases q with q | ⟨k,c',e,z'⟩
    ·exact .inl q
    ·refine .inr ⟨k,c',e,z'.sameBut hs ?_⟩
     rintro rfl
     exact hj (nodup_ix hN e1 (I.ok.inj _ _ _ e hc ▸ hi))
  ·by_cases hcc:c'=c
   ·subst hcc;exact⟨_,hc'⟩
   ·obtain⟨w2,z2⟩:=I.cell y c' e
    exact⟨w2,z2.sameBut hs hcc⟩
  ·obtain⟨e,n,ne,nf,d⟩:=I.pin p hp
   refine⟨(hs.2 p.1 ?_).trans e,n,ne,nf,d⟩
   intro q
   rw[q,hoc] at e
   have q':oc=p.2:=Option.some.inj e
   exact d w' (by rw[← q'];exact hocd)
theorem store_ok {M:Model}{A:Around}{E:Value→Shared→Prop}{i:Nat}{x:Str}{v:V}{u:Value}{Q:Unit→Shared→Prop}(I:Inv X pins σ H s) (hN:X.N.Nodup) (hi:X.N[i]?=some x) (hx:Loc X.env.scope x) (r:RelV v u)
  (h:∀ s',Inv X pins (σ.set i (some v)) H s'→Q () s') (hf:X.fn x=true∨X.env.scope.names.lookup x=some .local:=by first | exact .inl rfl | exact .inr rfl | assumption):wpAny M A (storeName X.env x u) Q E s :=
 vj I hN hi hx r (fun s' I' _=>h s' I') hf
theorem Inv.call' {s':Shared}{ch:List Addr}(I:Inv X pins σ H s) (ho:s'.os=s.os) (u:Un (frs X.stack) ch H H' s.heap s'.heap) (hok:HOk X.prog X.w H' s'.heap) (hg:AllBare s'.gens)
  (hch:∀ b∈ch,(b∈X.ex∨X.s₀.heap.objs.size≤b)∧b≠X.env.locals∧(∀ x c,X.env.cells.lookup x=some c→c≠b)∧∀ p∈X.pn++pins,p.1≠b):Inv X pins σ H' s':=by
 obtain⟨h',g',d',t',o'⟩:=s'
 have e:o'=s.os:=ho
 subst e
 exact I.call (g':=g') (t':=t') (d':=d') u hok hg hch
end
abbrev XK:=Value→Option Addr→Hp→Prop
abbrev St:=List (Option V)
abbrev VK:=V→Hp→Prop
abbrev TE:=St→Hp→VK→Prop
abbrev TT:=St→Hp→(Bool→Hp→Prop)→Prop
abbrev TA:=St→Hp→(List V→Hp→Prop)→Prop
structure Ends where
 nx:St→Hp→Prop
 rt:VK
 bk:St→Hp→Prop:=fun _ _=>False
 ct:St→Hp→Prop:=fun _ _=>False
abbrev TS:=Ends→St→Hp→Prop
def EP (X:Cx) (pins:List (Addr×Obj)) (σ:St) (Q:VK) (u:Value) (s':Shared):Prop:=∃ v H',Inv X pins σ H' s'∧RelV v u∧Q v H'
def TP (X:Cx) (pins:List (Addr×Obj)) (σ:St) (Q:Bool→Hp→Prop) (b:Bool) (s':Shared):Prop:=∃ H',Inv X pins σ H' s'∧Q b H'
def AP (X:Cx) (pins:List (Addr×Obj)) (σ:St) (Q:List V→Hp→Prop) (us:List Value) (s':Shared):Prop:=∃ vs H',Inv X pins σ H' s'∧Vals vs us∧Q vs H'
def SP (X:Cx) (pins:List (Addr×Obj)) (D:Ends) (f:Flow) (s':Shared):Prop :=
 match f with
 |.next=>∃ σ' H',Inv X pins σ' H' s'∧D.nx σ' H'
 |.brk=>∃ σ' H',Inv X pins σ' H' s'∧D.bk σ' H'
 |.cont=>∃ σ' H',Inv X pins σ' H' s'∧D.ct σ' H'
 |.ret u=>∃ v σ' H',Inv X pins σ' H' s'∧RelV v u∧D.rt v H'
def PE (X:Cx) (e:Expr) (t:TE):Prop :=
 ∀ (pins:List (Addr×Obj)) (s:Shared) (σ:St) (H:Hp) (Q:VK),Inv X pins σ H s→t σ H Q→wpAny (model X.prog X.w) X.A (eval e X.env) (EP X pins σ Q) X.xe s
def PT (X:Cx) (e:Expr) (t:TT):Prop :=
 ∀ (pins:List (Addr×Obj)) (s:Shared) (σ:St) (H:Hp) (Q:Bool→Hp→Prop),Inv X pins σ H s→t σ H Q→wpAny (model X.prog X.w) X.A (isTrue e X.env (eval e X.env)) (TP X pins σ Q) X.xe s
def PW (X:Cx) (e:Expr) (t:TT):Prop :=
 ∀ (whole:Sem Value) (pins:List (Addr×Obj)) (s:Shared) (σ:St) (H:Hp) (Q:Bool→Hp→Prop),Inv X pins σ H s→t σ H Q→wpAny (model X.prog X.w) X.A (isTrue e X.env whole) (TP X pins σ Q) X.xe s
theorem PW.pt {X:Cx}{e:Expr}{t:TT}(h:PW X e t):PT X e t:=h _
def PA (X:Cx) (es:List Expr) (t:TA):Prop :=
 ∀ (pos:Pos) (pins:List (Addr×Obj)) (s:Shared) (σ:St) (H:Hp) (Q:List V→Hp→Prop),Inv X pins σ H s→t σ H Q→wpAny (model X.prog X.w) X.A (spliced (backTo pos (starEach es X.env))) (AP X pins σ Q) X.xe s
def PS (X:Cx) (st:Stmt) (t:TS):Prop :=
 ∀ (pins:List (Addr×Obj)) (s:Shared) (σ:St) (H:Hp) (D:Ends),Inv X pins σ H s→t D σ H→wpAny (model X.prog X.w) X.A (exec st X.env) (SP X pins D) X.xe s
def PSs (X:Cx) (st:List Stmt) (t:TS):Prop :=
 ∀ (pins:List (Addr×Obj)) (s:Shared) (σ:St) (H:Hp) (D:Ends),Inv X pins σ H s→t D σ H→wpAny (model X.prog X.w) X.A (execs st X.env) (SP X pins D) X.xe s
theorem thn {α:Type}{t:Sem α}{Q Q':α→Shared→Prop}{M:Model}{A:Around}{E:Value→Shared→Prop}{s:Shared}(h:wpAny M A t Q E s) (hQ:∀ a s,Q a s→Q' a s):wpAny M A t Q' E s:=wpAny_mono h hQ fun _ _ x=>x
end L2
namespace L2
open PySem PySem.Spec PyProof.Rows
section
variable {X:Cx}
theorem bin {a b:Expr}{ta tb:TE}(ha:PE X a ta) (hb:PE X b tb){pins:List (Addr×Obj)}{s:Shared}{σ:St}{H:Hp}{R:V→V→Hp→Prop}(I:Inv X pins σ H s) (h:ta σ H fun x H1=>tb σ H1 fun y H2=>R x y H2)
  {α:Type}{Q:α→Shared→Prop}{f:Value→Value→Sem α}
  (hf:∀ v u s2 x y H2,Inv X pins σ H2 s2→RelV x v→RelV y u→R x y H2→wpAny (model X.prog X.w) X.A (f v u) Q X.xe s2) :
  wpAny (model X.prog X.w) X.A (eval a X.env) (fun v s₁=>wpAny (model X.prog X.w) X.A (eval b X.env) (fun u s₂=>wpAny (model X.prog X.w) X.A (f v u) Q X.xe s₂) X.xe s₁) X.xe s:=by
 refine thn (ha pins s σ H _ I h) fun v s1 hq0=>?_
 obtain⟨x,H1,I1,r1,q1⟩:=hq0
 refine thn (hb pins s1 σ H1 _ I1 q1) fun u s2 hq0=>?_
 obtain⟨y,H2,I2,r2,q2⟩:=hq0
 exact hf v u s2 x y H2 I2 r1 r2 q2
def U1 (i:Nat):TE:=fun σ H Q=>∃ v,σ[i]?=some (some v)∧Q v H
def tC (v:V):TE:=fun _ H Q=>Q v H
theorem zcP {i:Nat}{x:Str}{pos:Pos}(hN:X.N[i]?=some x) (hv:Vis X.env.scope x) (hd:(x == ("__debug__" : Str))=false:=by decide) (hcd:(x == ("__classdict__" : Str))=false:=by decide):PE X (.Name x pos) (U1 i):=by
 intro pins s σ H Q I h
 obtain⟨v,e,h⟩:=h
 obtain⟨m,hn,hl⟩:=I.loc
 obtain⟨u,r,l⟩:=hl i x v hN e hv
 have fin:EP X pins σ Q u s:=⟨v,H,I,r,h⟩
 rcases l with⟨hk,hm⟩ | ⟨hk,c,hc,hcell⟩
 ·exact wpAny_Name (wpAny_loadName_local I.ok.kind hk hn hm fin) hd
 ·rcases hk with hk | hk
  ·exact wpAny_Name (wpAny_loadName_cell I.ok.kind hk hc hcell fin) hd
  ·exact wpAny_Name (wpAny_loadName_free I.ok.kind hk hc hcell fin hcd) hd
theorem zcU {i j pos}:PE X (.Constant (.int i) j pos) (tC (.int i)):=fun _ _ _ H _ I h=>wpAny_Constant_int ⟨.int i,H,I.tok _,⟨_,rfl⟩,h⟩
theorem zid {b j pos}:PE X (.Constant (.bool b) j pos) (tC (.bl b)):=fun _ _ _ H _ I h=>Constant_bool ⟨.bl b,H,I,rfl,h⟩
theorem zcT {j pos}:PE X (.Constant .none j pos) (tC .non):=fun _ _ _ H _ I h=>Constant_none ⟨.non,H,I,rfl,h⟩
theorem vt {x j pos}:PE X (.Constant (.str x) j pos) (tC (.str x)):=fun _ _ _ H _ I h=>Calls.Constant_str ⟨.str x,H,I.tok _,⟨_,rfl⟩,h⟩
def Gl (X:Cx) (x:Str):Prop:=X.env.kindOf x=some .globalImplicit
theorem ld_glob {E:Value→Shared→Prop}{pins:List (Addr×Obj)}{s:Shared}{σ:St}{H:Hp}{x:Str}{u:Value}{pos:Pos}{Q:Value→Shared→Prop}(I:Inv X pins σ H s) (hg:Gl X x) (hm:X.mg x=some u) (h:Q u s)
  (hd:(x == ("__debug__" : Str))=false:=by decide):wpAny (model X.prog X.w) X.A (eval (.Name x pos) X.env) Q E s :=
 Calls.Name_function_global I.ok.kind hg (Calls.loadGlobal_global (by rw[I.ok.glob];exact I.mod.glob.keeps I.bk) hm h) hd
theorem ld_blt {E:Value→Shared→Prop}{pins:List (Addr×Obj)}{s:Shared}{σ:St}{H:Hp}{x:Str}{u:Value}{pos:Pos}{Q:Value→Shared→Prop}(I:Inv X pins σ H s) (hg:Gl X x) (hm:X.mg x=none) (hv:bootBuiltins x=some u) (h:Q u s)
  (hn:x ≠ "__name__" := by decide) (hd:(x == ("__debug__" : Str))=false:=by decide):wpAny (model X.prog X.w) X.A (eval (.Name x pos) X.env) Q E s:=by
 obtain⟨mb,h1,h2⟩:=I.mod.blt
 exact Calls.Name_function_global I.ok.kind hg (Calls.loadGlobal_builtin (by rw[I.ok.glob];exact I.mod.glob.keeps I.bk) hm (by rw[I.ok.blt];exact h1.keeps I.bk) ((h2 x hn).trans hv) h) hd
theorem yv {x:Str}{v:V}{u:Value}{pos:Pos}(hg:Gl X x) (hm:X.mg x=some u) (r:RelV v u) (hd:(x == ("__debug__" : Str))=false:=by decide):PE X (.Name x pos) (tC v) :=
 fun _ _ _ H _ I h=>ld_glob I hg hm ⟨v,H,I,r,h⟩ hd
theorem Uu {x:Str}{v:V}{u:Value}{pos:Pos}(hg:Gl X x) (hm:X.mg x=none) (hv:bootBuiltins x=some u) (r:RelV v u) (hn:x ≠ "__name__" := by decide) (hd:(x == ("__debug__" : Str))=false:=by decide):PE X (.Name x pos) (tC v) :=
 fun _ _ _ H _ I h=>ld_blt I hg hm hv ⟨v,H,I,r,h⟩ hn hd
variable {a b:Expr}{ta tb:TE}{pos:Pos}
def PC (X:Cx) (op:CmpOp) (a b:Expr) (t:TE):Prop :=
 ∀ (pins:List (Addr×Obj)) (s:Shared) (σ:St) (H:Hp) (Q:VK),Inv X pins σ H s→t σ H Q →
  wpAny (model X.prog X.w) X.A (eval a X.env) (fun v s₁=>wpAny (model X.prog X.w) X.A (eval b X.env) (fun u s₂=>wpAny (model X.prog X.w) X.A (compareOp op v u) (EP X pins σ Q) X.xe s₂) X.xe s₁) X.xe s
def tB (t:TE):TT:=fun σ H Q=>t σ H fun x H1=>∃ c,x=.bl c∧Q c H1
theorem zcF {op:CmpOp}{t:TE}(h:PC X op a b t) (h1:behindInMarks op b=false:=by first | exact nobehind _ (by decide) (by decide) | rfl):PT X (.Compare a [op] [b] pos) (tB t):=by
 intro pins s σ H Q I hw
 refine wpAny_isTrue_Compare1 (thn (h pins s σ H _ I hw) fun v s1 h1=>thn h1 fun u s2 h2=>thn h2 fun c s3 hq0=>?_) h1
 obtain⟨x,H1,I1,r1,q1⟩:=hq0
 obtain⟨d,rfl,q⟩:=q1
 cases r1
 exact wpAny_truthy_bool ⟨H1,I1,q⟩
theorem uQ {e:Expr}{t:TE}(h:PE X e t) (he:∀ whole,isTrue e X.env whole=(do let v ← whole;standAt e.pos;holding [v] (truthy v)):=by intro _;rfl):PT X e (tB t):=by
 intro pins s σ H Q I hw
 refine isTrue_plain (thn (h pins s σ H _ I hw) fun v s1 hq0=>?_) (he _)
 obtain⟨x,H1,I1,r1,q1⟩:=hq0
 obtain⟨d,rfl,q⟩:=q1
 cases r1
 exact wpAny_truthy_bool ⟨H1,I1,q⟩
variable {tA tB':TT}{rest:List Expr}
def ziQ (t u:TT):TT:=fun σ H Q=>t σ H fun c H1=>if c=true then u σ H1 Q else Q false H1
def tOr (t u:TT):TT:=fun σ H Q=>t σ H fun c H1=>if c=true then Q true H1 else u σ H1 Q
def ziK (t:TT):TT:=fun σ H Q=>t σ H fun c H1=>Q (!c) H1
theorem V9 (ha:PT X a tA):PW X (.BoolOp .And [a] pos) tA:=by
 intro wh pins s σ H Q I h
 refine isTrue_and (thn (ha pins s σ H Q I h) fun c s1 e=>?_)
 cases c with
 |true=>exact isTrue_and_nil e
 |false=>exact e
theorem zcD (ha:PT X a tA):PW X (.BoolOp .Or [a] pos) tA:=by
 intro wh pins s σ H Q I h
 refine isTrue_or (thn (ha pins s σ H Q I h) fun c s1 e=>?_)
 cases c with
 |false=>exact isTrue_or_nil e
 |true=>exact e
theorem zcE (ha:PT X a tA) (hb:PW X (.BoolOp .And (b::rest) pos) tB'):PW X (.BoolOp .And (a::b::rest) pos) (ziQ tA tB'):=by
 intro wh pins s σ H Q I h
 refine isTrue_and (thn (ha pins s σ H _ I h) fun c s1 hq0=>?_)
 obtain⟨H1,I1,q1⟩:=hq0
 cases c with
 |true=>exact hb wh pins s1 σ H1 Q I1 q1
 |false=>exact⟨H1,I1,q1⟩
theorem zh3 (ha:PT X a tA) (hb:PW X (.BoolOp .Or (b::rest) pos) tB'):PW X (.BoolOp .Or (a::b::rest) pos) (tOr tA tB'):=by
 intro wh pins s σ H Q I h
 refine isTrue_or (thn (ha pins s σ H _ I h) fun c s1 hq0=>?_)
 obtain⟨H1,I1,q1⟩:=hq0
 cases c with
 |true=>exact⟨H1,I1,q1⟩
 |false=>exact hb wh pins s1 σ H1 Q I1 q1
theorem uR (ha:PT X a tA):PT X (.UnaryOp .Not a pos) (ziK tA):=by
 intro pins s σ H Q I h
 exact isTrue_not (ha pins s σ H (fun c H1=>Q (!c) H1) I h)
def tAndV (ta tb:TE):TE:=fun σ H Q=>ta σ H fun x H1=>∃ c,x=.bl c∧if c=true then tb σ H1 Q else Q (.bl false) H1
def ziJ (ta tb:TE):TE:=fun σ H Q=>ta σ H fun x H1=>∃ c,x=.bl c∧if c=true then Q (.bl true) H1 else tb σ H1 Q
def zbp (ta:TE):TE:=fun σ H Q=>ta σ H fun x H1=>∃ c,x=.bl c∧Q (.bl (!c)) H1
theorem zcR {op}{t:TE}(h:PE X a t):PE X (.BoolOp op [a] pos) t:=fun pins s σ H Q I hw=>BoolOp_one (h pins s σ H Q I hw)
theorem zc0 (ha:PE X a ta) (hb:PE X (.BoolOp .And (b::rest) pos) tb):PE X (.BoolOp .And (a::b::rest) pos) (tAndV ta tb):=by
 intro pins s σ H Q I h
 refine BoolOp_and (thn (ha pins s σ H _ I h) fun v s1 hq0=>?_)
 obtain⟨x,H1,I1,r1,q1⟩:=hq0
 obtain⟨c,rfl,q1⟩:=q1
 cases r1
 refine wpAny_truthy_bool ?_
 cases c with
 |true=>exact hb pins s1 σ H1 Q I1 q1
 |false=>exact⟨.bl false,H1,I1,rfl,q1⟩
theorem zh8 (ha:PE X a ta) (hb:PE X (.BoolOp .Or (b::rest) pos) tb):PE X (.BoolOp .Or (a::b::rest) pos) (ziJ ta tb):=by
 intro pins s σ H Q I h
 refine BoolOp_or (thn (ha pins s σ H _ I h) fun v s1 hq0=>?_)
 obtain⟨x,H1,I1,r1,q1⟩:=hq0
 obtain⟨c,rfl,q1⟩:=q1
 cases r1
 refine wpAny_truthy_bool ?_
 cases c with
 |false=>exact hb pins s1 σ H1 Q I1 q1
 |true=>exact⟨.bl true,H1,I1,rfl,q1⟩
theorem zcS (ha:PE X a ta):PE X (.UnaryOp .Not a pos) (zbp ta):=by
 intro pins s σ H Q I h
 refine UnaryOp_ (thn (ha pins s σ H _ I h) fun v s1 hq0=>?_)
 obtain⟨x,H1,I1,r1,q1⟩:=hq0
 obtain⟨c,rfl,q1⟩:=q1
 cases r1
 exact not_of (wpAny_truthy_bool ⟨.bl (!c),H1,I1,rfl,q1⟩)
def tIf (t:TT) (ta tb:TE):TE:=fun σ H Q=>t σ H fun c H1=>if c=true then ta σ H1 Q else tb σ H1 Q
theorem Wx {c:Expr}(hc:PT X c tA) (ha:PE X a ta) (hb:PE X b tb):PE X (.IfExp c a b pos) (tIf tA ta tb):=by
 intro pins s σ H Q I h
 refine wpAny_IfExp (thn (hc pins s σ H _ I h) fun d s1 hq0=>?_)
 obtain⟨H1,I1,q1⟩:=hq0
 cases d with
 |true=>exact ha pins s1 σ H1 Q I1 q1
 |false=>exact hb pins s1 σ H1 Q I1 q1
end
end L2
namespace L2
open PySem PySem.Spec PyProof.Rows
def SqL (K:PySem.W.Frag) (H:Hp) (a:Addr) (xs:List V):Prop :=
 Rd H a (.lst xs) ∨
  ∃ (o:Obj) (its:Array Value) (n:Nat),K.lookup a=some o∧o.cls=.type "list" ∧ o.dict=none∧o.data=.seq its n∧its.size≤sizeLine∧Vals xs its.toList
def SqT (K:PySem.W.Frag) (H:Hp) (a:Addr) (xs:List V):Prop :=
 Rd H a (.tup xs) ∨
  ∃ (o:Obj) (its:Array Value) (n:Nat),K.lookup a=some o∧o.cls=.type "tuple" ∧ o.data=.seq its n∧its.size≤sizeLine∧Vals xs its.toList
noncomputable def zqC:Value→Option V
 |.none=>some .non
 |.bool b=>some (.bl b)
 |.int i _=>some (.int i)
 |.str x _=>some (.str x)
 |.bytes b _=>some (.byt b)
 |.float b _=>some (.flt b)
 |.ref a=>some (.ref a)
 |.type n=>some (.ty n)
 |_=>none
theorem RelV.abs {x:V}{u:Value}(r:RelV x u):zqC u=some x:=by
 cases x with
 |non=>cases r;rfl
 |bl _=>cases r;rfl
 |int _=>obtain⟨t,rfl⟩:=r;rfl
 |str _=>obtain⟨t,rfl⟩:=r;rfl
 |byt _=>obtain⟨t,rfl⟩:=r;rfl
 |flt _=>obtain⟨t,rfl⟩:=r;rfl
 |ref _=>cases r;rfl
 |ty _=>cases r;rfl
theorem RelV.inj {x y:V}{u:Value}(r:RelV x u) (q:RelV y u):x=y:=Option.some.inj (r.abs.symm.trans q.abs)
theorem Vals.inj:∀ {xs ys:List V}{us:List Value},Vals xs us→Vals ys us→xs=ys
 |_,_,_,.nil,.nil=>rfl
 |_,_,_,.cons r t,.cons r' t'=>by rw[r.inj r',Vals.inj t t']
section
variable {X:Cx}{pins:List (Addr×Obj)}{σ:St}{H:Hp}{s:Shared}{a:Addr}{xs ys:List V}
theorem SqL.of {K:PySem.W.Frag}(h:H a=some (.lst xs)):SqL K H a xs:=.inl (.inl h)
theorem SqT.of {K:PySem.W.Frag}(h:H a=some (.tup xs)):SqT K H a xs:=.inl (.inl h)
theorem Inv.list (I:Inv X pins σ H s) (h:SqL X.K H a xs):∃ its:List Value,Vals xs its∧PlainL s.heap a its.toArray∧xs.length≤sizeLine:=by
 rcases h with h | ⟨o,its,n,hk,hc,hd,hs,hz,r⟩
 ·obtain⟨z,its,n,r,e⟩:=h.ok I.hok
  exact⟨its,r,⟨_,n,e,rfl,rfl,rfl⟩,z⟩
 ·refine⟨its.toList,r,⟨o,n,I.kIn a o hk,hc,hd,by simpa using hs⟩,?_⟩
  have e:=r.length
  simp only[Array.length_toList] at e
  omega
theorem Inv.tuple (I:Inv X pins σ H s) (h:SqT X.K H a xs):∃ its:List Value,Vals xs its∧IsTup s.heap a its.toArray∧xs.length≤sizeLine:=by
 rcases h with h | ⟨o,its,n,hk,hc,hs,hz,r⟩
 ·obtain⟨z,its,r,p⟩:=h.ok I.hok
  exact⟨its,r,p,z⟩
 ·refine⟨its.toList,r,⟨o,I.kIn a o hk,hc,n,by simpa using hs⟩,?_⟩
  have e:=r.length
  simp only[Array.length_toList] at e
  omega
theorem Inv.list_inj (I:Inv X pins σ H s) (h:SqL X.K H a xs) (h':SqL X.K H a ys):xs=ys:=by
 obtain⟨its,r,⟨o,n,e,_,_,d⟩,_⟩:=I.list h
 obtain⟨its',r',⟨o',n',e',_,_,d'⟩,_⟩:=I.list h'
 rw[e] at e';cases e'
 rw[d] at d'
 injection d' with d1 _
 have:its=its':=by simpa using congrArg Array.toList d1
 subst this
 exact r.inj r'
theorem Inv.tuple_inj (I:Inv X pins σ H s) (h:SqT X.K H a xs) (h':SqT X.K H a ys):xs=ys:=by
 obtain⟨its,r,⟨o,e,_,n,d⟩,_⟩:=I.tuple h
 obtain⟨its',r',⟨o',e',_,n',d'⟩,_⟩:=I.tuple h'
 rw[e] at e';cases e'
 rw[d] at d'
 injection d' with d1 _
 have:its=its':=by simpa using congrArg Array.toList d1
 subst this
 exact r.inj r'
end
noncomputable abbrev Cx.wish (X:Cx) (E:Value→Shared→Prop):Cx:={ X with xe:=E }
noncomputable abbrev Cx.nox (X:Cx):Cx:=X.wish fun _ _=>False
theorem Cx.Ok.wish {X:Cx}(ok:X.Ok) (E:Value→Shared→Prop):(X.wish E).Ok :=
 ⟨ok.mod,ok.kind,ok.glob,ok.blt,ok.above,ok.inj,ok.has,ok.cab,ok.hd,ok.frames,ok.stk,ok.exf,ok.bs,ok.bsz,ok.noex,ok.exfs,ok.funs,ok.frf⟩
theorem Cx.Ok.unwish {X:Cx}{E:Value→Shared→Prop}(ok:(X.wish E).Ok):X.Ok :=
 ⟨ok.mod,ok.kind,ok.glob,ok.blt,ok.above,ok.inj,ok.has,ok.cab,ok.hd,ok.frames,ok.stk,ok.exf,ok.bs,ok.bsz,ok.noex,ok.exfs,ok.funs,ok.frf⟩
section
variable {X:Cx}{pins:List (Addr×Obj)}{σ:St}{H:Hp}{s:Shared}{E:Value→Shared→Prop}
theorem Inv.wish (I:Inv X pins σ H s) (E:Value→Shared→Prop):Inv (X.wish E) pins σ H s:=⟨I.ok.wish E,I.os,I.bare,I.base,I.loc,I.cell,I.free,I.freeC,I.pin,I.hok,I.len⟩
theorem Inv.unwish (I:Inv (X.wish E) pins σ H s):Inv X pins σ H s:=⟨I.ok.unwish,I.os,I.bare,I.base,I.loc,I.cell,I.free,I.freeC,I.pin,I.hok,I.len⟩
theorem SP.unwish {D:Ends}{f:Flow}{s':Shared}(h:SP (X.wish E) pins D f s'):SP X pins D f s':=by
 cases f with
 |next=>obtain⟨σ',H',I,q⟩:=h;exact⟨σ',H',I.unwish,q⟩
 |brk=>obtain⟨σ',H',I,q⟩:=h;exact⟨σ',H',I.unwish,q⟩
 |cont=>obtain⟨σ',H',I,q⟩:=h;exact⟨σ',H',I.unwish,q⟩
 |ret u=>obtain⟨v,σ',H',I,r,q⟩:=h;exact⟨v,σ',H',I.unwish,r,q⟩
theorem PSs.nox {st:List Stmt}{t:TS}(h:PSs X.nox st t):PSs X st t:=fun pins s σ H D I hw =>
 wpAny_mono (h pins s σ H D (I.wish _) hw) (fun _ _ q=>q.unwish) fun _ _ z=>False.elim z
end
section
variable {X:Cx}{st:Stmt}{rest:List Stmt}{t u:TS}{e:Expr}{te:TE}{pos:Pos}
def zbq:TS:=fun D σ H=>D.nx σ H
def zdU (t u:TS):TS:=fun D σ H=>t { D with nx:=u D } σ H
theorem xV:PSs X [] zbq:=fun _ _ σ H _ I h=>wpAny_execs_nil ⟨σ,H,I,h⟩
theorem yk (h1:PS X st t) (h2:PSs X rest u):PSs X (st::rest) (zdU t u):=by
 intro pins s σ H D I h
 refine wpAny_execs_cons (thn (h1 pins s σ H { D with nx:=u D } I h) fun f s1 q=>?_)
 cases f with
 |next =>
  obtain⟨σ',H',I',q⟩:=q
  exact h2 pins s1 σ' H' D I' q
 |ret v=>exact q
 |brk=>exact q
 |cont=>exact q
theorem yU (h1:PS X st t):PSs X [st] t:=by
 intro pins s σ H D I h
 refine wpAny_execs_cons (thn (h1 pins s σ H D I h) fun f s1 q=>?_)
 cases f with
 |next=>exact wpAny_execs_nil q
 |ret v=>exact q
 |brk=>exact q
 |cont=>exact q
theorem Inv.quiet {pins:List (Addr×Obj)}{σ:St}{H:Hp}{s:Shared}(I:Inv X pins σ H s):interactive X.env=false:=by simp[interactive,I.ok.kind]
def VW (te:TE):TS:=fun D σ H=>te σ H fun _ H1=>D.nx σ H1
theorem Uf (he:PE X e te) (hs:swapsWith e none pos.line X.env=pure false:=by rfl):PS X (.Expr e pos) (VW te):=by
 intro pins s σ H D I h
 exact wpAny_Expr_any (thn (he pins s σ H _ I h) fun v s1 ⟨x,H1,I1,r1,q1⟩=>⟨σ,H1,I1,q1⟩) I.quiet hs
def zha (te:TE):TS:=fun D σ H=>te σ H D.rt
theorem Vo (he:PE X e te):PS X (.Return (some e) pos) (zha te):=by
 intro pins s σ H D I h
 exact wpAny_Return_some (thn (he pins s σ H _ I h) fun v s1 ⟨x,H1,I1,r1,q1⟩=>⟨x,σ,H1,I1,r1,q1⟩)
def ziM (c:TT) (t u:TS):TS:=fun D σ H=>c σ H fun b H1=>if b=true then t D σ H1 else u D σ H1
theorem Y4 {c:Expr}{a b:List Stmt}{tc:TT}(hc:PT X c tc) (ha:PSs X a t) (hb:PSs X b u):PS X (.If c a b pos) (ziM tc t u):=by
 intro pins s σ H D I h
 refine wpAny_If (thn (hc pins s σ H _ I h) fun d s1 hq0=>?_)
 obtain⟨H1,I1,q1⟩:=hq0
 cases d with
 |true=>exact ha pins s1 σ H1 D I1 q1
 |false=>exact hb pins s1 σ H1 D I1 q1
end
abbrev TG:=V→St→Hp→(St→Hp→Prop)→Prop
abbrev TGs:=List V→St→Hp→(St→Hp→Prop)→Prop
def PG (X:Cx) (target:Expr) (t:TG):Prop :=
 ∀ (pins:List (Addr×Obj)) (s:Shared) (σ:St) (H:Hp) (v:V) (u:Value) (Q:St→Hp→Prop),Inv X pins σ H s→RelV v u→t v σ H Q →
  wpAny (model X.prog X.w) X.A (assign target X.env u) (fun _ s'=>∃ σ' H',Inv X pins σ' H' s'∧Q σ' H') X.xe s
def PGs (X:Cx) (ts:List Expr) (t:TGs):Prop :=
 ∀ (pins:List (Addr×Obj)) (s:Shared) (σ:St) (H:Hp) (vs:List V) (us:List Value) (Q:St→Hp→Prop),Inv X pins σ H s→Vals vs us→t vs σ H Q →
  wpAny (model X.prog X.w) X.A (assignInOrder ((assignEach ts X.env).map (·.2)) us) (fun _ s'=>∃ σ' H',Inv X pins σ' H' s'∧Q σ' H') X.xe s
abbrev zg4:=V→V→V→Hp→(Hp→Prop)→Prop
def ziD (X:Cx) (t:zg4):Prop :=
 ∀ (pins:List (Addr×Obj)) (s:Shared) (σ:St) (H:Hp) (o i v:V) (ov iv u:Value) (Q:Hp→Prop),Inv X pins σ H s→RelV o ov→RelV i iv→RelV v u→t o i v H Q →
  wpAny (model X.prog X.w) X.A (setItem ov iv u) (fun _ s'=>∃ H',Inv X pins σ H' s'∧Q H') X.xe s
section
variable {X:Cx}{pos:Pos}
def wV (i:Nat):TG:=fun v σ H Q=>Q (σ.set i (some v)) H
theorem Y9 {i:Nat}{x:Str}(hN:X.N.Nodup) (hi:X.N[i]?=some x) (hx:Loc X.env.scope x) (hf:X.fn x=true∨X.env.scope.names.lookup x=some .local:=by first | exact .inl rfl | exact .inr rfl | assumption):PG X (.Name x pos) (wV i):=by
 intro pins s σ H v u Q I r h
 exact wpAny_assign_Name (store_ok I hN hi hx r (fun s' I'=>⟨_,H,I',h⟩) hf)
def gNil:TGs:=fun vs σ H Q=>vs=[]∧Q σ H
def zdH (t:TG) (u:TGs):TGs:=fun vs σ H Q=>∃ v r,vs=v::r∧t v σ H fun σ' H'=>u r σ' H' Q
theorem Ul:PGs X [] gNil:=by
 intro pins s σ H vs us Q I r h
 obtain⟨e,h⟩:=h
 subst e
 cases r
 exact assignInOrder_nil ⟨σ,H,I,h⟩
theorem Wu {e:Expr}{es:List Expr}{t:TG}{u:TGs}(h1:PG X e t) (h2:PGs X es u)
  (hs:(assignEach (e::es) X.env).map (·.2)=assign e X.env::(assignEach es X.env).map (·.2):=by rfl):PGs X (e::es) (zdH t u):=by
 intro pins s σ H vs us Q I r h
 obtain⟨v,vr,e1,h⟩:=h
 subst e1
 cases r with
 |cons r rr =>
  rw[hs]
  refine assignInOrder_cons (thn (h1 pins s σ H _ _ _ I r h) fun _ s1 hq0=>?_)
  obtain⟨σ1,H1,I1,q1⟩:=hq0
  exact h2 pins s1 σ1 H1 _ _ Q I1 rr q1
def zpy (K:PySem.W.Frag) (n:Nat) (t:TGs):TG:=fun v σ H Q=>∃ a xs,v=.ref a∧SqT K H a xs∧xs.length=n∧t xs σ H Q
theorem zcN {es:List Expr}{k:Nat}{t:TGs}{n:Nat}(hc:X.calm=true) (h:PGs X es t)
  (hn:(assignEach es X.env).length=n:=by rfl) (hst:(assignEach es X.env).findIdx? (·.1)=none:=by rfl):PG X (.Tuple es k pos) (zpy X.K n t):=by
 intro pins s σ H v u Q I r hw
 obtain⟨a,xs,e1,hq,hl,hw⟩:=hw
 subst e1
 cases r
 obtain⟨its,rv,ht,hz⟩:=I.tuple hq
 refine assign_Tuple_tuple (I.ok.hd hc) ht (by simp[hn,← hl,rv.length]) hst fun h' hx=>?_
 have I1:Inv X pins σ H { s with heap:=h' }:=I.kept (t':=s.toks) fun b o e=>hx b o (Nat.ne_of_lt (Heap.lt_size e)) e
 exact h pins _ σ H xs _ Q I1 (by simpa using rv) hw
def zpz (to ti:TE) (t:zg4):TG:=fun v σ H Q=>to σ H fun o H1=>ti σ H1 fun i H2=>t o i v H2 fun H3=>Q σ H3
theorem zcO {o i:Expr}{to ti:TE}{t:zg4}(ho:PE X o to) (hi:PE X i ti) (hs:ziD X t)
  (ha:∀ v,assign (.Subscript o i pos) X.env v=(do
   let ov ← holding [v] (eval o X.env)
   let iv ← holding [v,ov] (eval i X.env)
   standAt pos
   holding [v,ov,iv] (setItem ov iv v)
   release [v,ov,iv] []):=by intro _;rfl):PG X (.Subscript o i pos) (zpz to ti t):=by
 intro pins s σ H v u Q I r h
 rw[ha]
 refine wpAny_bind (wpAny_holding (thn (ho pins s σ H _ I h) fun ov s1 hq0=>?_))
 obtain⟨x,H1,I1,r1,q1⟩:=hq0
 refine wpAny_bind (wpAny_holding (thn (hi pins s1 σ H1 _ I1 q1) fun iv s2 hq0=>?_))
 obtain⟨y,H2,I2,r2,q2⟩:=hq0
 refine wpAny_bind (wpAny_standAt (wpAny_bind (wpAny_holding (thn (hs pins s2 σ H2 x y v ov iv u _ I2 r1 r2 r q2) fun _ s3 hq0=>?_))))
 obtain⟨H3,I3,q3⟩:=hq0
 exact wpAny_release ⟨σ,H3,I3,q3⟩
def Vi (te:TE) (g:TG):TS:=fun D σ H=>te σ H fun x H1=>g x σ H1 D.nx
theorem zcI {tg e:Expr}{te:TE}{g:TG}(he:PE X e te) (hg:PG X tg g) (hs:swapsWithSole [tg] e pos.line X.env=pure false:=by rfl) (hw:swappedStores [tg] e X.env=pure none:=by rfl)
  (h1:(assignEach [tg] X.env).map (·.2)=[assign tg X.env]:=by rfl):PS X (.Assign [tg] e pos) (Vi te g):=by
 intro pins s σ H D I h
 refine wpAny_Assign_stores (thn (he pins s σ H _ I h) fun v s1 hq0=>?_) hs hw
 obtain⟨x,H1,I1,r1,q1⟩:=hq0
 rw[h1]
 exact thn (hg pins s1 σ H1 x v _ I1 r1 q1) fun _ s2 q=>q
theorem zcG {i:Nat}{x:Str}{e:Expr}{te:TE}{pos':Pos}(hN:X.N.Nodup) (hi:X.N[i]?=some x) (hx:Loc X.env.scope x) (he:PE X e te) (hs:swapsWith e (some (.Name x pos')) pos.line X.env=pure false:=by rfl) (hf:X.fn x=true∨X.env.scope.names.lookup x=some .local:=by first | exact .inl rfl | exact .inr rfl | assumption) :
  PS X (.Assign [.Name x pos'] e pos) (Vi te (wV i)):=by
 intro pins s σ H D I h
 refine wpAny_Assign_Name (thn (he pins s σ H _ I h) fun v s1 hq0=>?_) hs
 obtain⟨y,H1,I1,r1,q1⟩:=hq0
 exact store_ok I1 hN hi hx r1 (fun s2 I2=>⟨_,H1,I2,q1⟩) hf
end
section
variable {X:Cx}{pos:Pos}
def Vg (c:TT) (tb:TS):TS:=fun D σ H=>∃ W:Nat→St→Hp→Prop,(∃ m,W m σ H)∧∀ m σ H,W m σ H →
 c σ H fun b H1=>if b=true then ∃ N:St→Hp→Prop,(∀ σ' H',N σ' H'→∃ m',m'<m∧W m' σ' H')∧tb { D with nx:=N,ct:=N,bk:=D.nx } σ H1 else D.nx σ H1
theorem Wq {c:Expr}{body:List Stmt}{tc:TT}{tb:TS}(hp:PassesOwn (model X.prog X.w) X.A X.env X.xe) (hc:PT X c tc) (hb:PSs X body tb):PS X (.While c body [] pos) (Vg tc tb):=by
 intro pins s σ H D I h
 obtain⟨W,⟨m0,w0⟩,turn⟩:=h
 refine wpAny_While (codeAny_whileLoop (fun n s'=>∃ σ' H',Inv X pins σ' H' s'∧W n σ' H') ?_ m0 ⟨σ,H,I,w0⟩)
 rintro n s1 ⟨σ1,H1,I1,w1⟩
 refine wpAny_passesOwn hp (thn (hc pins s1 σ1 H1 _ I1 (turn n σ1 H1 w1)) fun b s2 hq0=>?_)
 obtain⟨H2,I2,q2⟩:=hq0
 cases b with
 |true =>
  obtain⟨N,hN,q2⟩:=q2
  rw[if_pos rfl]
  refine wpAny_passesOwn hp (thn (hb pins s2 σ1 H2 _ I2 q2) fun f s3 q3=>?_)
  cases f with
  |next =>
   obtain⟨σ3,H3,I3,n3⟩:=q3
   obtain⟨m',hm,w3⟩:=hN σ3 H3 n3
   exact⟨m',hm,σ3,H3,I3,w3⟩
  |cont =>
   obtain⟨σ3,H3,I3,n3⟩:=q3
   obtain⟨m',hm,w3⟩:=hN σ3 H3 n3
   exact⟨m',hm,σ3,H3,I3,w3⟩
  |brk=>exact q3
  |ret v=>exact q3
 |false =>
  rw[if_neg Bool.false_ne_true]
  exact wpAny_execs_nil ⟨σ1,H2,I2,q2⟩
end
structure It where
 go:Nat→Hp→Prop
 yld:Nat→Hp→V→Hp→Prop
 stop:Nat→Hp→Prop
def FpOk (X:Cx) (pins:List (Addr×Obj)) (H:Hp) (b:Addr):Prop :=
 H b=none∧b≠X.env.locals∧b∉X.fs∧(b∈X.ex∨X.s₀.heap.objs.size≤b)∧(∀ x c,X.env.cells.lookup x=some c→c≠b)∧∀ p∈X.pn++pins,p.1≠b
theorem Inv.fpOk {X:Cx}{pins:List (Addr×Obj)}{σ:St}{H H':Hp}{s:Shared}{b:Addr}(I:Inv X pins σ H s) (hb:s.heap.objs.size≤b) (hn:H' b=none):FpOk X pins H' b:=by
 refine⟨hn,Nat.ne_of_gt (Nat.lt_of_lt_of_le I.lt hb),I.nofs hb,.inr (Nat.le_trans I.sz hb),fun x c e z=>?_,fun p hp z=>?_⟩
 ·obtain⟨v,q⟩:=I.cell x c e
  exact absurd (Nat.lt_of_lt_of_le q.lt (by rw[z];exact hb)) (Nat.lt_irrefl _)
 ·exact absurd (Nat.lt_of_lt_of_le (Heap.lt_size (I.pin p hp).1) (by rw[z];exact hb)) (Nat.lt_irrefl _)
structure Turn (P:Program) (w:World) (K:PySem.W.Frag) (tg:Expr) (J:It) (fp:List Addr) (it:Addr) (tn:Nat→Heap→Prop):Prop where
 mem:it∈fp
 obj:∀ i h,tn i h→∀ b∈fp,∃ o,h.get? b=some o∧∀ v,o.data≠.cell v
 keep:∀ i h h',tn i h→(∀ b∈fp,∀ o,h.get? b=some o→h'.get? b=some o)→tn i h'
 item:∀ (X:Cx),X.prog=P→X.w=w→X.K=K→X.calm=true→∀ (i:Nat) (pins:List (Addr×Obj)) (s:Shared) (σ:St) (H:Hp) (E:Value→Shared→Prop),Inv X pins σ H s→(∀ b∈fp,FpOk X pins H b)→tn i s.heap→J.go i H →
  wpAny (model P w) X.A (pyNext (.ref it)) (fun r s1=>∃ u,r=some u ∧
   wpAny (model P w) X.A (letOwnedTupleGo tg (.ref it) u) (fun _ s2=>∃ x H',Inv X pins σ H' s2∧RelV x u∧J.yld i H x H'∧tn (i+1) s2.heap∧∀ b∈fp,H' b=none) E s1) E s
 done:∀ (X:Cx),X.prog=P→X.w=w→X.K=K→X.calm=true→∀ (i:Nat) (pins:List (Addr×Obj)) (s:Shared) (σ:St) (H:Hp) (E:Value→Shared→Prop),Inv X pins σ H s→(∀ b∈fp,FpOk X pins H b)→tn i s.heap→J.stop i H →
  wpAny (model P w) X.A (pyNext (.ref it)) (fun r s1=>r=none∧Inv X pins σ H s1) E s
 self:∀ (A:Around) (i:Nat) (s:Shared) (Q:Value→Shared→Prop) (E:Value→Shared→Prop),tn i s.heap→Q (.ref it) s→wpAny (model P w) A (pyIter (.ref it)) Q E s
abbrev TI:=St→Hp→(It→Hp→Prop)→Prop
def PIE (X:Cx) (pins:List (Addr×Obj)) (σ:St) (tg:Expr) (R:It→Hp→Prop) (itv:Value) (s2:Shared):Prop :=
 ∃ (it:Addr) (fp:List Addr) (tn:Nat→Heap→Prop) (J:It) (H':Hp),itv=.ref it∧Inv X pins σ H' s2∧Turn X.prog X.w X.K tg J fp it tn∧tn 0 s2.heap∧(∀ b∈fp,FpOk X pins H' b)∧R J H'
def PI (X:Cx) (tg iter:Expr) (wi:TI):Prop :=
 ∀ (pins:List (Addr×Obj)) (s:Shared) (σ:St) (H:Hp) (R:It→Hp→Prop),Inv X pins σ H s→wi σ H R →
  wpAny (model X.prog X.w) X.A (eval iter X.env) (fun v s1=>wpAny (model X.prog X.w) X.A (pyIter v) (PIE X pins σ tg R) X.xe s1) X.xe s
theorem XH {M:Model}{A:Around}{E:Value→Shared→Prop}{s:Shared}{tg:Expr}{it:Addr}{u:Value}{o:Obj}{n:String}{vs:Array Value}{Q:Unit→Shared→Prop}(ho:s.heap.get? it=some o) (hc:o.cls=.type n) (hd:o.data=.fields vs)
  (hn:["enumerate", "zip", "dict_itemiterator", "dict_reverseitemiterator", "odict_iterator", "itertools.zip_longest", "itertools.pairwise"].contains n=false) (hQ:Q () s):wpAny M A (letOwnedTupleGo tg (.ref it) u) Q E s:=by
 unfold letOwnedTupleGo
 cases tg<;>first
  |exact wpAny_pure hQ
  |(cases u<;>first
    |exact wpAny_pure hQ
    |(refine wpAny_bind (wpAny_load ho ?_)
      rw[hc,hd]
      show wpAny M A (if (["enumerate", "zip", "dict_itemiterator", "dict_reverseitemiterator", "odict_iterator", "itertools.zip_longest", "itertools.pairwise"].contains n&&vs[0]? == some (rawInt _))=true then _ else _) Q E s
      rw[if_neg (by intro h;rw[hn,Bool.false_and] at h;cases h)]
      exact wpAny_pure hQ))
noncomputable def Itl (K:PySem.W.Frag) (a:Addr):It :=
 ⟨fun i H=>∃ xs x,SqL K H a xs∧xs[i]?=some x,fun i H x H'=>H'=H∧∀ xs,SqL K H a xs→xs[i]?=some x,fun i H=>∃ xs,SqL K H a xs∧xs.length≤i⟩
noncomputable def Itt (K:PySem.W.Frag) (a:Addr):It :=
 ⟨fun i H=>∃ xs x,SqT K H a xs∧xs[i]?=some x,fun i H x H'=>H'=H∧∀ xs,SqT K H a xs→xs[i]?=some x,fun i H=>∃ xs,SqT K H a xs∧xs.length≤i⟩
noncomputable def Itr (lo:Int) (n:Nat):It:=⟨fun i _=>i<n,fun i H x H'=>H'=H∧x=.int (lo+i),fun i _=>n≤i⟩
theorem Z0 {P:Program}{w:World}{K:PySem.W.Frag}{tg:Expr} (a it:Addr):Turn P w K tg (Itl K a) [it] it (fun i h=>h.IsListIter it a i) where
 mem:=by simp
 obj:=fun i h st b hb=>by
  have e:b=it:=by simpa using hb
  subst e
  obtain⟨o,e,c,d⟩:=st
  exact⟨o,e,fun v z=>by rw[d] at z;cases z⟩
 keep:=fun i h h' st k=>st.at fun o e=>k it (by simp) o e
 item:=by
  intro X hP hw hK hc i pins s σ H E I hf st hg
  subst hP hw hK
  obtain⟨xs,x,hq,hx⟩:=hg
  obtain⟨its,rv,p,hz⟩:=I.list hq
  obtain⟨u,hu,ru⟩:=rv.get hx
  obtain⟨f0,f1,f2,f3,f4,f5⟩:=hf it (by simp)
  refine wpAny_pyNext_list_item st p.isList (x:=u) (by simpa using hu) fun h' st' sb=>?_
  have I1:Inv X pins σ H { s with heap:=h' }:=I.turned (t':=s.toks) (fun b o hb e=>(sb.2 b hb).trans e) f0 f1 f3 f4 f5
  obtain⟨o,e,c,d⟩:=id st'
  exact⟨u,rfl,XH (s:={ s with heap:=h' }) e c d (by decide) ⟨x,H,I1,ru,⟨rfl,fun ys hy=>by rw[I.list_inj hy hq];exact hx⟩,st',fun b hb=>(hf b hb).1⟩⟩
 done:=by
  intro X hP hw hK hc i pins s σ H E I hf st hg
  subst hP hw hK
  obtain⟨xs,hq,hx⟩:=hg
  obtain⟨its,rv,p,hz⟩:=I.list hq
  obtain⟨f0,f1,f2,f3,f4,f5⟩:=hf it (by simp)
  have hl:=rv.length
  exact wpAny_pyNext_list_end (I.ok.hd hc) st p.isList (by simp;omega) fun h' eb=>⟨rfl,I.turned (t':=s.toks) (fun b o hb e=>eb b o hb e) f0 f1 f3 f4 f5⟩
 self:=fun _ _ _ _ _ st h=>wpAny_pyIter_listiter st h
theorem Zp {P:Program}{w:World}{K:PySem.W.Frag}{tg:Expr} (a it:Addr):Turn P w K tg (Itt K a) [it] it (fun i h=>h.IsTupleIter it a i) where
 mem:=by simp
 obj:=fun i h st b hb=>by
  have e:b=it:=by simpa using hb
  subst e
  obtain⟨o,e,c,d⟩:=st
  exact⟨o,e,fun v z=>by rw[d] at z;cases z⟩
 keep:=fun i h h' st k=>st.at fun o e=>k it (by simp) o e
 item:=by
  intro X hP hw hK hc i pins s σ H E I hf st hg
  subst hP hw hK
  obtain⟨xs,x,hq,hx⟩:=hg
  obtain⟨its,rv,p,hz⟩:=I.tuple hq
  obtain⟨u,hu,ru⟩:=rv.get hx
  obtain⟨f0,f1,f2,f3,f4,f5⟩:=hf it (by simp)
  refine wpAny_pyNext_tuple_item st (show s.heap.IsTuple a its.toArray from p) (x:=u) (by simpa using hu) fun h' st' sb=>?_
  have I1:Inv X pins σ H { s with heap:=h' }:=I.turned (t':=s.toks) (fun b o hb e=>(sb.2 b hb).trans e) f0 f1 f3 f4 f5
  obtain⟨o,e,c,d⟩:=id st'
  exact⟨u,rfl,XH (s:={ s with heap:=h' }) e c d (by decide) ⟨x,H,I1,ru,⟨rfl,fun ys hy=>by rw[I.tuple_inj hy hq];exact hx⟩,st',fun b hb=>(hf b hb).1⟩⟩
 done:=by
  intro X hP hw hK hc i pins s σ H E I hf st hg
  subst hP hw hK
  obtain⟨xs,hq,hx⟩:=hg
  obtain⟨its,rv,p,hz⟩:=I.tuple hq
  obtain⟨f0,f1,f2,f3,f4,f5⟩:=hf it (by simp)
  have hl:=rv.length
  exact wpAny_pyNext_tuple_end (I.ok.hd hc) st (show s.heap.IsTuple a its.toArray from p) (by simp;omega) fun h' eb=>⟨rfl,I.turned (t':=s.toks) (fun b o hb e=>eb b o hb e) f0 f1 f3 f4 f5⟩
 self:=fun _ _ _ _ _ st h=>wpAny_pyIter_tupleiter st h
theorem Zq {P:Program}{w:World}{K:PySem.W.Frag}{tg:Expr}(it:Addr) (lo:Int) (n:Nat):Turn P w K tg (Itr lo n) [it] it (fun i h=>IsRangeIter h it (lo+(i:Nat)*1) ((n:Int)-(i:Nat)) 1) where
 mem:=by simp
 obj:=fun i h st b hb=>by
  have e:b=it:=by simpa using hb
  subst e
  exact⟨_,st,fun v z=>by
   have z':Data.fields _=Data.cell v:=z
   cases z'⟩
 keep:=fun i h h' st k=>k it (by simp) _ st
 item:=by
  intro X hP hw hK hc i pins s σ H E I hf st hg
  subst hP hw hK
  obtain⟨f0,f1,f2,f3,f4,f5⟩:=hf it (by simp)
  have W:=Walks.range (prog:=X.prog) (w:=X.w) (I.ok.hd hc) it lo 1 n
  refine W.item i s _ _ hg st fun v h' tk hv st' kk=>?_
  obtain⟨t,rfl⟩:=hv
  have I1:Inv X pins σ H { s with heap:=h',toks:=tk }:=I.turned (fun b o hb e=>kk b o (by simpa using hb) e) f0 f1 f3 f4 f5
  refine⟨_,rfl,XH (s:={ s with heap:=h',toks:=tk }) (n := "range_iterator") st' rfl rfl (by decide) ⟨.int (lo+i),H,I1,⟨t,?_⟩,⟨rfl,rfl⟩,st',fun b hb=>(hf b hb).1⟩⟩
  rw[Int.mul_one]
 done:=by
  intro X hP hw hK hc i pins s σ H E I hf st hg
  subst hP hw hK
  obtain⟨f0,f1,f2,f3,f4,f5⟩:=hf it (by simp)
  exact wpAny_pyNext_range_end (I.ok.hd hc) st (by have:n≤i:=hg;omega) fun h' eb=>⟨rfl,I.turned (t':=s.toks) (fun b o hb e=>eb b o hb e) f0 f1 f3 f4 f5⟩
 self:=fun _ _ _ _ _ st h=>wpAny_pyIter_rangeiter st h
end L2
namespace L2
open PySem PySem.Spec PyProof.Rows
section
variable {X:Cx}{tg:Expr}
def zdE (K:PySem.W.Frag) (tl:TE):TI:=fun σ H R=>tl σ H fun x H1=>∃ a,x=.ref a∧(∃ xs,SqL K H1 a xs)∧R (Itl K a) H1
def zpu (K:PySem.W.Frag) (tl:TE):TI:=fun σ H R=>tl σ H fun x H1=>∃ a,x=.ref a∧(∃ xs,SqT K H1 a xs)∧R (Itt K a) H1
theorem Y8 {l:Expr}{tl:TE}(hl:PE X l tl):PI X tg l (zdE X.K tl):=by
 intro pins s σ H R I h
 refine thn (hl pins s σ H _ I h) fun v s1 hq0=>?_
 obtain⟨x,H1,I1,r1,q1⟩:=hq0
 obtain⟨a,e,⟨xs,hq⟩,q⟩:=q1
 subst e
 cases r1
 obtain⟨its,rv,p,hz⟩:=I1.list hq
 refine wpAny_pyIter_list p.isList ?_
 refine⟨s1.heap.objs.size,[s1.heap.objs.size],_,_,H1,rfl,I1.kept (t':=s1.toks) fun b o e=>Heap.get?_push_of_some _ e,Z0 a _,⟨_,Heap.get?_push_size _ rfl,rfl,rfl⟩,fun b hb=>?_,q⟩
 have e:b=s1.heap.objs.size:=by simpa using hb
 subst e
 exact I1.fpOk (Nat.le_refl _) (I1.hok.fresh (Nat.le_refl _))
theorem zcL {l:Expr}{tl:TE}(hl:PE X l tl):PI X tg l (zpu X.K tl):=by
 intro pins s σ H R I h
 refine thn (hl pins s σ H _ I h) fun v s1 hq0=>?_
 obtain⟨x,H1,I1,r1,q1⟩:=hq0
 obtain⟨a,e,⟨xs,hq⟩,q⟩:=q1
 subst e
 cases r1
 obtain⟨its,rv,p,hz⟩:=I1.tuple hq
 refine wpAny_pyIter_tuple (show s1.heap.IsTuple a its.toArray from p) ?_
 refine⟨s1.heap.objs.size,[s1.heap.objs.size],_,_,H1,rfl,I1.kept (t':=s1.toks) fun b o e=>Heap.get?_push_of_some _ e,Zp a _,⟨_,Heap.get?_push_size _ rfl,rfl,rfl⟩,fun b hb=>?_,q⟩
 have e:b=s1.heap.objs.size:=by simpa using hb
 subst e
 exact I1.fpOk (Nat.le_refl _) (I1.hok.fresh (Nat.le_refl _))
theorem Wp {pins:List (Addr×Obj)}{σ:St}{H:Hp}{s:Shared}{R:It→Hp→Prop}{E:Value→Shared→Prop}{lo hi:Int}{t u v:Tok}{tk:Nat}(I:Inv X pins σ H s) (h1 : -(2 ^ 62)≤lo) (h2:lo<2 ^ 62) (h3 : -(2 ^ 62)≤hi) (h4:hi<2 ^ 62)
  (q:R (Itr lo (hi-lo).toNat) H):wpAny (model X.prog X.w) X.A (pyIter (.ref s.heap.objs.size)) (PIE X pins σ tg R) E { s with heap:=s.heap.push { cls:=.type "range",data:=.fields #[.int lo t,.int hi u,.int 1 v] },toks:=tk }:=by
 refine wpAny_pyIter_range (IsRange.new ..) (small_one h1 h2 h3 h4) ?_
 have I1:Inv X pins σ H { s with heap:=s.heap.push { cls:=.type "range",data:=.fields #[.int lo t,.int hi u,.int 1 v] },toks:=tk }:=I.kept fun b o e=>Heap.get?_push_of_some _ e
 refine⟨(s.heap.push { cls:=.type "range",data:=.fields #[.int lo t,.int hi u,.int 1 v] }).objs.size,[(s.heap.push { cls:=.type "range",data:=.fields #[.int lo t,.int hi u,.int 1 v] }).objs.size],_,_,H,rfl,
  I1.kept (t':=tk) fun b o e=>Heap.get?_push_of_some _ e,Zq _ lo (hi-lo).toNat,?_,fun b hb=>?_,q⟩
 ·have e1:lo+((0:Nat):Int)*1=lo:=by simp
  have e2:(((hi-lo).toNat:Nat):Int)-((0:Nat):Int)=Builtin.Range.rangeSize lo hi 1:=by rw[rangeSize_one];split<;>omega
  show IsRangeIter _ _ (lo+((0:Nat):Int)*1) ((((hi-lo).toNat:Nat):Int)-((0:Nat):Int)) 1
  rw[e1,e2]
  exact Heap.get?_push_size _ rfl
 ·have e:b=(s.heap.push { cls:=.type "range",data:=.fields #[.int lo t,.int hi u,.int 1 v] }).objs.size:=by simpa using hb
  subst e
  exact I1.fpOk (Nat.le_refl _) (I1.hok.fresh (Nat.le_refl _))
def zdD (ta:TA):TI:=fun σ H R=>ta σ H fun vs H1=>∃ j:Int,vs=[.int j]∧-(2 ^ 62)≤j∧j<2 ^ 62∧R (Itr 0 j.toNat) H1
theorem Y7 {a:Expr}{ta:TA}{p pos:Pos}(hg:Gl X "range") (hm:X.mg "range" = none) (ha:PA X [a] ta) (hs:starEach [a] X.env=[(false,eval a X.env)]:=by rfl):PI X tg (.Call (.Name "range" p) [a] [] pos) (zdD ta):=by
 intro pins s σ H R I h
 refine Call_ (ld_blt I hg hm boot_range (PyProof.Rows.callWith_type1 (thn (ha pos pins s σ H _ I h) fun us s1 hq0=>?_) hs rfl))
 obtain⟨vs,H1,I1,r1,q1⟩:=hq0
 obtain⟨j,e,q1,q2,q⟩:=q1
 subst e
 cases r1 with
 |cons r rr =>
  cases rr
  obtain⟨t,rfl⟩:=r
  exact call_range_1 (Wp I1 (by omega) (by omega) q1 q2 (by simpa using q))
def ziN (wi:TI) (g:TG) (tb:TS):TS:=fun D σ H=>wi σ H fun J H1=>∃ W:Nat→Nat→St→Hp→Prop,(∃ m,W 0 m σ H1)∧∀ i m σ H,W i m σ H →
 (J.stop i H∧D.nx σ H)∨(J.go i H∧∃ N:St→Hp→Prop,(∀ σ' H',N σ' H'→∃ m',m'<m∧W (i+1) m' σ' H')∧∀ x H',J.yld i H x H'→g x σ H' fun σ2 H2=>tb { D with nx:=N,ct:=N,bk:=D.nx } σ2 H2)
noncomputable def vq (fp:List Addr) (h:Heap):List (Addr×Obj):=fp.filterMap fun b=>(h.get? b).map fun o=>(b,o)
theorem yN {fp:List Addr}{h:Heap}{b:Addr}{o:Obj}(hb:b∈fp) (e:h.get? b=some o):(b,o)∈vq fp h:=List.mem_filterMap.mpr ⟨b,hb,by rw[e];rfl⟩
theorem Xm {fp:List Addr}{h:Heap}{p:Addr×Obj}(hp:p∈vq fp h):p.1∈fp∧h.get? p.1=some p.2:=by
 obtain⟨b,hb,e⟩:=List.mem_filterMap.mp hp
 cases q:h.get? b with
 |none=>rw[q] at e;cases e
 |some o =>
  rw[q] at e
  have e':(b,o)=p:=Option.some.inj e
  subst e'
  exact⟨hb,q⟩
theorem Inv.pinned {pins:List (Addr×Obj)}{σ:St}{H:Hp}{s:Shared}{fp:List Addr}(I:Inv X pins σ H s) (hf:∀ b∈fp,FpOk X pins H b) (ho:∀ b∈fp,∃ o,s.heap.get? b=some o∧∀ v,o.data≠.cell v):Inv X (pins++vq fp s.heap) σ H s :=
 I.pins_of fun p hp=>(List.mem_append.mp hp).elim (fun z=>I.pin p (List.mem_append_right _ z)) fun z=>by
  obtain⟨hb,e⟩:=Xm z
  obtain⟨f0,f1,f2,_⟩:=hf p.1 hb
  obtain⟨o,e',d⟩:=ho p.1 hb
  rw[e] at e';cases e'
  exact⟨e,f0,f1,f2,d⟩
theorem Inv.unpinned {pins pl:List (Addr×Obj)}{σ:St}{H:Hp}{s:Shared}(I:Inv X (pins++pl) σ H s):Inv X pins σ H s:=I.pins_of fun p hp=>I.pin p (List.mem_append_right _ (List.mem_append_left _ hp))
theorem zcH {iter:Expr}{body:List Stmt}{wi:TI}{g:TG}{tb:TS}{pos:Pos}(hp:PassesOwn (model X.prog X.w) X.A X.env X.xe) (hc:X.calm=true) (hi:PI X tg iter wi) (hg:PG X tg g) (hb:PSs X body tb)
  (hs:∀ x,foldedSetIterable iter X.env x=pure x:=by intro _;rfl):PS X (.For tg iter body [] pos) (ziN wi g tb):=by
 intro pins s σ H D I h
 refine wpAny_For (thn (hi pins s σ H _ I h) fun v s1 h1=>thn h1 fun itv s2 h2=>?_) hs
 obtain⟨it,fp,tn,J,H2,e,I2,T,st2,f2,W,⟨m0,w0⟩,turn⟩:=h2
 subst e
 -- what stays true of the iterator's objects through the loop
 have stat:∀ {H':Hp},(∀ b∈fp,H' b=none)→∀ b∈fp,FpOk X pins H' b:=fun hn b hb=>⟨hn b hb,(f2 b hb).2⟩
 refine codeAny_forLoop_any (fun n s'=>∃ i σ' H',Inv X pins σ' H' s'∧tn i s'.heap∧(∀ b∈fp,H' b=none)∧W i n σ' H') ?_ m0 ⟨0,σ,H2,I2,st2,fun b hb=>(f2 b hb).1,w0⟩
 rintro n s3 ⟨i,σ3,H3,I3,st3,fr3,w3⟩
 rcases turn i n σ3 H3 w3 with⟨stop,qn⟩ | ⟨go,N,hN,step⟩
 ·refine wpAny_passesOwn hp (thn (T.done X rfl rfl rfl hc i pins s3 σ3 H3 X.xe I3 (stat fr3) st3 stop) fun r s4 ⟨hr,I4⟩=>?_)
  subst hr
  exact wpAny_execs_nil ⟨σ3,H3,I4,qn⟩
 ·refine wpAny_passesOwn hp (thn (T.item X rfl rfl rfl hc i pins s3 σ3 H3 X.xe I3 (stat fr3) st3 go) fun r s4 ⟨u,hr,h4⟩=>?_)
  subst hr
  refine wpAny_passesOwn hp (thn h4 fun _ s5 hq0=>?_)
  obtain⟨x,H5,I5,r5,y5,st5,fr5⟩:=hq0
  have I5':=I5.pinned (stat fr5) (T.obj _ _ st5)
  refine wpAny_passesOwn hp (thn (hg _ s5 σ3 H5 x u _ I5' r5 (step x H5 y5)) fun _ s6 hq0=>?_)
  obtain⟨σ6,H6,I6,q6⟩:=hq0
  refine wpAny_passesOwn hp (thn (hb _ s6 σ6 H6 _ I6 q6) fun f s7 q7=>?_)
  have again:∀ {σ7:St}{H7:Hp},Inv X (pins++vq fp s5.heap) σ7 H7 s7→N σ7 H7→∃ m,m<n∧∃ i σ' H',Inv X pins σ' H' s7∧tn i s7.heap∧(∀ b∈fp,H' b=none)∧W i m σ' H':=fun {σ7 H7} I7 n7=>by
   obtain⟨m',hm,w7⟩:=hN σ7 H7 n7
   refine⟨m',hm,i+1,σ7,H7,I7.unpinned,T.keep _ _ _ st5 fun b hb o e=>(I7.pin (b,o) (List.mem_append_right _ (List.mem_append_right _ (yN hb e)))).1,fun b hb=>?_,w7⟩
   obtain⟨o,e,d⟩:=T.obj _ _ st5 b hb
   exact(I7.pin (b,o) (List.mem_append_right _ (List.mem_append_right _ (yN hb e)))).2.1
  cases f with
  |next=>obtain⟨σ7,H7,I7,n7⟩:=q7;exact again I7 n7
  |cont=>obtain⟨σ7,H7,I7,n7⟩:=q7;exact again I7 n7
  |brk=>obtain⟨σ7,H7,I7,q7⟩:=q7;exact⟨σ7,H7,I7.unpinned,q7⟩
  |ret v=>obtain⟨x7,σ7,H7,I7,r7,q7⟩:=q7;exact⟨x7,σ7,H7,I7.unpinned,r7,q7⟩
end
theorem u6 {K:PySem.W.Frag}{a:Addr}{xs:List V}{g:TG}{tb:TS}{D:Ends}{σ:St}{H:Hp}(Pv:Nat→St→Hp→Prop) (h0:Pv 0 σ H) (hl:∀ i σ H,i≤xs.length→Pv i σ H→SqL K H a xs)
  (hs:∀ i x σ H,xs[i]?=some x→Pv i σ H→g x σ H fun σ2 H2=>tb { D with nx:=Pv (i+1),ct:=Pv (i+1),bk:=D.nx } σ2 H2) (hd:∀ σ H,Pv xs.length σ H→D.nx σ H) :
  ∃ W:Nat→Nat→St→Hp→Prop,(∃ m,W 0 m σ H)∧∀ i m σ H,W i m σ H →
   ((Itl K a).stop i H∧D.nx σ H)∨((Itl K a).go i H∧∃ N:St→Hp→Prop,(∀ σ' H',N σ' H'→∃ m',m'<m∧W (i+1) m' σ' H')∧∀ x H',(Itl K a).yld i H x H'→g x σ H' fun σ2 H2=>tb { D with nx:=N,ct:=N,bk:=D.nx } σ2 H2):=by
 refine⟨fun i m σ H=>m=xs.length-i∧i≤xs.length∧Pv i σ H,⟨xs.length,by simp,Nat.zero_le _,h0⟩,?_⟩
 rintro i m σ H ⟨rfl,hi,p⟩
 have q:=hl i σ H hi p
 by_cases hlt:i<xs.length
 ·refine .inr ⟨⟨xs,xs[i],q,by simp[hlt]⟩,Pv (i+1),fun σ' H' p'=>⟨xs.length-(i+1),by omega,rfl,hlt,p'⟩,fun x H' y=>?_⟩
  obtain⟨e,y⟩:=y
  subst e
  exact hs i x σ _ (y xs q) p
 ·have e:i=xs.length:=by omega
  subst e
  exact .inl ⟨⟨xs,q,Nat.le_refl _⟩,hd σ H p⟩
theorem UL {K:PySem.W.Frag}{a:Addr}{xs:List V}{g:TG}{tb:TS}{D:Ends}{σ:St}{H:Hp}(Pv:Nat→St→Hp→Prop) (h0:Pv 0 σ H) (hl:∀ i σ H,i≤xs.length→Pv i σ H→SqT K H a xs)
  (hs:∀ i x σ H,xs[i]?=some x→Pv i σ H→g x σ H fun σ2 H2=>tb { D with nx:=Pv (i+1),ct:=Pv (i+1),bk:=D.nx } σ2 H2) (hd:∀ σ H,Pv xs.length σ H→D.nx σ H) :
  ∃ W:Nat→Nat→St→Hp→Prop,(∃ m,W 0 m σ H)∧∀ i m σ H,W i m σ H →
   ((Itt K a).stop i H∧D.nx σ H)∨((Itt K a).go i H∧∃ N:St→Hp→Prop,(∀ σ' H',N σ' H'→∃ m',m'<m∧W (i+1) m' σ' H')∧∀ x H',(Itt K a).yld i H x H'→g x σ H' fun σ2 H2=>tb { D with nx:=N,ct:=N,bk:=D.nx } σ2 H2):=by
 refine⟨fun i m σ H=>m=xs.length-i∧i≤xs.length∧Pv i σ H,⟨xs.length,by simp,Nat.zero_le _,h0⟩,?_⟩
 rintro i m σ H ⟨rfl,hi,p⟩
 have q:=hl i σ H hi p
 by_cases hlt:i<xs.length
 ·refine .inr ⟨⟨xs,xs[i],q,by simp[hlt]⟩,Pv (i+1),fun σ' H' p'=>⟨xs.length-(i+1),by omega,rfl,hlt,p'⟩,fun x H' y=>?_⟩
  obtain⟨e,y⟩:=y
  subst e
  exact hs i x σ _ (y xs q) p
 ·have e:i=xs.length:=by omega
  subst e
  exact .inl ⟨⟨xs,q,Nat.le_refl _⟩,hd σ H p⟩
theorem vQ {lo:Int}{n:Nat}{g:TG}{tb:TS}{D:Ends}{σ:St}{H:Hp}(Pv:Nat→St→Hp→Prop) (h0:Pv 0 σ H)
  (hs:∀ i σ H,i<n→Pv i σ H→g (.int (lo+i)) σ H fun σ2 H2=>tb { D with nx:=Pv (i+1),ct:=Pv (i+1),bk:=D.nx } σ2 H2) (hd:∀ σ H,Pv n σ H→D.nx σ H) :
  ∃ W:Nat→Nat→St→Hp→Prop,(∃ m,W 0 m σ H)∧∀ i m σ H,W i m σ H →
   ((Itr lo n).stop i H∧D.nx σ H)∨((Itr lo n).go i H∧∃ N:St→Hp→Prop,(∀ σ' H',N σ' H'→∃ m',m'<m∧W (i+1) m' σ' H')∧∀ x H',(Itr lo n).yld i H x H'→g x σ H' fun σ2 H2=>tb { D with nx:=N,ct:=N,bk:=D.nx } σ2 H2):=by
 refine⟨fun i m σ H=>m=n-i∧i≤n∧Pv i σ H,⟨n,by simp,Nat.zero_le _,h0⟩,?_⟩
 rintro i m σ H ⟨rfl,hi,p⟩
 by_cases hlt:i<n
 ·refine .inr ⟨hlt,Pv (i+1),fun σ' H' p'=>⟨n-(i+1),by omega,rfl,hlt,p'⟩,fun x H' y=>?_⟩
  obtain⟨e,y⟩:=y
  subst e y
  exact hs i σ _ hlt p
 ·have e:i=n:=by omega
  subst e
  exact .inl ⟨Nat.le_refl _,hd σ H p⟩
end L2
namespace L2
open PySem PySem.Spec PyProof.Rows
abbrev R2:=V→V→Hp→VK→Prop
def OpR (X:Cx) (f:Value→Value→Sem Value) (r:R2):Prop :=
 ∀ (pins:List (Addr×Obj)) (s:Shared) (σ:St) (H:Hp) (x y:V) (v u:Value) (Q:VK),Inv X pins σ H s→RelV x v→RelV y u→r x y H Q →
  wpAny (model X.prog X.w) X.A (f v u) (EP X pins σ Q) X.xe s
def xA (X:Cx) (f:Value) (r:List V→Hp→VK→Prop):Prop :=
 ∀ (pins:List (Addr×Obj)) (s:Shared) (σ:St) (H:Hp) (xs:List V) (us:List Value) (Q:VK),Inv X pins σ H s→Vals xs us→r xs H Q →
  wpAny (model X.prog X.w) X.A (call f us) (EP X pins σ Q) X.xe s
def tOp (r:R2) (ta tb:TE):TE:=fun σ H Q=>ta σ H fun x H1=>tb σ H1 fun y H2=>r x y H2 Q
def rI (C:Int→Int→Prop) (g:Int→Int→V):R2:=fun x y H Q=>∃ i j,x=.int i∧y=.int j∧C i j∧Q (g i j) H
def rI0 (g:Int→Int→V):R2:=fun x y H Q=>∃ i j,x=.int i∧y=.int j∧Q (g i j) H
section
variable {X:Cx}{a b c:Expr}{ta tb tc:TE}{pos:Pos}
theorem binT (ha:PE X a ta) (hb:PE X b tb){pins:List (Addr×Obj)}{s:Shared}{σ:St}{H:Hp}{R:V→V→Hp→Prop}(I:Inv X pins σ H s)
  (h:ta σ H fun x H1=>tb σ H1 fun y H2=>R x y H2){Q:Value→Shared→Prop}{f:Value→Value→Sem Value}
  (hf:∀ v u s2 x y H2,Inv X pins σ H2 s2→RelV x v→RelV y u→R x y H2→wpAny (model X.prog X.w) X.A (f v u) Q X.xe s2) :
  wpAny (model X.prog X.w) X.A (eval a X.env) (fun v s₁=>wpAny (model X.prog X.w) X.A (eval b X.env) (fun u s₂=>wpAny (model X.prog X.w) X.A (f v u) Q X.xe s₂) X.xe s₁) X.xe s:=by
 refine thn (ha pins s σ H _ I h) fun v s1 hq0=>?_
 obtain⟨x,H1,I1,r1,q1⟩:=hq0
 refine thn (hb pins s1 σ H1 _ I1 q1) fun u s2 hq0=>?_
 obtain⟨y,H2,I2,r2,q2⟩:=hq0
 exact hf v u s2 x y H2 I2 r1 r2 q2
theorem zh9 {op:Operator}{r:R2}(ho:OpR X (binaryOp op) r) (ha:PE X a ta) (hb:PE X b tb):PE X (.BinOp a op b pos) (tOp r ta tb):=by
 intro pins s σ H Q I h
 exact wpAny_BinOp (binT ha hb I h fun v u s2 x y H2 I2 rx ry q=>ho pins s2 σ H2 x y v u Q I2 rx ry q)
theorem opI {f:Value→Value→Sem Value}{C:Int→Int→Prop}{g:Int→Int→Int}
  (rule:∀ (i j:Int) (t u:Tok) (s:Shared) (Q:Value→Shared→Prop) (E:Value→Shared→Prop),C i j→Q (.int (g i j) s.toks) { s with toks:=s.toks+1 }→wpAny (model X.prog X.w) X.A (f (.int i t) (.int j u)) Q E s) :
  OpR X f (rI C fun i j=>.int (g i j)):=by
 intro pins s σ H x y v u Q I rx ry h
 obtain⟨i,j,rfl,rfl,hc,q⟩:=h
 obtain⟨t,rfl⟩:=rx
 obtain⟨t',rfl⟩:=ry
 exact rule i j t t' s _ _ hc ⟨.int (g i j),H,I.tok _,⟨_,rfl⟩,q⟩
theorem zn9 {f:Value→Value→Sem Value}{g:Int→Int→Int}
  (rule:∀ (i j:Int) (t u:Tok) (s:Shared) (Q:Value→Shared→Prop) (E:Value→Shared→Prop),Q (.int (g i j) s.toks) { s with toks:=s.toks+1 }→wpAny (model X.prog X.w) X.A (f (.int i t) (.int j u)) Q E s) :
  OpR X f (rI0 fun i j=>.int (g i j)):=by
 intro pins s σ H x y v u Q I rx ry h
 obtain⟨i,j,rfl,rfl,q⟩:=h
 obtain⟨t,rfl⟩:=rx
 obtain⟨t',rfl⟩:=ry
 exact rule i j t t' s _ _ ⟨.int (g i j),H,I.tok _,⟨_,rfl⟩,q⟩
theorem zdX {f:Value→Value→Sem Value}{g:Int→Int→Bool}
  (rule:∀ (i j:Int) (t u:Tok) (s:Shared) (Q:Value→Shared→Prop) (E:Value→Shared→Prop),Q (.bool (g i j)) s→wpAny (model X.prog X.w) X.A (f (.int i t) (.int j u)) Q E s) :
  OpR X f (rI0 fun i j=>.bl (g i j)):=by
 intro pins s σ H x y v u Q I rx ry h
 obtain⟨i,j,rfl,rfl,q⟩:=h
 obtain⟨t,rfl⟩:=rx
 obtain⟨t',rfl⟩:=ry
 exact rule i j t t' s _ _ ⟨.bl (g i j),H,I,rfl,q⟩
def zqH (i j:Int):Prop:=0≤j∧j≤1000000∧i.natAbs<2 ^ 64
def CMul (i j:Int):Prop:=(-(2 ^ 64)<i∧i<2 ^ 64)∨(-(2 ^ 64)<j∧j<2 ^ 64)
theorem CMul.ok {i j:Int}(h:CMul i j):IntMulOk i j:=by
 rcases h with⟨h1,h2⟩ | ⟨h1,h2⟩
 ·exact .of_left (intBits_le_64 h1 h2)
 ·exact .of_right (intBits_le_64 h1 h2)
theorem yd:OpR X (binaryOp .Add) (rI0 fun i j=>.int (i+j)):=zn9 fun _ _ _ _ _ _ _ q=>add_int q
theorem xB:OpR X (binaryOp .Sub) (rI0 fun i j=>.int (i-j)):=zn9 fun _ _ _ _ _ _ _ q=>sub_int q
theorem vy:OpR X (binaryOp .Mult) (rI CMul fun i j=>.int (i*j)):=opI fun _ _ _ _ _ _ _ hc q=>mul_int q hc.ok
theorem ww:OpR X (binaryOp .Mod) (rI (fun _ j=>0<j) fun i j=>.int (i%j)):=opI fun i j _ _ _ _ _ hc q=>by
 have h1:(0:Int)<j:=hc
 exact mod_int' (by omega) (by rw[Int.fmod_eq_emod_of_nonneg i (by omega)];exact q)
theorem Xf:OpR X (binaryOp .Pow) (rI zqH fun i j=>.int (i ^ j.toNat)):=opI fun _ _ _ _ _ _ _ hc q=>pow_int_small hc.1 hc.2.1 hc.2.2 q
end
noncomputable def zn3:V→V→Bool
 |.non,.non=>true | .non,.int _=>true | .int _,.non=>true | .non,.bl _=>true | .bl _,.non=>true | .non,.str _=>true | .str _,.non=>true
 |.int _,.int _=>true | .bl _,.bl _=>true | .str _,.str _=>true | .byt _,.byt _=>true
 |.int _,.str _=>true | .str _,.int _=>true | .bl _,.str _=>true | .str _,.bl _=>true
 |_,_=>false
def rEq:R2:=fun x y H Q=>zn3 x y=true∧Q (.bl (decide (x=y))) H
def rNe:R2:=fun x y H Q=>zn3 x y=true∧Q (.bl (!decide (x=y))) H
theorem XR {i j:Int}:decide (V.int i=V.int j)=(i == j):=by
 rw[Bool.eq_iff_iff]
 simp
theorem VM {i j:Bool}:decide (V.bl i=V.bl j)=(i == j):=by
 rw[Bool.eq_iff_iff]
 simp
theorem dec_str {i j:Str}:decide (V.str i=V.str j)=(i == j):=by
 rw[Bool.eq_iff_iff]
 simp
theorem XS {i j:Array UInt8}:decide (V.byt i=V.byt j)=(i.toList == j.toList):=by
 rw[Bool.eq_iff_iff]
 cases i
 cases j
 simp
section
variable {X:Cx}{a b c:Expr}{ta tb tc:TE}{pos:Pos}
theorem zA {pins:List (Addr×Obj)}{σ:St}{H:Hp}{s:Shared}{Q:VK}{k k':Bool}(I:Inv X pins σ H s) (q:Q (.bl k) H) (e:k=k'):EP X pins σ Q (.bool k') s:=by
 subst e
 exact⟨.bl k,H,I,rfl,q⟩
theorem yf:OpR X (compareOp .Eq) rEq:=by
 intro pins s σ H x y v u Q I rx ry h
 obtain⟨hs,q⟩:=h
 cases x with
 |non =>
  cases rx
  cases y with
  |non=>cases ry;exact PySem.EqNone.eq_none_none (zA I q (by simp))
  |bl j=>cases ry;exact PySem.EqNone.eq_none_bool (zA I q (by simp))
  |int j=>obtain⟨t',rfl⟩:=ry;exact PySem.EqNone.eq_none_int (zA I q (by simp))
  |str j=>obtain⟨t',rfl⟩:=ry;exact PySem.EqNone.eq_none_str (zA I q (by simp))
  |_=>exact absurd (show false=true from hs) Bool.false_ne_true
 |bl i =>
  cases rx
  cases y with
  |non=>cases ry;exact PySem.EqNone.eq_bool_none (zA I q (by simp))
  |bl j=>cases ry;exact eq_bool (zA I q VM)
  |str j=>obtain⟨t',rfl⟩:=ry;exact PySem.EqMixed.eq_bool_str (zA I q (by simp))
  |_=>exact absurd (show false=true from hs) Bool.false_ne_true
 |int i =>
  obtain⟨t,rfl⟩:=rx
  cases y with
  |non=>cases ry;exact PySem.EqNone.eq_int_none (zA I q (by simp))
  |int j=>obtain⟨t',rfl⟩:=ry;exact eq_int (zA I q XR)
  |str j=>obtain⟨t',rfl⟩:=ry;exact PySem.EqMixed.eq_int_str (zA I q (by simp))
  |_=>exact absurd (show false=true from hs) Bool.false_ne_true
 |str i =>
  obtain⟨t,rfl⟩:=rx
  cases y with
  |non=>cases ry;exact PySem.EqNone.eq_str_none (zA I q (by simp))
  |bl j=>cases ry;exact PySem.EqMixed.eq_str_bool (zA I q (by simp))
  |int j=>obtain⟨t',rfl⟩:=ry;exact PySem.EqMixed.eq_str_int (zA I q (by simp))
  |str j=>obtain⟨t',rfl⟩:=ry;exact eq_str (zA I q dec_str)
  |_=>exact absurd (show false=true from hs) Bool.false_ne_true
 |byt i =>
  obtain⟨t,rfl⟩:=rx
  cases y with
  |byt j=>obtain⟨t',rfl⟩:=ry;exact PySem.W.eq_bytes (zA I q XS)
  |_=>exact absurd (show false=true from hs) Bool.false_ne_true
 |_=>cases y<;>exact absurd (show false=true from hs) Bool.false_ne_true
theorem Xh:OpR X (compareOp .NotEq) rNe:=by
 intro pins s σ H x y v u Q I rx ry h
 obtain⟨hs,q⟩:=h
 cases x with
 |non =>
  cases rx
  cases y with
  |non=>cases ry;exact PySem.EqNone.ne_none_none (zA I q (by simp))
  |bl j=>cases ry;exact PySem.EqNone.ne_none_bool (zA I q (by simp))
  |int j=>obtain⟨t',rfl⟩:=ry;exact PySem.EqNone.ne_none_int (zA I q (by simp))
  |str j=>obtain⟨t',rfl⟩:=ry;exact PySem.EqNone.ne_none_str (zA I q (by simp))
  |_=>exact absurd (show false=true from hs) Bool.false_ne_true
 |bl i =>
  cases rx
  cases y with
  |non=>cases ry;exact PySem.EqNone.ne_bool_none (zA I q (by simp))
  |bl j=>cases ry;exact ne_bool (zA I q (congrArg not VM))
  |str j=>obtain⟨t',rfl⟩:=ry;exact PySem.EqMixed.ne_bool_str (zA I q (by simp))
  |_=>exact absurd (show false=true from hs) Bool.false_ne_true
 |int i =>
  obtain⟨t,rfl⟩:=rx
  cases y with
  |non=>cases ry;exact PySem.EqNone.ne_int_none (zA I q (by simp))
  |int j=>obtain⟨t',rfl⟩:=ry;exact ne_int (zA I q (congrArg not XR))
  |str j=>obtain⟨t',rfl⟩:=ry;exact PySem.EqMixed.ne_int_str (zA I q (by simp))
  |_=>exact absurd (show false=true from hs) Bool.false_ne_true
 |str i =>
  obtain⟨t,rfl⟩:=rx
  cases y with
  |non=>cases ry;exact PySem.EqNone.ne_str_none (zA I q (by simp))
  |bl j=>cases ry;exact PySem.EqMixed.ne_str_bool (zA I q (by simp))
  |int j=>obtain⟨t',rfl⟩:=ry;exact PySem.EqMixed.ne_str_int (zA I q (by simp))
  |str j=>obtain⟨t',rfl⟩:=ry;exact ne_str (zA I q (congrArg not dec_str))
  |_=>exact absurd (show false=true from hs) Bool.false_ne_true
 |byt i =>
  obtain⟨t,rfl⟩:=rx
  cases y with
  |byt j=>obtain⟨t',rfl⟩:=ry;exact PySem.W.ne_bytes (zA I q (congrArg not XS))
  |_=>exact absurd (show false=true from hs) Bool.false_ne_true
 |_=>cases y<;>exact absurd (show false=true from hs) Bool.false_ne_true
theorem vz:OpR X (compareOp .Lt) (rI0 fun i j=>.bl (decide (i<j))):=zdX fun _ _ _ _ _ _ _ q=>lt_int q
theorem zif:OpR X (compareOp .LtE) (rI0 fun i j=>.bl (decide (i≤j))):=zdX fun _ _ _ _ _ _ _ q=>le_int q
theorem xY:OpR X (compareOp .Gt) (rI0 fun i j=>.bl (decide (j<i))):=zdX fun _ _ _ _ _ _ _ q=>gt_int q
theorem op_ge:OpR X (compareOp .GtE) (rI0 fun i j=>.bl (decide (j≤i))):=zdX fun _ _ _ _ _ _ _ q=>ge_int q
theorem uT:OpR X (compareOp .Is) (fun x y H Q=>y=.non∧Q (.bl (decide (x=.non))) H):=by
 intro pins s σ H x y v u Q I rx ry h
 obtain⟨rfl,q⟩:=h
 cases ry
 refine is_none_gen (zA I q ?_)
 cases x<;>first
  |(cases rx;rfl)
  |(obtain⟨t,rfl⟩:=rx;rfl)
theorem Uv:OpR X (compareOp .IsNot) (fun x y H Q=>y=.non∧Q (.bl (!decide (x=.non))) H):=by
 intro pins s σ H x y v u Q I rx ry h
 obtain⟨rfl,q⟩:=h
 cases ry
 refine isnot_none_gen (zA I q ?_)
 cases x<;>first
  |(cases rx;rfl)
  |(obtain⟨t,rfl⟩:=rx;rfl)
theorem zp (b:Expr){op:CmpOp}(h:op≠.In:=by decide) (h2:op≠.NotIn:=by decide):behindInMarks op b=false:=by
 have e1:(op == CmpOp.In)=false:=by cases op<;>first | rfl | exact absurd rfl h
 have e2:(op == CmpOp.NotIn)=false:=by cases op<;>first | rfl | exact absurd rfl h2
 cases b<;>simp[behindInMarks,e1,e2]
theorem Us {op:CmpOp}{r:R2}(ho:OpR X (compareOp op) r) (ha:PE X a ta) (hb:PE X b tb) (hm:behindInMarks op b=false):PE X (.Compare a [op] [b] pos) (tOp r ta tb):=by
 intro pins s σ H Q I h
 exact wpAny_Compare1 (binT ha hb I h fun v u s2 x y H2 I2 rx ry q=>ho pins s2 σ H2 x y v u Q I2 rx ry q) hm
def zbm (t:TE):TT:=fun σ H Q=>t σ H fun x H'=>∃ k,x=.bl k∧Q k H'
theorem Y2 {op:CmpOp}{r:R2}(ho:OpR X (compareOp op) r) (ha:PE X a ta) (hb:PE X b tb) (hm:behindInMarks op b=false):PT X (.Compare a [op] [b] pos) (zbm (tOp r ta tb)):=by
 intro pins s σ H Q I h
 refine wpAny_isTrue_Compare1 (thn (ha pins s σ H _ I h) fun v s1 ⟨x,H1,I1,r1,q1⟩=>thn (hb pins s1 σ H1 _ I1 q1) fun u s2 ⟨y,H2,I2,r2,q2⟩ =>
  thn (ho pins s2 σ H2 x y v u _ I2 r1 r2 q2) fun c s3 ⟨z,H3,I3,r3,k,e,q3⟩=>?_) hm
 subst e
 cases r3
 exact wpAny_truthy_bool ⟨H3,I3,q3⟩
theorem wy:(sizeLine:Nat)<2 ^ 63:=by rw[sizeLine_eq];decide
theorem yM:OpR X (binaryOp .Add) (fun x y H Q=>∃ i j,x=.str i∧y=.str j∧i.length+j.length≤sizeLine∧Q (.str (i++j)) H):=by
 intro pins s σ H x y v u Q I rx ry h
 obtain⟨i,j,rfl,rfl,hz,q⟩:=h
 obtain⟨t,rfl⟩:=rx
 obtain⟨t',rfl⟩:=ry
 exact add_str (fun t' tk=>⟨.str (i++j),H,I.tok _,⟨_,rfl⟩,q⟩) hz
theorem vh {x:V}{us:List Value}(r:Vals [x] us):∃ u,us=[u]∧RelV x u:=by
 cases r with
 |cons r1 r2=>cases r2;exact⟨_,rfl,r1⟩
theorem Vb:xA X (.builtin "abs") (fun xs H Q=>∃ i,xs=[.int i]∧Q (.int (if i<0 then -i else i)) H):=by
 intro pins s σ H xs us Q I r h
 obtain⟨i,rfl,q⟩:=h
 obtain⟨u,rfl,t,rfl⟩:=vh r
 exact call_abs_int fun u tk=>⟨.int (if i<0 then -i else i),H,I.tok _,⟨_,rfl⟩,q⟩
theorem X1:xA X (.type "int") (fun xs H Q=>(∃ i,xs=[.int i]∧Q (.int i) H)∨∃ k,xs=[.bl k]∧Q (.int (if k then 1 else 0)) H):=by
 intro pins s σ H xs us Q I r h
 rcases h with⟨i,rfl,q⟩ | ⟨k,rfl,q⟩
 ·obtain⟨u,rfl,t,rfl⟩:=vh r
  exact call_int_int ⟨.int i,H,I,⟨_,rfl⟩,q⟩
 ·obtain⟨u,rfl,r1⟩:=vh r
  cases r1
  exact call_int_bool ⟨.int (if k then 1 else 0),H,I.tok _,⟨_,rfl⟩,q⟩
theorem ym:xA X (.type "str") (fun xs H Q=>∃ i,xs=[.int i]∧i.natAbs.log2<1920∧Q (.str (toString i)) H):=by
 intro pins s σ H xs us Q I r h
 obtain⟨i,rfl,hz,q⟩:=h
 obtain⟨u,rfl,t,rfl⟩:=vh r
 exact PySem.P.str_of_int hz ⟨.str _,H,I.tok _,⟨_,rfl⟩,q⟩
end
end L2
namespace L2
open PySem PySem.Spec PyProof.Rows
structure ObjM (h:Heap) (x dx C:Addr) (mA:Str→Option Value):Prop where
 obj:h.get? x=some (PySem.W.instObj C dx)
 ns:h.Ns1 dx mA
 ne:dx≠x
theorem vI {h:Heap}{dx:Addr}{mA:Str→Option Value}(n:h.Ns1 dx mA):∃ od,h.get? dx=some od∧∀ name,PySem.W.lookIn name od=some (mA name):=by
 obtain⟨o,es,ep,ho,hd,hk,_,hm⟩:=n
 refine⟨o,ho,fun name=>?_⟩
 have e:=hm name
 unfold nsFind findBy at e
 rw[← Array.find?_toList] at e
 unfold PySem.W.lookIn
 rw[hd]
 dsimp only
 split
 ·rename_i y q
  rw[q] at e
  exact congrArg some e
 ·rename_i q
  rw[q] at e
  have a:es.toList.any (·.refKey)=false:=by
   rw[List.any_eq_false]
   intro y hy
   obtain⟨z,t,hkey⟩:=hk y (Array.mem_toList_iff.mp hy)
   simp[DictEntry.refKey,hkey]
  have a':¬ es.toList.any (·.refKey)=true:=by rw[a];exact Bool.false_ne_true
  rw[if_neg a']
  exact congrArg some e
theorem ObjM.look {h:Heap}{x dx C:Addr}{mA:Str→Option Value}(I:ObjM h x dx C mA):∃ od,PySem.W.InstAt h x (PySem.W.instObj C dx) C (some od)∧∀ name,PySem.W.lookIn name od=some (mA name) :=
 let ⟨od,ho,hl⟩:=vI I.ns
 ⟨od,⟨I.obj,rfl,rfl,ho⟩,hl⟩
section
variable {prog:Program}{w:World}{A:Around}{E:Value→Shared→Prop}{s:Shared}{K:PySem.W.Frag}{x dx C f:Addr}{mA:Str→Option Value}{name:Str}{v:Value}
theorem UF {expr:Bool}{Q:Value→Shared→Prop}(X:K.In s.heap) (I:ObjM s.heap x dx C mA) (hg:PySem.W.plainGet K C name=true) (hh:PySem.W.hasDictIn K C=true)
  (ha:PySem.W.findIn K (.ref C) name=some none) (hv:mA name=some v) (hv':PySem.W.handedIn v=true) (h:Q v { s with toks:=s.toks+1 }) :
  wpAny (model prog w) A (getAttr (.ref x) name expr) Q E s:=by
 obtain⟨od,J,hl⟩:=I.look
 exact PySem.W.get_value X J (PySem.W.plainGet_of hg).1 (PySem.W.findObj_own hh ha rfl (by rw[hl,hv])) hv' h
theorem W1 {pl:Sem Bool}{Q:Value×List Value→Shared→Prop}(X:K.In s.heap) (I:ObjM s.heap x dx C mA) (hg:PySem.W.plainGet K C name=true)
  (hf:PySem.W.findIn K (.ref C) name=some (some (.ref f))) (ht:PySem.W.isFn K (.ref f)=true) (hv:mA name=none) (h:Q (.ref f,[.ref x]) s) :
  wpAny (model prog w) A (getMethod (.ref x) name pl) Q E s:=by
 obtain⟨od,J,hl⟩:=I.look
 exact PySem.W.method_fn X J (PySem.W.plainGet_of hg).1 (PySem.W.plainGet_of hg).2 hf (beq_iff_eq.mp ht) (by show(PySem.W.lookIn name od).map (·.isSome)=some false;rw[hl,hv];rfl) h
theorem V2 {ns:List Str}{Q:Unit→Shared→Prop}(X:K.In s.heap) (I:ObjM s.heap x dx C mA)
  (hs:PySem.W.findIn K (.ref C) "__setattr__" = some (some (.builtin "object.__setattr__"))) (hp:PySem.W.plainOver K C=true) (ht:PySem.W.takerIn K C name=some none) (hh:PySem.W.hasDictIn K C=true)
  (hw:PySem.Within mA ns) (hsz:ns.length≤sizeLine)
  (h:∀ h',ObjM h' x dx C (fun y=>if y=name then some v else mA y)→Heap.SameBut dx s.heap h'→Q () { s with heap:=h',toks:=s.toks+2 }) :
  wpAny (model prog w) A (setAttr (.ref x) name v) Q E s:=by
 obtain⟨od,J,hl⟩:=I.look
 refine PySem.W.set_plain X J hs (PySem.W.osa_open (s:={ s with toks:=s.toks+1 }) (r:=none) X J hp ht fun b=>?_)
 obtain⟨cd,hc,hd'⟩:=PySem.W.any_some hh
 have hx:s.heap.get? x=some ⟨.ref C,some dx,.plain,#[]⟩:=I.obj
 refine wpAny_bind (wpAny_pure (wpAny_bind (wpAny_bind (wpAny_loadPart hx (wpAny_bind (PySem.W.Looks.here (s:={ s with toks:=s.toks+1 }) (PySem.W.looks_clsIn X hc) ?_))))))
 rw[hd']
 refine wpAny_pure (a:=some dx) (wpAny_bind (wpAny_pure (wpAny_bind ?_)))
 refine wpAny_nsSet1 (s:={ s with toks:=s.toks+1 }) I.ns fun h' hn2 hs2=>?_
 obtain⟨oD,esD,epD,hoD,hdD,hcD⟩:=hn2.count (PySem.Within.cons name v hw)
 refine wpAny_bind (wpAny_lookBehind hoD (by rw[hdD];exact pastItsLine_dict (Nat.le_trans hcD (by rw[List.length_cons];omega))) ?_)
 exact wpAny_pure (h _ ⟨(hs2.2 _ (Ne.symm I.ne)).trans I.obj,hn2,I.ne⟩ hs2)
theorem WK {R:Result→Shared→Prop}{vs:List Value}{kw:List (Str×Value)}(X:K.In s.heap) (hm:PySem.W.makesIn K C=true)
  (hi:PySem.W.findIn K (.ref C) "__init__" = some (some (.ref f))) (hf:PySem.W.typeIn K (.ref f)=some (.type "function"))
  (h:codeAny (model prog w) (A.under (.builtin "type.__call__" ⟨.ref C::vs,kw⟩)) (.call (.ref f) ⟨.ref (s.heap.objs.size+1)::vs,kw⟩) (PySem.W.InitBack (s.heap.objs.size+1) R)
   { s with heap:=(s.heap.push PySem.W.emptyDict).push (PySem.W.instObj C s.heap.objs.size) }) :
  codeAny (model prog w) A (.call (.ref C) ⟨vs,kw⟩) R s:=by
 obtain⟨hh,g,d,t,os⟩:=s
 exact PySem.W.make_core (PySem.W.makes_of X hm) (PySem.W.looks_findIn X hi) (fun self=>PySem.W.bind_fn X self hf) (.inl rfl) h
end
noncomputable def v0 (f:Str) (v:V):List (Str×V)→List (Str×V)
 |[]=>[(f,v)]
 |(g,x)::r=>if g=f then(g,v)::r else(g,x)::v0 f v r
theorem wc (f g:Str) (v:V):∀ fs:List (Str×V),(v0 f v fs).lookup g=if g=f then some v else fs.lookup g
 |[]=>by
  show List.lookup g [(f,v)]=_
  by_cases h:g=f
  ·have hb:(g == f)=true:=beq_iff_eq.mpr h
   simp only[List.lookup,hb,if_pos h]
  ·have hb:(g == f)=false:=beq_eq_false_iff_ne.mpr h
   simp only[List.lookup,hb,if_neg h]
 |(k,x)::r=>by
  have ih:=wc f g v r
  rw[show v0 f v ((k,x)::r)=(if k=f then(k,v)::r else(k,x)::v0 f v r) from rfl]
  by_cases hk:k=f
  ·rw[if_pos hk]
   by_cases h:g=k
   ·have hb:(g == k)=true:=beq_iff_eq.mpr h
    simp only[List.lookup,hb,if_pos (h.trans hk)]
   ·have hb:(g == k)=false:=beq_eq_false_iff_ne.mpr h
    simp only[List.lookup,hb,if_neg (fun e:g=f=>h (e.trans hk.symm))]
  ·rw[if_neg hk]
   by_cases h:g=k
   ·have hb:(g == k)=true:=beq_iff_eq.mpr h
    simp only[List.lookup,hb,if_neg (fun e:g=f=>hk (h.symm.trans e))]
   ·have hb:(g == k)=false:=beq_eq_false_iff_ne.mpr h
    simp only[List.lookup,hb]
    exact ih
theorem wj (f:Str) (v:V):∀ fs:List (Str×V),f∈(v0 f v fs).map (·.1)∧∀ g,g∈fs.map (·.1)→g∈(v0 f v fs).map (·.1)
 |[]=>⟨by simp[v0],fun g h=>by simp at h⟩
 |(k,x)::r=>by
  obtain⟨i1,i2⟩:=wj f v r
  rw[show v0 f v ((k,x)::r)=(if k=f then(k,v)::r else(k,x)::v0 f v r) from rfl]
  by_cases hk:k=f
  ·rw[if_pos hk]
   subst hk
   exact⟨by simp,fun g h=>by simpa using h⟩
  ·rw[if_neg hk]
   refine⟨?_,fun g h=>?_⟩
   ·rw[List.map_cons]
    exact List.mem_cons_of_mem _ i1
   ·rw[List.map_cons] at h ⊢
    rcases List.mem_cons.mp h with e | e
    ·exact List.mem_cons.mpr (.inl e)
    ·exact List.mem_cons_of_mem _ (i2 g e)
theorem wf (f:Str) (v:V):∀ fs:List (Str×V),(v0 f v fs).length≤fs.length+1
 |[]=>by simp[v0]
 |(k,x)::r=>by
  have ih:=wf f v r
  rw[show v0 f v ((k,x)::r)=(if k=f then(k,v)::r else(k,x)::v0 f v r) from rfl]
  by_cases hk:k=f
  ·rw[if_pos hk,List.length_cons,List.length_cons];omega
  ·rw[if_neg hk,List.length_cons,List.length_cons];omega
theorem RelO.some_of {v:V}{o:Option Value}(r:RelO (some v) o):∃ u,o=some u∧RelV v u:=by
 cases o with
 |none=>exact(show False from r).elim
 |some u=>exact⟨u,rfl,r⟩
theorem RelO.none_of {o:Option Value}(r:RelO none o):o=none:=by
 cases o with
 |none=>rfl
 |some u=>exact(show False from r).elim
theorem vN {v:V}{u:Value}(r:RelV v u):PySem.W.handedIn u=true:=by
 cases v with
 |non=>cases (show u=Value.none from r);rfl
 |bl b=>cases (show u=Value.bool b from r);rfl
 |int i=>obtain⟨t,e⟩:=(show ∃ t,u=Value.int i t from r);cases e;rfl
 |str x=>obtain⟨t,e⟩:=(show ∃ t,u=Value.str x t from r);cases e;rfl
 |byt b=>obtain⟨t,e⟩:=(show ∃ t,u=Value.bytes b t from r);cases e;rfl
 |flt b=>obtain⟨t,e⟩:=(show ∃ t,u=Value.float b t from r);cases e;rfl
 |ref a=>cases (show u=Value.ref a from r);rfl
 |ty n=>cases (show u=Value.type n from r);rfl
section
variable {P:Program}{w:World}{H H':Hp}{h h':Heap}{a C dx:Addr}{fs fs':List (Str×V)}
theorem wT (hok:HOk P w H h) (e:H a=some (.ins C dx fs)):∃ mA,ObjM h a dx C mA∧(∀ f,RelO (fs.lookup f) (mA f))∧PySem.Within mA (fs.map (·.1))∧fs.length≤1000∧H dx=some (.own a):=by
 obtain⟨d,z,ne,ob,mA,n,r,q⟩:=(show ObjOk P w H h a (.ins C dx fs) from hok a _ e)
 exact⟨mA,⟨ob,n,ne⟩,r,q,z,d⟩
end
structure Cls (K:PySem.W.Frag) (C:Addr):Prop where
 pg:PySem.W.plainGet K C Str.empty=true
 hd:PySem.W.hasDictIn K C=true
 po:PySem.W.plainOver K C=true
 sa:PySem.W.findIn K (.ref C) "__setattr__" = some (some (.builtin "object.__setattr__"))
theorem Cls.get {K:PySem.W.Frag}{C:Addr}(c:Cls K C) (f:Str):PySem.W.plainGet K C f=true:=c.pg
def NoAttr (K:PySem.W.Frag) (C:Addr) (f:Str):Prop:=PySem.W.findIn K (.ref C) f=some none
theorem NoAttr.taker {K:PySem.W.Frag}{C:Addr}{f:Str}(n:NoAttr K C f):PySem.W.takerIn K C f=some none:=by
 unfold PySem.W.takerIn
 rw[show PySem.W.findIn K (.ref C) f=some none from n]
 rfl
structure Meth (K:PySem.W.Frag) (C:Addr) (m:Str) (f:Addr):Prop where
 at_:PySem.W.findIn K (.ref C) m=some (some (.ref f))
 fn:PySem.W.isFn K (.ref f)=true
 kp:PySem.W.keepIn K (.ref f)=true
section
variable {X:Cx}{pins:List (Addr×Obj)}{σ:St}{H:Hp}{s:Shared}{a C dx:Addr}{fs:List (Str×V)}{f:Str}{v:V}{A:Around}{E:Value→Shared→Prop}
theorem ZI {b:Bool}{Q:Value→Shared→Prop}(I:Inv X pins σ H s) (e:H a=some (.ins C dx fs)) (c:Cls X.K C) (n:NoAttr X.K C f) (l:fs.lookup f=some v)
  (h:∀ u s',Inv X pins σ H s'→RelV v u→Q u s'):wpAny (model X.prog X.w) A (getAttr (.ref a) f b) Q E s:=by
 obtain⟨mA,O,r,_,_,_⟩:=wT I.hok e
 obtain⟨u,hu,ru⟩:=RelO.some_of (v:=v) (o:=mA f) (by rw[← l];exact r f)
 exact UF I.kIn O (c.get f) c.hd n hu (vN ru) (h u _ (I.tok _) ru)
theorem yO {m:Str}{g:Addr}{pl:Sem Bool}{Q:Value×List Value→Shared→Prop}(I:Inv X pins σ H s) (e:H a=some (.ins C dx fs)) (c:Cls X.K C) (k:Meth X.K C m g) (l:fs.lookup m=none)
  (h:Q (.ref g,[.ref a]) s):wpAny (model X.prog X.w) A (getMethod (.ref a) m pl) Q E s:=by
 obtain⟨mA,O,r,_,_,_⟩:=wT I.hok e
 have hn:mA m=none:=RelO.none_of (by rw[← l];exact r m)
 exact W1 I.kIn O (c.get m) k.at_ k.fn hn h
theorem Zx {y:V}{u:Value}{Q:Unit→Shared→Prop}(I:Inv X pins σ H s) (e:H a=some (.ins C dx fs)) (c:Cls X.K C) (n:NoAttr X.K C f) (hl:fs.length<1000) (ry:RelV y u)
  (h:∀ s',Inv X pins σ (upd H a (.ins C dx (v0 f y fs))) s'→Q () s'):wpAny (model X.prog X.w) A (setAttr (.ref a) f u) Q E s:=by
 obtain⟨mA,O,r,wi,_,ho⟩:=wT I.hok e
 have hz:(fs.map (·.1)).length≤sizeLine:=by rw[List.length_map,sizeLine_eq];omega
 refine V2 I.kIn O c.sa c.po n.taker c.hd wi hz fun h' O' sb=>h _ ?_
 have hd:∃ o,h'.get? dx=some o:=let ⟨o,_,_,e',_⟩:=O'.ns;⟨o,e'⟩
 refine I.write (x:=a) (e:=dx) (by rw[e];exact True.intro) (.inr ho) (fun b q hb z=>(sb.2 b hb).trans z) hd ?_
 refine⟨by rw[upd_ne O.ne];exact ho,?_,O.ne,O'.obj,_,O'.ns,fun g=>?_,fun g hg=>?_⟩
 ·have:=wf f y fs;omega
 ·show RelO ((v0 f y fs).lookup g) (if g=f then some u else mA g)
  rw[wc]
  by_cases q:g=f
  ·rw[if_pos q,if_pos q];exact ry
  ·rw[if_neg q,if_neg q];exact r g
 ·by_cases q:g=f
  ·rw[q];exact(wj f y fs).1
  ·refine(wj f y fs).2 g (wi g fun z=>hg ?_)
   show(if g=f then some u else mA g)=none
   rw[if_neg q];exact z
theorem Inv.made (I:Inv X pins σ H s):Inv X pins σ (upd (upd H s.heap.objs.size (.own (s.heap.objs.size+1))) (s.heap.objs.size+1) (.ins C s.heap.objs.size []))
  { s with heap:=(s.heap.push PySem.W.emptyDict).push (PySem.W.instObj C s.heap.objs.size) }:=by
 have e1:(s.heap.push PySem.W.emptyDict).get? s.heap.objs.size=some PySem.W.emptyDict:=Heap.get?_push_size s.heap rfl
 have e2:((s.heap.push PySem.W.emptyDict).push (PySem.W.instObj C s.heap.objs.size)).get? (s.heap.objs.size+1)=some (PySem.W.instObj C s.heap.objs.size):=by
  have:=Heap.get?_push_size (s.heap.push PySem.W.emptyDict) (o:=PySem.W.instObj C s.heap.objs.size) rfl
  rwa [Heap.size_push] at this
 have e3:(s.heap.push PySem.W.emptyDict).Ns s.heap.objs.size (fun _=>none):=⟨PySem.W.emptyDict,#[],_,e1,rfl,(fun e he=>absurd he (by simp)),fun _=>rfl⟩
 have I1:=I.laid (a:=s.heap.objs.size) (o:=.own (s.heap.objs.size+1)) (h':=s.heap.push PySem.W.emptyDict) (t':=s.toks) (fun b u q=>Heap.get?_push_of_some _ q) (Nat.le_refl _) ⟨_,e1⟩
 refine I1.laid (a:=s.heap.objs.size+1) (o:=.ins C s.heap.objs.size []) (t':=s.toks) (fun b u q=>Heap.get?_push_of_some _ q) (Nat.le_of_eq (Heap.size_push _ _)) ?_
 have ne:s.heap.objs.size≠s.heap.objs.size+1:=Nat.ne_of_lt (Nat.lt_succ_self _)
 refine⟨by rw[upd_ne ne,upd_same],Nat.zero_le _,ne,e2,fun _=>none,(Heap.Ns1.of_empty e3).at fun o q=>Heap.get?_push_of_some _ q,fun _=>True.intro,fun y hy=>absurd rfl hy⟩
theorem attr_of {prog:Program}{w:World}{env:Env}{e:Expr}{f:Str}{pos:Pos}{s:Shared}{Q:Value→Shared→Prop}(hb:attributeBase e f env (eval e env)=eval e env)
  (h:wpAny (model prog w) A (eval e env) (fun o s₁=>wpAny (model prog w) A (getAttr o f true) Q E s₁) E s):wpAny (model prog w) A (eval (.Attribute e f pos) env) Q E s :=
 Attribute_any_ h (by rw[arm_eval_Attribute,hb])
end
def ziO (K:PySem.W.Frag) (ta:TE) (f:Str):TE:=fun σ H Q=>ta σ H fun x H1=>∃ a C dx fs v,x=.ref a∧H1 a=some (.ins C dx fs)∧Cls K C∧NoAttr K C f∧fs.lookup f=some v∧Q v H1
def zn5 (K:PySem.W.Frag) (ta tv:TE) (f:Str):TS:=fun D σ H=>tv σ H fun y H1=>ta σ H1 fun x H2=>∃ a C dx fs,x=.ref a∧H2 a=some (.ins C dx fs)∧Cls K C∧NoAttr K C f∧fs.length<1000 ∧
 D.nx σ (upd H2 a (.ins C dx (v0 f y fs)))
section
variable {X:Cx}{o e value:Expr}{f:Str}{pos pos' tpos:Pos}{ta tv:TE}
theorem zcV (he:PE X e ta) (hb:attributeBase e f X.env (eval e X.env)=eval e X.env):PE X (.Attribute e f pos) (ziO X.K ta f):=by
 intro pins s σ H Q I h
 refine attr_of hb (thn (he pins s σ H _ I h) fun u s1 hq0=>?_)
 obtain⟨x,H1,I1,rx,a,C,dx,fs,v,ex,ea,c,n,l,q⟩:=hq0
 subst ex
 obtain rfl:u=Value.ref a:=rx
 exact ZI I1 ea c n l fun u' s2 I2 ru=>⟨v,H1,I2,ru,q⟩
theorem vp (ha:PE X o ta) (hv:PE X value tv) (hs:swapsWith value (some (.Attribute o f pos')) pos.line X.env=pure false):PS X (.Assign [.Attribute o f pos'] value pos) (zn5 X.K ta tv f):=by
 intro pins s σ H D I h
 refine plainObj_wpAny_Assign_Attribute (thn (hv pins s σ H _ I h) fun u s1 ⟨y,H1,I1,ry,q⟩=>thn (ha pins s1 σ H1 _ I1 q) fun ov s2 hq0=>?_) hs
 obtain⟨x,H2,I2,rx,a,C,dx,fs,ex,ea,c,n,l,q2⟩:=hq0
 subst ex
 obtain rfl:ov=Value.ref a:=rx
 exact Zx I2 ea c n l ry fun s3 I3=>⟨σ,_,I3,q2⟩
theorem UC {pl:Sem Bool}{m:Str}{apos:Pos}{args:List Expr}{pins:List (Addr×Obj)}{s:Shared}{σ:St}{H:Hp}{Q:Value→Shared→Prop}{te:TE}(he:PE X e te) (I:Inv X pins σ H s)
  (h:te σ H fun x H1=>∃ a C dx fs g,x=.ref a∧H1 a=some (.ins C dx fs)∧Cls X.K C∧Meth X.K C m g∧fs.lookup m=none ∧
   ∀ s1,Inv X pins σ H1 s1→wpAny (model X.prog X.w) X.A (callWith pos (.ref g) [.ref a] (backTo pos (starEach args X.env)) (backToKw pos (keywordEach [] X.env))) Q X.xe s1)
  (ht:eval (.Call (.Attribute e m apos) args [] pos) X.env=(do
   let ov ← eval e X.env
   standAt apos.atName
   let (f,first) ← holding [ov] (getMethod ov m pl)
   callWith pos f first (backTo pos (starEach args X.env)) (backToKw pos (keywordEach [] X.env)))) :
  wpAny (model X.prog X.w) X.A (eval (.Call (.Attribute e m apos) args [] pos) X.env) Q X.xe s:=by
 refine PySem.W.methodCall_KW (pl:=pl) (thn (he pins s σ H _ I h) fun u s1 hq0=>?_) ht
 obtain⟨x,H1,I1,rx,a,C,dx,fs,g,ex,ea,c,k,l,q⟩:=hq0
 subst ex
 obtain rfl:u=Value.ref a:=rx
 exact yO I1 ea c k l (q s1 I1)
end
section
variable {X:Cx}{pins:List (Addr×Obj)}{σ:St}{H:Hp}{s:Shared}{A:Around}{E:Value→Shared→Prop}{Q:Value→Shared→Prop}{c:Value}{b:Bool}
inductive TyOf (K:PySem.W.Frag) (H:Hp):V→Value→Prop where
 |non:TyOf K H .non (.type "NoneType")
 |bl (x:Bool):TyOf K H (.bl x) (.type "bool")
 |int (i:Int):TyOf K H (.int i) (.type "int")
 |str (x:Str):TyOf K H (.str x) (.type "str")
 |flt (x:UInt64):TyOf K H (.flt x) (.type "float")
 |lst {a:Addr}{xs:List V}(e:H a=some (.lst xs)):TyOf K H (.ref a) (.type "list")
 |frz {a:Addr}{o:Obj}{xs:List V}(e:H a=some (.frz o (.lst xs))):TyOf K H (.ref a) (.type "list")
 |tup {a:Addr}{xs:List V}(e:H a=some (.tup xs)):TyOf K H (.ref a) (.type "tuple")
 |dK {a:Addr}{kvs:List (Key×V)}(e:H a=some (.dK kvs)):TyOf K H (.ref a) (.type "dict")
 |dT {a:Addr}{kvs:List (List Key×V)}(e:H a=some (.dT kvs)):TyOf K H (.ref a) (.type "dict")
 |ins {a C dx:Addr}{fs:List (Str×V)}(e:H a=some (.ins C dx fs)) (cl:Cls K C) (ha:PySem.W.findIn K (.ref C) "__class__" = some (some (.builtin "object.__class__")))
   (hn:PySem.W.specialIn K (.builtin "object.__class__") "__get__" = some (some (.builtin "getset_descriptor.__get__"))) (htk:PySem.W.takesIn K (.builtin "object.__class__")=some true)
   (hm:PySem.W.mroIn K C (.type "object")=some true):TyOf K H (.ref a) (.ref C)
theorem XB {x:V}{u t:Value}(I:Inv X pins σ H s) (rx:RelV x u) (ty:TyOf X.K H x t) (e:PySem.W.kitOne X.K t c=some b) (h:∀ tk,Q (.bool b) { s with toks:=tk }) :
  wpAny (model X.prog X.w) A (call (.builtin "isinstance") [u,c]) Q E s:=by
 cases ty with
 |non=>cases (show u=Value.none from rx);exact PySem.W.kia_one PySem.W.kitx_none I.kIn True.intro e (fun z=>nomatch z) h
 |bl y=>cases (show u=Value.bool y from rx);exact PySem.W.kia_one PySem.W.kitx_bool I.kIn True.intro e (fun z=>nomatch z) h
 |int i=>obtain⟨t,q⟩:=(show ∃ t,u=Value.int i t from rx);cases q;exact PySem.W.kia_one PySem.W.kitx_int I.kIn True.intro e (fun z=>nomatch z) h
 |str y=>obtain⟨t,q⟩:=(show ∃ t,u=Value.str y t from rx);cases q;exact PySem.W.kia_one PySem.W.kitx_str I.kIn True.intro e (fun z=>nomatch z) h
 |flt y=>obtain⟨t,q⟩:=(show ∃ t,u=Value.float y t from rx);cases q;exact PySem.W.kia_one PySem.W.kitx_float I.kIn True.intro e (fun z=>nomatch z) h
 | @lst a xs ea =>
  cases (show u=Value.ref a from rx)
  obtain⟨_,_,n,_,h1⟩:=(show ObjOk X.prog X.w H s.heap a (.lst xs) from I.hok a _ ea)
  exact PySem.W.kia_one PySem.W.kitx_list I.kIn ⟨_,h1,rfl⟩ e (fun z=>nomatch z) h
 | @frz a ob xs ea =>
  cases (show u=Value.ref a from rx)
  obtain⟨_,_,_,n,_,h1⟩:=(show ObjOk X.prog X.w H s.heap a (.frz ob (.lst xs)) from I.hok a _ ea)
  exact PySem.W.kia_one PySem.W.kitx_list I.kIn ⟨_,h1,rfl⟩ e (fun z=>nomatch z) h
 | @tup a xs ea =>
  cases (show u=Value.ref a from rx)
  obtain⟨_,_,_,p⟩:=(show ObjOk X.prog X.w H s.heap a (.tup xs) from I.hok a _ ea)
  obtain⟨o,h1,h2,_⟩:=p
  exact PySem.W.kia_one PySem.W.kitx_tuple I.kIn ⟨o,h1,h2⟩ e (fun z=>nomatch z) h
 | @dK a kvs ea =>
  cases (show u=Value.ref a from rx)
  obtain⟨_,_,vs,_,p⟩:=(show ObjOk X.prog X.w H s.heap a (.dK kvs) from I.hok a _ ea)
  obtain⟨o,es,ep,h1,h2,_⟩:=p
  exact PySem.W.kia_one PySem.W.kitx_dict I.kIn ⟨o,h1,h2.1⟩ e (fun z=>nomatch z) h
 | @dT a kvs ea =>
  cases (show u=Value.ref a from rx)
  obtain⟨_,_,xs,_,o,es,ep,h1,h2,_⟩:=(show ObjOk X.prog X.w H s.heap a (.dT kvs) from I.hok a _ ea)
  exact PySem.W.kia_one PySem.W.kitx_dict I.kIn ⟨o,h1,h2.1⟩ e (fun z=>nomatch z) h
 | @ins a C dx fs ea cl ha hn htk hm =>
  cases (show u=Value.ref a from rx)
  obtain⟨mA,O,_⟩:=wT I.hok ea
  obtain⟨od,J,_⟩:=O.look
  exact PySem.W.kia_one (PySem.W.kitx_own (cl.get _) cl.hd ha hn htk hm) I.kIn J e (fun z=>nomatch z) h
end
end L2
namespace L2
open PySem PySem.Spec PyProof.Rows
structure Room (k:Nat) (A:Around):Prop where
 hd:A.handled=none
 dp:A.depth+3*k+5<recursionLimit
 un:A.units+16*k+200<cLine
theorem Room.mono {j k:Nat}{A:Around}(r:Room k A) (h:j≤k):Room j A:=⟨r.hd,by have:=r.dp;omega,by have:=r.un;omega⟩
theorem Room.deeper {k:Nat}{A:Around}(r:Room (k+1) A) (env:Env):Room k (A.deeper env) :=
 ⟨r.hd,by have:=r.dp;show A.depth+1+3*k+5<_;omega,by have:=r.un;show A.units+3+16*k+200<_;omega⟩
theorem ZG {A:Around}{C:Addr}{us:List Value}{kw:List (Str×Value)}:(A.under (.builtin "type.__call__" ⟨.ref C::us,kw⟩)).depth=A.depth+1:=by
 first | rfl | simp[Around.under,Code.weight,Code.isCreation,Code.isGuard,Code.isCaller,Code.frames,Code.isFrame,guardIds]
theorem ZF {A:Around}{C:Addr}{us:List Value}{kw:List (Str×Value)}:(A.under (.builtin "type.__call__" ⟨.ref C::us,kw⟩)).units=A.units+1:=by
 first | rfl | simp[Around.under,Code.cUnits,Code.frames,Code.isFrame]
theorem Room.make {k:Nat}{A:Around}(r:Room (k+1) A) (C:Addr) (us:List Value) (kw:List (Str×Value)):Room k (A.under (.builtin "type.__call__" ⟨.ref C::us,kw⟩)) :=
 ⟨r.hd,by have:=r.dp;rw[ZG];omega,by have:=r.un;rw[ZF];omega⟩
theorem Room.depth {k:Nat}{A:Around}(r:Room k A):A.depth<recursionLimit:=by have:=r.dp;omega
theorem Room.units {k:Nat}{A:Around}(r:Room k A):A.units+64<cLine:=by have:=r.un;omega
theorem Room.units0 {k:Nat}{A:Around}(r:Room k A):A.units<cLine:=by have:=r.un;omega
def U2:TA:=fun _ H Q=>Q [] H
def xc (ta:TE) (tr:TA):TA:=fun σ H Q=>ta σ H fun x H1=>tr σ H1 fun xs H2=>Q (x::xs) H2
section
variable {X:Cx}{e:Expr}{es:List Expr}{te:TE}{t:TA}{pos:Pos}
theorem yr:PA X [] U2:=fun _ _ _ _ H Q I h=>Calls.spliced_nil ⟨[],H,I,.nil,h⟩
theorem yw (ha:PE X e te) (hr:PA X es t) (hs:starEach (e::es) X.env=(false,eval e X.env)::starEach es X.env:=by rfl):PA X (e::es) (xc te t):=by
 intro pos pins s σ H Q I h
 rw[hs]
 show wpAny _ _ (spliced ((false,eval e X.env)::backTo pos (starEach es X.env))) _ _ s
 refine Calls.spliced_cons (thn (ha pins s σ H _ I h) fun u s1 hq0=>?_)
 obtain⟨x,H1,I1,r1,q1⟩:=hq0
 exact thn (hr pos pins s1 σ H1 _ I1 q1) fun us s2 ⟨xs,H2,I2,r2,q2⟩=>⟨x::xs,H2,I2,.cons r1 r2,q2⟩
def ziH (t:TA):TE:=fun σ H Q=>t σ H fun xs H1=>xs.length≤sizeLine∧∀ p,H1 p=none→Q (.ref p) (upd H1 p (.tup xs))
def ziL (t:TA):TE:=fun σ H Q=>t σ H fun xs H1=>xs.length≤sizeLine∧∀ p,H1 p=none→Q (.ref p) (upd H1 p (.lst xs))
theorem zcQ {x1}(h:PA X es t):PE X (.Tuple es x1 pos) (ziH t):=by
 intro pins s σ H Q I hq
 refine wpAny_Tuple_spliced (thn (h pos pins s σ H _ I hq) fun us s1 ⟨xs,H1,I1,r,z,q⟩=>⟨by rw[← r.length];exact z,?_⟩)
 have hf:H1 s1.heap.objs.size=none:=I1.hok.fresh (Nat.le_refl _)
 refine⟨.ref s1.heap.objs.size,upd H1 s1.heap.objs.size (.tup xs),I1.laid (t':=s1.toks) (fun b u e=>Heap.get?_push_of_some _ e) (Nat.le_refl _) ?_,rfl,q _ hf⟩
 exact⟨z,us,r,⟨_,Heap.get?_push_size _ rfl,rfl,_,rfl⟩⟩
theorem Xb (h:PA X es t):PE X (.List es pos) (ziL t):=by
 intro pins s σ H Q I hq
 refine wpAny_List_spliced (thn (h pos pins s σ H _ I hq) fun us s1 ⟨xs,H1,I1,r,z,q⟩=>⟨by rw[← r.length];exact z,?_⟩)
 have hf:H1 s1.heap.objs.size=none:=I1.hok.fresh (Nat.le_refl _)
 refine⟨.ref s1.heap.objs.size,upd H1 s1.heap.objs.size (.lst xs),I1.laid (t':=s1.toks) (fun b u e=>Heap.get?_push_of_some _ e) (Nat.le_refl _) ?_,rfl,q _ hf⟩
 exact⟨z,us,0,r,Heap.get?_push_size _ rfl⟩
end
abbrev Sp:=List V→Hp→VK→XK→Prop
abbrev CXT:=List Env→Hp→Shared→XK→Value→Shared→Prop
structure Env0 (P:Program) (w:World) (K:PySem.W.Frag) (mg:Str→Option Value) (base:Heap) (A:Around) (outer:List Env) (s:Shared) (H:Hp):Prop where
 frames:A.frames=some outer
 mod:Mod K mg base
 bs:∀ b o,base.get? b=some o→s.heap.get? b=some o∧H b=none
 bsz:base.objs.size≤s.heap.objs.size
 funs:s.heap.FunFrames base outer
 frf:∀ b∈frs outer,H b=none
 hok:HOk P w H s.heap
 bare:AllBare s.gens
def CE (outer:List Env) (P:Program) (w:World) (H:Hp) (s:Shared) (Q:VK) (u:Value) (s':Shared):Prop :=
 ∃ v H',s'.os=s.os∧AllBare s'.gens∧Un (frs outer) [] H H' s.heap s'.heap∧HOk P w H' s'.heap∧RelV v u∧Q v H'
def CR (CX:CXT) (outer:List Env) (P:Program) (w:World) (H:Hp) (s:Shared) (Q:VK) (E:XK) (r:Result) (s':Shared):Prop :=
 match r with
 |.ok (.ret u)=>CE outer P w H s Q u s'
 |.ok _=>False
 |.error e=>CX outer H s E e s'
structure FnOk (P:Program) (w:World) (K:PySem.W.Frag) (mg:Str→Option Value) (base:Heap) (CX:CXT) (k:Nat) (f:Addr) (fd:FuncData) (ps:List Str) (sp:Sp):Prop where
 len:∀ vs H Q E,sp vs H Q E→vs.length=ps.length
 run:∀ (A:Around) (outer:List Env) (s:Shared) (H:Hp) (args:Args) (us:List Value) (vs:List V) (Q:VK) (E:XK),Room k A→Env0 P w K mg base A outer s H→BindsTo s fd args (ps.zip us)→Vals vs us→sp vs H Q E →
  codeAny (model P w) A (.call (.ref f) args) (CR CX outer P w H s Q E) s
theorem Env0.make {P:Program}{w:World}{K:PySem.W.Frag}{mg:Str→Option Value}{base:Heap}{A:Around}{outer:List Env}{s:Shared}{H:Hp}(e:Env0 P w K mg base A outer s H) (C:Addr) (us:List Value) (kw:List (Str×Value)) :
  Env0 P w K mg base (A.under (.builtin "type.__call__" ⟨.ref C::us,kw⟩)) outer s H:=⟨by first | exact e.frames | (simpa[Around.under,Code.envs,Code.isFrame,pushEnvs] using e.frames),e.mod,e.bs,e.bsz,e.funs,e.frf,e.hok,e.bare⟩
section
variable {X:Cx}{pins:List (Addr×Obj)}{σ:St}{H:Hp}{s s':Shared}
theorem Inv.env0 (I:Inv X pins σ H s):Env0 X.prog X.w X.K X.mg X.base X.A X.stack s H :=
 ⟨I.ok.frames,I.ok.mod,I.bs,Nat.le_trans I.ok.bsz I.sz,I.stack,I.stkFree,I.hok,I.bare⟩
theorem Inv.after {Q:VK}{u:Value}(I:Inv X pins σ H s) (h:CE X.stack X.prog X.w H s Q u s'):EP X pins σ Q u s':=by
 obtain⟨v,H',os,bare,un,hok,r,q⟩:=h
 obtain⟨hh,g,d,t,os'⟩:=s'
 obtain rfl:os'=s.os:=os
 exact⟨v,H',I.call (h':=hh) (g':=g) (d':=d) (t':=t) (ch:=[]) un hok bare (fun b z=>absurd z (by simp)),r,q⟩
end
def Zr (sp:Sp) (dvs:List V) (E:XK) (t:TA):TE:=fun σ H Q=>t σ H fun vs H1=>sp (vs++dvs) H1 Q E
def zbr (C:Addr) (m:Str) (sp:Sp) (dvs:List V) (E:XK) (ta:TE) (t:TA):TE:=fun σ H Q=>ta σ H fun x H1=>∃ a dx fs,x=.ref a∧H1 a=some (.ins C dx fs)∧fs.lookup m=none ∧
 t σ H1 fun vs H2=>sp (x::(vs++dvs)) H2 Q E
def Z7 (C:Addr) (sp:Sp) (dvs:List V) (E:XK) (t:TA):TE:=fun σ H Q=>t σ H fun vs H1=>∀ x dx,H1 x=none→H1 dx=none→dx≠x →
 sp (.ref x::(vs++dvs)) (upd (upd H1 dx (.own x)) x (.ins C dx [])) (fun v H2=>v=.non∧Q (.ref x) H2) E
def Binds (K:PySem.W.Frag) (fd:FuncData) (ps:List Str) (ds:List Value):Prop :=
 ∀ (s:Shared) (us:List Value),K.In s.heap→(us++ds).length=ps.length→BindsTo s fd ⟨us,[]⟩ (ps.zip (us++ds))
theorem Binds.all {K:PySem.W.Frag}{fd:FuncData}{ps:List Str}(h:∀ us:List Value,us.length=ps.length→bindArgs fd ⟨us,[]⟩=pure (ps.zip us)):Binds K fd ps []:=fun s us _ hl=>by
 rw[List.append_nil] at hl ⊢
 exact .of_eq (h us hl)
def xC (CX:CXT) (X:Cx) (E:XK):Prop:=∀ (pins:List (Addr×Obj)) (σ:St) (H:Hp) (s:Shared) (e:Value) (s':Shared),Inv X pins σ H s→CX X.stack H s E e s'→X.xe e s'
section
variable {X:Cx}{CX:CXT}{k:Nat}{f C:Addr}{fd:FuncData}{ps:List Str}{sp:Sp}{dvs:List V}{ds:List Value}{E:XK}{x m:Str}{p pos apos:Pos}{e o:Expr}{es:List Expr}{ta:TE}{t:TA}
theorem uN {pins:List (Addr×Obj)}{σ:St}{H:Hp}{s:Shared}{Q:VK}{us:List Value}{vs:List V}(F:FnOk X.prog X.w X.K X.mg X.base CX k f fd ps sp) (hr:Room k X.A) (hb:Binds X.K fd ps ds) (hd:Vals dvs ds) (hx:xC CX X E)
  (I:Inv X pins σ H s) (r:Vals vs us) (h:sp (vs++dvs) H Q E):wpAny (model X.prog X.w) X.A (call (.ref f) us) (EP X pins σ Q) X.xe s:=by
 have r2:Vals (vs++dvs) (us++ds):=r.append hd
 have hl:(us++ds).length=ps.length:=by rw[← r2.length];exact F.len _ _ _ _ h
 refine wpAny_call (codeAny_mono (F.run X.A X.stack s H ⟨us,[]⟩ (us++ds) (vs++dvs) Q E hr I.env0 (hb s us I.kIn hl) r2 h) fun r s' hq=>?_)
 cases r with
 |error e=>exact hx pins σ H s e s' I hq
 |ok fl =>
  cases fl with
  |ret u=>exact I.after hq
  |next=>exact False.elim hq
  |brk=>exact False.elim hq
  |cont=>exact False.elim hq
theorem Ut (F:FnOk X.prog X.w X.K X.mg X.base CX k f fd ps sp) (hr:Room k X.A) (hg:Gl X x) (hm:X.mg x=some (.ref f)) (hk:PySem.W.keepIn X.K (.ref f)=true) (hb:Binds X.K fd ps ds) (hd:Vals dvs ds) (hx:xC CX X E)
  (ha:PA X (e::es) t) (hdb:(x == ("__debug__" : Str))=false:=by decide) (he:starEach (e::es) X.env=(false,eval e X.env)::starEach es X.env:=by rfl) (hpl:(backTo pos (starEach es X.env)).any (·.1)=false:=by rfl) :
  PE X (.Call (.Name x p) (e::es) [] pos) (Zr sp dvs E t):=by
 intro pins s σ H Q I h
 refine wpAny_Call_Name_kw (ld_glob I hg hm ?_ hdb)
 refine PySem.W.callWith_K (h₀:=X.base) I.ok.mod.kin hk (thn (ha pos pins s σ H _ I h) fun us s1 ⟨vs,H1,I1,r,q⟩=>⟨I1.kIn,?_⟩) he hpl
 exact uN F hr hb hd hx I1 r q
theorem Um {pl:Sem Bool}(he:PE X o ta) (c:Cls X.K C) (hm:Meth X.K C m f) (F:FnOk X.prog X.w X.K X.mg X.base CX k f fd ps sp) (hr:Room k X.A) (hb:Binds X.K fd ps ds) (hd:Vals dvs ds) (hx:xC CX X E) (ha:PA X (e::es) t)
  (hst:starEach (e::es) X.env=(false,eval e X.env)::starEach es X.env:=by rfl) (hpl:(backTo pos (starEach es X.env)).any (·.1)=false:=by rfl)
  (ht:eval (.Call (.Attribute o m apos) (e::es) [] pos) X.env=(do
   let ov ← eval o X.env
   standAt apos.atName
   let (f,first) ← holding [ov] (getMethod ov m pl)
   callWith pos f first (backTo pos (starEach (e::es) X.env)) (backToKw pos (keywordEach [] X.env))):=by rfl) :
  PE X (.Call (.Attribute o m apos) (e::es) [] pos) (zbr C m sp dvs E ta t):=by
 intro pins s σ H Q I h
 refine PySem.W.methodCall_KW (pl:=pl) (thn (he pins s σ H _ I h) fun u s1 hq0=>?_) ht
 obtain⟨x,H1,I1,rx,a,dx,fs,ex,ea,l,q⟩:=hq0
 subst ex
 obtain rfl:u=Value.ref a:=rx
 refine yO I1 ea c hm l ?_
 refine PySem.W.callWith_K (first:=[.ref a]) (h₀:=X.base) I.ok.mod.kin hm.kp (thn (ha pos pins s1 σ H1 _ I1 q) fun us s2 ⟨vs,H2,I2,r,q2⟩=>⟨I2.kIn,?_⟩) hst hpl
 exact uN (us:=.ref a::us) (vs:=.ref a::vs) F hr hb hd hx I2 (.cons rfl r) q2
structure Mk (K:PySem.W.Frag) (C f:Addr):Prop where
 makes:PySem.W.makesIn K C=true
 init:PySem.W.findIn K (.ref C) "__init__" = some (some (.ref f))
 fn:PySem.W.isFn K (.ref f)=true
 kp:PySem.W.keepIn K (.ref C)=true
theorem Wo {pins:List (Addr×Obj)}{σ:St}{H:Hp}{s:Shared}{Q:VK}{us:List Value}{vs:List V}(M:Mk X.K C f) (F:FnOk X.prog X.w X.K X.mg X.base CX k f fd ps sp) (hr:Room (k+1) X.A) (hb:Binds X.K fd ps ds) (hd:Vals dvs ds)
  (hx:xC CX X E) (I:Inv X pins σ H s) (r:Vals vs us)
  (h:∀ x dx,H x=none→H dx=none→dx≠x→sp (.ref x::(vs++dvs)) (upd (upd H dx (.own x)) x (.ins C dx [])) (fun v H2=>v=.non∧Q (.ref x) H2) E) :
  wpAny (model X.prog X.w) X.A (call (.ref C) us) (EP X pins σ Q) X.xe s:=by
 have hq:=h (s.heap.objs.size+1) s.heap.objs.size (I.hok.fresh (Nat.le_succ _)) (I.hok.fresh (Nat.le_refl _)) (Nat.ne_of_lt (Nat.lt_succ_self _))
 have I2:=Inv.made (C:=C) I
 have r2:Vals (V.ref (s.heap.objs.size+1)::(vs++dvs)) (Value.ref (s.heap.objs.size+1)::(us++ds)):=.cons rfl (r.append hd)
 have hl:(Value.ref (s.heap.objs.size+1)::us++ds).length=ps.length:=by
  have e:=r2.length
  rw[F.len _ _ _ _ hq] at e
  exact e.symm
 refine wpAny_call (WK (f:=f) I.kIn M.makes M.init (beq_iff_eq.mp M.fn) (codeAny_mono (F.run _ X.stack _ _ ⟨Value.ref (s.heap.objs.size+1)::us,[]⟩ (Value.ref (s.heap.objs.size+1)::(us++ds)) _ _ E (hr.make C us [])
  (I2.env0.make C us []) (hb _ (Value.ref (s.heap.objs.size+1)::us) I2.kIn hl) r2 hq) fun r s' hq'=>?_))
 cases r with
 |error e=>exact hx pins σ _ _ e s' I2 hq'
 |ok fl =>
  cases fl with
  |ret u =>
   obtain⟨v,H',I3,rv,ev,q3⟩:=I2.after hq'
   subst ev
   exact⟨rv,⟨V.ref (s.heap.objs.size+1),H',I3,rfl,q3⟩⟩
  |next=>exact False.elim hq'
  |brk=>exact False.elim hq'
  |cont=>exact False.elim hq'
theorem Xa (M:Mk X.K C f) (F:FnOk X.prog X.w X.K X.mg X.base CX k f fd ps sp) (hr:Room (k+1) X.A) (hg:Gl X x) (hm:X.mg x=some (.ref C)) (hb:Binds X.K fd ps ds) (hd:Vals dvs ds) (hx:xC CX X E)
  (ha:PA X (e::es) t) (hdb:(x == ("__debug__" : Str))=false:=by decide) (he:starEach (e::es) X.env=(false,eval e X.env)::starEach es X.env:=by rfl) (hpl:(backTo pos (starEach es X.env)).any (·.1)=false:=by rfl) :
  PE X (.Call (.Name x p) (e::es) [] pos) (Z7 C sp dvs E t):=by
 intro pins s σ H Q I h
 refine wpAny_Call_Name_kw (ld_glob I hg hm ?_ hdb)
 refine PySem.W.callWith_K (h₀:=X.base) I.ok.mod.kin M.kp (thn (ha pos pins s σ H _ I h) fun us s1 ⟨vs,H1,I1,r,q⟩=>⟨I1.kIn,?_⟩) he hpl
 exact Wo M F hr hb hd hx I1 r q
end
structure FnScope (N P:List Str) (sc:Scope):Prop where
 kind:sc.kind=.function
 co:sc.isCoroutine=false
 gen:sc.isGenerator=false
 nd:N.Nodup
 pre:N.take P.length=P
 par:∀ x∈P,sc.names.lookup x=some .local∨sc.names.lookup x=some .cell
 nofree:∀ y∈sc.names,y.2≠.free
theorem vX {kindOf:Str→Option NameKind}{x:Str}:∀ {binds:List (Str×Value)}{m:Str→Option Value},(∀ v,(x,v)∉binds)→bindL kindOf binds m x=m x
 |[],_,_=>rfl
 |(n,v)::r,m,h=>by
  unfold bindL
  rw[vX fun w hw=>h w (List.mem_cons_of_mem _ hw)]
  split
  ·have:x≠n:=by rintro rfl;exact h v List.mem_cons_self
   simp[this]
  ·rfl
theorem bindC_out {kindOf:Str→Option NameKind}{x:Str}:∀ {binds:List (Str×Value)}{m:Str→Option Value},(∀ v,(x,v)∉binds)→bindC kindOf binds m x=m x
 |[],_,_=>rfl
 |(n,v)::r,m,h=>by
  unfold bindC
  rw[bindC_out fun w hw=>h w (List.mem_cons_of_mem _ hw)]
  split
  ·rfl
  ·have:x≠n:=by rintro rfl;exact h v List.mem_cons_self
   simp[this]
theorem bindL_get {kindOf:Str→Option NameKind}{x:Str}{v:Value}:∀ {P:List Str}{vs:List Value}{i:Nat}{m:Str→Option Value},P.Nodup→P[i]?=some x→vs[i]?=some v→kindOf x=some .local →
  bindL kindOf (P.zip vs) m x=some v
 |[],_,_,_,_,h,_,_=>by simp at h
 |_::_,[],_,_,_,_,h,_=>by simp at h
 |p::P,w::vs,0,m,nd,h1,h2,hk=>by
  simp at h1 h2;subst h1;subst h2
  show bindL kindOf ((p,w)::P.zip vs) m p=_
  unfold bindL
  rw[vX fun v hv=>(List.nodup_cons.mp nd).1 (List.of_mem_zip hv).1,if_pos hk]
  simp
 |p::P,w::vs,i+1,m,nd,h1,h2,hk=>by
  show bindL kindOf ((p,w)::P.zip vs) m x=_
  unfold bindL
  exact bindL_get (i:=i) (List.nodup_cons.mp nd).2 (by simpa using h1) (by simpa using h2) hk
theorem vY {kindOf:Str→Option NameKind}{x:Str}{v:Value}:∀ {P:List Str}{vs:List Value}{i:Nat}{m:Str→Option Value},P.Nodup→P[i]?=some x→vs[i]?=some v→kindOf x≠some .local →
  bindC kindOf (P.zip vs) m x=some v
 |[],_,_,_,_,h,_,_=>by simp at h
 |_::_,[],_,_,_,_,h,_=>by simp at h
 |p::P,w::vs,0,m,nd,h1,h2,hk=>by
  simp at h1 h2;subst h1;subst h2
  show bindC kindOf ((p,w)::P.zip vs) m p=_
  unfold bindC
  rw[bindC_out fun v hv=>(List.nodup_cons.mp nd).1 (List.of_mem_zip hv).1,if_neg hk]
  simp
 |p::P,w::vs,i+1,m,nd,h1,h2,hk=>by
  show bindC kindOf ((p,w)::P.zip vs) m x=_
  unfold bindC
  exact vY (i:=i) (List.nodup_cons.mp nd).2 (by simpa using h1) (by simpa using h2) hk
noncomputable def start (N:List Str) (vs:List V):St:=vs.map some++List.replicate (N.length-vs.length) none
noncomputable def yc (CX:CXT) (P:Program) (w:World) (K:PySem.W.Frag) (mg:Str→Option Value) (base:Heap) (N:List Str) (qual:Str) (scope:Scope) (f:Addr) (cd:Value) (A:Around) (outer:List Env) (s:Shared) (H:Hp) (E:XK):Cx where
 prog:=P
 w:=w
 K:=K
 mg:=mg
 base:=base
 A:=A.deeper (envOfC qual scope s.heap.objs.size f cd)
 N:=N
 s₀:=s
 H₀:=H
 env:=envOfC qual scope s.heap.objs.size f cd
 outer:=outer
 stack:=envOfC qual scope s.heap.objs.size f cd::outer
 ex:=[]
 calm:=true
 fn:=fun _=>true
 pn:=[]
 xe:=fun e s'=>wpAny (model P w) (A.deeper (envOfC qual scope s.heap.objs.size f cd)) (leaving (envOfC qual scope s.heap.objs.size f cd) e) (fun _ s''=>CX outer H s E e s'') (fun e' s''=>CX outer H s E e' s'') s'
theorem Zf {sc:Scope}{n:Nat}{x:Str}(h:sc.names.lookup x=some .cell):∃ c,(cellsFrom n sc.names []).lookup x=some c:=by
 have q:=PySem.W.cellsFrom_some sc.names n [] (.inl h)
 exact Option.isSome_iff_exists.mp q
theorem XD {CX:CXT}{P:Program}{w:World}{K:PySem.W.Frag}{mg:Str→Option Value}{base:Heap}{N ps:List Str}{qual:Str}{scope:Scope}{f:Addr}{cd:Value}{A:Around}{outer:List Env}{s s1:Shared}{H:Hp}{E:XK}{us:List Value}{vs:List V}
  (S:FnScope N ps scope) (hd:A.handled=none) (e0:Env0 P w K mg base A outer s H) (hl:vs.length=ps.length) (r:Vals vs us)
  (x:InCallC s s.heap.objs.size (bindL (envOfC qual scope s.heap.objs.size f cd).kindOf (ps.zip us) fun _=>none) (cellsFrom (s.heap.objs.size+1) scope.names []) (bindC (envOfC qual scope s.heap.objs.size f cd).kindOf (ps.zip us) fun _=>none) s1) :
  Inv (yc CX P w K mg base N qual scope f cd A outer s H E) [] (start N vs) H s1:=by
 have hpl:ps.length≤N.length:=by have:=congrArg List.length S.pre;rw[List.length_take] at this;omega
 obtain⟨h1,tk,rfl,hk⟩:=x.done
 have noA:∀ b:Addr,b∉(yc CX P w K mg base N qual scope f cd A outer s H E).ex:=fun b z=>absurd (show b∈([]:List Addr) from z) (by simp)
 refine⟨⟨e0.mod,S.kind,rfl,rfl,Nat.le_refl _,fun y z c h1 h2=>?_,fun y hy=>?_,fun y c _ h=>?_,fun _=>hd,Around.frames_deeper e0.frames,.inr ⟨rfl,rfl⟩,fun b z=>absurd z (noA b),e0.bs,e0.bsz,fun b _ _=>noA b,fun b z=>absurd z (noA b),e0.funs,e0.frf⟩,
  rfl,e0.bare,Un.kept hk,⟨_,x.toInCall.ns,fun i y v h1 h2 h3=>?_⟩,fun y c h=>⟨_,x.cell y c h⟩,e0.hok.fresh (Nat.le_refl _),fun y c h=>?_,fun p hp=>absurd (show p∈([]:List (Addr×Obj)) from hp) (by simp),e0.hok.kept hk,?_⟩
 ·exact name_of_addr x.apart (PySem.mem_of_lookup h1) (PySem.mem_of_lookup h2)
 ·have hy:scope.names.lookup y=some .cell∨scope.names.lookup y=some .free:=hy
  rcases hy with hy | hy
  ·exact Zf hy
  ·exact absurd rfl (S.nofree _ (PySem.mem_of_lookup hy))
 ·exact Nat.le_of_lt (x.above y c (PySem.mem_of_lookup h))
 ·have hi:i<vs.length:=by
   unfold start at h2
   by_cases hi:i<vs.length
   ·exact hi
   ·rw[List.getElem?_append_right (by simpa using hi)] at h2
    rw[List.getElem?_replicate] at h2
    split at h2<;>cases h2
  have ha:vs[i]?=some v:=by
   unfold start at h2
   rw[List.getElem?_append_left (by simpa using hi),List.getElem?_map] at h2
   cases e:vs[i]? with
   |none=>rw[e] at h2;cases h2
   |some a=>rw[e] at h2;cases h2;rfl
  obtain⟨u,hu,rv⟩:=r.get ha
  have hp:ps[i]?=some y:=by
   rw[← S.pre,List.getElem?_take_of_lt (by omega)];exact h1
  have ndP:ps.Nodup:=by rw[← S.pre];exact S.nd.sublist (List.take_sublist _ _)
  refine⟨u,rv,?_⟩
  rcases S.par y (List.mem_of_getElem? hp) with k | k
  ·exact .inl ⟨k,bindL_get ndP hp hu k⟩
  ·obtain⟨c,e⟩:=Zf (n:=s.heap.objs.size+1) k
   refine .inr ⟨.inl k,c,e,?_⟩
   have q:=x.cell y c e
   rw[vY ndP hp hu (by show scope.names.lookup y≠_;rw[k];decide)] at q
   exact q
 ·exact e0.hok.fresh (Nat.le_of_lt (x.above y c (PySem.mem_of_lookup h)))
 ·unfold start
  show _=N.length
  rw[List.length_append,List.length_map,List.length_replicate]
  omega
theorem zdK {CX:CXT}{P:Program}{w:World}{K:PySem.W.Frag}{mg:Str→Option Value}{base:Heap}{k:Nat}{f:Addr}{name qual:Str}{params:Arguments}{body:List Stmt}{scope:Scope}{dV kV doc pm cdv ct oc:Value}{an od:Option Addr}
  {osl:Array (Option Value)}{N ps:List Str}{sp:Sp}(lk:K.lookup f=some ⟨oc,od,.func (PySem.W.fnOf name qual params body scope dV kV doc pm an cdv ct),osl⟩) (hcd:PySem.W.codeIn K cdv qual=true) (S:FnScope N ps scope)
  (len:∀ vs H Q E,sp vs H Q E→vs.length=ps.length)
  (hbody:∀ (A:Around) (outer:List Env) (s:Shared) (H:Hp) (vs:List V) (Q:VK) (E:XK),Room k (A.deeper (envOfC qual scope s.heap.objs.size f cdv))→sp vs H Q E →
   ∃ t,PSs (yc CX P w K mg base N qual scope f cdv A outer s H E) body t∧t { nx:=fun _ H'=>Q .non H',rt:=Q } (start N vs) H) :
  FnOk P w K mg base CX (k+1) f (PySem.W.fnOf name qual params body scope dV kV doc pm an cdv ct) ps sp:=by
 refine⟨len,fun A outer s H args us vs Q E hr e0 hb r hsp=>?_⟩
 have hl:=len _ _ _ _ hsp
 have KX:K.In s.heap:=e0.mod.kin.keeps fun b o e=>(e0.bs b o e).1
 have lim:s.heap.NoLimit:=e0.mod.nolimit.keeps fun b o e=>(e0.bs b o e).1
 have hkind:∀ y∈ps.zip us,scope.names.lookup y.1=some .local∨(scope.names.lookup y.1=some .cell∧((cellsFrom (s.heap.objs.size+1) scope.names []).lookup y.1).isSome=true):=fun⟨n,v⟩ hy=>by
  rcases S.par n (List.of_mem_zip hy).1 with q | q
  ·exact .inl q
  ·exact .inr ⟨q,PySem.W.cellsFrom_some _ _ _ (.inl q)⟩
 refine codeAny_call_function hr.depth (KX _ _ lk) rfl S.co S.gen rfl (PySem.W.codeRec_of KX hcd) (hb _ _ _ _ ?_)
 refine wpAny_newFunctionEnv_cells S.kind hkind fun env he s1 x=>?_
 subst he
 refine⟨lim.keeps x.toInCall.keep,codeAny_func ?_⟩
 obtain⟨t,ht,hq⟩:=hbody A outer s H vs Q E (hr.deeper _) hsp
 have I:Inv (yc CX P w K mg base N qual scope f cdv A outer s H E) [] (start N vs) H s1:=XD S hr.hd e0 hl r x
 refine wpAny_mono (ht [] s1 (start N vs) H _ I hq) (fun fl s' hs=>?_) fun e s' hs=>hs
 have fin:∀ {σ':St}{H':Hp}{v:V}{u:Value},Inv (yc CX P w K mg base N qual scope f cdv A outer s H E) [] σ' H' s'→RelV v u→Q v H'→CE outer P w H s Q u s' :=
  fun {σ' H' v u} J rv q=>⟨v,H',J.os,J.bare,J.base,J.hok,rv,q⟩
 cases fl with
 |ret u =>
  obtain⟨v,σ',H',J,rv,q⟩:=hs
  exact fin J rv q
 |next =>
  obtain⟨σ',H',J,q⟩:=hs
  exact fin (v:=V.non) (u:=Value.none) J rfl q
 |brk =>
  obtain⟨_,_,_,q⟩:=hs
  exact False.elim q
 |cont =>
  obtain⟨_,_,_,q⟩:=hs
  exact False.elim q
end L2
namespace L2
open PySem PySem.Spec PyProof.Rows
section
variable {X:Cx}{x:Str}{p pos:Pos}{e:Expr}{es:List Expr}{t:TA}{id T:String}{r:List V→Hp→VK→Prop}
def tCB (r:List V→Hp→VK→Prop) (t:TA):TE:=fun σ H Q=>t σ H fun vs H1=>r vs H1 Q
theorem wK (hc:xA X (.builtin id) r) (hg:Gl X x) (hm:X.mg x=none) (hv:bootBuiltins x=some (.builtin id)) (ha:PA X (e::es) t) (hn:x ≠ "__name__" := by decide) (hdb:(x == ("__debug__" : Str))=false:=by decide)
  (he:starEach (e::es) X.env=(false,eval e X.env)::starEach es X.env:=by rfl) (hpl:(backTo pos (starEach es X.env)).any (·.1)=false:=by rfl):PE X (.Call (.Name x p) (e::es) [] pos) (tCB r t):=by
 intro pins s σ H Q I h
 refine wpAny_Call_Name_kw (ld_blt I hg hm hv ?_ hn hdb)
 exact PyProof.Rows.callWith_builtin1 (thn (ha pos pins s σ H _ I h) fun us s1 ⟨vs,H1,I1,r1,q1⟩=>hc pins s1 σ H1 vs us Q I1 r1 q1) he hpl
theorem Xd (hc:xA X (.type T) r) (hg:Gl X x) (hm:X.mg x=none) (hv:bootBuiltins x=some (.type T)) (ha:PA X (e::es) t) (hn:x ≠ "__name__" := by decide) (hdb:(x == ("__debug__" : Str))=false:=by decide)
  (he:starEach (e::es) X.env=(false,eval e X.env)::starEach es X.env:=by rfl) (hpl:(backTo pos (starEach es X.env)).any (·.1)=false:=by rfl):PE X (.Call (.Name x p) (e::es) [] pos) (tCB r t):=by
 intro pins s σ H Q I h
 refine wpAny_Call_Name_kw (ld_blt I hg hm hv ?_ hn hdb)
 exact PyProof.Rows.callWith_type1 (thn (ha pos pins s σ H _ I h) fun us s1 ⟨vs,H1,I1,r1,q1⟩=>hc pins s1 σ H1 vs us Q I1 r1 q1) he hpl
end
end L2
namespace HT
open PySem PyProof.Rows
section
variable {prog:Program}{w:World}{A:Around}{E:Value→Shared→Prop}{s:Shared}
theorem cat_tup {t b:Addr}{vs ws:List Value}{Q:Value→Shared→Prop}(ht:IsTup s.heap t vs.toArray) (hb:IsTup s.heap b ws.toArray) (hv:vs≠[])
  (h1:ws=[]→Q (.ref t) s) (h2:ws≠[]→Q (.ref s.heap.objs.size) { s with heap:=s.heap.push { cls:=.type "tuple",data:=.seq (vs++ws).toArray } })
  (hsz:vs.length+ws.length≤sizeLine):wpAny (model prog w) A (binaryOp .Add (.ref t) (.ref b)) Q E s:=by
 obtain⟨⟨cls,dd,data,sl⟩,ho,hc,n,hd⟩:=id ht
 obtain⟨⟨cls2,dd2,data2,sl2⟩,ho2,hc2,n2,hd2⟩:=id hb
 simp only at hc hd hc2 hd2
 subst hc hd hc2 hd2
 have e:vs.toArray++ws.toArray=(vs++ws).toArray:=by simp
 by_cases hw:ws=[]
 ·exact concat_meets ⟨_,ho,rfl⟩ ⟨_,ho2,rfl⟩ noFill_tuple_add seq_tuple_add PySem.F.slot_tuple_add PySem.F.entry_tuple_add (PySem.F.args_tuple_add_2 _ _)
   (tuple_addW1 t b vs.toArray ws.toArray n n2 dd dd2 sl sl2 (by simpa using hv) (by simp[hw])) ⟨ho,ho2,h1 hw⟩
 ·refine concat_meets ⟨_,ho,rfl⟩ ⟨_,ho2,rfl⟩ noFill_tuple_add seq_tuple_add PySem.F.slot_tuple_add PySem.F.entry_tuple_add (PySem.F.args_tuple_add_2 _ _)
   (tuple_addW2 t b vs.toArray ws.toArray n n2 dd dd2 sl sl2 (by simpa using hv) (by simpa using hw) (by rw[List.size_toArray,List.size_toArray];exact hsz)) ⟨ho,ho2,?_⟩
  rw[e]
  exact h2 hw
noncomputable def sIx (n d:Nat):Option Int→Nat
 |none=>d
 |some v=>if v<0 then(v+(n:Int)).toNat else min v.toNat n
theorem zcz (n d:Nat) (hd:d≤n) (o:Option Int):sIx n d o≤n:=by
 cases o with
 |none=>exact hd
 |some v =>
  show(if v<0 then(v+(n:Int)).toNat else min v.toNat n)≤n
  by_cases hv:v<0
  ·rw[if_pos hv];omega
  ·rw[if_neg hv];exact Nat.min_le_right _ _
theorem XY (v:Int) (n d:Nat):(if v<0 then max (v+(n:Int)) 0 else min v (n:Int))=((sIx n d (some v):Nat):Int):=by
 show(if v<0 then max (v+(n:Int)) 0 else min v (n:Int))=(((if v<0 then(v+(n:Int)).toNat else min v.toNat n):Nat):Int)
 by_cases hv:v<0
 ·simp only[if_pos hv];omega
 ·simp only[if_neg hv];omega
theorem ZO (lo hi:Option Int) (n:Nat):Builtin.Slice.sliceAdjust lo hi 1 (n:Int)=(((sIx n 0 lo:Nat):Int),((sIx n n hi:Nat):Int)):=by
 have h1:¬ ((1:Int)<0):=by omega
 unfold Builtin.Slice.sliceAdjust
 simp only[h1,if_false]
 refine Prod.ext ?_ ?_
 ·cases lo with
  |none=>rfl
  |some v=>exact XY v n 0
 ·cases hi with
  |none=>rfl
  |some v=>exact XY v n n
theorem ZA (i j:Nat):Builtin.Slice.slicePlaces (i:Int) (j:Int) 1=j-i:=by
 unfold Builtin.Slice.slicePlaces
 have h1:(1:Int)>0:=by omega
 simp only[h1,if_true,Int.ediv_one]
 split<;>omega
theorem wv {v:Value}{o:Option Int}{Q:Option Int→Shared→Prop}(p:IsPart v o) (h:Q o s):wpAny (model prog w) A (Builtin.Slice.slicePartIndex v) Q E s:=by
 cases p with
 |none=>exact slicePart_none h
 |int i t=>exact slicePart_int h
theorem xD {sl:Addr}{vl vu:Value}{lo hi:Option Int}{n:Nat}{Q:Int×Int×Nat→Shared→Prop}(hs:s.heap.IsSliceOf sl vl vu .none) (pl:IsPart vl lo) (pu:IsPart vu hi)
  (h:Q (((sIx n 0 lo:Nat):Int),1,sIx n n hi-sIx n 0 lo) s):wpAny (model prog w) A (Builtin.Slice.sliceApplied (.ref sl) (pure (n:Int))) Q E s:=by
 obtain⟨os,hos,hcs,hds⟩:=id hs
 unfold Builtin.Slice.sliceApplied Builtin.Slice.sliceFields
 refine wpAny_bind (wpAny_bind (wpAny_field hos hds (x:=vl) rfl (wpAny_bind (wpAny_field hos hds (x:=vu) rfl (wpAny_bind (wpAny_field hos hds (x:=.none) rfl (wpAny_pure ?_)))))))
 refine wpAny_bind (slicePart_none ?_)
 show wpAny _ _ (if ((1:Int) == 0)=true then _ else _) _ _ s
 rw[if_neg (by decide)]
 refine wpAny_bind (wv pl (wpAny_bind (wv pu (wpAny_bind (wpAny_pure ?_)))))
 show wpAny _ _ (match Builtin.Slice.sliceAdjust lo hi 1 (n:Int) with | (lo,hi)=>pure (lo,(1:Int),Builtin.Slice.slicePlaces lo hi 1)) _ _ s
 rw[ZO lo hi n]
 show wpAny _ _ (pure (((sIx n 0 lo:Nat):Int),(1:Int),Builtin.Slice.slicePlaces ((sIx n 0 lo:Nat):Int) ((sIx n n hi:Nat):Int) 1)) _ _ s
 rw[ZA]
 exact wpAny_pure h
theorem Wt (xs:Array Value) (i k:Nat):((List.range k).filterMap fun(m:Nat)=>xs[((i:Int)+(m:Int)*1).toNat]?).toArray=((xs.toList.drop i).take k).toArray:=by
 have e:(fun(m:Nat)=>xs[((i:Int)+(m:Int)*1).toNat]?)=fun m=>xs[i+m]?:=by
  funext m
  have:((i:Int)+(m:Int)*1).toNat=i+m:=by omega
  rw[this]
 rw[e]
 have:=pick_run xs i k
 rw[List.filterMap_map] at this
 have e2:((fun x=>xs[x]?)∘fun x=>i+x)=fun m=>xs[i+m]?:=rfl
 rw[e2] at this
 rw[this]
theorem getItem_tuple_cut {t sl:Addr}{items:Array Value}{vl vu:Value}{lo hi:Option Int}{Q:Value→Shared→Prop}(ht:IsTup s.heap t items) (hs:s.heap.IsSliceOf sl vl vu .none) (pl:IsPart vl lo) (pu:IsPart vu hi)
  (hw:¬ (sIx items.size 0 lo=0∧sIx items.size items.size hi=items.size))
  (h:Q (.ref s.heap.objs.size) { s with heap:=s.heap.push { cls:=.type "tuple",data:=.seq ((items.toList.drop (sIx items.size 0 lo)).take (sIx items.size items.size hi-sIx items.size 0 lo)).toArray } })
  (hsz:items.size≤sizeLine):wpAny (model prog w) A (getItem (.ref t) (.ref sl)) Q E s:=by
 have htake:sizeOk (.seq ((items.toList.drop (sIx items.size 0 lo)).take (sIx items.size items.size hi-sIx items.size 0 lo)).toArray):=by
  show((items.toList.drop (sIx items.size 0 lo)).take (sIx items.size items.size hi-sIx items.size 0 lo)).toArray.size≤sizeLine
  rw[List.size_toArray,List.length_take,List.length_drop,Array.length_toList]
  omega
 have hj:sIx items.size items.size hi≤items.size:=zcz _ _ (Nat.le_refl _) hi
 obtain⟨os,hos,hcs,hds⟩:=id hs
 have hTs:s.TypeIs (.ref sl) "slice" := ⟨os,hos,hcs⟩
 unfold getItem
 try with_reducible refine wpAny_holding ?_
 first | refine wpAny_bind (wpAny_pure ?_) | skip
 refine wpAny_bind (wpAny_sequenceKey ht.typeIs (by decide) ?_)
 refine wpAny_bind (wpAny_callSpecial?_slot (name:=Str.ofString "__getitem__") ht.typeIs PyProof.Rows.slot_tuple_getitem
  (wpAny_call_entry PyProof.Rows.slot_tuple_getitem ht.typeIs entry_tuple_getitem ?_ (args_tuple_getitem _ _)))
 show wpAny _ _ (Builtin.Tuple.tupleItemsOf (.ref t) >>= _) _ _ s
 refine wpAny_bind (tupleItemsOf_ ht ?_)
 refine wpAny_bind (wpAny_typeOf hTs ?_)
 rw[if_pos (by decide)]
 refine wpAny_bind (xD hs pl pu ?_)
 have hno:¬ ((((sIx items.size 0 lo:Nat):Int) == 0&&(1:Int) == 1&&(sIx items.size items.size hi-sIx items.size 0 lo) == items.size)=true):=by
  intro q
  rw[Bool.and_eq_true,Bool.and_eq_true] at q
  have q1:((sIx items.size 0 lo:Nat):Int)=0:=eq_of_beq q.1.1
  have q2:sIx items.size items.size hi-sIx items.size 0 lo=items.size:=eq_of_beq q.2
  exact hw ⟨by omega,by omega⟩
 show wpAny _ _ (if (((sIx items.size 0 lo:Nat):Int) == 0&&(1:Int) == 1&&(sIx items.size items.size hi-sIx items.size 0 lo) == items.size)=true then _ else _) _ _ s
 rw[if_neg hno,Wt]
 first
  |exact wpAny_bind (m:=Builtin.Tuple.tupleExact _) (wpAny_newObj_type (wpAny_pure ⟨_,rfl,wpAny_pure h⟩) htake)
  |exact wpAny_bind (m:=Builtin.Tuple.tupleExact _) (wpAny_newObj_type (wpAny_bind (wpAny_pure (wpAny_pure ⟨_,rfl,wpAny_pure h⟩))) htake)
  |exact wpAny_bind (wpAny_bind (m:=Builtin.Tuple.tupleExact _) (wpAny_newObj_type (wpAny_pure (wpAny_pure ⟨_,rfl,wpAny_pure h⟩)) htake))
  |exact wpAny_bind (wpAny_bind (m:=Builtin.Tuple.tupleExact _) (wpAny_newObj_type (wpAny_pure ⟨_,rfl,wpAny_pure h⟩) htake))
end
end HT
namespace L2
open PySem PySem.Spec PyProof.Rows
abbrev TO:=St→Hp→(Option Int→Hp→Prop)→Prop
def PO (X:Cx) (e:Option Expr) (t:TO):Prop :=
 ∀ (pins:List (Addr×Obj)) (s:Shared) (σ:St) (H:Hp) (Q:Option Int→Hp→Prop),Inv X pins σ H s→t σ H Q →
  wpAny (model X.prog X.w) X.A (evalPart e X.env) (fun u s'=>∃ o H',Inv X pins σ H' s'∧IsPart u o∧Q o H') X.xe s
def Z5:TO:=fun _ H Q=>Q none H
def zbo (t:TE):TO:=fun σ H Q=>t σ H fun x H1=>∃ i,x=.int i∧Q (some i) H1
section
variable {X:Cx}{e:Expr}{te:TE}{lo hi:Option Expr}{tl th:TO}{pos p2:Pos}
theorem Ui:PO X none Z5:=by
 intro pins s σ H Q I h
 rw[evalPart_none]
 exact wpAny_pure ⟨none,H,I,.none,h⟩
theorem po_some (h:PE X e te):PO X (some e) (zbo te):=by
 intro pins s σ H Q I hw
 rw[evalPart_some]
 refine thn (h pins s σ H _ I hw) fun u s1 hq0=>?_
 obtain⟨x,H1,I1,r1,q1⟩:=hq0
 obtain⟨i,rfl,q⟩:=q1
 obtain⟨t,rfl⟩:=r1
 exact⟨some i,H1,I1,.int i t,q⟩
def SlR (X:Cx) (r:V→Option Int→Option Int→Hp→VK→Prop):Prop :=
 ∀ (pins:List (Addr×Obj)) (s:Shared) (σ:St) (H:Hp) (x:V) (v vl vu:Value) (lo hi:Option Int) (sl:Addr) (Q:VK),Inv X pins σ H s→RelV x v→s.heap.IsSliceOf sl vl vu .none→IsPart vl lo→IsPart vu hi→r x lo hi H Q →
  ∃ T id,typeLookup (.type T) "__getitem__" = pure (some (.builtin id))∧s.TypeIs v T∧wpAny (model X.prog X.w) X.A (getItem v (.ref sl)) (EP X pins σ Q) X.xe s
def tSl (r:V→Option Int→Option Int→Hp→VK→Prop) (te:TE) (tl th:TO):TE:=fun σ H Q=>te σ H fun x H1=>tl σ H1 fun l H2=>th σ H2 fun u H3=>r x l u H3 Q
theorem Ww {r:V→Option Int→Option Int→Hp→VK→Prop}(hr:SlR X r) (he:PE X e te) (hl:PO X lo tl) (hu:PO X hi th):PE X (.Subscript e (.Slice lo hi none p2) pos) (tSl r te tl th):=by
 intro pins s σ H Q I h
 refine Subscript_ (thn (he pins s σ H _ I h) fun v s1 hq0=>?_)
 obtain⟨x,H1,I1,r1,q1⟩:=hq0
 refine wpAny_Slice (thn (hl pins s1 σ H1 _ I1 q1) fun vl s2 ⟨l,H2,I2,pl,q2⟩=>thn (hu pins s2 σ H2 _ I2 q2) fun vu s3 hq0=>?_)
 obtain⟨u,H3,I3,pu,q3⟩:=hq0
 rw[evalPart_none]
 refine wpAny_pure ?_
 have I4:Inv X pins σ H3 { s3 with heap:=s3.heap.push { cls:=.type "slice",data:=.fields #[vl,vu,.none] } }:=I3.kept (t':=s3.toks) fun b ob q=>Heap.get?_push_of_some _ q
 obtain⟨T,id,hT,ht,hg⟩:=hr pins { s3 with heap:=s3.heap.push { cls:=.type "slice",data:=.fields #[vl,vu,.none] } } σ H3 x v vl vu l u s3.heap.objs.size Q I4 r1 (Heap.IsSliceOf.new ..) pl pu q3
 show wpAny (model X.prog X.w) X.A (subscriptTail e (.Slice lo hi none p2) v (.ref s3.heap.objs.size)) (EP X pins σ Q) X.xe { s3 with heap:=s3.heap.push { cls:=.type "slice",data:=.fields #[vl,vu,.none] } }
 exact tail_any (ops:=[.ref s3.heap.objs.size,v]) ht hT hg (by with_unfolding_all rfl)
noncomputable def Zd (xs:List V) (lo hi:Option Int):List V:=(xs.drop (HT.sIx xs.length 0 lo)).take (HT.sIx xs.length xs.length hi-HT.sIx xs.length 0 lo)
theorem wo (xs:List V) (lo hi:Option Int):(Zd xs lo hi).length≤xs.length:=by
 unfold Zd
 rw[List.length_take,List.length_drop]
 omega
def zp3 (K:PySem.W.Frag):V→Option Int→Option Int→Hp→VK→Prop:=fun x lo hi H Q=>∃ a xs,x=.ref a∧SqT K H a xs ∧
 ¬ (HT.sIx xs.length 0 lo=0∧HT.sIx xs.length xs.length hi=xs.length)∧∀ p,H p=none→Q (.ref p) (upd H p (.tup (Zd xs lo hi)))
theorem zcx:SlR X (zp3 X.K):=by
 intro pins s σ H x v vl vu lo hi sl Q I rx hs pl pu h
 obtain⟨a,xs,rfl,hx,hw,q⟩:=h
 cases rx
 obtain⟨its,r,ht,hz⟩:=I.tuple hx
 have hlen:its.toArray.size=xs.length:=by rw[List.size_toArray];exact r.length.symm
 refine⟨"tuple",_,PyProof.Rows.slot_tuple_getitem.lookup,ht.typeIs,?_⟩
 refine HT.getItem_tuple_cut ht hs pl pu (by rw[hlen];exact hw) ?_ (by rw[hlen];exact hz)
 rw[hlen]
 refine⟨.ref s.heap.objs.size,_,I.laid (t':=s.toks) (o:=.tup (Zd xs lo hi)) (fun b ob q=>Heap.get?_push_of_some _ q) (Nat.le_refl _) ?_,rfl,q _ (I.hok.fresh (Nat.le_refl _))⟩
 exact⟨Nat.le_trans (wo xs lo hi) hz,_,(r.drop (HT.sIx xs.length 0 lo)).take (HT.sIx xs.length xs.length hi-HT.sIx xs.length 0 lo),IsTup.new _ _⟩
def zh2 (K:PySem.W.Frag):R2:=fun x y H Q=>∃ a b xs ys,x=.ref a∧y=.ref b∧SqT K H a xs∧SqT K H b ys∧xs≠[]∧xs.length+ys.length≤sizeLine ∧
 (ys=[]→Q (.ref a) H)∧(ys≠[]→∀ p,H p=none→Q (.ref p) (upd H p (.tup (xs++ys))))
theorem Vals.nil_iff {xs:List V}{us:List Value}(r:Vals xs us):us=[]↔xs=[]:=by
 cases r with
 |nil=>simp
 |cons _ _=>simp
theorem Uw:OpR X (binaryOp .Add) (zh2 X.K):=by
 intro pins s σ H x y v u Q I rx ry h
 obtain⟨a,b,xs,ys,rfl,rfl,ha,hb,hx,hz,q1,q2⟩:=h
 cases rx
 cases ry
 obtain⟨its,r1,p1,_⟩:=I.tuple ha
 obtain⟨its2,r2,p2,_⟩:=I.tuple hb
 refine HT.cat_tup p1 p2 (fun z=>hx (r1.nil_iff.mp z)) (fun z=>⟨.ref a,H,I,rfl,q1 (r2.nil_iff.mp z)⟩) (fun z=>?_) (by rw[← r1.length,← r2.length];exact hz)
 refine⟨.ref s.heap.objs.size,_,I.laid (t':=s.toks) (o:=.tup (xs++ys)) (fun b ob q=>Heap.get?_push_of_some _ q) (Nat.le_refl _) ?_,rfl,q2 (fun w=>z (r2.nil_iff.mpr w)) _ (I.hok.fresh (Nat.le_refl _))⟩
 exact⟨by rw[List.length_append];exact hz,_,r1.append r2,IsTup.new _ _⟩
end
end L2
namespace L2
open PySem PySem.Spec PyProof.Rows
noncomputable def ixN (n:Nat) (i:Int):Option Nat:=if 0≤i then(if i<n then some i.toNat else none) else if -(n:Int)≤i then some (i+n).toNat else none
noncomputable def atI {α:Type}(xs:List α) (i:Int):Option α:=(ixN xs.length i).bind fun j=>xs[j]?
theorem XA {n:Nat}{i:Int}{j:Nat}(h:ixN n i=some j):seqIndex? i n=some j∧j<n∧-(n:Int)≤i∧i<n:=by
 unfold ixN at h
 by_cases h0:0≤i
 ·rw[if_pos h0] at h
  by_cases h1:i<n
  ·rw[if_pos h1] at h
   have e:i.toNat=j:=Option.some.inj h
   exact⟨by rw[seqIndex_of h0 h1,e],by omega,by omega,h1⟩
  ·rw[if_neg h1] at h;cases h
 ·rw[if_neg h0] at h
  by_cases h1 : -(n:Int)≤i
  ·rw[if_pos h1] at h
   have e:(i+n).toNat=j:=Option.some.inj h
   exact⟨by rw[seqIndex_neg (by omega) h1,e],by omega,h1,by omega⟩
  ·rw[if_neg h1] at h;cases h
theorem uy {α:Type}{xs:List α}{i:Int}{v:α}(h:atI xs i=some v):∃ j,seqIndex? i xs.length=some j∧xs[j]?=some v∧j<xs.length∧-(xs.length:Int)≤i∧i<xs.length:=by
 unfold atI at h
 cases e:ixN xs.length i with
 |none=>rw[e] at h;cases h
 |some j =>
  rw[e] at h
  obtain⟨h1,h2,h3,h4⟩:=XA e
  exact⟨j,h1,h,h2,h3,h4⟩
theorem zB {α:Type}{xs:List α}{j:Nat}{v:α}(h:xs[j]?=some v):atI xs (j:Int)=some v:=by
 have hj:j<xs.length:=(List.getElem?_eq_some_iff.mp h).1
 have e:ixN xs.length (j:Int)=some j:=by
  unfold ixN
  rw[if_pos (by omega),if_pos (by omega)];simp
 unfold atI;rw[e];exact h
def X5 (b:Expr):Prop:=∀ o i,subscripted b false o i=operate [o,i] (getItem o i)
def IxR (X:Cx) (r:R2):Prop :=
 ∀ (value slice:Expr) (pins:List (Addr×Obj)) (s:Shared) (σ:St) (H:Hp) (x y:V) (v u:Value) (Q:VK),Inv X pins σ H s→RelV x v→RelV y u→r x y H Q →
  subscripted slice false v u=operate [v,u] (getItem v u)→wpAny (model X.prog X.w) X.A (subscriptTail value slice v u) (EP X pins σ Q) X.xe s
def MtR (X:Cx) (id:String) (r:V→List V→Hp→VK→Prop):Prop :=
 ∀ (pins:List (Addr×Obj)) (s:Shared) (σ:St) (H:Hp) (x:V) (xs:List V) (v:Value) (us:List Value) (Q:VK),Inv X pins σ H s→RelV x v→Vals xs us→r x xs H Q →
  wpAny (model X.prog X.w) X.A (call (.builtin id) (v::us)) (EP X pins σ Q) X.xe s
section
variable {X:Cx}{a b:Expr}{ta tb:TE}{pos:Pos}
theorem zib {r:R2}(hr:IxR X r) (ha:PE X a ta) (hb:PE X b tb) (hs:X5 b):PE X (.Subscript a b pos) (tOp r ta tb):=by
 intro pins s σ H Q I h
 exact Subscript_ (binT ha hb I h fun v u s2 x y H2 I2 rx ry q=>hr a b pins s2 σ H2 x y v u Q I2 rx ry q (hs _ _))
def zqa (K:PySem.W.Frag):R2:=fun x y H Q=>∃ p xs i v,x=.ref p∧y=.int i∧SqL K H p xs∧atI xs i=some v∧Q v H
def zp8 (K:PySem.W.Frag):R2:=fun x y H Q=>∃ p xs i v,x=.ref p∧y=.int i∧SqT K H p xs∧atI xs i=some v∧Q v H
def zp9:R2:=fun x y H Q=>∃ z i c,x=.str z∧y=.int i∧z.length≤sizeLine∧atI z.cps.toList i=some c∧Q (.str ⟨#[c]⟩) H
theorem zq:IxR X (zqa X.K):=by
 intro value slice pins s σ H x y v u Q I rx ry h hs
 obtain⟨p,xs,i,z,rfl,rfl,hq,he,q⟩:=h
 cases rx
 obtain⟨t,rfl⟩:=ry
 obtain⟨its,r,pl,hz⟩:=I.list hq
 obtain⟨j,h1,h2,h3,h4,h5⟩:=uy he
 obtain⟨w,ew,rw'⟩:=r.get h2
 have hl:=r.length
 have hn:=wy
 have fin:EP X pins σ Q w s:=⟨z,H,I,rw',q⟩
 by_cases h0:0≤i
 ·have hj:i.toNat=j:=by
   rw[seqIndex_of h0 h5] at h1
   exact Option.some.inj h1
  exact item_listR pl.isList h0 (by omega) (by rw[hj];simpa using ew) fin hs
 ·have hj:(i+(its.toArray.size:Int)).toNat=j:=by
   rw[seqIndex_neg (by omega) h4] at h1
   rw[List.size_toArray,← hl]
   exact Option.some.inj h1
  exact subscriptTail_builtinR (x:=w) pl.isList.typeIs slot_list_getitem.lookup
   (wpAny_getItem_list_neg (Q:=fun r s'=>r=w∧EP X pins σ Q r s') pl.isList (by omega) (by rw[List.size_toArray]<;>omega) (by omega) (by rw[hj];simpa using ew) ⟨rfl,fin⟩) hs
theorem yy:IxR X (zp8 X.K):=by
 intro value slice pins s σ H x y v u Q I rx ry h hs
 obtain⟨p,xs,i,z,rfl,rfl,hq,he,q⟩:=h
 cases rx
 obtain⟨t,rfl⟩:=ry
 obtain⟨its,r,pl,hz⟩:=I.tuple hq
 obtain⟨j,h1,h2,h3,h4,h5⟩:=uy he
 obtain⟨w,ew,rw'⟩:=r.get h2
 have hl:=r.length
 have hn:=wy
 have fin:EP X pins σ Q w s:=⟨z,H,I,rw',q⟩
 exact subscriptTail_builtinR (x:=w) pl.typeIs slot_tuple_getitem.lookup
  (getItem_tuple (j:=j) (Q:=fun r s'=>r=w∧EP X pins σ Q r s') pl (by omega) (by omega) (by rw[List.size_toArray,← hl];exact h1) (by simpa using ew) ⟨rfl,fin⟩) hs
theorem Xz:IxR X zp9:=by
 intro value slice pins s σ H x y v u Q I rx ry h hs
 obtain⟨z,i,c,rfl,rfl,hz,he,q⟩:=h
 obtain⟨t,rfl⟩:=rx
 obtain⟨t',rfl⟩:=ry
 obtain⟨j,h1,h2,h3,h4,h5⟩:=uy he
 have hl:z.cps.toList.length=z.length:=by simp[Str.length]
 rw[hl] at h1 h4 h5
 have hn:=wy
 exact tail_any (typeIs_str s z t) slot_str_getitem.lookup (getItem_str (c:=c) (by
  have e1:decide (i < -(2 ^ 63:Int))=false:=decide_eq_false (by omega)
  have e2:decide (i≥2 ^ 63)=false:=decide_eq_false (by omega)
  rw[e1,e2,Bool.or_false]) (by rw[h1];simpa using h2) ⟨.str ⟨#[c]⟩,H,I.tok _,⟨_,rfl⟩,q⟩) hs
theorem ZE (its:List Value) (n j:Nat) (u:Value):Obj.mapSeq (·.setIfInBounds j u) { cls:=.type "list",data:=.seq its.toArray n }={ cls:=.type "list",data:=.seq (its.set j u).toArray n }:=by
 simp[Obj.mapSeq]
theorem Inv.lst {pins:List (Addr×Obj)}{σ:St}{H:Hp}{s:Shared}{p:Addr}{xs:List V}(I:Inv X pins σ H s) (h:H p=some (.lst xs)) :
  ∃ (its:List Value) (n:Nat),Vals xs its∧s.heap.get? p=some { cls:=.type "list",data:=.seq its.toArray n }∧xs.length≤sizeLine:=by
 obtain⟨z,its,n,r,e⟩:=I.hok p _ h
 exact⟨its,n,r,e,z⟩
theorem Inv.lstUpd {pins:List (Addr×Obj)}{σ:St}{H:Hp}{s:Shared}{p:Addr}{xs ys:List V}{its its':List Value}{n n':Nat}{f:Obj→Obj}(I:Inv X pins σ H s) (h:H p=some (.lst xs))
  (ho:s.heap.get? p=some { cls:=.type "list",data:=.seq its.toArray n }) (hf:f { cls:=.type "list",data:=.seq its.toArray n }={ cls:=.type "list",data:=.seq its'.toArray n' }) (r:Vals ys its') (hz:ys.length≤sizeLine) (t:Nat) :
  Inv X pins σ (upd H p (.lst ys)) { s with heap:=s.heap.update p f,toks:=t }:=by
 have e:(s.heap.update p f).get? p=some { cls:=.type "list",data:=.seq its'.toArray n' }:=by
  rw[Heap.get?_update_self f ho (by rw[hf]<;>rfl),hf]
 refine I.write (x:=p) (e:=p) (by rw[h];trivial) (.inl rfl) (fun b u hb q=>(Heap.get?_update_other _ _ (Ne.symm hb)).trans q) ⟨_,e⟩ ?_
 exact⟨hz,its',n',r,e⟩
def zh0:V→V→V→Hp→(Hp→Prop)→Prop:=fun o i v H Q=>∃ p xs k j,o=.ref p∧i=.int k∧H p=some (.lst xs)∧ixN xs.length k=some j∧Q (upd H p (.lst (xs.set j v)))
theorem yL:ziD X zh0:=by
 intro pins s σ H o i v ov iv u Q I ro ri rv h
 obtain⟨p,xs,k,j,rfl,rfl,hp,hj,q⟩:=h
 cases ro
 obtain⟨t,rfl⟩:=ri
 obtain⟨its,n,r,ho,hz⟩:=I.lst hp
 obtain⟨h1,h2,h3,h4⟩:=XA hj
 have hl:=r.length
 have hn:=wy
 have I':Inv X pins σ (upd H p (.lst (xs.set j v))) { s with heap:=s.heap.update p (Obj.mapSeq (·.setIfInBounds j u)) } :=
  I.lstUpd hp ho (ZE its n j u) (r.set rv j) (by rw[List.length_set];exact hz) s.toks
 by_cases h0:0≤k
 ·have hk:k.toNat=j:=by
   rw[seqIndex_of h0 h4] at h1
   exact Option.some.inj h1
  exact PySem.W.ki_setAt ho h0 (by omega) (by rw[List.size_toArray,← hl];exact h4) (by rw[hk];exact⟨_,I',q⟩)
 ·have hk:(k+(its.toArray.size:Int)).toNat=j:=by
   rw[seqIndex_neg (by omega) h3] at h1
   rw[List.size_toArray,← hl]
   exact Option.some.inj h1
  exact PySem.W.ki_setBack ho (by omega) (by rw[List.size_toArray,← hl];exact h3) (by omega) (by rw[hk];exact⟨_,I',q⟩)
theorem vm (lo hi:Option Int) (n:Nat):(sliceBounds lo hi none n).1=((HT.sIx n 0 lo:Nat):Int)∧(sliceBounds lo hi none n).2.1=((HT.sIx n n hi:Nat):Int)∧(sliceBounds lo hi none n).2.2=1:=by
 refine⟨?_,?_,rfl⟩
 ·cases lo with
  |none=>simp[sliceBounds,HT.sIx]
  |some i =>
   simp only[sliceBounds,HT.sIx,Option.getD_none,show(1:Int)>0 by decide,if_true]
   by_cases h:i<0
   ·simp only[h,if_true]<;>omega
   ·simp only[h,if_false]<;>omega
 ·cases hi with
  |none=>simp[sliceBounds,HT.sIx]
  |some i =>
   simp only[sliceBounds,HT.sIx,Option.getD_none,show(1:Int)>0 by decide,if_true]
   by_cases h:i<0
   ·simp only[h,if_true]<;>omega
   ·simp only[h,if_false]<;>omega
theorem wJ (its:List Value) (lo hi:Option Int):slicePick its.toArray lo hi none=((its.drop (HT.sIx its.length 0 lo)).take (HT.sIx its.length its.length hi-HT.sIx its.length 0 lo)).toArray:=by
 obtain⟨h1,h2,h3⟩:=vm lo hi its.toArray.size
 unfold slicePick
 rw[h1,h2,h3]
 simp only[sliceRange_one,pick_run,List.size_toArray]<;>rfl
def zp5 (K:PySem.W.Frag):V→Option Int→Option Int→Hp→VK→Prop:=fun x lo hi H Q=>∃ a xs,x=.ref a∧SqL K H a xs∧∀ p,H p=none→Q (.ref p) (upd H p (.lst (Zd xs lo hi)))
theorem xu:SlR X (zp5 X.K):=by
 intro pins s σ H x v vl vu lo hi sl Q I rx hs pl pu h
 obtain⟨a,xs,rfl,hx,q⟩:=h
 cases rx
 obtain⟨its,r,ht,hz⟩:=I.list hx
 have hlen:=r.length
 refine⟨"list",_,slot_list_getitem.lookup,ht.isList.typeIs,?_⟩
 refine wpAny_getItem_list_slice ht.isList hs pl pu .none (by simp) ?_ (by rw[List.size_toArray]<;>omega)
 rw[wJ,← hlen]
 refine⟨.ref s.heap.objs.size,_,I.laid (t':=s.toks) (o:=.lst (Zd xs lo hi)) (fun b ob q=>Heap.get?_push_of_some _ q) (Nat.le_refl _) ?_,rfl,q _ (I.hok.fresh (Nat.le_refl _))⟩
 exact⟨Nat.le_trans (wo xs lo hi) hz,_,0,(r.drop (HT.sIx xs.length 0 lo)).take (HT.sIx xs.length xs.length hi-HT.sIx xs.length 0 lo),Heap.get?_push_size _ rfl⟩
noncomputable def yW:V→Bool
 |.non=>true
 |.bl _=>true
 |.int _=>true
 |.str _=>true
 |_=>false
noncomputable def eqV:V→V→Bool
 |.non,.non=>true
 |.bl a,.bl b=>a == b
 |.bl a,.int b=>(if a then 1 else 0) == b
 |.int a,.bl b=>a == (if b then 1 else 0)
 |.int a,.int b=>a == b
 |.str a,.str b=>a == b
 |_,_=>false
theorem eqAt_V {A:Around}{s:Shared}{y x:V}{u v:Value}(ry:RelV y u) (rx:RelV x v) (fy:yW y=true) (fx:yW x=true):SeqAt.EqAt A s u v (eqV y x):=by
 cases y with
 |non =>
  cases ry
  cases x with
  |non=>cases rx;exact SeqAt.EqAt.same _
  |bl b=>cases rx;exact SeqAt.EqAt.none_bool b
  |int b=>obtain⟨t,rfl⟩:=rx;exact SeqAt.EqAt.none_int b t
  |str b=>obtain⟨t,rfl⟩:=rx;exact SeqAt.EqAt.none_str b t
  |_=>exact absurd (show false=true from fx) Bool.false_ne_true
 |bl a =>
  cases ry
  cases x with
  |non=>cases rx;exact SeqAt.EqAt.bool_none a
  |bl b=>cases rx;exact SeqAt.EqAt.bool_bool a b
  |int b=>obtain⟨t,rfl⟩:=rx;exact SeqAt.EqAt.bool_int a b t
  |str b=>obtain⟨t,rfl⟩:=rx;exact SeqAt.EqAt.bool_str a b t
  |_=>exact absurd (show false=true from fx) Bool.false_ne_true
 |int a =>
  obtain⟨t',rfl⟩:=ry
  cases x with
  |non=>cases rx;exact SeqAt.EqAt.int_none a t'
  |bl b=>cases rx;exact SeqAt.EqAt.int_bool a t' b
  |int b=>obtain⟨t,rfl⟩:=rx;exact SeqAt.EqAt.int_int a t' b t
  |str b=>obtain⟨t,rfl⟩:=rx;exact SeqAt.EqAt.int_str a t' b t
  |_=>exact absurd (show false=true from fx) Bool.false_ne_true
 |str a =>
  obtain⟨t',rfl⟩:=ry
  cases x with
  |non=>cases rx;exact SeqAt.EqAt.str_none a t'
  |bl b=>cases rx;exact SeqAt.EqAt.str_bool a t' b
  |int b=>obtain⟨t,rfl⟩:=rx;exact SeqAt.EqAt.str_int a t' b t
  |str b=>obtain⟨t,rfl⟩:=rx;exact SeqAt.EqAt.str_str a t' b t
  |_=>exact absurd (show false=true from fx) Bool.false_ne_true
 |_=>exact absurd (show false=true from fy) Bool.false_ne_true
noncomputable def eqU (x:V) (u:Value):Bool:=match u with
 |.none=>eqV .non x
 |.bool b=>eqV (.bl b) x
 |.int i _=>eqV (.int i) x
 |.str z _=>eqV (.str z) x
 |_=>false
theorem VL {x y:V}{u:Value}(r:RelV y u) (f:yW y=true):eqU x u=eqV y x:=by
 cases y with
 |non=>cases r;rfl
 |bl b=>cases r;rfl
 |int i=>obtain⟨t,rfl⟩:=r;rfl
 |str z=>obtain⟨t,rfl⟩:=r;rfl
 |_=>exact absurd (show false=true from f) Bool.false_ne_true
theorem uz {x:V}:∀ {xs:List V}{us:List Value},Vals xs us→xs.all yW=true→us.any (eqU x)=xs.any fun y=>eqV y x
 |_,_,.nil,_=>rfl
 |y::xs,u::us,.cons r t,f=>by
  rw[List.all_cons,Bool.and_eq_true] at f
  rw[List.any_cons,List.any_cons,VL r f.1,uz t f.2]
theorem wR {A:Around}{s:Shared}{x:V}{v:Value}(rx:RelV x v) (fx:yW x=true):∀ {xs:List V}{us:List Value},Vals xs us→xs.all yW=true→∀ u∈us,SeqAt.EqAt A s u v (eqU x u)
 |_,_,.nil,_=>fun u hu=>by cases hu
 |y::xs,u::us,.cons r t,f=>fun u' hu=>by
  rw[List.all_cons,Bool.and_eq_true] at f
  rcases List.mem_cons.mp hu with rfl | hu
  ·rw[VL r f.1];exact eqAt_V r rx f.1 fx
  ·exact wR rx fx t f.2 u' hu
noncomputable def inV (x:V) (xs:List V):Bool:=xs.any fun y=>eqV y x
def rIn (K:PySem.W.Frag) (neg:Bool):R2:=fun x y H Q=>∃ p xs,y=.ref p∧(SqL K H p xs∨SqT K H p xs)∧yW x=true∧xs.all yW=true∧Q (.bl (if neg then !inV x xs else inV x xs)) H
theorem xh:OpR X (compareOp .In) (rIn X.K false):=by
 intro pins s σ H x y v u Q I rx ry h
 obtain⟨p,xs,rfl,hq,fx,fs,q⟩:=h
 cases ry
 rcases hq with hq | hq
 ·obtain⟨its,r,pl,hz⟩:=I.list hq
  refine SeqAt.in_listAt (eqU x) pl.isList (fun w hw=>wR rx fx r fs w (by simpa using hw)) ⟨.bl _,H,I,rfl,?_⟩
  rw[show its.toArray.any (eqU x)=its.any (eqU x) by simp,uz r fs]
  exact q
 ·obtain⟨its,r,pl,hz⟩:=I.tuple hq
  refine SeqAt.in_tupleAt (eqU x) pl (fun w hw=>wR rx fx r fs w (by simpa using hw)) ⟨.bl _,H,I,rfl,?_⟩
  rw[show its.toArray.any (eqU x)=its.any (eqU x) by simp,uz r fs]
  exact q
theorem call_len_seq:xA X (.builtin "len") (fun xs H Q=>∃ p ys,xs=[.ref p]∧(SqL X.K H p ys∨SqT X.K H p ys)∧Q (.int ys.length) H):=by
 intro pins s σ H xs us Q I r h
 obtain⟨p,ys,rfl,hq,q⟩:=h
 obtain⟨u,rfl,rx⟩:=vh r
 cases rx
 have hn:=wy
 rcases hq with hq | hq
 ·obtain⟨its,r',pl,hz⟩:=I.list hq
  have hlen:=r'.length
  exact Calls.call_len_list pl.isList (by simp only[List.size_toArray]<;>omega) ⟨.int ys.length,H,I.tok _,⟨s.toks+1,by rw[List.size_toArray,hlen]⟩,q⟩
 ·obtain⟨its,r',pl,hz⟩:=I.tuple hq
  have hlen:=r'.length
  exact len_tuple pl (by simp only[List.size_toArray]<;>omega) ⟨.int ys.length,H,I.tok _,⟨s.toks+1,by rw[List.size_toArray,hlen]⟩,q⟩
theorem vV:xA X (.builtin "len") (fun xs H Q=>∃ z,xs=[.str z]∧z.length≤sizeLine∧Q (.int z.length) H):=by
 intro pins s σ H xs us Q I r h
 obtain⟨z,rfl,hz,q⟩:=h
 obtain⟨u,rfl,t,rfl⟩:=vh r
 have hn:=wy
 exact len_str (by omega) ⟨.int z.length,H,I.tok _,⟨_,rfl⟩,q⟩
theorem va:xA X (.type "tuple") (fun xs H Q=>∃ p ys,xs=[.ref p]∧((SqL X.K H p ys∧∀ l,H l=none→Q (.ref l) (upd H l (.tup ys)))∨(SqT X.K H p ys∧Q (.ref p) H))):=by
 intro pins s σ H xs us Q I r h
 obtain⟨p,ys,rfl,h⟩:=h
 obtain⟨u,rfl,rx⟩:=vh r
 cases rx
 rcases h with⟨hq,q⟩ | ⟨hq,q⟩
 ·obtain⟨its,r',pl,hz⟩:=I.list hq
  have hlen:=r'.length
  refine call_tuple_list pl.isList (fun h' kp=>?_) (by simp only[List.size_toArray]<;>omega)
  have I1:Inv X pins σ H { s with heap:=h' }:=I.kept (t':=s.toks) kp
  have I2:Inv X pins σ (upd H h'.objs.size (.tup ys)) { s with heap:=h'.push { cls:=.type "tuple",data:=.seq its.toArray } } :=
   I1.laid (t':=s.toks) (fun b o e=>Heap.get?_push_of_some _ e) (Nat.le_refl _) (show ObjOk X.prog X.w _ _ _ (.tup ys) from⟨hz,its,r',IsTup.new _ _⟩)
  exact⟨.ref h'.objs.size,_,I2,rfl,q _ (I1.hok.fresh (Nat.le_refl _))⟩
 ·obtain⟨its,r',pl,hz⟩:=I.tuple hq
  exact call_tuple_same pl ⟨.ref p,H,I,rfl,q⟩
def tyV (K:PySem.W.Frag) (T:String) (x:V) (H:Hp):Prop:=match x with
 |.str _=>T = "str"
 |.int _=>T = "int"
 |.ref p=>(T = "list" ∧ ∃ xs,SqL K H p xs)∨(T = "tuple" ∧ ∃ o,K.lookup p=some o∧o.cls=.type "tuple" ∧ o.dict=none) ∨
   (T = "dict" ∧ ((∃ kvs,H p=some (.dK kvs))∨∃ kvs,H p=some (.dT kvs)))∨(T = "set" ∧ ∃ S n,H p=some (.set S n))
 |_=>False
theorem Vf {pins:List (Addr×Obj)}{σ:St}{H:Hp}{s:Shared}{T:String}{x:V}{v:Value}(I:Inv X pins σ H s) (r:RelV x v) (ty:tyV X.K T x H) :
  s.TypeIs v T∧∀ a,v=.ref a→∃ ob,s.heap.get? a=some ob∧ob.dict=none:=by
 cases x with
 |str z =>
  obtain⟨t,rfl⟩:=r
  cases (show T = "str" from ty)
  exact⟨typeIs_str s z t,fun _ e=>nomatch e⟩
 |int i =>
  obtain⟨t,rfl⟩:=r
  cases (show T = "int" from ty)
  exact⟨typeIs_int s i t,fun _ e=>nomatch e⟩
 |ref p =>
  cases r
  rcases ty with⟨rfl,xs,hq⟩ | ⟨rfl,o,hk,hc,hd⟩ | ⟨rfl,hk⟩ | ⟨rfl,S,n,hk⟩
  ·obtain⟨its,_,pl,_⟩:=I.list hq
   refine⟨pl.isList.typeIs,fun a e=>?_⟩
   cases e
   obtain⟨o,n,e,c,hd,_⟩:=pl
   exact⟨o,e,hd⟩
  ·refine⟨⟨o,I.kIn p o hk,hc⟩,fun a e=>?_⟩
   cases e
   exact⟨o,I.kIn _ o hk,hd⟩
  ·have z:∃ o,s.heap.get? p=some o∧o.ExactDict:=by
    rcases hk with⟨kvs,hk⟩ | ⟨kvs,hk⟩
    ·obtain⟨_,_,_,_,o,_,_,e,ex,_⟩:=I.hok p _ hk
     exact⟨o,e,ex⟩
    ·obtain⟨_,_,_,_,o,_,_,e,ex,_⟩:=I.hok p _ hk
     exact⟨o,e,ex⟩
   obtain⟨o,e,ex⟩:=z
   refine⟨⟨o,e,ex.1⟩,fun a e2=>?_⟩
   cases e2
   exact⟨o,e,ex.2.1⟩
  ·obtain⟨o,_,_,_,e,ex,_⟩:=I.hok p _ hk
   refine⟨⟨o,e,ex.1⟩,fun a e2=>?_⟩
   cases e2
   exact⟨o,e,ex.2.1⟩
 |_=>exact False.elim ty
def ziP (K:PySem.W.Frag) (T:String) (r:V→List V→Hp→VK→Prop) (to:TE):TE:=fun σ H Q=>to σ H fun x H1=>tyV K T x H1∧r x [] H1 Q
def tBM (K:PySem.W.Frag) (T:String) (r:V→List V→Hp→VK→Prop) (to:TE) (t:TA):TE:=fun σ H Q=>to σ H fun x H1=>tyV K T x H1∧t σ H1 fun xs H2=>r x xs H2 Q
variable {o e:Expr}{es:List Expr}{to:TE}{t:TA}{name:Str}{apos cpos:Pos}{T id:String}{r:V→List V→Hp→VK→Prop}
theorem zcZ (pa:PlainAttrs T) (slot:Slot T name id) (hty:typeOf (.builtin id)=pure (.type "method_descriptor")) (hm:MtR X id r) (ho:PE X o to)
  (hbase:attributeBase o name X.env (eval o X.env)=eval o X.env:=by rfl) (hline:(apos.endLine == cpos.line)=true:=by rfl):PE X (.Call (.Attribute o name apos) [] [] cpos) (ziP X.K T r to):=by
 intro pins s σ H Q I h
 refine wpAny_Call_method0_late hbase hline (thn (ho pins s σ H _ I h) fun v s1 hq0=>?_)
 obtain⟨x,H1,I1,r1,ty,q1⟩:=hq0
 obtain⟨h1,h2⟩:=Vf I1 r1 ty
 exact⟨T,id,pa,slot,hty,h1,h2,Calls.callWith_builtin rfl (PySem.evalArgs_none (hm pins s1 σ H1 x [] v [] Q I1 r1 .nil q1))⟩
theorem zic (pa:PlainAttrs T) (slot:Slot T name id) (hty:typeOf (.builtin id)=pure (.type "method_descriptor")) (hm:MtR X id r) (ho:PE X o to) (ha:PA X (e::es) t)
  (hbase:attributeBase o name X.env (eval o X.env)=eval o X.env:=by rfl)
  (hfew:((backTo cpos (starEach (e::es) X.env)).all (fun x=>!x.1)&&(backToKw cpos (keywordEach [] X.env)).all (fun x=>x.1.isSome)
   && decide ((e::es).length+([]:List Keyword).length+(if ([]:List Keyword).isEmpty then 0 else 1)<30))=true:=by rfl)
  (hline:(apos.endLine == cpos.line)=true:=by rfl) (hs:starEach (e::es) X.env=(false,eval e X.env)::starEach es X.env:=by rfl) (hplain:(backTo cpos (starEach es X.env)).any (·.1)=false:=by rfl) :
  PE X (.Call (.Attribute o name apos) (e::es) [] cpos) (tBM X.K T r to t):=by
 intro pins s σ H Q I h
 refine wpAny_Call_method_late hbase hfew hline rfl (thn (ho pins s σ H _ I h) fun v s1 hq0=>?_)
 obtain⟨x,H1,I1,r1,ty,q1⟩:=hq0
 obtain⟨h1,h2⟩:=Vf I1 r1 ty
 refine⟨T,id,pa,slot,hty,h1,h2,?_⟩
 have hA:=ha cpos pins s1 σ H1 _ I1 q1
 rw[hs] at hA ⊢
 refine Calls.callWith_builtin (by show(false||(backTo cpos (starEach es X.env)).any (·.1))=false;rw[hplain]<;>rfl) (Calls.evalArgs_plain ?_)
 exact thn hA fun us s2 ⟨vs,H2,I2,r2,q2⟩=>hm pins s2 σ H2 x vs v us Q I2 r1 r2 q2
end
end L2
namespace L2
open PySem PySem.Spec PyProof.Rows
def MtM (X:Cx) (id:String) (r:V→List V→Hp→VK→Prop):Prop :=
 ∀ (pins:List (Addr×Obj)) (s:Shared) (σ:St) (H:Hp) (x:V) (xs:List V) (v:Value) (us:List Value) (Q:VK),Inv X pins σ H s→RelV x v→Vals xs us→r x xs H Q →
  wpAny (model X.prog X.w) X.A (call (.builtin id) (v::us)) (EP X pins σ Q) X.xe s
theorem Vals.one:∀ {x:V}{us:List Value},Vals [x] us→∃ u,us=[u]∧RelV x u
 |_,_,.cons r .nil=>⟨_,rfl,r⟩
theorem Vals.two:∀ {x y:V}{us:List Value},Vals [x,y] us→∃ u v,us=[u,v]∧RelV x u∧RelV y v
 |_,_,_,.cons r (.cons q .nil)=>⟨_,_,rfl,r,q⟩
theorem Vals.zero:∀ {us:List Value},Vals [] us→us=[]
 |_,.nil=>rfl
theorem Vals.dropLast {xs:List V}{us:List Value}(h:Vals xs us):Vals xs.dropLast us.dropLast:=by
 induction h with
 |nil=>exact .nil
 |cons r t ih =>
  cases t with
  |nil=>exact .nil
  |cons q t'=>exact .cons r ih
theorem ZJ {α:Type}(l:List α):l.eraseIdx (l.length-1)=l.dropLast:=by
 induction l with
 |nil=>rfl
 |cons a r ih =>
  cases r with
  |nil=>rfl
  |cons b r =>
   have e:(a::b::r).length-1=((b::r).length-1)+1:=by
    have h1:(a::b::r).length=r.length+2:=rfl
    have h2:(b::r).length=r.length+1:=rfl
    omega
   rw[e,List.eraseIdx_cons_succ,ih]
   all_goals rfl
section
variable {X:Cx}{pins:List (Addr×Obj)}{σ:St}{H:Hp}{s:Shared}{l b:Addr}{xs ys zs:List V}
theorem Inv.lset {its its':List Value}{n:Nat}{f:Array Value→Array Value}{t':Nat}(I:Inv X pins σ H s) (hH:H l=some (.lst xs))
  (e:s.heap.get? l=some { cls:=.type "list",data:=.seq its.toArray n }) (hf:f its.toArray=its'.toArray) (hv:Vals ys its') (hz:ys.length≤sizeLine) :
  Inv X pins σ (upd H l (.lst ys)) { s with heap:=s.heap.update l (Obj.mapSeq f),toks:=t' }:=by
 have q:=PySem.IsL.update e f
 rw[hf] at q
 refine I.write (x:=l) (e:=l) (by rw[hH];exact trivial) (.inl rfl) (fun b' u hb hu=>(Heap.get?_update_other s.heap (Obj.mapSeq f) (Ne.symm hb)).trans hu) ⟨_,q⟩ ?_
 exact⟨hz,its',_,hv,q⟩
theorem Inv.lnew {its:List Value}{t':Nat}(I:Inv X pins σ H s) (hv:Vals ys its) (hz:ys.length≤sizeLine) :
  Inv X pins σ (upd H s.heap.objs.size (.lst ys)) { s with heap:=s.heap.push { cls:=.type "list",data:=.seq its.toArray },toks:=t' } :=
 I.laid (fun _ _ q=>Heap.get?_push_of_some _ q) (Nat.le_refl _) ⟨hz,its,0,hv,Heap.get?_push_size _ rfl⟩
theorem Inv.fresh (I:Inv X pins σ H s):H s.heap.objs.size=none:=I.hok.fresh (Nat.le_refl _)
theorem Inv.lstM (I:Inv X pins σ H s) (hH:H l=some (.lst xs)):xs.length≤sizeLine∧∃ (its:List Value) (n:Nat),Vals xs its∧xs.length=its.length∧s.heap.get? l=some { cls:=.type "list",data:=.seq its.toArray n }:=by
 obtain⟨z,its,n,r,e⟩:=I.hok l _ hH
 exact⟨z,its,n,r,r.length,e⟩
theorem WG {n:Nat}(h:n≤sizeLine):Builtin.List.listTooLong n=false:=by
 unfold Builtin.List.listTooLong
 exact decide_eq_false (by omega)
end
section
variable {X:Cx}
def Y0:V→List V→Hp→VK→Prop:=fun x vs H Q=>∃ l xs y,x=.ref l∧vs=[y]∧H l=some (.lst xs)∧xs.length<sizeLine∧Q .non (upd H l (.lst (xs++[y])))
theorem zS:MtM X "list.append" Y0:=by
 intro pins s σ H x vs v us Q I rx rv h
 obtain⟨l,xs,y,rfl,rfl,hH,hz,q⟩:=h
 cases rx
 obtain⟨u,rfl,ru⟩:=rv.one
 obtain⟨z,its,n,r,hl,e⟩:=I.lstM hH
 refine call_meets F.slot_list_append ⟨_,e,rfl⟩ F.entry_list_append (F.args_list_append_2 _ _) (PySem.list_append l its.toArray n u (by rw[List.size_toArray];omega)) ⟨e,?_⟩
 refine⟨.non,_,I.lset (its':=its++[u]) hH e (by simp) (r.append (.cons ru .nil)) ?_,rfl,q⟩
 rw[List.length_append,List.length_singleton]
 omega
def V7:V→List V→Hp→VK→Prop:=fun x vs H Q=>∃ l b xs zs,x=.ref l∧vs=[.ref b]∧H l=some (.lst xs)∧H b=some (.lst zs)∧xs.length+zs.length≤sizeLine∧Q .non (upd H l (.lst (xs++zs)))
theorem Xp:MtM X "list.extend" V7:=by
 intro pins s σ H x vs v us Q I rx rv h
 obtain⟨l,b,xs,zs,rfl,rfl,hH,hB,hz,q⟩:=h
 cases rx
 obtain⟨u,rfl,ru⟩:=rv.one
 cases ru
 obtain⟨z,its,n,r,hl,e⟩:=I.lstM hH
 obtain⟨z2,its2,n2,r2,hl2,e2⟩:=I.lstM hB
 have hsz:its.toArray.size+its2.toArray.size≤sizeLine:=by rw[List.size_toArray,List.size_toArray];omega
 have hlong:¬ (!its.toArray.isEmpty&&Builtin.List.listTooLong (its.toArray.size+its2.toArray.size))=true:=by
  rw[WG hsz,Bool.and_false]
  exact Bool.false_ne_true
 refine call_meets F.slot_list_extend ⟨_,e,rfl⟩ F.entry_list_extend (F.args_list_extend_2 _ _)
  (AutoSeq1.list_extend_list_list_0 l its.toArray n b its2.toArray n2 hlong (by rw[List.size_toArray];omega) (by omega)) ⟨e,e2,?_⟩
 refine⟨.non,_,I.lset (its':=its++its2) hH e (by simp) (r.append r2) ?_,rfl,q⟩
 rw[List.length_append]
 omega
def zp6:V→List V→Hp→VK→Prop:=fun x vs H Q=>∃ l xs y,x=.ref l∧vs=[]∧H l=some (.lst xs)∧xs[xs.length-1]?=some y∧Q y (upd H l (.lst xs.dropLast))
theorem zdp:MtM X "list.pop" zp6:=by
 intro pins s σ H x vs v us Q I rx rv h
 obtain⟨l,xs,y,rfl,rfl,hH,hy,q⟩:=h
 cases rx
 have hus:=rv.zero
 subst hus
 obtain⟨z,its,n,r,hl,e⟩:=I.lstM hH
 obtain⟨u,hu,ru⟩:=r.get hy
 have hy':its.toArray[its.toArray.size-1]?=some u:=by
  show its.toArray[its.length-1]?=some u
  rw[← Array.getElem?_toList,← hl]
  exact hu
 refine call_meets F.slot_list_pop ⟨_,e,rfl⟩ F.entry_list_pop (F.args_list_pop_1 _) (MeetsSeq.list_pop_last l its.toArray n u hy' (by rw[List.size_toArray];omega)) ⟨e,?_⟩
 refine⟨y,_,I.lset (its':=its.dropLast) hH e ?_ r.dropLast ?_,ru,q⟩
 ·show its.toArray.eraseIdxIfInBounds (its.toArray.size-1)=its.dropLast.toArray
  rw[List.size_toArray,List.eraseIdxIfInBounds_toArray,ZJ]
 ·rw[List.length_dropLast]
  omega
def zqf:R2:=fun x y H Q=>∃ l b xs zs,x=.ref l∧y=.ref b∧H l=some (.lst xs)∧H b=some (.lst zs)∧xs.length+zs.length≤sizeLine∧∀ p,H p=none→Q (.ref p) (upd H p (.lst (xs++zs)))
theorem yl:OpR X (binaryOp .Add) zqf:=by
 intro pins s σ H x y v u Q I rx ry h
 obtain⟨l,b,xs,zs,rfl,rfl,hH,hB,hz,q⟩:=h
 cases rx
 cases ry
 obtain⟨z,its,n,r,hl,e⟩:=I.lstM hH
 obtain⟨z2,its2,n2,r2,hl2,e2⟩:=I.lstM hB
 refine PySem.P.add_list e e2 ?_ (by rw[List.size_toArray,List.size_toArray];omega)
 have ea:its.toArray++its2.toArray=(its++its2).toArray:=by simp
 rw[ea]
 exact⟨.ref _,_,I.lnew (t':=s.toks) (r.append r2) (by rw[List.length_append];omega),rfl,q _ I.fresh⟩
end
end L2
namespace L2
open PySem PySem.Spec PyProof.Rows
section
variable {κ:Type} [DecidableEq κ]
noncomputable def ZP (kvs:List (κ×V)) (k:κ):Option V:=(kvs.find? fun kv=>decide (kv.1=k)).map (·.2)
noncomputable def Vn (kvs:List (κ×V)) (k:κ) (v:V):List (κ×V) :=
 if (kvs.any fun kv=>decide (kv.1=k))=true then kvs.map (fun kv=>if kv.1=k then(kv.1,v) else kv) else kvs++[(k,v)]
theorem uF {p:κ×V}{r:List (κ×V)}{k:κ}(e:p.1=k):ZP (p::r) k=some p.2:=by simp[ZP,List.find?_cons,e]
theorem uG {p:κ×V}{r:List (κ×V)}{k:κ}(e:¬ p.1=k):ZP (p::r) k=ZP r k:=by simp[ZP,List.find?_cons,e]
theorem um (kvs:List (κ×V)) (k:κ) (v:V):(Vn kvs k v).length≤kvs.length+1:=by
 unfold Vn
 split
 ·rw[List.length_map];omega
 ·rw[List.length_append,List.length_cons,List.length_nil];omega
theorem RelO.isSome_eq {o:Option V}{u:Option Value}(r:RelO o u):o.isSome=u.isSome:=by
 cases o with
 |none=>cases u with
  |none=>rfl
  |some _=>exact(show False from r).elim
 |some _=>cases u with
  |none=>exact(show False from r).elim
  |some _=>rfl
theorem KV.val {kvs:List (κ×V)}{vs:List (κ×Value)}(r:KV kvs vs) (k:κ):RelO (ZP kvs k) (valueAt vs k):=by
 unfold KV at r
 induction r with
 |nil=>exact True.intro
 | @cons p q ps qs h t ih =>
  obtain⟨h1,h2⟩:=h
  by_cases e:p.1=k
  ·have e':q.1=k:=h1.symm.trans e
   have b:valueAt (q::qs) k=some q.2:=by simp[valueAt,List.find?_cons,e']
   rw[uF e,b];exact h2
  ·have e':¬ q.1=k:=fun z=>e (h1.trans z)
   have b:valueAt (q::qs) k=valueAt qs k:=by simp[valueAt,List.find?_cons,e']
   rw[uG e,b];exact ih
theorem KV.any {kvs:List (κ×V)}{vs:List (κ×Value)}(r:KV kvs vs) (k:κ):(kvs.any fun kv=>decide (kv.1=k))=vs.any fun kv=>decide (kv.1=k):=by
 unfold KV at r
 induction r with
 |nil=>rfl
 |cons h t ih=>rw[List.any_cons,List.any_cons,ih,h.1]
theorem KV.repl {kvs:List (κ×V)}{vs:List (κ×Value)}(r:KV kvs vs) (k:κ){y:V}{u:Value}(ry:RelV y u) :
  KV (kvs.map fun kv=>if kv.1=k then(kv.1,y) else kv) (vs.map fun kv=>if kv.1=k then(kv.1,u) else kv):=by
 unfold KV at r ⊢
 induction r with
 |nil=>exact .nil
 | @cons p q ps qs h t ih =>
  rw[List.map_cons,List.map_cons]
  refine .cons ?_ ih
  obtain⟨h1,h2⟩:=h
  by_cases e:p.1=k
  ·rw[if_pos e,if_pos (h1.symm.trans e)];exact⟨h1,ry⟩
  ·rw[if_neg e,if_neg (fun z=>e (h1.trans z))];exact⟨h1,h2⟩
theorem KV.put {kvs:List (κ×V)}{vs:List (κ×Value)}(r:KV kvs vs) (k:κ){y:V}{u:Value}(ry:RelV y u):KV (Vn kvs k y) (stored vs k u):=by
 unfold Vn stored
 rw[r.any k]
 by_cases e:(vs.any fun kv=>decide (kv.1=k))=true
 ·rw[if_pos e,if_pos e];exact r.repl k ry
 ·rw[if_neg e,if_neg e];exact Paired.snoc r ⟨rfl,ry⟩
end
theorem WR {P:Program}{w:World}{k:Key}{u:Value}(r:RelV (kV k) u):(ya P w).is k u=true:=by
 cases k with
 |inl i=>obtain⟨t,e⟩:=(show ∃ t,u=Value.int i t from r);subst e;exact ul P w i t
 |inr x=>obtain⟨t,e⟩:=(show ∃ t,u=Value.str x t from r);subst e;exact uk P w x t
theorem vJ {P:Program}{w:World}:∀ {ks:List Key}{us:List Value},Vals (ks.map kV) us→ItemsAre (ya P w) ks us
 |[],_,r=>by rw[List.map_nil] at r;cases r;exact .nil
 |k::ks,_,r=>by
  rw[List.map_cons] at r
  cases r with
  |cons h t=>exact .cons (WR h) (vJ t)
abbrev KT (H:Hp):List (List Key×V)→List (List Key×Addr×Value)→Prop:=Paired fun p q=>p.1=q.1∧H q.2.1=some (.tup (p.1.map kV))∧RelV p.2 q.2.2
theorem KT.val {H:Hp}{kvs:List (List Key×V)}{xs:List (List Key×Addr×Value)}(r:KT H kvs xs) (k:List Key):RelO (ZP kvs k) ((atKey xs k).map (·.2)):=by
 induction r with
 |nil=>exact True.intro
 | @cons p q ps qs h t ih =>
  obtain⟨h1,_,h2⟩:=h
  by_cases e:p.1=k
  ·have e':q.1=k:=h1.symm.trans e
   have b:atKey (q::qs) k=some q.2:=by simp[atKey,List.find?_cons,e']
   rw[uF e,b];exact h2
  ·have e':¬ q.1=k:=fun z=>e (h1.trans z)
   have b:atKey (q::qs) k=atKey qs k:=by simp[atKey,List.find?_cons,e']
   rw[uG e,b];exact ih
section
variable {P:Program}{w:World}{H:Hp}{h:Heap}{a:Addr}
theorem zcB {u:HO}(ok:HOk P w H h) (e:Rd H a u):ObjOk P w H h a u:=e.ok ok
theorem W4 {kvs:List (Key×V)}(ok:HOk P w H h) (e:Rd H a (.dK kvs)):kvs.length≤sizeLine∧(a == sysModules)=false∧∃ vs,KV kvs vs∧h.DictOf (ya P w) a vs :=
 show ObjOk P w H h a (.dK kvs) from zcB ok e
theorem ziA {kvs:List (Key×V)}(ok:HOk P w H h) (e:H a=some (.dK kvs)):kvs.length≤sizeLine∧(a == sysModules)=false∧∃ vs,KV kvs vs∧h.DictOf (ya P w) a vs:=W4 ok (.inl e)
theorem Xw {ks:List Key}(ok:HOk P w H h) (e:H a=some (.tup (ks.map kV))):(tupleKind (ya P w)).is h ks a:=by
 obtain⟨_,its,r,o,h1,h2,n,h3⟩:=(show ObjOk P w H h a (.tup (ks.map kV)) from ok a _ e)
 exact⟨o,its.toArray,n,h1,h2,h3,by simpa using vJ r⟩
theorem UP {kvs:List (List Key×V)}(ok:HOk P w H h) (e:Rd H a (.dT kvs)):kvs.length≤sizeLine∧(a == sysModules)=false ∧
  ∃ xs,KT H kvs xs∧h.DictOfH (tupleKind (ya P w)) a xs:=by
 obtain⟨z,y,xs,r,o,es,ep,h1,h2,h3,h4,h5⟩:=(show ObjOk P w H h a (.dT kvs) from zcB ok e)
 refine⟨z,y,xs,r,o,es,ep,h1,h2,h3,h4,fun x hx=>?_,h5⟩
 have all:∀ {l:List (List Key×V)}{m:List (List Key×Addr×Value)},KT H l m→∀ x∈m,(tupleKind (ya P w)).is h x.1 x.2.1:=by
  intro l m q
  induction q with
  |nil=>intro x hx;exact nomatch hx
  | @cons p q ps qs hq t ih =>
   intro x hx
   rcases List.mem_cons.mp hx with e | hx
   ·subst e
    exact Xw ok (by rw[← hq.1];exact hq.2.1)
   ·exact ih x hx
 exact all r x hx
end
def DGet (H:Hp) (a:Addr) (y:V) (r:Option V):Prop :=
 (∃ kvs k,Rd H a (.dK kvs)∧y=kV k∧r=ZP kvs k)∨∃ kvs k b,Rd H a (.dT kvs)∧y=.ref b∧H b=some (.tup (k.map kV))∧r=ZP kvs k
theorem DGet.k {H:Hp}{a:Addr}{kvs:List (Key×V)}{k:Key}(e:H a=some (.dK kvs)):DGet H a (kV k) (ZP kvs k):=.inl ⟨kvs,k,.inl e,rfl,rfl⟩
section
variable {X:Cx}{pins:List (Addr×Obj)}{σ:St}{H:Hp}{s:Shared}{a:Addr}{y v:V}{u r:Value}{o:Option V}{A:Around}{E:Value→Shared→Prop}
theorem Inv.big (I:Inv X pins σ H s):sysModules<s.heap.objs.size:=by
 have h:mainGlobals<s.heap.objs.size:=(I.mod.glob.keeps I.bk).lt
 exact Nat.lt_trans (by decide) h
theorem XT {Q:Value→Shared→Prop}(hu:A.units+1<cLine) (I:Inv X pins σ H s) (g:DGet H a y (some v)) (ry:RelV y u) (h:∀ w' s',Inv X pins σ H s'→RelV v w'→Q w' s') :
  wpAny (model X.prog X.w) A (getItem (.ref a) u) Q E s:=by
 rcases g with⟨kvs,k,e,ey,l⟩ | ⟨kvs,k,b,e,ey,eb,l⟩
 ·subst ey
  obtain⟨z,hd,vs,rel,dd⟩:=W4 I.hok e
  obtain⟨w',hw,rw'⟩:=RelO.some_of (v:=v) (o:=valueAt vs k) (by rw[l];exact rel.val k)
  exact wpAny_getItem_of (WR ry) dd.mapOf hw (h w' _ (I.tok _) rw')
 ·subst ey
  cases (show u=Value.ref b from ry)
  obtain⟨z,hd,xs,rel,dd⟩:=UP I.hok e
  obtain⟨w',hw,rw'⟩:=RelO.some_of (v:=v) (o:=(atKey xs k).map (·.2)) (by rw[l];exact rel.val k)
  obtain⟨p,hp,hp2⟩:=Option.map_eq_some_iff.mp hw
  refine wpAny_getItem_heap (tupleKind_room_in1 hu) (Xw I.hok eb) dd hp ?_
  rw[hp2]
  exact h w' _ (I.tok _) rw'
theorem US {Q:Value→Shared→Prop}(hu:A.units+1<cLine) (I:Inv X pins σ H s) (g:DGet H a y o) (ry:RelV y u) (h:∀ s',Inv X pins σ H s'→Q (.bool (!o.isSome)) s') :
  wpAny (model X.prog X.w) A (compareOp .NotIn u (.ref a)) Q E s:=by
 rcases g with⟨kvs,k,e,ey,l⟩ | ⟨kvs,k,b,e,ey,eb,l⟩
 ·subst ey
  obtain⟨z,hd,vs,rel,dd⟩:=W4 I.hok e
  refine wpAny_notIn_of (WR ry) hd dd.mapOf ?_
  rw[← (rel.val k).isSome_eq,← l]
  exact h _ (I.tok _)
 ·subst ey
  cases (show u=Value.ref b from ry)
  obtain⟨z,hd,xs,rel,dd⟩:=UP I.hok e
  refine wpAny_notIn_heap (tupleKind_room_in1 hu) (Xw I.hok eb) hd dd ?_
  have q:=(rel.val k).isSome_eq
  rw[Option.isSome_map] at q
  rw[← q,← l]
  exact h _ (I.tok _)
theorem UR {h':Heap}{t':Nat}{ob:HO}(I:Inv X pins σ H s) (mu:Mut (H a)) (hs:Heap.SameBut a s.heap h') (he:∃ q,h'.get? a=some q) (new:ObjOk X.prog X.w (upd H a ob) h' a ob) :
  Inv X pins σ (upd H a ob) { s with heap:=h',toks:=t' } :=
 I.write (x:=a) (e:=a) mu (.inl rfl) (fun b q hb z=>(hs.2 b hb).trans z) he new
theorem zdN {P:Program}{w:World}{H':Hp}{h':Heap}{kvs:List (Key×V)}{vs:List (Key×Value)}(z:kvs.length≤sizeLine) (hd:(a == sysModules)=false) (rel:KV kvs vs) (dd:h'.DictOf (ya P w) a vs) :
  ObjOk P w H' h' a (.dK kvs):=⟨z,hd,vs,rel,dd⟩
end
def ziE (i:Expr):Prop:=∀ ov iv,subscripted i false ov iv=operate [ov,iv] (getItem ov iv)
theorem subD_of {prog:Program}{w:World}{A:Around}{E:Value→Shared→Prop}{s:Shared}{env:Env}{value slice:Expr}{pos:Pos}{T id:String}{Q:Value→Shared→Prop}
  (hl:typeLookup (.type T) "__getitem__" = pure (some (.builtin id))) (hs:ziE slice)
  (h:wpAny (model prog w) A (eval value env) (fun o s₁=>wpAny (model prog w) A (eval slice env) (fun i s₂=>s₂.TypeIs o T∧wpAny (model prog w) A (getItem o i) Q E s₂) E s₁) E s) :
  wpAny (model prog w) A (eval (.Subscript value slice pos) env) Q E s:=by
 refine Subscript_ (wpAny_mono h (fun o s₁ h₁=>wpAny_mono h₁ (fun i s₂ h₂=>?_) fun _ _ x=>x) fun _ _ x=>x)
 obtain⟨hT,h₂⟩:=h₂
 unfold subscriptTail
 refine wpAny_bind ?_
 rw[getitemInPython_of_ne hT.not_modules]
 refine wpAny_bind (wpAny_specialOf hT hl ?_)
 have fin:wpAny (model prog w) A (subscripted slice false o i) (fun r s₃=>wpAny (model prog w) A (letTemporaryGo value o r >>= fun _=>pure r) Q E s₃) E s₂:=by
  rw[hs o i]
  exact wpAny_operating (wpAny_mono h₂ (fun r s₃ h₃=>wpAny_bind (wpAny_letTemporaryGo (wpAny_pure h₃))) fun _ _ x=>x)
 first
  |exact wpAny_pure (wpAny_bind fin)
  |exact wpAny_bind (wpAny_pure (wpAny_bind fin))
  |exact wpAny_bind fin
theorem uu {X:Cx}{pins:List (Addr×Obj)}{σ:St}{H:Hp}{s:Shared}{a:Addr}{y:V}{o:Option V}(I:Inv X pins σ H s) (g:DGet H a y o):s.TypeIs (.ref a) "dict" := by
 rcases g with⟨kvs,k,e,_,_⟩ | ⟨kvs,k,b,e,_,_,_⟩
 ·obtain⟨_,_,vs,_,dd⟩:=W4 I.hok e
  exact dd.typeIs
 ·obtain⟨_,_,xs,_,dd⟩:=UP I.hok e
  exact dd.typeIs
def zbt (td ty:TE):TE:=fun σ H Q=>td σ H fun x H1=>ty σ H1 fun y H2=>∃ a v,x=.ref a∧DGet H2 a y (some v)∧Q v H2
def Z8 (ty td:TE):TE:=fun σ H Q=>ty σ H fun y H1=>td σ H1 fun x H2=>∃ a o,x=.ref a∧DGet H2 a y o∧Q (.bl (!o.isSome)) H2
section
variable {X:Cx}{o i e value:Expr}{pos pos' tpos:Pos}{td ty tv:TE}
theorem Ur (hu:X.A.units+1<cLine) (ho:PE X o td) (hi:PE X i ty) (hs:ziE i):PE X (.Subscript o i pos) (zbt td ty):=by
 intro pins s σ H Q I h
 refine subD_of PySem.F.slot_dict_getitem.lookup hs (thn (ho pins s σ H _ I h) fun u s1 ⟨x,H1,I1,rx,q1⟩=>thn (hi pins s1 σ H1 _ I1 q1) fun iv s2 hq0=>?_)
 obtain⟨y,H2,I2,ry,a,v,ex,g,q2⟩:=hq0
 subst ex
 obtain rfl:u=Value.ref a:=rx
 exact⟨uu I2 g,XT hu I2 g ry fun w' s3 I3 rw'=>⟨v,H2,I3,rw',q2⟩⟩
theorem Xe (hu:X.A.units+1<cLine) (hi:PE X i ty) (ho:PE X o td):PC X .NotIn i o (Z8 ty td):=by
 intro pins s σ H Q I h
 refine thn (hi pins s σ H _ I h) fun iv s1 ⟨y,H1,I1,ry,q1⟩=>thn (ho pins s1 σ H1 _ I1 q1) fun u s2 hq0=>?_
 obtain⟨x,H2,I2,rx,a,ov,ex,g,q2⟩:=hq0
 subst ex
 obtain rfl:u=Value.ref a:=rx
 exact US hu I2 g ry fun s3 I3=>⟨.bl (!ov.isSome),H2,I3,rfl,q2⟩
end
theorem W5 {P:Program}{w:World}{H:Hp}(h:Heap) (hb:sysModules<h.objs.size):ObjOk P w H (h.push { cls:=.type "dict",data:=.dict #[] }) h.objs.size (.dK []) :=
 ⟨Nat.zero_le _,beq_eq_false_iff_ne.mpr (Ne.symm (Nat.ne_of_lt hb)),[],.nil,Heap.DictOf.new h⟩
def Z4:List (TE×TE)→St→Hp→(List (V×V)→Hp→Prop)→Prop
 |[],_,H,Q=>Q [] H
 |(tk,tv)::r,σ,H,Q=>tk σ H fun x H1=>tv σ H1 fun y H2=>Z4 r σ H2 fun ps H3=>Q ((x,y)::ps) H3
abbrev VV:List (V×V)→List (Value×Value)→Prop:=Paired fun p q=>RelV p.1 q.1∧RelV p.2 q.2
def PPs (X:Cx) (pos:Pos) (keys:List (Option Expr)) (values:List Expr) (trs:List (TE×TE)):Prop :=
 ∀ (pins:List (Addr×Obj)) (s:Shared) (σ:St) (H:Hp) (Q:List (V×V)→Hp→Prop),Inv X pins σ H s→Z4 trs σ H Q →
  wpAny (model X.prog X.w) X.A (evalPairs (pairTrees keys values X.env pos)) (fun vs s'=>∃ ps H',Inv X pins σ H' s'∧VV ps vs∧Q ps H') X.xe s
theorem Ug {X:Cx}{pos:Pos}:PPs X pos [] [] []:=fun pins s σ H Q I h=>pairTrees_nil_walk ⟨[],H,I,.nil,h⟩
theorem Ws {X:Cx}{pos:Pos}{k v:Expr}{ks:List (Option Expr)}{vs:List Expr}{tk tv:TE}{trs:List (TE×TE)}(hk:PE X k tk) (hv:PE X v tv) (hr:PPs X pos ks vs trs) :
  PPs X pos (some k::ks) (v::vs) ((tk,tv)::trs):=fun pins s σ H Q I h =>
 pairTrees_cons_walk (thn (hk pins s σ H _ I h) fun u s1 ⟨x,H1,I1,rx,q1⟩=>thn (hv pins s1 σ H1 _ I1 q1) fun w2 s2 ⟨y,H2,I2,ry,q2⟩ =>
  thn (hr pins s2 σ H2 _ I2 q2) fun ws s3 ⟨ps,H3,I3,rel,q3⟩=>⟨(x,y)::ps,H3,I3,.cons ⟨rx,ry⟩ rel,q3⟩)
def wx (kvs more:List (Key×V)):List (Key×V):=more.foldl (fun acc kv=>Vn acc kv.1 kv.2) kvs
theorem KV.merge:∀ {more:List (Key×V)}{rs:List (Key×Value)}{kvs:List (Key×V)}{vs:List (Key×Value)},KV more rs→KV kvs vs→KV (wx kvs more) (merged vs rs):=by
 intro more rs kvs vs r
 unfold KV at r
 induction r generalizing kvs vs with
 |nil=>intro q;exact q
 | @cons p q ps qs h t ih =>
  intro r0
  have e:KV (Vn kvs p.1 p.2) (stored vs q.1 q.2):=by
   have:=r0.put p.1 h.2
   rw[← h.1];exact this
  exact ih e
theorem xm:∀ (more kvs:List (Key×V)),(wx kvs more).length≤kvs.length+more.length
 |[],kvs=>by show kvs.length≤kvs.length+0;omega
 |p::r,kvs=>by
  have h1:=xm r (Vn kvs p.1 p.2)
  have h2:=um kvs p.1 p.2
  show(wx (Vn kvs p.1 p.2) r).length≤_
  rw[List.length_cons];omega
theorem wF {P:Program}{w:World}:∀ {kvs:List (Key×V)}{ws:List (Value×Value)},VV (kvs.map fun kv=>(kV kv.1,kv.2)) ws→∃ rs,Carries (ya P w) ws rs∧KV kvs rs
 |[],_,r=>by rw[List.map_nil] at r;cases r;exact⟨[],True.intro,.nil⟩
 |p::kvs,_,r=>by
  rw[List.map_cons] at r
  cases r with
  | @cons a b as bs h t =>
   obtain⟨rs,c,q⟩:=wF (P:=P) (w:=w) t
   obtain⟨b1,b2⟩:=b
   exact⟨(p.1,b2)::rs,⟨WR h.1,rfl,c⟩,.cons ⟨rfl,h.2⟩ q⟩
def zbs (trs:List (TE×TE)):TE:=fun σ H Q=>∀ p,H p=none→Z4 trs σ (upd H p (.dK [])) fun ps H2=>H2 p=some (.dK [])∧∃ kvs:List (Key×V),ps=kvs.map (fun kv=>(kV kv.1,kv.2))∧kvs.length≤15∧Q (.ref p) (upd H2 p (.dK (wx [] kvs)))
theorem Uq {X:Cx}{pos:Pos}{keys:List (Option Expr)}{values:List Expr}{trs:List (TE×TE)}(h:PPs X pos keys values trs) (hall:keys.all (·.isSome)=true) (hl:keys.length=values.length) (h0:keys≠[])
  (h15:keys.length≤15):PE X (.Dict keys values pos) (zbs trs):=by
 intro pins s σ H Q I q
 have hn:=I.hok.fresh (Nat.le_refl s.heap.objs.size)
 have I1:=I.laid (a:=s.heap.objs.size) (o:=.dK []) (h':=s.heap.push { cls:=.type "dict",data:=.dict #[] }) (t':=s.toks) (fun _ _ q=>Heap.get?_push_of_some _ q) (Nat.le_refl _) (W5 s.heap I.big)
 refine wpAny_Dict_walk (knd:=ya X.prog X.w) hall hl h0 h15 (thn (h pins _ σ _ _ I1 (q _ hn)) fun ws s2 hq0=>?_)
 obtain⟨ps,H2,I2,rel,e,kvs,ep,lk,q2⟩:=hq0
 subst ep
 obtain⟨rs,c,rk⟩:=wF (P:=X.prog) (w:=X.w) rel
 obtain⟨z,hd,vs0,r0,dd⟩:=ziA I2.hok e
 cases r0
 refine⟨rs,c,dd,fun h' dd' hs=>⟨.ref s.heap.objs.size,_,?_,rfl,q2⟩⟩
 have hz:(wx [] kvs).length≤sizeLine:=by
  have h1:=xm kvs []
  rw[List.length_nil] at h1
  rw[sizeLine_eq];omega
 have he:∃ q,h'.get? s.heap.objs.size=some q:=let ⟨q,_,_,hq,_⟩:=dd';⟨q,hq⟩
 exact UR I2 (by rw[e];exact True.intro) hs he (zdN hz hd (rk.merge .nil) dd')
structure M2 (X:Cx) (o:Expr) (m:Str) (apos:Pos) (e f:Expr) (cpos:Pos):Prop where
 base:attributeBase o m X.env (eval o X.env)=eval o X.env
 few:((backTo cpos (starEach [e,f] X.env)).all (fun x=>!x.1)&&(backToKw cpos (keywordEach [] X.env)).all (fun x=>x.1.isSome)
  && decide (([e,f]:List Expr).length+([]:List Keyword).length+(if ([]:List Keyword).isEmpty then 0 else 1)<30))=true
 line:(apos.endLine == cpos.line)=true
 trees:backTo cpos (starEach [e,f] X.env)=[(false,eval e X.env),(false,eval f X.env)]
end L2
namespace Att
open PySem PySem.W PySem.Calls PyProof.Rows
theorem wk {P:Params}{h:Heap}:∀ (ns:List Int) (vs:List Value),WellAll P h vs (ns.map WData.int)→IntsAre vs ns:=by
 intro ns
 induction ns with
 |nil =>
  intro vs w
  rw[List.map_nil] at w
  cases w
  exact .nil
 |cons n ns ih =>
  intro vs w
  rw[List.map_cons] at w
  cases w with
  |cons a b =>
   cases a
   exact .cons _ _ (ih _ b)
theorem YV {l:OpenLaw}{n:Nat}(hn:l.most=some n){P:Params}{h:Heap}{args:List WData}{vals:List Value}
  (hpre:l.row.toRowW.claim.pre args=true) (hwl:WellAll P h vals args) :
  ∃ a vs ns,vals=[Value.ref a]∧args=[WData.list (ns.map WData.int)]∧h.get? a=some { cls:=.type "list",data:=.seq vs.toArray }∧IntsAre vs ns∧ns.length≤n:=by
 have hsh:WShape.hasAll [] args [.list .int]=true:=(pre_splitW hpre).1
 have hc:l.pre.holds [] { args:=args }=true:=(pre_splitW hpre).2
 obtain⟨d,r,rfl,h1,h2⟩:=hasAllW_cons hsh
 obtain rfl:=hasAllW_nil h2
 obtain⟨xs,rfl,h3⟩:=hasW_list h1
 obtain⟨ns,rfl⟩:=items_int h3
 have hlen:ns.length≤n:=by
  unfold OpenLaw.pre at hc
  have h4:(WTm.not (.lt (.lit (.int (n:Int))) (.len (.arg 0)))).holds [] { args:=[.list (ns.map .int)] }=true:=by
   have h4:=(holds_andW hc).1
   rw[hn] at h4
   exact h4
  have h5:=condW_of h4 (w_not (w_lt w_lit (w_len_list (w_arg rfl))))
  rw[List.length_map] at h5
  refine Nat.le_of_not_lt fun q=>?_
  have q':(n:Int)<((ns.length:Nat):Int):=by omega
  first
   |(rw[decide_eq_true q'] at h5;exact absurd h5 (by decide))
   |(simp at h5;omega)
 cases hwl with
 |cons w1 w2 =>
  cases w2
  cases w1 with
  |list ho hall=>exact⟨_,_,ns,rfl,rfl,ho,wk ns _ hall,hlen⟩
theorem Y5 (l:OpenLaw) (args:List WData):l.row.toRowW.claim.post args (.bool true) args=true :=
 postW_of (r:=l.row.toRowW) (X:=(true == true))
  (show WShape.has [] (.bool true) .bool=true by first | rfl | decide | simp[WShape.has,WShape.arms,WShape.armsAll])
  (show(WTm.eq .res (.lit (.bool true))).value [] { args:=args,res:=some (.bool true),after:=args }=some (.bool (true == true)) from w_eq_bool (w_res rfl) w_lit) rfl
theorem attach_call {l:OpenLaw}{n:Nat}{q:Program}{loose:List Str}{XP:(Str→Option Value)→Heap→Prop}{YP:World→Heap→Prop}{d:DefRec}
  (hn:l.most=some n) (hdf:d.params.defaults=[])
  (call:∀ (w:World) (s₀ s₁:Shared) (mg mb:Str→Option Value) (fa:Addr) (o:Obj) (pm cd doc:Value) (a:Addr) (vs:List Value) (ns:List Int),
   Ground q loose [] XP w s₀ mg mb s₁.heap→YP w s₁.heap →
   s₁.heap.get? fa=some o→o.data=.func (docDef d.name d.params d.body d.scope pm cd doc)→s₁.heap.CodeRec cd d.name→mg d.name=some (.ref fa) →
   s₁.heap.get? a=some { cls:=.type "list",data:=.seq vs.toArray }→IntsAre vs ns→ns.length≤n→s₁.gens = #[] →
   codeAny (model l.prog w) callerA (.call (.ref fa) ⟨[.ref a],[]⟩) (fun r s'=>r=.ok (.ret (.bool true))∧OldK s₁.heap s'.heap∧s'.os=s₁.os∧AllBare s'.gens) s₁) :
  WalkO q loose XP YP l.row.toRowW d [] (fun f vs=>PySem.call f vs):=by
 intro w s₀ s₁ mg mb G Y fa o pm cd doc dV kV ho hd hcd hD hmg hg args vals as hpre hlay hrd hwl hlo
 obtain rfl:dV=.none:=Dflts.none hD hdf
 obtain rfl:kV=.none:=Dflts.noKw hD
 obtain⟨a,vs,ns,rfl,rfl,hobj,hints,hlen⟩:=YV hn hpre hwl
 refine enter_call (codeAny_mono (call w s₀ s₁ mg mb fa o pm cd doc a vs ns G Y ho (fd_plain hd) hcd hmg hobj hints hlen hg) fun r s' hq=>?_)
 obtain⟨rfl,h2,h3,h4⟩:=hq
 exact⟨.inl ⟨.bool true,.bool true,[],rfl,fun _=>rfl,.bool true,Y5 l _,fun _=>⟨List.Pairwise.nil,fun _ hm=>(nomatch hm)⟩⟩,h2,h3,h4⟩
end Att
namespace L2
open PySem PySem.Spec PyProof.Rows
theorem vg:∀ {vs:List Value}{ns:List Int},IntsAre vs ns→Vals (ns.map V.int) vs
 |_,_,.nil=>.nil
 |_,_,.cons n t h=>.cons ⟨t,rfl⟩ (vg h)
def zdT (H:Hp):Prop:=∀ b,H b=none∨∃ o xs,H b=some (.frz o (.lst xs))
theorem WO {P:Program}{w:World}{K:PySem.W.Frag}{mg mb:Str→Option Value}{CX:CXT}{k:Nat}{fa a:Addr}{fd:FuncData}{x:Str}{sp:Sp}{s₁:Shared}{vs:List Value}{ns:List Int}
  (KX:K.In s₁.heap) (hns:s₁.heap.Ns mainGlobals mg) (hb:s₁.heap.Ns builtinsNs mb) (hbb:∀ x:Str,x ≠ "__name__" → mb x=bootBuiltins x) (hlim:s₁.heap.NoLimit) (hg:s₁.gens = #[])
  (ha:s₁.heap.get? a=some { cls:=.type "list",data:=.seq vs.toArray }) (hi:IntsAre vs ns) (hl:ns.length≤sizeLine) (hr:Room k callerA)
  (F:∀ base:Heap,K.In base→base.Ns mainGlobals mg→FnOk P w K mg base CX k fa fd [x] sp) (hbind:∀ (s:Shared) (u:Value),BindsTo s fd ⟨[u],[]⟩ [(x,u)])
  (hsp:∀ H:Hp,zdT H→SqL K H a (ns.map V.int)→sp [.ref a] H (fun v _=>v=.bl true) fun _ _ _=>False)
  (hCX:∀ H e s',CX [] H s₁ (fun _ _ _=>False) e s'→False) :
  codeAny (model P w) callerA (.call (.ref fa) ⟨[.ref a],[]⟩) (fun r s'=>r=.ok (.ret (.bool true))∧OldK s₁.heap s'.heap∧s'.os=s₁.os∧AllBare s'.gens) s₁:=by
 have rv:=vg hi
 have lenV:=hi.length
 -- from an abstract heap in which nothing but the script may be tracked
 have core:∀ H:Hp,zdT H→SqL K H a (ns.map V.int)→HOk P w H s₁.heap→(∀ b,H b≠none→b=a)→(H a≠none→K.lookup a=none) →
   codeAny (model P w) callerA (.call (.ref fa) ⟨[.ref a],[]⟩) (fun r s'=>r=.ok (.ret (.bool true))∧OldK s₁.heap s'.heap∧s'.os=s₁.os∧AllBare s'.gens) s₁:=by
  intro H hO hS hok hA hK
  have base_of:∀ {b:Addr}{o:Obj},s₁.heap.get? b=some o→H b=none→(WZ s₁.heap H).get? b=some o:=fun e n=>WY e n
  have noA:∀ {b:Addr}{o:Obj}{es:Array DictEntry}{ep:Nat},s₁.heap.get? b=some o→o.data=.dict es ep→H b=none:=fun {b o es ep} e d=>by
   cases q:H b with
   |none=>rfl
   |some u =>
    have e':b=a:=hA b (by rw[q];simp)
    subst e'
    rw[ha] at e;cases e
    have d':Data.seq vs.toArray _=Data.dict es ep:=d
    cases d'
  have nsK:∀ {b:Addr}{m:Str→Option Value},s₁.heap.Ns b m→(WZ s₁.heap H).Ns b m:=fun {b m} ⟨o,es,ep,e,d,r⟩=>⟨o,es,ep,base_of e (noA e d),d,r⟩
  have hKb:K.In (WZ s₁.heap H):=fun b o e=>base_of (KX b o e) (by
   cases q:H b with
   |none=>rfl
   |some u =>
    have e':b=a:=hA b (by rw[q];simp)
    subst e'
    rw[hK (by rw[q];simp)] at e;cases e)
  have hM:Mod K mg (WZ s₁.heap H):=⟨hKb,nsK hns,⟨mb,nsK hb,hbb⟩,let ⟨mc,h1,h2⟩:=hlim;⟨mc,nsK h1,h2⟩⟩
  have e0:Env0 P w K mg (WZ s₁.heap H) callerA [] s₁ H:=⟨rfl,hM,fun b o e=>Uz e,Nat.le_of_eq (XF _ _),trivial,fun b hb=>absurd (show b∈([]:List Addr) from hb) (by simp),hok,.of_eq hg⟩
  refine codeAny_mono ((F _ hKb (nsK hns)).run callerA [] s₁ H ⟨[.ref a],[]⟩ [.ref a] [.ref a] _ _ hr e0 (hbind s₁ (.ref a)) (.cons rfl .nil) (hsp H hO hS)) fun r s' h=>?_
  cases r with
  |error e=>exact(hCX H e s' h).elim
  |ok fl =>
   cases fl with
   |next=>exact False.elim h
   |brk=>exact False.elim h
   |cont=>exact False.elim h
   |ret u =>
    obtain⟨v,H',os,bare,un,hok',r',q⟩:=h
    have q':v=.bl true:=q
    subst q'
    obtain rfl:u=Value.bool true:=r'
    refine⟨rfl,OldK.of_keep fun b o e=>?_,os,bare⟩
    cases q:H b with
    |none=>exact un.keep b o e q (by intro z;exact absurd (show b∈([]:List Addr) from z) (by simp)) (by simp)
    |some u =>
     rcases hO b with z | ⟨ob,xs,z⟩
     ·rw[q] at z;cases z
     ·have z2:=un.frzs b ob _ z
      obtain⟨e1,_⟩:=hok b _ z
      obtain⟨e2,_⟩:=hok' b _ z2
      rw[e] at e1;cases e1
      exact e2
 cases hk:K.lookup a with
 |some o =>
  -- the script is one of the module's own objects
  have e:=KX a o hk
  rw[ha] at e
  cases e
  refine core (fun _=>none) (fun _=>.inl rfl) (.inr ⟨_,vs.toArray,_,hk,rfl,rfl,rfl,by rw[List.size_toArray,lenV];exact hl,by simpa using rv⟩) (fun b u z=>by have z':(none:Option HO)=some u:=z;cases z') (fun b z=>absurd rfl z) fun z=>absurd rfl z
 |none =>
  refine core (fun b=>if b=a then some (.frz { cls:=.type "list",data:=.seq vs.toArray } (.lst (ns.map V.int))) else none) (fun b=>?_) (.inl (.inr ⟨{ cls:=.type "list",data:=.seq vs.toArray },if_pos rfl⟩)) (fun b u z=>?_) (fun b z=>?_) fun _=>hk
  ·by_cases hb:b=a
   ·exact .inr ⟨_,_,if_pos hb⟩
   ·exact .inl (if_neg hb)
  ·by_cases hb:b=a
   ·have z':=(if_pos hb).symm.trans z
    cases z'
    subst hb
    exact⟨ha,by rw[List.length_map];exact hl,vs,_,rv,ha⟩
   ·have z':=(if_neg hb).symm.trans z
    cases z'
  ·by_cases hb:b=a
   ·exact hb
   ·exact absurd (if_neg hb) z
end L2
namespace L2
open PySem PySem.Spec PyProof.Rows
noncomputable abbrev KOf {K:PySem.W.Frag}{h:Heap}(_:K.In h):PySem.W.Frag:=K
theorem VO {l:PySem.W.OpenLaw}{n k:Nat}{q:Program}{loose:List Str}{XP:(Str→Option Value)→Heap→Prop}{YP:World→Heap→Prop}{d:DefRec}{K:Params→PySem.W.Frag}{CX:World→CXT}{sp:World→Sp}{x:Str}
  (hn:l.most=some n) (hn2:n≤sizeLine) (hdf:d.params.defaults=[]) (hr:Room k callerA)
  (hY:∀ (w:World) (h:Heap),YP w h→(K w.params).In h)
  (F:∀ (w:World) (mg:Str→Option Value) (fa:Addr) (h:Heap),(K w.params).In h→h.Ns mainGlobals mg→mg d.name=some (.ref fa) →
   ∃ fd:FuncData,(∀ (s:Shared) (u:Value),BindsTo s fd ⟨[u],[]⟩ [(x,u)]) ∧
    ∀ base:Heap,(K w.params).In base→base.Ns mainGlobals mg→FnOk l.prog w (K w.params) mg base (CX w) k fa fd [x] (sp w))
  (hsp:∀ (w:World) (H:Hp) (a:Addr) (ns:List Int),ns.length≤n→zdT H→SqL (K w.params) H a (ns.map V.int)→sp w [.ref a] H (fun v _=>v=.bl true) fun _ _ _=>False)
  (hCX:∀ (w:World) (H:Hp) (s:Shared) (e:Value) (s':Shared),CX w [] H s (fun _ _ _=>False) e s'→False) :
  PySem.W.WalkO q loose XP YP l.row.toRowW d [] (fun f vs=>PySem.call f vs):=by
 refine Att.attach_call hn hdf fun w s₀ s₁ mg mb fa o pm cd doc a vs ns G Y ho hd hcd hmg hobj hints hlen hg=>?_
 have KX:=hY w _ Y
 obtain⟨fd,hb,hF⟩:=F w mg fa _ KX G.T.g hmg
 exact WO KX G.T.g G.T.b G.T.builtins G.T.nolimit hg hobj hints (Nat.le_trans hlen hn2) hr hF hb (fun H hO hS=>hsp w H a ns hlen hO hS) fun H e s'=>hCX w H s₁ e s'
theorem walk_ofK {l:PySem.W.OpenLaw}{n k:Nat}{q:Program}{loose:List Str}{XP:(Str→Option Value)→Heap→Prop}{YP:World→Heap→Prop}{d:DefRec}{K:Params→PySem.W.Frag}{CX:CXT}{sp:PySem.W.Frag→Sp}{x:Str}
  (hn:l.most=some n) (hn2:n≤sizeLine) (hdf:d.params.defaults=[]) (hr:Room k callerA)
  (hY:∀ (w:World) (h:Heap),YP w h→(K w.params).In h)
  (F:∀ (w:World) (mg:Str→Option Value) (fa:Addr) (h:Heap),(K w.params).In h→h.Ns mainGlobals mg→mg d.name=some (.ref fa) →
   ∃ fd:FuncData,(∀ (s:Shared) (u:Value),BindsTo s fd ⟨[u],[]⟩ [(x,u)]) ∧
    ∀ base:Heap,(K w.params).In base→base.Ns mainGlobals mg→FnOk l.prog w (K w.params) mg base CX k fa fd [x] (sp (K w.params)))
  (hsp:∀ (K:PySem.W.Frag) (H:Hp) (a:Addr) (ns:List Int),ns.length≤n→zdT H→SqL K H a (ns.map V.int)→sp K [.ref a] H (fun v _=>v=.bl true) fun _ _ _=>False)
  (hCX:∀ (H:Hp) (s:Shared) (e:Value) (s':Shared),CX [] H s (fun _ _ _=>False) e s'→False) :
  PySem.W.WalkO q loose XP YP l.row.toRowW d [] (fun f vs=>PySem.call f vs) :=
 VO (K:=K) (CX:=fun _=>CX) (sp:=fun w=>sp (K w.params)) hn hn2 hdf hr hY F (fun w H a ns h1 h2 h3=>hsp (K w.params) H a ns h1 h2 h3) fun _ H s e s'=>hCX H s e s'
end L2
namespace L2
open PySem PySem.Spec PyProof.Rows
noncomputable def inClass (s:Stmt) (j:Nat):Stmt:=match s with
 |.ClassDef _ _ _ body _ _ _ _ _ _ _=>body.getD j (.Pass ⟨0,0,0,0⟩)
 |_=>.Pass ⟨0,0,0,0⟩
noncomputable def defArgs (s:Stmt):Arguments:=match s with
 |.FunctionDef _ a _ _ _ _ _ _ _ _=>a
 |_=>{ posonlyargs:=[],args:=[],vararg:=none,kwonlyargs:=[],kw_defaults:=[],kwarg:=none,defaults:=[] }
noncomputable def defBody (s:Stmt):List Stmt:=match s with
 |.FunctionDef _ _ b _ _ _ _ _ _ _=>b
 |_=>[]
noncomputable def defScope (s:Stmt):Scope:=match s with
 |.FunctionDef _ _ _ _ _ _ sc _ _ _=>sc
 |_=>{ kind:=.function,names:=[],isGenerator:=false,isCoroutine:=false }
abbrev CX0:CXT:=fun _ _ _ _ _ _=>False
abbrev E0:XK:=fun _ _ _=>False
theorem Wy {X:Cx}:xC CX0 X E0:=fun _ _ _ _ _ _ _ h=>h.elim
structure Fun (K:PySem.W.Frag) (x qual:Str) (st:Stmt) (f:Addr) (fd:FuncData):Prop where
 ex:∃ (oc:Value) (od:Option Addr) (kV doc pm:Value) (an:Option Addr) (cdv ct:Value) (osl:Array (Option Value)),
  fd=PySem.W.fnOf x qual (defArgs st) (defBody st) (defScope st) .none kV doc pm an cdv ct∧K.lookup f=some ⟨oc,od,.func fd,osl⟩∧PySem.W.codeIn K cdv qual=true
 kp:PySem.W.keepIn K (.ref f)=true
section
variable {P:Program}{w:World}{K:PySem.W.Frag}{mg:Str→Option Value}{base:Heap}
theorem Fun.ok {x qual:Str}{st:Stmt}{f:Addr}{fd:FuncData}{N ps:List Str}{k:Nat}{sp:Sp}(F:Fun K x qual st f fd) (S:FnScope N ps (defScope st)) (len:∀ vs H Q E,sp vs H Q E→vs.length=ps.length)
  (hbody:∀ (cdv:Value) (A:Around) (outer:List Env) (s:Shared) (H:Hp) (vs:List V) (Q:VK) (E:XK),Room k (A.deeper (envOfC qual (defScope st) s.heap.objs.size f cdv))→sp vs H Q E →
   ∃ t,PSs (yc CX0 P w K mg base N qual (defScope st) f cdv A outer s H E).nox (defBody st) t∧t { nx:=fun _ H'=>Q .non H',rt:=Q } (start N vs) H):FnOk P w K mg base CX0 (k+1) f fd ps sp:=by
 obtain⟨oc,od,kV,doc,pm,an,cdv,ct,osl,rfl,lk,hcd⟩:=F.ex
 refine zdK lk hcd S len fun A outer s H vs Q E hr hsp=>?_
 obtain⟨t,h,q⟩:=hbody cdv A outer s H vs Q E hr hsp
 exact⟨t,h.nox,q⟩
theorem Fun.binds {x qual:Str}{st:Stmt}{f:Addr}{fd:FuncData}{ps:List Str}(F:Fun K x qual st f fd)
  (h:∀ (kV doc pm:Value) (an:Option Addr) (cdv ct:Value) (us:List Value),us.length=ps.length→bindArgs (PySem.W.fnOf x qual (defArgs st) (defBody st) (defScope st) .none kV doc pm an cdv ct) ⟨us,[]⟩=pure (ps.zip us)):Binds K fd ps []:=by
 obtain⟨oc,od,kV,doc,pm,an,cdv,ct,osl,rfl,lk,hcd⟩:=F.ex
 exact .all (h kV doc pm an cdv ct)
theorem zw {x qual:Str}{st:Stmt}{f:Addr}{oc:Value}{od an:Option Addr}{osl:Array (Option Value)}{kV doc pm cdv ct:Value}(l:K.lookup f=some ⟨oc,od,.func (PySem.W.fnOf x qual (defArgs st) (defBody st) (defScope st) .none kV doc pm an cdv ct),osl⟩)
  (c:PySem.W.codeIn K cdv qual=true) (k:PySem.W.keepIn K (.ref f)=true):Fun K x qual st f (PySem.W.fnOf x qual (defArgs st) (defBody st) (defScope st) .none kV doc pm an cdv ct):=⟨⟨oc,od,kV,doc,pm,an,cdv,ct,osl,rfl,l,c⟩,k⟩
end
theorem ziz {A:Around}{k:Nat}(hr:Room k A):A.units+1<cLine:=Nat.lt_of_le_of_lt (Nat.add_le_add_left (by decide:1≤64) _) hr.units
theorem small1000 {n:Nat}(h:n≤1000):n<sizeLine:=Nat.lt_of_le_of_lt h (by decide)
section
variable {X:Cx}
theorem pv (i:Nat){x:Str}{pos:Pos}(hN:X.N[i]?=some x:=by rfl) (hv:Vis X.env.scope x:=by first | exact Or.inl rfl | exact Or.inr (Or.inl rfl) | exact Or.inr (Or.inr rfl)) (hd:(x == ("__debug__" : Str))=false:=by decide)
  (hcd:(x == ("__classdict__" : Str))=false:=by decide):PE X (.Name x pos) (U1 i):=zcP hN hv hd hcd
end
theorem wq {A B:Prop}(h:B):if false=true then A else B:=by
 rw[if_neg Bool.false_ne_true]
 exact h
theorem wB {A B:Prop}(h:A):if true=true then A else B:=by
 rw[if_pos rfl]
 exact h
theorem ite2 {c A B:Prop} [Decidable c] (h1:c→A) (h2:¬ c→B):if c then A else B:=by
 by_cases h:c
 ·rw[if_pos h]
  exact h1 h
 ·rw[if_neg h]
  exact h2 h
def Same (H H':Hp):Prop:=∀ b o,H b=some o→H' b=some o
theorem Same.refl (H:Hp):Same H H:=fun _ _ h=>h
theorem Same.trans {H H1 H2:Hp}(a:Same H H1) (b:Same H1 H2):Same H H2:=fun c o h=>b c o (a c o h)
theorem Same.free {H H':Hp}(e:Same H H'){l:Addr}(h:H' l=Option.none):H l=Option.none:=by
 cases q:H l with
 |none=>rfl
 |some o =>
  rw[e l o q] at h
  cases h
end L2

set_option maxHeartbeats 4000000
namespace L2
open PySem PySem.Spec PyProof.Rows
def zbn (t u:TS):TS:=fun D σ H=>∃ M:St→Hp→Prop,t { D with nx:=M } σ H∧∀ σ' H',M σ' H'→u D σ' H'
theorem Uc {X:Cx}{st:Stmt}{rest:List Stmt}{t u:TS}(h1:PS X st t) (h2:PSs X rest u):PSs X (st::rest) (zbn t u):=by
 intro pins s σ H D I h
 obtain⟨M,h,hM⟩:=h
 refine wpAny_execs_cons (thn (h1 pins s σ H { D with nx:=M } I h) fun f s1 q=>?_)
 cases f with
 |next =>
  obtain⟨σ',H',I',q⟩:=q
  exact h2 pins s1 σ' H' D I' (hM σ' H' q)
 |brk=>exact q
 |cont=>exact q
 |ret u=>exact q
theorem zP {c:Bool}{A B:Prop}(hc:c=true) (h:A):if c=true then A else B:=by rw[if_pos hc];exact h
theorem iteN {c:Bool}{A B:Prop}(hc:c=false) (h:B):if c=true then A else B:=by rw[hc];exact wq h
def PTs (X:Cx) (ifs:List Expr) (t:TT):Prop :=
 ∀ (pins:List (Addr×Obj)) (s:Shared) (σ:St) (H:Hp) (Q:Bool→Hp→Prop),Inv X pins σ H s→t σ H Q →
  wpAny (model X.prog X.w) X.A (forIn ifs true fun c r=>if r=true then do let ok ← isTrue c X.env (eval c X.env);pure (ForInStep.yield ok) else pure (ForInStep.yield r)) (TP X pins σ Q) X.xe s
def zg9:TT:=fun _ H Q=>Q true H
theorem Y1 {X:Cx}:PTs X [] zg9:=fun _ _ _ H _ I h=>wpAny_tests_nil ⟨H,I,h⟩
theorem Ub {X:Cx}{c:Expr}{t:TT}(h:PT X c t):PTs X [c] t:=fun pins s σ H Q I hw=>wpAny_tests_one (h pins s σ H Q I hw)
section
variable {prog:Program}{w:World}{A:Around}{R:Result→Shared→Prop}{s:Shared}
abbrev NoE:Value→Shared→Prop:=fun _ _=>False
theorem zii {α:Type}{m:Sem α}{Q:α→Shared→Prop}{E:Value→Shared→Prop}{s:Shared}(h:wpAny (model prog w) A m Q NoE s):wpAny (model prog w) A m Q E s :=
 wpAny_mono h (fun _ _ q=>q) fun _ _ z=>z.elim
def X4 (prog:Program) (w:World) (A:Around) (env:Env) (tg:Expr) (ifs:List Expr) (elt:Expr) (it acc:Value) (again:Shared→Prop) (v:Value) (s1:Shared):Prop :=
 wpAny (model prog w) A (letOwnedTupleGo tg it v) (fun _ s2=>wpAny (model prog w) A (assign tg env v) (fun _ s3 =>
  wpAny (model prog w) A (forIn ifs true fun c r=>if r=true then do let ok ← isTrue c env (eval c env);pure (ForInStep.yield ok) else pure (ForInStep.yield r)) (fun ok s4 =>
   if ok=true then wpAny (model prog w) A (eval elt env) (fun x s5=>wpAny (model prog w) A (call (.builtin "list.append") [acc,x]) (fun _ s6=>again s6) NoE s5) NoE s4
   else again s4) NoE s3) NoE s2) NoE s1
theorem ZM {elt tg iter:Expr}{ifs:List Expr}{scope:Scope}{pos:Pos}{it acc:Value}{env:Env}(J:Nat→Shared→Prop)
  (turn:∀ n s,J n s→wpAny (model prog w) A (pyNext it) (fun r s1=>match r with
   |none=>R (.ok .next) s1
   |some v=>X4 prog w A env tg ifs elt it acc (fun s6=>∃ m,m<n∧J m s6) v s1) NoE s)
  (n:Nat) (h:J n s):codeAny (model prog w) A (.compLoop (.ListComp elt [⟨tg,iter,ifs,0⟩] scope pos) 0 it acc env) R s:=by
 refine codeAny_loop rfl J (fun n s hJ=>?_) n h
 show wpAny _ A ((compTurn (.ListComp elt [⟨tg,iter,ifs,0⟩] scope pos) 0 it acc env).onRaise (fun x=>do noteFrame x env;theTreesLotGoes x)) _ _ s
 refine wpAny_noted (zii ?_)
 rw[compTurn_list]
 refine wpAny_bind (wpAny_standAt (wpAny_bind (thn (turn n s hJ) fun r s1 h1=>?_)))
 cases r with
 |none=>exact wpAny_pure h1
 |some v =>
  refine wpAny_bind (thn h1 fun _ s2 h2=>wpAny_bind (thn h2 fun _ s3 h3=>wpAny_bind (thn h3 fun ok s4 h4=>?_)))
  cases ok with
  |false=>exact wpAny_pure ⟨rfl,h4⟩
  |true=>exact wpAny_bind (wpAny_bind (thn h4 fun x s5 h5=>wpAny_bind (thn h5 fun _ s6 h6=>wpAny_pure (wpAny_pure ⟨rfl,h6⟩))))
end
theorem uw {env:Env}:∀ (names:List (Str×NameKind)) (acc:List (Str×Addr)),(∀ y∈names,y.2=.free→∃ c,env.cells.lookup y.1=some c)→(∀ x c,acc.lookup x=some c→env.cells.lookup x=some c) →
  ∃ cl,(forIn names acc (fun(y:Str×NameKind) (cs:List (Str×Addr))=>(if (y.2 == NameKind.free)=true then(do let c ← cellOf env y.1;pure (ForInStep.yield ((y.1,c)::cs))) else pure (ForInStep.yield cs):Sem (ForInStep (List (Str×Addr))))))=(pure cl:Sem (List (Str×Addr))) ∧
   (∀ x c,cl.lookup x=some c→env.cells.lookup x=some c)∧(∀ x,(acc.lookup x).isSome=true→(cl.lookup x).isSome=true)∧(∀ y∈names,y.2=.free→(cl.lookup y.1).isSome=true)
 |[],acc,_,h2=>⟨acc,rfl,h2,fun _ h=>h,fun y hy=>by cases hy⟩
 |(n,k)::r,acc,h1,h2=>by
  have h1':∀ y∈r,y.2=.free→∃ c,env.cells.lookup y.1=some c:=fun y hy=>h1 y (List.mem_cons_of_mem _ hy)
  by_cases hk:k=.free
  ·subst hk
   obtain⟨c,hc⟩:=h1 (n,.free) List.mem_cons_self rfl
   have h2':∀ x c',(((n,c)::acc:List (Str×Addr)).lookup x)=some c'→env.cells.lookup x=some c':=fun x c' e=>by
    rw[List.lookup_cons] at e
    by_cases hx:(x == n)=true
    ·rw[hx] at e
     cases e
     rw[beq_iff_eq.mp hx]
     exact hc
    ·rw[Bool.not_eq_true] at hx
     rw[hx] at e
     exact h2 x c' e
   obtain⟨cl,e,p1,p2,p3⟩:=uw r ((n,c)::acc) h1' h2'
   refine⟨cl,?_,p1,fun x hx=>p2 x ?_,fun y hy hf=>?_⟩
   ·rw[List.forIn_cons]
    have q:cellOf env n=pure c:=by unfold cellOf;rw[hc]
    simp only[beq_self_eq_true,if_true,q,pure_bind]
    exact e
   ·rw[List.lookup_cons]
    cases q:x == n with
    |true=>rfl
    |false=>exact hx
   ·rcases List.mem_cons.mp hy with rfl | hy
    ·exact p2 n (by rw[List.lookup_cons,beq_self_eq_true];rfl)
    ·exact p3 y hy hf
  ·obtain⟨cl,e,p1,p2,p3⟩:=uw r acc h1' h2
   have hb:(k == NameKind.free)=false:=by simpa using hk
   refine⟨cl,?_,p1,p2,fun y hy hf=>?_⟩
   ·rw[List.forIn_cons]
    simp only[hb,Bool.false_eq_true,if_false,pure_bind]
    exact e
   ·rcases List.mem_cons.mp hy with rfl | hy
    ·exact absurd hf hk
    ·exact p3 y hy hf
structure Clos (env:Env) (scope:Scope) (cl:List (Str×Addr)):Prop where
 eq:closureFor scope env=pure cl
 sub:∀ x c,cl.lookup x=some c→env.cells.lookup x=some c
 all:∀ y∈scope.names,y.2=.free→(cl.lookup y.1).isSome=true
theorem XX {env:Env}{scope:Scope}(h:∀ y∈scope.names,y.2=.free→∃ c,env.cells.lookup y.1=some c):∃ cl,Clos env scope cl:=by
 obtain⟨cl,e,p1,p2,p3⟩:=uw (env:=env) scope.names [] h (fun x c z=>by simp at z)
 refine⟨cl,⟨?_,p1,p3⟩⟩
 have q:closureFor scope env=(forIn scope.names [] (fun(y:Str×NameKind) (cs:List (Str×Addr))=>(if (y.2 == NameKind.free)=true then(do let c ← cellOf env y.1;pure (ForInStep.yield ((y.1,c)::cs))) else pure (ForInStep.yield cs):Sem (ForInStep (List (Str×Addr))))) >>= fun s=>pure s):=rfl
 rw[q,e,pure_bind]
noncomputable abbrev yQ (X:Cx) (scope:Scope) (N':List Str) (cl:List (Str×Addr)) (C:Addr) (s₀:Shared) (H₀:Hp) (fp:List Addr):Cx :=
 { X with N:=N',s₀:=s₀,H₀:=H₀,env:=compEnvC scope cl C X.env,outer:=X.stack,ex:=fp,fn:=fun _=>false,pn:=[],xe:=NoE }
structure Blk where
 cl:List (Str×Addr)
 C:Addr
 s₀:Shared
 H₀:Hp
 fp:List Addr
noncomputable abbrev cxB (X:Cx) (scope:Scope) (N':List Str) (b:Blk):Cx:=yQ X scope N' b.cl b.C b.s₀ b.H₀ b.fp
noncomputable def XC:Option NameKind→Bool
 |some .cell=>true
 |some .free=>true
 |_=>false
theorem xI {k:Option NameKind}(h:XC k=true):k=some .cell∨k=some .free:=by
 cases k with
 |none=>cases h
 |some k=>cases k<;>first | exact .inl rfl | exact .inr rfl | cases h
noncomputable def W9 (N:List Str) (kd kd':Str→Option NameKind) (N':List Str) (t:Nat):List Nat→Nat→Bool
 |[],k=>N'.length == t+k
 |j::r,k=>(match N[j]?,N'[t+k]? with
  |some x,some y=>(x == y)&&XC (kd x)&&XC (kd' x)
  |_,_=>false)&&W9 N kd kd' N' t r (k+1)
theorem vU {N:List Str}{kd kd':Str→Option NameKind}{N':List Str}{t:Nat}:∀ {caps:List Nat}{k:Nat},W9 N kd kd' N' t caps k=true→N'.length=t+k+caps.length
 |[],k,h=>by
  have:=beq_iff_eq.mp h
  simpa using this
 |j::r,k,h=>by
  have:=vU (Bool.and_eq_true_iff.mp h).2
  rw[List.length_cons]
  omega
theorem Zg {N:List Str}{kd kd':Str→Option NameKind}{N':List Str}{t:Nat}:∀ {caps:List Nat}{k i j:Nat},W9 N kd kd' N' t caps k=true→caps[i]?=some j →
  ∃ x,N[j]?=some x∧N'[t+k+i]?=some x∧XC (kd x)=true∧XC (kd' x)=true
 |[],_,_,_,_,e=>by simp at e
 |j::r,k,0,j',h,e=>by
  simp at e
  subst e
  have h1:=(Bool.and_eq_true_iff.mp h).1
  cases q:N[j]? with
  |none=>rw[q] at h1;cases h1
  |some x =>
   cases q':N'[t+k]? with
   |none=>rw[q,q'] at h1;cases h1
   |some y =>
    rw[q,q'] at h1
    obtain⟨h2,h3⟩:=Bool.and_eq_true_iff.mp h1
    obtain⟨h4,h5⟩:=Bool.and_eq_true_iff.mp h2
    obtain rfl:x=y:=beq_iff_eq.mp h4
    exact⟨x,rfl,rfl,h5,h3⟩
 |j::r,k,i+1,j',h,e=>by
  obtain⟨x,a,b,c,d⟩:=Zg (i:=i) (Bool.and_eq_true_iff.mp h).2 (by simpa using e)
  refine⟨x,a,?_,c,d⟩
  have q:t+(k+1)+i=t+k+(i+1):=by omega
  rw[← q]
  exact b
structure CompOk (X:Cx) (scope:Scope) (N':List Str) (t:Nat) (caps:List Nat):Prop where
 kind:scope.kind=.function
 shape:(scope.names.all fun y=>(y.2 == .local&&scope.names.lookup y.1 == some .local)||(y.2 == .free&&XC (X.env.kindOf y.1))||(y.2 == .globalImplicit))=true
 cap:W9 X.N X.env.kindOf (compEnvC scope [] 0 X.env).kindOf N' t caps 0=true
theorem CompOk.at {X:Cx}{scope:Scope}{N':List Str}{t:Nat}{caps:List Nat}(S:CompOk X scope N' t caps){y:Str×NameKind}(hy:y∈scope.names) :
  y.2≠.cell∧(y.2=.local→scope.names.lookup y.1=some .local)∧(y.2=.free→XC (X.env.kindOf y.1)=true):=by
 have h:=List.all_eq_true.mp S.shape y hy
 obtain⟨n,k⟩:=y
 cases k<;>simp at h<;>simp[h]
noncomputable def zdO (t:Nat) (caps:List Nat) (σ:St):St:=List.replicate t none++caps.map fun j=>(σ[j]?).join
theorem xv {scope:Scope}{env:Env}{x:Str}:∀ {names:List (Str×NameKind)},(∀ y∈names,y.2≠.cell)→XC ((names.map fun(y:Str×NameKind)=>if (y.2 == NameKind.free&&env.scope.kind == .function&&env.kindOf y.1 == some .cell)=true then(y.1,NameKind.cell) else(y.1,y.2)).lookup x)=true →
  (x,NameKind.free)∈names
 |[],_,h=>by simp[XC] at h
 |(n,k)::r,hn,h=>by
  have hr:∀ y∈r,y.2≠.cell:=fun y hy=>hn y (List.mem_cons_of_mem _ hy)
  have hk:k≠.cell:=hn (n,k) List.mem_cons_self
  rw[List.map_cons] at h
  by_cases hx:(x == n)=true
  ·obtain rfl:x=n:=beq_iff_eq.mp hx
   have q:k=.free:=by
    by_cases hf:k=.free
    ·exact hf
    ·exfalso
     have hb:(k == NameKind.free)=false:=by simpa using hf
     simp only[hb,Bool.false_and,Bool.false_eq_true,if_false,List.lookup_cons,beq_self_eq_true] at h
     cases k<;>simp[XC] at h hk hf
   subst q
   exact List.mem_cons_self
  ·rw[Bool.not_eq_true] at hx
   refine List.mem_cons_of_mem _ (xv (scope:=scope) (env:=env) hr ?_)
   by_cases hc:(k == NameKind.free&&env.scope.kind == .function&&env.kindOf n == some .cell)=true
   ·simp only[hc,if_true,List.lookup_cons,hx] at h
    exact h
   ·rw[Bool.not_eq_true] at hc
    simp only[hc,Bool.false_eq_true,if_false,List.lookup_cons,hx] at h
    exact h
def X6 (J:It) (g:TG) (tc:TT) (te:TE) (Q:VK) (D:Addr) (τ0:St) (H0:Hp):Prop :=
 ∃ W:Nat→Nat→List V→St→Hp→Prop,(∃ m,W 0 m [] τ0 H0)∧∀ i m ys τ H,W i m ys τ H →
  (J.stop i H∧Q (.ref D) H)∨(J.go i H∧∃ N:List V→St→Hp→Prop,(∀ zs τ' H',N zs τ' H'→∃ m',m'<m∧W (i+1) m' zs τ' H')∧∀ x H3,J.yld i H x H3→g x τ H3 fun τ2 H4=>tc τ2 H4 fun b H5 =>
   if b=true then te τ2 H5 fun y H6=>H6 D=some (.lst ys)∧ys.length<sizeLine∧N (ys++[y]) τ2 (upd H6 D (.lst (ys++[y]))) else N ys τ2 H5)
def Wi (wi:TI) (g:Blk→TG) (tc:Blk→TT) (te:Blk→TE) (t:Nat) (caps:List Nat):TE:=fun σ H Q =>
 wi σ H fun J H1=>∀ D,H1 D=none→∀ b:Blk,X6 J (g b) (tc b) (te b) Q D (zdO t caps σ) (upd H1 D (.lst []))
theorem XW {J:It}{g:TG}{tc:TT}{te:TE}{Q:VK}{D:Addr}{τ0:St}{H0:Hp}(n:Nat) (Pv:Nat→List V→St→Hp→Prop) (h0:Pv 0 [] τ0 H0)
  (hst:∀ zs τ H,Pv n zs τ H→J.stop n H∧Q (.ref D) H)
  (hgo:∀ i zs τ H,i<n→Pv i zs τ H→J.go i H∧∀ x H3,J.yld i H x H3→g x τ H3 fun τ2 H4=>tc τ2 H4 fun b H5 =>
   if b=true then te τ2 H5 fun y H6=>H6 D=some (.lst zs)∧zs.length<sizeLine∧Pv (i+1) (zs++[y]) τ2 (upd H6 D (.lst (zs++[y]))) else Pv (i+1) zs τ2 H5):X6 J g tc te Q D τ0 H0:=by
 refine⟨fun i m zs τ H=>m=n-i∧i≤n∧Pv i zs τ H,⟨n,by simp,Nat.zero_le _,h0⟩,?_⟩
 rintro i m zs τ H ⟨rfl,hi,p⟩
 by_cases hlt:i<n
 ·obtain⟨go,step⟩:=hgo i zs τ H hlt p
  exact .inr ⟨go,Pv (i+1),fun zs' τ' H' p'=>⟨n-(i+1),by omega,rfl,hlt,p'⟩,step⟩
 ·have e:i=n:=by omega
  subst e
  exact .inl (hst zs τ H p)
theorem vS {K:PySem.W.Frag}{a:Addr}{xs:List V}{g:TG}{tc:TT}{te:TE}{Q:VK}{D:Addr}{τ0:St}{H0:Hp}(Pv:Nat→List V→St→Hp→Prop) (h0:Pv 0 [] τ0 H0) (hl:∀ i zs τ H,Pv i zs τ H→SqL K H a xs)
  (hs:∀ i x zs τ H,xs[i]?=some x→Pv i zs τ H→g x τ H fun τ2 H4=>tc τ2 H4 fun b H5 =>
   if b=true then te τ2 H5 fun y H6=>H6 D=some (.lst zs)∧zs.length<sizeLine∧Pv (i+1) (zs++[y]) τ2 (upd H6 D (.lst (zs++[y]))) else Pv (i+1) zs τ2 H5)
  (hd:∀ zs τ H,Pv xs.length zs τ H→Q (.ref D) H):X6 (Itl K a) g tc te Q D τ0 H0 :=
 XW xs.length Pv h0 (fun zs τ H p=>⟨⟨xs,hl _ _ _ _ p,Nat.le_refl _⟩,hd zs τ H p⟩) fun i zs τ H hi p=>⟨⟨xs,xs[i],hl _ _ _ _ p,by simp[hi]⟩,fun x H3 y=>by
  obtain⟨e,y⟩:=y
  subst e
  exact hs i x zs τ _ (y xs (hl _ _ _ _ p)) p⟩
section
variable {X:Cx}{tg iter elt:Expr}{ifs:List Expr}{scope:Scope}{pos:Pos}{N':List Str}{t:Nat}{caps:List Nat}{g:Blk→TG}{tc:Blk→TT}{te:Blk→TE}{wi:TI}
theorem FpOk.heap {pins:List (Addr×Obj)}{H H':Hp}{b:Addr}(f:FpOk X pins H b) (h:H' b=none):FpOk X pins H' b:=⟨h,f.2⟩
theorem vT {cl:List (Str×Addr)}{J:It}{fp:List Addr}{it:Addr}{tn:Nat→Heap→Prop}{pins:List (Addr×Obj)}{σ:St}{H2:Hp}{s2:Shared}{Q:VK}{E:Value→Shared→Prop}
  (hc:X.calm=true) (S:CompOk X scope N' t caps) (L:Clos X.env scope cl)
  (hg:∀ b,PG (cxB X scope N' b) tg (g b)) (ht:∀ b,PTs (cxB X scope N' b) ifs (tc b)) (he:∀ b,PE (cxB X scope N' b) elt (te b))
  (I2:Inv X pins σ H2 s2) (T:Turn X.prog X.w X.K tg J fp it tn) (st2:tn 0 s2.heap) (f2:∀ b∈fp,FpOk X pins H2 b)
  (R:∀ D,H2 D=none→∀ b,X6 J (g b) (tc b) (te b) Q D (zdO t caps σ) (upd H2 D (.lst []))) :
  wpAny (model X.prog X.w) X.A (newList []) (fun acc s3=>wpAny (model X.prog X.w) X.A (newFunctionEnv scope X.env.globals cl [] X.env.qual none .none (some X.env)) (fun cenv s4 =>
   codeAny (model X.prog X.w) X.A (.compStart (.ListComp elt [⟨tg,iter,ifs,0⟩] scope pos) 0 (.ref it) acc { cenv with scope:=relabel scope X.env })
    (fun r s'=>∃ (D:Addr) (H':Hp) (m:Str→Option Value),acc=.ref D∧r=.ok .next∧Inv X pins σ H' s'∧s'.heap.Ns cenv.locals m∧FpOk X pins H' cenv.locals∧Q (.ref D) H') s4) E s3) E s2:=by
 refine wpAny_newObj_type ?_
 have I3:Inv X pins σ (upd H2 s2.heap.objs.size (.lst [])) { s2 with heap:=s2.heap.push { cls:=.type "list",data:=.seq ([]:List Value).toArray } }:=I2.lnew (t':=s2.toks) .nil (Nat.zero_le _)
 have hD:H2 s2.heap.objs.size=none:=I2.fresh
 have R:=R _ hD
 generalize hs3:({ s2 with heap:=s2.heap.push { cls:=.type "list",data:=.seq ([]:List Value).toArray } }:Shared)=s3 at I3 ⊢
 generalize hH3:upd H2 s2.heap.objs.size (.lst [])=H3 at I3 R
 generalize hDD:s2.heap.objs.size=D at R ⊢
 have k3:∀ b o,s2.heap.get? b=some o→s3.heap.get? b=some o:=fun b o e=>by rw[← hs3];exact Heap.get?_push_of_some _ e
 have st3:tn 0 s3.heap:=T.keep 0 _ _ st2 fun b _ o e=>k3 b o e
 have fpn:∀ b∈fp,H3 b=none:=fun b hb=>by
  obtain⟨o,e,_⟩:=T.obj 0 _ st2 b hb
  rw[← hH3,upd_ne (Nat.ne_of_lt (Heap.lt_size e))]
  exact(f2 b hb).1
 have f3:∀ b∈fp,FpOk X pins H3 b:=fun b hb=>(f2 b hb).heap (fpn b hb)
 refine wpAny_newFunctionEnv (fun y hy=>(S.at hy).1) (by intro y hy;simp at hy) (fun h4 hns hsb=>?_) S.kind
 generalize hC:s3.heap.objs.size=C at hns hsb ⊢
 have k4:∀ b o,s3.heap.get? b=some o→h4.get? b=some o:=fun b o e=>hsb.extBut b o (by rw[← hC];exact Nat.ne_of_lt (Heap.lt_size e)) (Heap.get?_push_of_some _ e)
 have cellsub:∀ x c,(yQ X scope N' cl C s3 H3 fp).env.cells.lookup x=some c→X.env.cells.lookup x=some c:=L.sub
 have hnc:∀ y∈scope.names,y.2≠.cell:=fun y hy=>(S.at hy).1
 have fC:∀ {H':Hp},H' C=none→FpOk X pins H' C:=fun h=>by rw[← hC] at h ⊢;exact I3.fpOk (Nat.le_refl _) h
 have I4:Inv (yQ X scope N' cl C s3 H3 fp) [] (zdO t caps σ) H3 { s3 with heap:=h4,toks:=s3.toks+([]:List (Str×Value)).length }:=by
  refine⟨⟨I3.ok.mod,S.kind,I3.ok.glob,I3.ok.blt,Nat.le_of_eq hC,fun x y c h1 h2=>I3.ok.inj x y c (L.sub _ _ h1) (L.sub _ _ h2),fun x hx=>?_,fun x c h _=>absurd (show false=true from h) Bool.false_ne_true,I3.ok.hd,I3.ok.frames,.inl rfl,fun b hb=>⟨?_,fun x c e=>(f3 b hb).2.2.2.2.1 x c (L.sub x c e)⟩,
    I3.bs,Nat.le_trans I3.ok.bsz I3.sz,fun b o e hb=>?_,fun b hb z=>?_,I3.stack,I3.stkFree⟩,
   rfl,I3.bare,Un.kept k4,⟨_,hns,fun i x v e1 e2 e3=>?_⟩,fun x c e=>?_,(by rw[← hC];exact I3.fresh),fun x c e=>I3.freeC x c (L.sub x c e),fun p hp=>?_,I3.hok.kept k4,?_⟩
  ·have hx':XC ((relabel scope X.env).names.lookup x)=true:=by
    rcases hx with q | q
    ·rw[show(relabel scope X.env).names.lookup x=some .cell from q];rfl
    ·rw[show(relabel scope X.env).names.lookup x=some .free from q];rfl
   exact Option.isSome_iff_exists.mp (L.all _ (xv (scope:=scope) hnc hx') rfl)
  ·obtain⟨o,e,_⟩:=T.obj 0 _ st3 b hb
   rw[← hC]
   exact Nat.ne_of_lt (Heap.lt_size e)
  ·rcases(f3 b hb).2.2.2.1 with z | z
   ·exact I3.ok.noex b o e z
   ·exact absurd (Nat.lt_of_lt_of_le (Nat.lt_of_lt_of_le (Heap.lt_size e) I3.ok.bsz) z) (Nat.lt_irrefl _)
  ·rcases List.mem_cons.mp (I3.stkSub b z) with q | q
   ·exact(f3 b hb).2.1 q
   ·exact(f3 b hb).2.2.1 q
  ·-- a name that was taken over
   unfold zdO at e2
   by_cases hi:i<t
   ·rw[List.getElem?_append_left (by simpa using hi),List.getElem?_replicate] at e2
    simp[hi] at e2
   ·rw[List.getElem?_append_right (by simpa using hi),List.length_replicate,List.getElem?_map] at e2
    cases q:caps[i-t]? with
    |none=>rw[q] at e2;simp at e2
    |some j =>
     rw[q] at e2
     obtain⟨y,c1,c2,c3,c4⟩:=Zg S.cap q
     have ei:t+0+(i-t)=i:=by omega
     rw[ei] at c2
     have exy:x=y:=Option.some.inj ((show N'[i]?=some x from e1).symm.trans c2)
     subst exy
     have e2':σ[j]?=some (some v):=by
      have e2:(σ[j]?).join=some v:=Option.some.inj e2
      cases r:σ[j]? with
      |none=>rw[r] at e2;cases e2
      |some z =>
       rw[r] at e2
       have e2:z=some v:=e2
       rw[e2]
     obtain⟨m,hn,hl⟩:=I3.loc
     have cf:=xI c3
     obtain⟨u,ru,lk⟩:=hl j x v c1 e2' (.inr (by
      rcases cf with z | z
      ·exact .inl z
      ·exact .inr z))
     refine⟨u,ru,.inr ⟨xI c4,?_⟩⟩
     rcases lk with⟨z,_⟩ | ⟨_,c,ec,zc⟩
     ·rcases cf with w | w<;>(rw[z] at w;cases w)
     ·have hfree:=xv (scope:=scope) (env:=X.env) (x:=x) hnc c4
      obtain⟨c',ec'⟩:=Option.isSome_iff_exists.mp (L.all _ hfree rfl)
      have:=L.sub _ _ ec'
      rw[show X.env.cells.lookup x=some c from ec] at this
      cases this
      obtain⟨o,ho,hd⟩:=zc
      exact⟨c,ec',o,k4 _ _ ho,hd⟩
  ·obtain⟨v,o,ho,hd⟩:=I3.cell x c (L.sub x c e)
   exact⟨v,o,k4 _ _ ho,hd⟩
  ·exact absurd (show p∈([]:List (Addr×Obj)) from hp) (by simp)
  ·unfold zdO
   rw[List.length_append,List.length_replicate,List.length_map,vU S.cap]
   omega
 obtain⟨W,⟨m0,w0⟩,turn⟩:=R ⟨cl,C,s3,H3,fp⟩
 -- back to the frame outside
 have back:∀ {τ:St}{H':Hp}{s':Shared},Inv (yQ X scope N' cl C s3 H3 fp) [] τ H' s'→Inv X pins σ H' s':=fun {τ H' s'} J=>by
  refine I3.call' (ch:=fp) (J.os.trans ?_) J.base J.hok J.bare fun b hb=>⟨(f3 b hb).2.2.2.1,(f3 b hb).2.1,(f3 b hb).2.2.2.2.1,(f3 b hb).2.2.2.2.2⟩
  rfl
 have stat:∀ {H':Hp},(∀ b∈fp,H' b=none)→∀ b∈fp,FpOk (yQ X scope N' cl C s3 H3 fp) [] H' b:=fun {H'} hn b hb=>by
  refine⟨hn b hb,(I4.ok.exf b hb).1,I4.ok.exfs b hb,.inl hb,(I4.ok.exf b hb).2,fun p hp=>?_⟩
  exact absurd (show p∈([]:List (Addr×Obj)) from hp) (by simp)
 have loop:codeAny (model X.prog X.w) X.A (.compLoop (.ListComp elt [⟨tg,iter,ifs,0⟩] scope pos) 0 (.ref it) (.ref D) (compEnvC scope cl C X.env))
   (fun r s'=>∃ (D':Addr) (H':Hp) (m:Str→Option Value),Value.ref D=.ref D'∧r=.ok .next∧Inv X pins σ H' s'∧s'.heap.Ns C m∧FpOk X pins H' C∧Q (.ref D') H') { s3 with heap:=h4,toks:=s3.toks+([]:List (Str×Value)).length }:=by
  refine ZM (fun n s'=>∃ i ys τ H',Inv (yQ X scope N' cl C s3 H3 fp) [] τ H' s'∧tn i s'.heap∧(∀ b∈fp,H' b=none)∧W i n ys τ H') ?_ m0 ⟨0,[],_,H3,I4,T.keep 0 _ _ st3 fun b _ o e=>k4 b o e,fpn,w0⟩
  rintro n s5 ⟨i,ys,τ,H5,I5,st5,fr5,w5⟩
  rcases turn i n ys τ H5 w5 with⟨stop,q⟩ | ⟨go,N,hN,step⟩
  ·refine thn (T.done (yQ X scope N' cl C s3 H3 fp) rfl rfl rfl hc i [] s5 τ H5 NoE I5 (stat fr5) st5 stop) fun r s6 ⟨hr,I6⟩=>?_
   subst hr
   obtain⟨m,hm,_⟩:=id I6.loc
   exact⟨D,H5,m,rfl,rfl,back I6,hm,fC I6.free,q⟩
  ·refine thn (T.item (yQ X scope N' cl C s3 H3 fp) rfl rfl rfl hc i [] s5 τ H5 NoE I5 (stat fr5) st5 go) fun r s6 ⟨u,hr,h6⟩=>?_
   subst hr
   refine thn h6 fun _ s7 hq0=>?_
   obtain⟨x,H7,I7,r7,y7,st7,fr7⟩:=hq0
   have I7':=I7.pinned (stat fr7) (T.obj _ _ st7)
   have again:∀ {τ9:St}{H9:Hp}{s9:Shared}{ys9:List V}{m':Nat},Inv (yQ X scope N' cl C s3 H3 fp) ([]++vq fp s7.heap) τ9 H9 s9→m'<n→W (i+1) m' ys9 τ9 H9 →
     ∃ m,m<n∧∃ i ys τ H',Inv (yQ X scope N' cl C s3 H3 fp) [] τ H' s9∧tn i s9.heap∧(∀ b∈fp,H' b=none)∧W i m ys τ H':=fun {τ9 H9 s9 ys9 m'} I9 hm w9=>by
    refine⟨m',hm,i+1,ys9,τ9,H9,I9.unpinned,T.keep _ _ _ st7 fun b hb o e=>(I9.pin (b,o) (List.mem_append_right _ (List.mem_append_right _ (yN hb e)))).1,fun b hb=>?_,w9⟩
    obtain⟨o,e,_⟩:=T.obj _ _ st7 b hb
    exact(I9.pin (b,o) (List.mem_append_right _ (List.mem_append_right _ (yN hb e)))).2.1
   refine thn (hg ⟨cl,C,s3,H3,fp⟩ _ s7 τ H7 x u _ I7' r7 (step x H7 y7)) fun _ s8 hq0=>?_
   obtain⟨τ8,H8,I8,q8⟩:=hq0
   refine thn (ht ⟨cl,C,s3,H3,fp⟩ _ s8 τ8 H8 _ I8 q8) fun ok s9 hq0=>?_
   obtain⟨H9,I9,q9⟩:=hq0
   cases ok with
   |false =>
    obtain⟨m',hm,w9⟩:=hN _ _ _ (show N ys τ8 H9 from q9)
    exact again I9 hm w9
   |true =>
    refine thn (he ⟨cl,C,s3,H3,fp⟩ _ s9 τ8 H9 _ I9 q9) fun y s10 hq0=>?_
    obtain⟨z,H10,I10,r10,hl,hz,q10⟩:=hq0
    refine thn (zS _ s10 τ8 H10 (.ref D) [z] (.ref D) [y] (fun v H11=>v=.non∧H11=upd H10 D (.lst (ys++[z]))) I10 rfl (.cons r10 .nil) ⟨D,ys,z,rfl,rfl,hl,hz,rfl,rfl⟩) fun _ s11 hq0=>?_
    obtain⟨v,H11,I11,_,_,e11⟩:=hq0
    subst e11
    obtain⟨m',hm,w10⟩:=hN _ _ _ q10
    exact again I11 hm w10
 exact codeAny_compStart_list loop (T.self _ 0 _ _ _ (T.keep 0 _ _ st3 fun b _ o e=>k4 b o e) loop)
theorem Xc (hc:X.calm=true) (S:CompOk X scope N' t caps) (hi:PI X tg iter wi)
  (hg:∀ b,PG (cxB X scope N' b) tg (g b)) (ht:∀ b,PTs (cxB X scope N' b) ifs (tc b)) (he:∀ b,PE (cxB X scope N' b) elt (te b))
  (hs:∀ x,foldedSetIterable iter X.env x=pure x:=by intro _;rfl):PE X (.ListComp elt [⟨tg,iter,ifs,0⟩] scope pos) (Wi wi g tc te t caps):=by
 intro pins s σ H Q I h
 obtain⟨cl,L⟩:=XX (env:=X.env) (scope:=scope) fun y hy hf=>I.ok.has y.1 (xI ((S.at hy).2.2 hf))
 rw[eval_ListComp]
 refine wpAny_comprehension_free (use:=none) rfl hs L.eq S.kind (fun y hy=>(S.at hy).2.1) (thn (hi pins s σ H _ I h) fun x s1 h1=>thn h1 fun itv s2 h2=>?_)
 obtain⟨it,fp,tn,J,H2,rfl,I2,T,st2,f2,R⟩:=h2
 refine thn (vT hc S L hg ht he I2 T st2 f2 R) fun acc s3 h3=>thn h3 fun cenv s4 h4=>codeAny_mono h4 fun r s' hr=>?_
 obtain⟨D,H',m,rfl,rfl,I',hm,fC,q⟩:=hr
 obtain⟨c0,c1,c2,c3,c4,c5⟩:=fC
 exact⟨m,hm,fun h' sb=>⟨.ref D,H',I'.turned (t':=s'.toks) (fun b o hb e=>sb.extBut b o hb e) c0 c1 c3 c4 c5,rfl,q⟩⟩
theorem Zz {i:Nat}{y:Str}{py spos:Pos}(hc:X.calm=true) (hN:X.N.Nodup) (hiy:X.N[i]?=some y) (hy:Loc X.env.scope y) (S:CompOk X scope N' t caps) (hi:PI X tg iter wi)
  (hg:∀ b,PG (cxB X scope N' b) tg (g b)) (ht:∀ b,PTs (cxB X scope N' b) ifs (tc b)) (he:∀ b,PE (cxB X scope N' b) elt (te b))
  (hsw:swapsWith (.ListComp elt [⟨tg,iter,ifs,0⟩] scope pos) (some (.Name y py)) spos.line X.env=pure true:=by rfl)
  (hs:∀ x,foldedSetIterable iter X.env x=pure x:=by intro _;rfl) (hf:X.fn y=true∨X.env.scope.names.lookup y=some .local:=by first | exact .inl rfl | exact .inr rfl | assumption) :
  PS X (.Assign [.Name y py] (.ListComp elt [⟨tg,iter,ifs,0⟩] scope pos) spos) (Vi (Wi wi g tc te t caps) (wV i)):=by
 intro pins s σ H D' I h
 obtain⟨cl,L⟩:=XX (env:=X.env) (scope:=scope) fun y hy hf=>I.ok.has y.1 (xI ((S.at hy).2.2 hf))
 rw[exec_Assign_Name_used _ _ _ _ hsw]
 refine wpAny_bind (wpAny_standAt (wpAny_bind ?_))
 show wpAny _ X.A (comprehension (.ListComp elt [⟨tg,iter,ifs,0⟩] scope pos) scope X.env _ (newList []) false (eval iter X.env) (some (assign (.Name y py) X.env)) >>= fun _=>pure ()) _ _ s
 refine wpAny_bind (thn (Q:=fun _ s'=>SP X pins D' .next s') ?_ fun _ s' hq=>wpAny_pure (wpAny_pure hq))
 refine wpAny_comprehension_free (use:=some (assign (.Name y py) X.env)) rfl hs L.eq S.kind (fun y hy=>(S.at hy).2.1) (thn (hi pins s σ H _ I h) fun x s1 h1=>thn h1 fun itv s2 h2=>?_)
 obtain⟨it,fp,tn,J,H2,rfl,I2,T,st2,f2,R⟩:=h2
 refine thn (vT hc S L hg ht he I2 T st2 f2 R) fun acc s3 h3=>thn h3 fun cenv s4 h4=>codeAny_mono h4 fun r s' hr=>?_
 obtain⟨D,H',m,rfl,rfl,I',hm,fC,q⟩:=hr
 obtain⟨c0,c1,c2,c3,c4,c5⟩:=fC
 show wpAny _ X.A (assign (.Name y py) X.env (.ref D)) _ _ _
 refine wpAny_assign_Name (vj I' hN hiy hy (show RelV (.ref D) (.ref D) from rfl) (fun s'' I'' hq0=>?_) hf)
 obtain⟨a,sb,ha⟩:=hq0
 have hne:cenv.locals≠a:=by
  rcases ha with z | z
  ·rw[z];exact c1
  ·exact fun z'=>c4 y a z z'.symm
 refine⟨m,hm.sameBut sb hne,fun h' sb'=>?_⟩
 exact⟨_,H',I''.turned (t':=s''.toks) (fun b o hb e=>sb'.extBut b o hb e) c0 c1 c3 c4 c5,q⟩
end
end L2

namespace L2
open PySem PySem.Spec PyProof.Rows
def ziF (i j:Int):Prop:=0<j∧j.natAbs.log2<9000
section
variable {X:Cx}
theorem wL:OpR X (binaryOp .FloorDiv) (rI ziF fun i j=>.int (i/j)):=opI fun i j _ _ _ _ _ hc q=>by
 have e:i.fdiv j=i/j:=Int.fdiv_eq_ediv_of_nonneg i (Int.le_of_lt hc.1)
 exact floordiv_int (Ne.symm (Int.ne_of_lt hc.1)) (by rw[e];exact q) (.inl (PyProof.noPylong_of_log2 hc.2))
noncomputable def ziB:V→Option Value
 |.ty n=>some (.type n)
 |.ref a=>some (.ref a)
 |_=>none
theorem W8 {c:V}{cv u:Value}(h:ziB c=some cv) (r:RelV c u):u=cv:=by
 cases c<;>simp[ziB] at h
 ·exact(show u=Value.ref _ from r).trans h
 ·exact(show u=Value.type _ from r).trans h
def zqc (K:PySem.W.Frag):List V→Hp→VK→Prop:=fun xs H Q=>∃ x c t cv b,xs=[x,c]∧ziB c=some cv∧TyOf K H x t∧PySem.W.kitOne K t cv=some b∧Q (.bl b) H
theorem yb:xA X (.builtin "isinstance") (zqc X.K):=by
 intro pins s σ H xs us Q I r h
 obtain⟨x,c,t,cv,b,rfl,hc,ty,e,q⟩:=h
 obtain⟨u,v,rfl,r1,r2⟩:=r.two
 obtain rfl:=W8 hc r2
 exact XB I r1 ty e fun tk=>⟨.bl b,H,I.tok tk,rfl,q⟩
inductive EqD (K:PySem.W.Frag) (H:Hp):V→V→Bool→Nat→Prop where
 |flat {x y:V}{n:Nat}(fx:yW x=true) (fy:yW y=true):EqD K H x y (eqV x y) n
 |same {a:Addr}{n:Nat}:EqD K H (.ref a) (.ref a) true n
 |lst {a b:Addr}{xs ys:List V}{e:Nat→Bool}{n:Nat}(hne:a≠b) (ha:SqL K H a xs) (hb:SqL K H b ys) (hl:xs.length=ys.length) (h:∀ (j:Nat) x y,xs[j]?=some x→ys[j]?=some y→EqD K H x y (e j) n) :
   EqD K H (.ref a) (.ref b) ((List.range xs.length).all e) (n+1)
 |tup {a b:Addr}{xs ys:List V}{e:Nat→Bool}{n:Nat}(hne:a≠b) (ha:SqT K H a xs) (hb:SqT K H b ys) (hl:xs.length=ys.length) (h:∀ (j:Nat) x y,xs[j]?=some x→ys[j]?=some y→EqD K H x y (e j) n) :
   EqD K H (.ref a) (.ref b) ((List.range xs.length).all e) (n+1)
theorem wm (A:Around):A.in1.units=A.units+1:=rfl
theorem EqD.at {pins:List (Addr×Obj)}{σ:St}{H:Hp}{s:Shared}{x y:V}{b:Bool}{n:Nat}(I:Inv X pins σ H s) (h:EqD X.K H x y b n) :
  ∀ (A:Around) (u v:Value),A.units+n<cLine→RelV x u→RelV y v→SeqAt.EqAt A s u v b:=by
 induction h with
 |flat fx fy=>intro A u v _ rx ry;exact eqAt_V rx ry fx fy
 |same=>intro A u v _ rx ry;cases rx;cases ry;exact SeqAt.EqAt.same _
 | @lst a b xs ys e n hne ha hb hl h ih =>
  intro A u v hu rx ry
  cases rx;cases ry
  obtain⟨i1,r1,p1,_⟩:=I.list ha
  obtain⟨i2,r2,p2,_⟩:=I.list hb
  have l1:=r1.length
  have l2:=r2.length
  refine SeqAt.EqAt.of_refs hne ?_
  have q:=SeqAt.RcAt.lists (A:=A) (s:=s) (e:=e) p1.isList p2.isList (by simp;omega) (by omega) (fun j h1 h2=>?_)
  ·rw[List.size_toArray,← l1] at q
   exact q
  ·have g1:j<xs.length:=by rw[l1];simpa using h1
   have g2:j<ys.length:=by rw[l2];simpa using h2
   obtain⟨u1,e1,q1⟩:=r1.get (i:=j) (x:=xs[j]) (by simp[g1])
   obtain⟨u2,e2,q2⟩:=r2.get (i:=j) (x:=ys[j]) (by simp[g2])
   have f1:i1.toArray[j]=u1:=by
    have:=List.getElem?_eq_some_iff.mp e1
    obtain⟨_,z⟩:=this
    simpa using z
   have f2:i2.toArray[j]=u2:=by
    have:=List.getElem?_eq_some_iff.mp e2
    obtain⟨_,z⟩:=this
    simpa using z
   rw[f1,f2]
   exact ih j _ _ (by simp[g1]) (by simp[g2]) A.in1 u1 u2 (by rw[wm];omega) q1 q2
 | @tup a b xs ys e n hne ha hb hl h ih =>
  intro A u v hu rx ry
  cases rx;cases ry
  obtain⟨i1,r1,p1,_⟩:=I.tuple ha
  obtain⟨i2,r2,p2,_⟩:=I.tuple hb
  have l1:=r1.length
  have l2:=r2.length
  refine SeqAt.EqAt.of_refs hne ?_
  have q:=SeqAt.RcAt.tuples (A:=A) (s:=s) (e:=e) (show s.heap.IsTuple a i1.toArray from p1) (show s.heap.IsTuple b i2.toArray from p2) (by omega) (fun j h1 h2=>?_)
  ·have z:i1.toArray.size=i2.toArray.size:=by simp;omega
   rw[← z,Nat.min_self,beq_self_eq_true,Bool.and_true,List.size_toArray,← l1] at q
   exact q
  ·have g1:j<xs.length:=by rw[l1];simpa using h1
   have g2:j<ys.length:=by rw[l2];simpa using h2
   obtain⟨u1,e1,q1⟩:=r1.get (i:=j) (x:=xs[j]) (by simp[g1])
   obtain⟨u2,e2,q2⟩:=r2.get (i:=j) (x:=ys[j]) (by simp[g2])
   have f1:i1.toArray[j]=u1:=by
    have:=List.getElem?_eq_some_iff.mp e1
    obtain⟨_,z⟩:=this
    simpa using z
   have f2:i2.toArray[j]=u2:=by
    have:=List.getElem?_eq_some_iff.mp e2
    obtain⟨_,z⟩:=this
    simpa using z
   rw[f1,f2]
   exact ih j _ _ (by simp[g1]) (by simp[g2]) A.in1 u1 u2 (by rw[wm];omega) q1 q2
theorem EqD.mono {K:PySem.W.Frag}{H:Hp}{x y:V}{b:Bool}{n:Nat}(h:EqD K H x y b n):∀ {m:Nat},n≤m→EqD K H x y b m:=by
 induction h with
 |flat fx fy=>intro m _;exact .flat fx fy
 |same=>intro m _;exact .same
 |lst hne ha hb hl h ih =>
  intro m hm
  obtain⟨k,rfl⟩:∃ k,m=k+1:=⟨m-1,by omega⟩
  exact .lst hne ha hb hl fun j x y e1 e2=>ih j x y e1 e2 (by omega)
 |tup hne ha hb hl h ih =>
  intro m hm
  obtain⟨k,rfl⟩:∃ k,m=k+1:=⟨m-1,by omega⟩
  exact .tup hne ha hb hl fun j x y e1 e2=>ih j x y e1 e2 (by omega)
def zn6 (K:PySem.W.Frag) (A:Around) (neg:Bool):R2:=fun x y H Q=>∃ (a b:Addr) (xs ys:List V) (e:Nat→Bool) (n:Nat),x=.ref a∧y=.ref b∧((SqL K H a xs∧SqL K H b ys)∨(SqT K H a xs∧SqT K H b ys))∧xs.length=ys.length ∧
 A.units+n+2<cLine∧(∀ (j:Nat) x y,xs[j]?=some x→ys[j]?=some y→EqD K H x y (e j) n)∧Q (.bl (if neg then !(List.range xs.length).all e else(List.range xs.length).all e)) H
theorem xH {pins:List (Addr×Obj)}{σ:St}{H:Hp}{s:Shared}{A:Around}{xs ys:List V}{i1 i2:List Value}{e:Nat→Bool}{n:Nat}(I:Inv X pins σ H s) (r1:Vals xs i1) (r2:Vals ys i2) (hu:A.units+n+2<cLine)
  (h:∀ (j:Nat) x y,xs[j]?=some x→ys[j]?=some y→EqD X.K H x y (e j) n):∀ (j:Nat) (h1:j<i1.toArray.size) (h2:j<i2.toArray.size),SeqAt.EqAt A.in1 s i1.toArray[j] i2.toArray[j] (e j):=fun j h1 h2=>by
 have g1:j<xs.length:=by rw[r1.length];simpa using h1
 have g2:j<ys.length:=by rw[r2.length];simpa using h2
 obtain⟨u1,e1,q1⟩:=r1.get (i:=j) (x:=xs[j]) (by simp[g1])
 obtain⟨u2,e2,q2⟩:=r2.get (i:=j) (x:=ys[j]) (by simp[g2])
 have f1:i1.toArray[j]=u1:=by
  obtain⟨_,z⟩:=List.getElem?_eq_some_iff.mp e1
  simpa using z
 have f2:i2.toArray[j]=u2:=by
  obtain⟨_,z⟩:=List.getElem?_eq_some_iff.mp e2
  simpa using z
 rw[f1,f2]
 exact(h j _ _ (by simp[g1]) (by simp[g2])).at I A.in1 u1 u2 (by rw[wm];omega) q1 q2
theorem zn8:OpR X (compareOp .Eq) (zn6 X.K X.A false):=by
 intro pins s σ H x y v u Q I rx ry h
 obtain⟨a,b,xs,ys,e,n,rfl,rfl,hq,hl,hu,hi,q⟩:=h
 cases rx;cases ry
 rcases hq with⟨h1,h2⟩ | ⟨h1,h2⟩
 ·obtain⟨i1,r1,p1,_⟩:=I.list h1
  obtain⟨i2,r2,p2,_⟩:=I.list h2
  refine SeqAt.eq_listAt p1.isList p2.isList (by simp;rw[← r1.length,← r2.length,hl]) (by omega) (xH I r1 r2 hu hi) ⟨.bl _,H,I,rfl,?_⟩
  rw[List.size_toArray,← r1.length]
  exact q
 ·obtain⟨i1,r1,p1,_⟩:=I.tuple h1
  obtain⟨i2,r2,p2,_⟩:=I.tuple h2
  have z:i1.toArray.size=i2.toArray.size:=by simp;rw[← r1.length,← r2.length,hl]
  refine SeqAt.eq_tupleAt (show s.heap.IsTuple a i1.toArray from p1) (show s.heap.IsTuple b i2.toArray from p2) (by omega) (xH I r1 r2 hu hi) ⟨.bl _,H,I,rfl,?_⟩
  rw[← z,Nat.min_self,beq_self_eq_true,Bool.and_true,List.size_toArray,← r1.length]
  exact q
theorem Vq:OpR X (compareOp .NotEq) (zn6 X.K X.A true):=by
 intro pins s σ H x y v u Q I rx ry h
 obtain⟨a,b,xs,ys,e,n,rfl,rfl,hq,hl,hu,hi,q⟩:=h
 cases rx;cases ry
 rcases hq with⟨h1,h2⟩ | ⟨h1,h2⟩
 ·obtain⟨i1,r1,p1,_⟩:=I.list h1
  obtain⟨i2,r2,p2,_⟩:=I.list h2
  refine SeqAt.RcNeAt.lists p1.isList p2.isList (by simp;rw[← r1.length,← r2.length,hl]) (by omega) (xH I r1 r2 hu hi) _ _ _ _ ⟨.bl _,H,I,rfl,?_⟩
  rw[List.size_toArray,← r1.length]
  exact q
 ·obtain⟨i1,r1,p1,_⟩:=I.tuple h1
  obtain⟨i2,r2,p2,_⟩:=I.tuple h2
  have z:i1.toArray.size=i2.toArray.size:=by simp;rw[← r1.length,← r2.length,hl]
  refine SeqAt.RcNeAt.tuples (show s.heap.IsTuple a i1.toArray from p1) (show s.heap.IsTuple b i2.toArray from p2) (by omega) (xH I r1 r2 hu hi) _ _ _ _ ⟨.bl _,H,I,rfl,?_⟩
  rw[← z,Nat.min_self,beq_self_eq_true,Bool.and_true,List.size_toArray,← r1.length]
  exact q
end
structure Callee (P:Program) (w:World) (K:PySem.W.Frag) (mg:Str→Option Value) (base:Heap) (x:Str) (f:Addr) (fd:FuncData) (ps:List Str) (k:Nat) (sp:Sp):Prop where
 ok:FnOk P w K mg base CX0 k f fd ps sp
 g:mg x=some (.ref f)
 kp:PySem.W.keepIn K (.ref f)=true
 b:Binds K fd ps []
structure Maker (P:Program) (w:World) (K:PySem.W.Frag) (mg:Str→Option Value) (base:Heap) (x:Str) (C f:Addr) (fd:FuncData) (ps:List Str) (k:Nat) (sp:Sp):Prop where
 ok:FnOk P w K mg base CX0 k f fd ps sp
 g:mg x=some (.ref C)
 mm:Mk K C f
 b:Binds K fd ps []
section
variable {X:Cx}{k:Nat}{f C:Addr}{fd:FuncData}{ps:List Str}{sp:Sp}{x m:Str}{p pos apos:Pos}{e o:Expr}{es:List Expr}{ta:TE}{t:TA}
theorem zcX (c:Callee X.prog X.w X.K X.mg X.base x f fd ps k sp) (hr:Room k X.A) (ha:PA X (e::es) t) (hg:Gl X x:=by rfl) (hdb:(x == ("__debug__" : Str))=false:=by decide)
  (he:starEach (e::es) X.env=(false,eval e X.env)::starEach es X.env:=by rfl) (hpl:(backTo pos (starEach es X.env)).any (·.1)=false:=by rfl):PE X (.Call (.Name x p) (e::es) [] pos) (Zr sp [] E0 t) :=
 Ut c.ok hr hg c.g c.kp c.b .nil Wy ha hdb he hpl
theorem zqi (c:Maker X.prog X.w X.K X.mg X.base x C f fd ps k sp) (hr:Room (k+1) X.A) (ha:PA X (e::es) t) (hg:Gl X x:=by rfl) (hdb:(x == ("__debug__" : Str))=false:=by decide)
  (he:starEach (e::es) X.env=(false,eval e X.env)::starEach es X.env:=by rfl) (hpl:(backTo pos (starEach es X.env)).any (·.1)=false:=by rfl):PE X (.Call (.Name x p) (e::es) [] pos) (Z7 C sp [] E0 t) :=
 Xa c.mm c.ok hr hg c.g c.b .nil Wy ha hdb he hpl
def Z6 (X:Cx) (m:Str) (ta:TE) (t:TA):TE:=fun σ H Q=>ta σ H fun x H1=>∃ (a C dx:Addr) (fs:List (Str×V)) (f:Addr) (fd:FuncData) (ps:List Str) (k:Nat) (sp:Sp),x=.ref a∧H1 a=some (.ins C dx fs)∧fs.lookup m=none∧Cls X.K C∧Meth X.K C m f ∧
 FnOk X.prog X.w X.K X.mg X.base CX0 k f fd ps sp∧Room k X.A∧Binds X.K fd ps []∧t σ H1 fun vs H2=>sp (x::(vs++[])) H2 Q E0
theorem zdW {pl:Sem Bool}(he:PE X o ta) (ha:PA X (e::es) t)
  (hst:starEach (e::es) X.env=(false,eval e X.env)::starEach es X.env:=by rfl) (hpl:(backTo pos (starEach es X.env)).any (·.1)=false:=by rfl)
  (ht:eval (.Call (.Attribute o m apos) (e::es) [] pos) X.env=(do
   let ov ← eval o X.env
   standAt apos.atName
   let (f,first) ← holding [ov] (getMethod ov m pl)
   callWith pos f first (backTo pos (starEach (e::es) X.env)) (backToKw pos (keywordEach [] X.env))):=by rfl) :
  PE X (.Call (.Attribute o m apos) (e::es) [] pos) (Z6 X m ta t):=by
 intro pins s σ H Q I h
 refine PySem.W.methodCall_KW (pl:=pl) (thn (he pins s σ H _ I h) fun u s1 hq0=>?_) ht
 obtain⟨x,H1,I1,rx,a,C,dx,fs,f,fd,ps,k,sp,ex,ea,l,cl,hm,F,hr,hb,q⟩:=hq0
 subst ex
 obtain rfl:u=Value.ref a:=rx
 refine yO I1 ea cl hm l ?_
 refine PySem.W.callWith_K (first:=[.ref a]) (h₀:=X.base) I.ok.mod.kin hm.kp (thn (ha pos pins s1 σ H1 _ I1 q) fun us s2 ⟨vs,H2,I2,r,q2⟩=>⟨I2.kIn,?_⟩) hst hpl
 exact uN (us:=.ref a::us) (vs:=.ref a::vs) F hr hb .nil Wy I2 (.cons rfl r) q2
theorem vv {pl:Sem Bool}(he:PE X o ta)
  (ht:eval (.Call (.Attribute o m apos) [] [] pos) X.env=(do
   let ov ← eval o X.env
   standAt apos.atName
   let (f,first) ← holding [ov] (getMethod ov m pl)
   callWith pos f first (backTo pos (starEach [] X.env)) (backToKw pos (keywordEach [] X.env))):=by rfl) :
  PE X (.Call (.Attribute o m apos) [] [] pos) (Z6 X m ta U2):=by
 intro pins s σ H Q I h
 refine PySem.W.methodCall_KW (pl:=pl) (thn (he pins s σ H _ I h) fun u s1 hq0=>?_) ht
 obtain⟨x,H1,I1,rx,a,C,dx,fs,f,fd,ps,k,sp,ex,ea,l,cl,hm,F,hr,hb,q⟩:=hq0
 subst ex
 obtain rfl:u=Value.ref a:=rx
 refine yO I1 ea cl hm l ?_
 exact PySem.W.callWith_K0 (first:=[.ref a]) I1.kIn hm.kp (uN (us:=[.ref a]) (vs:=[.ref a]) F hr hb .nil Wy I1 (.cons rfl .nil) q)
end
end L2

namespace PySem
namespace Zt
inductive SK where
 |l
 |t
def ItAt (k:SK) (h:Heap) (it a:Addr) (i:Nat):Prop:=match k with
 |.l=>h.IsListIter it a i
 |.t=>h.IsTupleIter it a i
def SqAt (k:SK) (h:Heap) (a:Addr) (xs:Array Value):Prop:=match k with
 |.l=>h.IsList a xs
 |.t=>h.IsTuple a xs
theorem ItAt.obj {k:SK}{h:Heap}{it a:Addr}{i:Nat}(x:ItAt k h it a i):∃ o,h.get? it=some o∧(∀ v,o.data≠.cell v):=by
 cases k<;>(obtain⟨o,e,c,d⟩:=x;exact⟨o,e,fun v z=>by rw[d] at z;cases z⟩)
theorem ItAt.at {k:SK}{h h':Heap}{it a:Addr}{i:Nat}(x:ItAt k h it a i) (e:∀ o,h.get? it=some o→h'.get? it=some o):ItAt k h' it a i:=by
 cases k
 ·exact Heap.IsListIter.at x e
 ·exact Heap.IsTupleIter.at x e
theorem SqAt.at {k:SK}{h h':Heap}{a:Addr}{xs:Array Value}(x:SqAt k h a xs) (e:∀ o,h.get? a=some o→h'.get? a=some o):SqAt k h' a xs:=by
 cases k
 ·obtain⟨o,ho,r⟩:=x;exact⟨o,e o ho,r⟩
 ·obtain⟨o,ho,r⟩:=x;exact⟨o,e o ho,r⟩
section
variable {prog:Program}{w:World}{A:Around}{E:Value→Shared→Prop}{s:Shared}
theorem wP {it l:Addr}{i:Nat}{items:Array Value}{x:Value}{Q:Value→Shared→Prop}(hit:s.heap.IsTupleIter it l i) (ht:s.heap.IsTuple l items) (hx:items[i]?=some x)
  (hQ:∀ h',h'.IsTupleIter it l (i+1)→Heap.SameBut it s.heap h'→Q x { s with heap:=h' }):wpAny (model prog w) A (Builtin.SmallTypes.nextOf (.ref it)) Q E s:=by
 obtain⟨o,ho,hc,hd⟩:=id hit
 obtain⟨o2,ho2,_,n2,hd2⟩:=ht
 unfold Builtin.SmallTypes.nextOf
 refine wpAny_bind (wpAny_callSpecial?_slot (name:=Str.ofString "__next__") hit.typeIs F.slot_tuple_iterator_next (wpAny_call_entry F.slot_tuple_iterator_next hit.typeIs F.entry_tuple_iterator_next ?_ (F.args_tuple_iterator_next_1 _)))
 show wpAny _ _ (field (.ref it) 0 >>= _) _ _ s;refine wpAny_bind (wpAny_field ho hd (x:=.ref l) rfl ?_)
 show wpAny _ _ (if (Value.ref l == Value.none)=true then _ else _) _ _ s;rw[if_neg (show ¬ ((Value.ref l == Value.none)=true) from Bool.false_ne_true)]
 show wpAny _ _ (field (.ref it) 1 >>= _) _ _ s;refine wpAny_bind (wpAny_field ho hd (x:=.int i 0) rfl ?_)
 show wpAny _ _ (seqItems? (.ref l) >>= _) _ _ s;refine wpAny_bind (wpAny_seqItems ho2 hd2 ?_)
 simp only[Int.toNat_natCast,hx]
 refine wpAny_bind (wpAny_setField ho hd (by simp) (wpAny_pure ⟨x,rfl,wpAny_pure (hQ _ ⟨_,Heap.get?_update_self _ ho (Obj.isFreed_of_fields (Obj.data_mapFields hd _)),(Obj.cls_mapFields ..).trans hc,?_⟩ (Heap.SameBut.update ..))⟩))
 rw[Obj.data_mapFields hd]
 simp[rawInt]
theorem vH {it l:Addr}{i:Nat}{items:Array Value}{Q:Value→Shared→Prop}(hh:A.handled=none) (hit:s.heap.IsTupleIter it l i) (ht:s.heap.IsTuple l items) (hx:items[i]?=none)
  (hE:∀ h' e,Heap.ExtBut it s.heap h'→(∃ o,h'.get? e=some o∧o.cls=.type "StopIteration")→E (.ref e) { s with heap:=h' }):wpAny (model prog w) A (Builtin.SmallTypes.nextOf (.ref it)) Q E s:=by
 obtain⟨o,ho,hc,hd⟩:=id hit
 obtain⟨o2,ho2,_,n2,hd2⟩:=ht
 unfold Builtin.SmallTypes.nextOf
 refine wpAny_bind (wpAny_callSpecial?_slot (name:=Str.ofString "__next__") hit.typeIs F.slot_tuple_iterator_next (wpAny_call_entry F.slot_tuple_iterator_next hit.typeIs F.entry_tuple_iterator_next ?_ (F.args_tuple_iterator_next_1 _)))
 show wpAny _ _ (field (.ref it) 0 >>= _) _ _ s;refine wpAny_bind (wpAny_field ho hd (x:=.ref l) rfl ?_)
 show wpAny _ _ (if (Value.ref l == Value.none)=true then _ else _) _ _ s;rw[if_neg (show ¬ ((Value.ref l == Value.none)=true) from Bool.false_ne_true)]
 show wpAny _ _ (field (.ref it) 1 >>= _) _ _ s;refine wpAny_bind (wpAny_field ho hd (x:=.int i 0) rfl ?_)
 show wpAny _ _ (seqItems? (.ref l) >>= _) _ _ s;refine wpAny_bind (wpAny_seqItems ho2 hd2 ?_)
 simp only[Int.toNat_natCast,hx]
 refine wpAny_bind (wpAny_rule (wpAny_bind (wpAny_setField ho hd (by simp) ?_)))
 show wpAny _ _ (newExc (.type "StopIteration") [] >>= _) _ _ _;refine wpAny_bind ?_
 simp only[newExc,newTuple]
 refine wpAny_bind (wpAny_newObj_type ?_ (by size_fits));refine wpAny_bind (m:=firstArgMember _ _) (wpAny_of_eq (a:=Value.none) (by first | rfl | (simp only[firstArgMember];rfl)) ?_)
 refine wpAny_newObj_type ?_ (by size_fits);simp only[raiseNew]
 refine wpAny_bind (wpAny_handled ?_);first | rw[show A.in1.handled=none from hh] | rw[hh]
 refine wpAny_bind (wpAny_pure (wpAny_throw ?_))
 exact hE _ _ (((Heap.SameBut.update ..).extBut.push _).push _) ⟨_,Heap.get?_push_size _ rfl,rfl⟩
theorem xi {k:SK}{it a:Addr}{i:Nat}{xs:Array Value}{x:Value}{Q:Value→Shared→Prop}(hit:ItAt k s.heap it a i) (hs:SqAt k s.heap a xs) (hx:xs[i]?=some x)
  (hQ:∀ h',ItAt k h' it a (i+1)→Heap.SameBut it s.heap h'→Q x { s with heap:=h' }):wpAny (model prog w) A (Builtin.SmallTypes.nextOf (.ref it)) Q E s:=by
 cases k
 ·exact wpAny_nextOf_list_item hit hs hx hQ
 ·exact wP hit hs hx hQ
theorem wQ {k:SK}{it a:Addr}{i:Nat}{xs:Array Value}{Q:Value→Shared→Prop}(hh:A.handled=none) (hit:ItAt k s.heap it a i) (hs:SqAt k s.heap a xs) (hx:xs[i]?=none)
  (hE:∀ h' e,Heap.ExtBut it s.heap h'→(∃ o,h'.get? e=some o∧o.cls=.type "StopIteration")→E (.ref e) { s with heap:=h' }):wpAny (model prog w) A (Builtin.SmallTypes.nextOf (.ref it)) Q E s:=by
 cases k
 ·exact wpAny_nextOf_list_end hh hit hs hx hE
 ·exact vH hh hit hs hx hE
structure Ap (z TI TO i1 i2:Addr):Prop where
 a1:TI≠z
 a2:TO≠z
 a3:i1≠z
 a4:i2≠z
 a5:TI≠TO
 a6:TI≠i1
 a7:TI≠i2
 a8:TO≠i1
 a9:TO≠i2
 a10:i1≠i2
structure Off (l z TO i1 i2:Addr):Prop where
 b1:l≠z
 b2:l≠TO
 b3:l≠i1
 b4:l≠i2
structure ZAt (k1 k2:SK) (z TI TO i1 i2 l1 l2:Addr) (f0:Value) (i:Nat) (h:Heap):Prop where
 zz:IsZip h z TI TO f0
 ti:IsPair h TI (.ref i1) (.ref i2)
 to:∃ a b,IsPair h TO a b
 j1:ItAt k1 h i1 l1 i
 j2:ItAt k2 h i2 l2 i
theorem ZAt.keep {k1 k2:SK}{z TI TO i1 i2 l1 l2:Addr}{f0:Value}{i:Nat}{h h':Heap}(x:ZAt k1 k2 z TI TO i1 i2 l1 l2 f0 i h) (k:∀ b∈[z,TI,TO,i1,i2],∀ o,h.get? b=some o→h'.get? b=some o):ZAt k1 k2 z TI TO i1 i2 l1 l2 f0 i h':=by
 obtain⟨p1,p2,⟨a,b,p3⟩,p4,p5⟩:=x
 exact⟨k z (by simp) _ p1,k TI (by simp) _ p2,⟨a,b,k TO (by simp) _ p3⟩,p4.at fun o e=>k i1 (by simp) o e,p5.at fun o e=>k i2 (by simp) o e⟩
theorem X8 {k1 k2:SK}{z TI TO i1 i2 l1 l2:Addr}{i:Nat}{xs ys:Array Value}{x y:Value}{Q:Value→Shared→Prop}(D:Ap z TI TO i1 i2) (O1:Off l1 z TO i1 i2) (O2:Off l2 z TO i1 i2)
  (Z:ZAt k1 k2 z TI TO i1 i2 l1 l2 .none i s.heap) (hl1:SqAt k1 s.heap l1 xs) (hl2:SqAt k2 s.heap l2 ys) (hx:xs[i]?=some x) (hy:ys[i]?=some y)
  (hQ:∀ h',ZAt k1 k2 z TI TO i1 i2 l1 l2 (rawInt s.heap.objs.size) (i+1) h'→IsPair h' s.heap.objs.size x y→(∀ c o,c≠z→c≠TO→c≠i1→c≠i2→s.heap.get? c=some o→h'.get? c=some o)→Q (.ref s.heap.objs.size) { s with heap:=h' }) :
  wpAny (model prog w) A (Builtin.«zip.__next__» ⟨[.ref z],[]⟩) (fun fin s'=>∃ v,fin=.done (.ret v)∧Q v s') E s:=by
 obtain⟨hz,hTI,⟨a,b,hTO⟩,h1,h2⟩:=Z
 show wpAny _ _ (field (.ref z) 2 >>= _) _ _ _;refine wpAny_bind (wpAny_field hz rfl (x:=.bool false) rfl ?_)
 show wpAny _ _ (field (.ref z) 3 >>= _) _ _ _;refine wpAny_bind (wpAny_field hz rfl (x:=.ref TI) rfl ?_)
 refine wpAny_bind (wpAny_seqItems hTI rfl ?_);show wpAny _ _ (Builtin.SmallTypes.ownedTupleIsFree (.ref z) >>= _) _ _ _
 refine wpAny_bind ?_;unfold Builtin.SmallTypes.ownedTupleIsFree
 refine wpAny_bind (wpAny_field hz rfl (x:=.none) rfl (wpAny_pure ?_));simp only[if_true]
 refine wpAny_bind (wpAny_rule ?_);refine wpAny_bind (wpAny_field hz rfl (x:=.ref TO) rfl ?_)
 refine wpAny_bind (wpAny_setField_rec hz (by simp) fun g1 y1 s1=>?_);replace y1:IsZip g1 z TI TO .ellipsis:=y1
 refine wpAny_bind ?_;simp only[List.zipIdx_cons,List.zipIdx_nil,List.forIn_cons,List.forIn_nil]
 refine wpAny_bind (wpAny_bind (wpAny_onRaise ?_));show wpAny _ _ (Builtin.SmallTypes.nextOf (.ref i1) >>= _) _ _ _
 refine wpAny_bind (xi (h1.at fun o e=>s1.extBut _ _ D.a3 e) (hl1.at fun o e=>s1.extBut _ _ O1.b1 e) hx fun g2 q1 s2=>wpAny_pure ?_)
 have to2:IsPair g2 TO a b:=s2.extBut _ _ D.a8 (s1.extBut _ _ D.a2 hTO)
 refine wpAny_bind (wpAny_seqItems to2 rfl ?_);refine wpAny_bind (wpAny_updateSeq_pair to2 fun g3 to3 s3=>?_)
 replace to3:IsPair g3 TO x b:=to3
 refine wpAny_bind (wpAny_letGo (wpAny_pure ?_));refine wpAny_bind (wpAny_bind (wpAny_onRaise ?_))
 show wpAny _ _ (Builtin.SmallTypes.nextOf (.ref i2) >>= _) _ _ _
 refine wpAny_bind (xi (h2.at fun o e=>s3.extBut _ _ D.a9.symm (s2.extBut _ _ D.a10.symm (s1.extBut _ _ D.a4 e))) (hl2.at fun o e=>s3.extBut _ _ O2.b2 (s2.extBut _ _ O2.b3 (s1.extBut _ _ O2.b1 e))) hy fun g4 q2 s4=>wpAny_pure ?_)
 have to4:IsPair g4 TO x b:=s4.extBut _ _ D.a9 to3
 refine wpAny_bind (wpAny_seqItems to4 rfl ?_);refine wpAny_bind (wpAny_updateSeq_pair to4 fun g5 to5 s5=>?_)
 replace to5:IsPair g5 TO x y:=to5
 refine wpAny_bind (wpAny_letGo (wpAny_pure (wpAny_pure ?_)));refine wpAny_bind (wpAny_seqItems to5 rfl ?_);refine wpAny_bind (wpAny_newTuple ?_)
 have sz:g5.objs.size=s.heap.objs.size:=by rw[s5.1,s4.1,s3.1,s2.1,s1.1]
 have y5:IsZip g5 z TI TO .ellipsis:=s5.extBut _ _ D.a2.symm (s4.extBut _ _ D.a4.symm (s3.extBut _ _ D.a2.symm (s2.extBut _ _ D.a3.symm y1)))
 have kk:∀ c o,c≠z→c≠TO→c≠i1→c≠i2→s.heap.get? c=some o→g5.get? c=some o:=fun c o c1 c2 c3 c4 e=>s5.extBut _ _ c2 (s4.extBut _ _ c4 (s3.extBut _ _ c2 (s2.extBut _ _ c3 (s1.extBut _ _ c1 e))))
 have q1':ItAt k1 g5 i1 l1 (i+1):=q1.at fun o e=>s5.extBut _ _ D.a8.symm (s4.extBut _ _ D.a10 (s3.extBut _ _ D.a8.symm e))
 have q2':ItAt k2 g5 i2 l2 (i+1):=q2.at fun o e=>s5.extBut _ _ D.a9.symm e
 have zlt:z<g5.objs.size:=Heap.lt_size y5
 show wpAny _ _ (Builtin.SmallTypes.ownedTupleHandOut (.ref z) (.ref g5.objs.size) >>= _) _ _ _
 refine wpAny_bind ?_;unfold Builtin.SmallTypes.ownedTupleHandOut
 have y6:IsZip (g5.push { cls:=.type "tuple",data:=.seq #[x,y] }) z TI TO .ellipsis:=Heap.get?_push_of_some _ y5
 refine wpAny_bind (wpAny_setField_rec y6 (by simp) fun g7 y7 s7=>?_);replace y7:IsZip g7 z TI TO (rawInt g5.objs.size):=y7
 refine wpAny_setField_rec y7 (by simp) fun g8 y8 s8=>?_;replace y8:IsZip g8 z TI TO (rawInt g5.objs.size):=y8
 have up:∀ c o,c≠z→g5.get? c=some o→g8.get? c=some o:=fun c o c1 e=>s8.extBut _ _ c1 (s7.extBut _ _ c1 (Heap.get?_push_of_some _ e))
 have tt:IsPair g8 g5.objs.size x y:=s8.extBut _ _ (Nat.ne_of_gt zlt) (s7.extBut _ _ (Nat.ne_of_gt zlt) (Heap.get?_push_size _ rfl))
 rw[sz] at y8 tt
 refine wpAny_pure ⟨_,rfl,?_⟩
 show Q (.ref g5.objs.size) _
 rw[sz]
 exact hQ g8 ⟨y8,up _ _ D.a1 (kk _ _ D.a1 D.a5 D.a6 D.a7 hTI),⟨_,_,up _ _ D.a2 to5⟩,q1'.at fun o e=>up _ o D.a3 e,q2'.at fun o e=>up _ o D.a4 e⟩ tt fun c o c1 c2 c3 c4 e=>up c o c1 (kk c o c1 c2 c3 c4 e)
theorem VN {k1 k2:SK}{z TI TO i1 i2 l1 l2:Addr}{i:Nat}{xs ys:Array Value}{Q:Fin→Shared→Prop}(hh:A.handled=none) (D:Ap z TI TO i1 i2) (O1:Off l1 z TO i1 i2) (O2:Off l2 z TO i1 i2)
  (Z:ZAt k1 k2 z TI TO i1 i2 l1 l2 .none i s.heap) (hl1:SqAt k1 s.heap l1 xs) (hl2:SqAt k2 s.heap l2 ys) (hend:xs[i]?=none∨ys[i]?=none)
  (hE:∀ h' e,(∀ c o,c≠z→c≠TO→c≠i1→c≠i2→s.heap.get? c=some o→h'.get? c=some o)→(∃ o,h'.get? e=some o∧o.cls=.type "StopIteration")→E (.ref e) { s with heap:=h' }) :
  wpAny (model prog w) A (Builtin.«zip.__next__» ⟨[.ref z],[]⟩) Q E s:=by
 obtain⟨hz,hTI,⟨a,b,hTO⟩,h1,h2⟩:=Z
 show wpAny _ _ (field (.ref z) 2 >>= _) _ _ _;refine wpAny_bind (wpAny_field hz rfl (x:=.bool false) rfl ?_)
 show wpAny _ _ (field (.ref z) 3 >>= _) _ _ _;refine wpAny_bind (wpAny_field hz rfl (x:=.ref TI) rfl ?_)
 refine wpAny_bind (wpAny_seqItems hTI rfl ?_);show wpAny _ _ (Builtin.SmallTypes.ownedTupleIsFree (.ref z) >>= _) _ _ _
 refine wpAny_bind ?_;unfold Builtin.SmallTypes.ownedTupleIsFree
 refine wpAny_bind (wpAny_field hz rfl (x:=.none) rfl (wpAny_pure ?_));simp only[if_true]
 refine wpAny_bind (wpAny_rule ?_);refine wpAny_bind (wpAny_field hz rfl (x:=.ref TO) rfl ?_)
 refine wpAny_bind (wpAny_setField_rec hz (by simp) fun g1 y1 s1=>?_);replace y1:IsZip g1 z TI TO .ellipsis:=y1
 refine wpAny_bind ?_;simp only[List.zipIdx_cons,List.zipIdx_nil,List.forIn_cons,List.forIn_nil]
 refine wpAny_bind (wpAny_bind (wpAny_onRaise ?_));show wpAny _ _ (Builtin.SmallTypes.nextOf (.ref i1) >>= _) _ _ _
 have m1:=h1.at (h':=g1) fun o e=>s1.extBut _ _ D.a3 e
 have n1:=hl1.at (h':=g1) fun o e=>s1.extBut _ _ O1.b1 e
 cases hx:xs[i]? with
 |none =>
  refine wpAny_bind (wQ hh m1 n1 hx fun g2 e s2 he=>?_)
  obtain⟨oe,hoe,hce⟩:=he
  have y2:IsZip g2 z TI TO .ellipsis:=s2 _ _ D.a3.symm y1
  have hez:e≠z:=fun x=>by subst x;rw[y2] at hoe;cases hoe;simp at hce
  exact wpAny_setField_rec y2 (by simp) fun g3 _ s3=>hE g3 e (fun c o c1 _ c3 _ x=>s3.extBut _ _ c1 (s2 _ _ c3 (s1.extBut _ _ c1 x))) ⟨oe,s3.extBut _ _ hez hoe,hce⟩
 |some x =>
  have hy:ys[i]?=none:=by
   rcases hend with h | h
   ·rw[hx] at h;cases h
   ·exact h
  refine wpAny_bind (xi m1 n1 hx fun g2 q1 s2=>wpAny_pure ?_)
  have to2:IsPair g2 TO a b:=s2.extBut _ _ D.a8 (s1.extBut _ _ D.a2 hTO)
  refine wpAny_bind (wpAny_seqItems to2 rfl ?_);refine wpAny_bind (wpAny_updateSeq_pair to2 fun g3 to3 s3=>?_)
  refine wpAny_bind (wpAny_letGo (wpAny_pure ?_));refine wpAny_bind (wpAny_bind (wpAny_onRaise ?_))
  show wpAny _ _ (Builtin.SmallTypes.nextOf (.ref i2) >>= _) _ _ _
  refine wpAny_bind (wQ hh (h2.at fun o e=>s3.extBut _ _ D.a9.symm (s2.extBut _ _ D.a10.symm (s1.extBut _ _ D.a4 e))) (hl2.at fun o e=>s3.extBut _ _ O2.b2 (s2.extBut _ _ O2.b3 (s1.extBut _ _ O2.b1 e))) hy fun g4 e s4 he=>?_)
  obtain⟨oe,hoe,hce⟩:=he
  have y4:IsZip g4 z TI TO .ellipsis:=s4 _ _ D.a4.symm (s3.extBut _ _ D.a2.symm (s2.extBut _ _ D.a3.symm y1))
  have hez:e≠z:=fun x=>by subst x;rw[y4] at hoe;cases hoe;simp at hce
  exact wpAny_setField_rec y4 (by simp) fun g5 _ s5=>hE g5 e (fun c o c1 c2 c3 c4 x=>s5.extBut _ _ c1 (s4 _ _ c4 (s3.extBut _ _ c2 (s2.extBut _ _ c3 (s1.extBut _ _ c1 x))))) ⟨oe,s5.extBut _ _ hez hoe,hce⟩
theorem v8 {k1 k2:SK}{z TI TO i1 i2 l1 l2:Addr}{i:Nat}{xs ys:Array Value}{x y:Value}{Q:Option Value→Shared→Prop}(D:Ap z TI TO i1 i2) (O1:Off l1 z TO i1 i2) (O2:Off l2 z TO i1 i2)
  (Z:ZAt k1 k2 z TI TO i1 i2 l1 l2 .none i s.heap) (hl1:SqAt k1 s.heap l1 xs) (hl2:SqAt k2 s.heap l2 ys) (hx:xs[i]?=some x) (hy:ys[i]?=some y)
  (hQ:∀ h',ZAt k1 k2 z TI TO i1 i2 l1 l2 (rawInt s.heap.objs.size) (i+1) h'→IsPair h' s.heap.objs.size x y→(∀ c o,c≠z→c≠TO→c≠i1→c≠i2→s.heap.get? c=some o→h'.get? c=some o)→Q (some (.ref s.heap.objs.size)) { s with heap:=h' }) :
  wpAny (model prog w) A (pyNext (.ref z)) Q E s:=by
 have hT:s.TypeIs (.ref z) "zip" := ⟨_,Z.zz,rfl⟩
 unfold pyNext
 exact wpAny_bind (wpAny_attempt (wpAny_callSpecial?_slot (name:=Str.ofString "__next__") hT F.slot_zip_next (wpAny_call_entry F.slot_zip_next hT F.entry_zip_next (X8 D O1 O2 Z hl1 hl2 hx hy fun h' a1 a2 a3=>wpAny_pure (hQ h' a1 a2 a3)) (F.args_zip_next_1 _))))
theorem Zy {k1 k2:SK}{z TI TO i1 i2 l1 l2:Addr}{i:Nat}{xs ys:Array Value}{Q:Option Value→Shared→Prop}(hh:A.handled=none) (D:Ap z TI TO i1 i2) (O1:Off l1 z TO i1 i2) (O2:Off l2 z TO i1 i2)
  (Z:ZAt k1 k2 z TI TO i1 i2 l1 l2 .none i s.heap) (hl1:SqAt k1 s.heap l1 xs) (hl2:SqAt k2 s.heap l2 ys) (hend:xs[i]?=none∨ys[i]?=none)
  (hQ:∀ h',(∀ c o,c≠z→c≠TO→c≠i1→c≠i2→s.heap.get? c=some o→h'.get? c=some o)→Q none { s with heap:=h' }):wpAny (model prog w) A (pyNext (.ref z)) Q E s:=by
 have hT:s.TypeIs (.ref z) "zip" := ⟨_,Z.zz,rfl⟩
 unfold pyNext
 refine wpAny_bind (wpAny_attempt (wpAny_callSpecial?_slot (name:=Str.ofString "__next__") hT F.slot_zip_next (wpAny_call_entry F.slot_zip_next hT F.entry_zip_next (VN hh D O1 O2 Z hl1 hl2 hend fun h' e hk he=>?_) (F.args_zip_next_1 _))))
 obtain⟨o,ho,hc⟩:=he
 exact wpAny_bind (wpAny_isInstance (T := "StopIteration") (b:=true) ⟨o,ho,hc⟩ isSubtype_stop (wpAny_pure (hQ _ hk)))
end
end Zt
end PySem

namespace PySem
namespace Zt
noncomputable def vK (k:SK) (a:Addr):Obj:=match k with
 |.l=>{ cls:=.type "list_iterator",data:=.fields #[.ref a,.int 0 0] }
 |.t=>{ cls:=.type "tuple_iterator",data:=.fields #[.ref a,.int 0 0] }
theorem wS {k:SK}{h:Heap}{it a:Addr}(e:h.get? it=some (vK k a)):ItAt k h it a 0:=by
 cases k<;>exact⟨_,e,rfl,rfl⟩
theorem xg {prog:Program}{w:World}{A:Around}{E:Value→Shared→Prop}{s:Shared}{k:SK}{a:Addr}{xs:Array Value}{Q:Value→Shared→Prop}(h:SqAt k s.heap a xs)
  (hQ:Q (.ref s.heap.objs.size) { s with heap:=s.heap.push (vK k a) }):wpAny (model prog w) A (pyIter (.ref a)) Q E s:=by
 cases k
 ·exact wpAny_pyIter_list h hQ
 ·exact wpAny_pyIter_tuple h hQ
noncomputable abbrev g1 (k1:SK) (h:Heap) (l1:Addr):Heap:=h.push (vK k1 l1)
noncomputable abbrev g2 (k1 k2:SK) (h:Heap) (l1 l2:Addr):Heap:=(g1 k1 h l1).push (vK k2 l2)
noncomputable abbrev g3 (k1 k2:SK) (h:Heap) (l1 l2:Addr):Heap:=(g2 k1 k2 h l1 l2).push { cls:=.type "tuple",data:=.seq #[.ref h.objs.size,.ref (g1 k1 h l1).objs.size] }
noncomputable abbrev g4 (k1 k2:SK) (h:Heap) (l1 l2:Addr):Heap:=(g3 k1 k2 h l1 l2).push { cls:=.type "tuple",data:=.seq #[.none,.none] }
noncomputable abbrev g5 (k1 k2:SK) (h:Heap) (l1 l2:Addr):Heap:=(g4 k1 k2 h l1 l2).push { cls:=.type "zip",data:=.fields #[.none,.bool false,.bool false,.ref (g2 k1 k2 h l1 l2).objs.size,.ref (g3 k1 k2 h l1 l2).objs.size] }
theorem Xq (k1 k2:SK) (l1 l2:Addr) (xs ys:Array Value) :
  Meets (Builtin.«zip.__new__» ⟨[.type "zip",.ref l1,.ref l2],[]⟩) (fun _ R s=>SqAt k1 s.heap l1 xs∧SqAt k2 s.heap l2 ys∧R (.ok (.ret (.ref (g4 k1 k2 s.heap l1 l2).objs.size))) { s with heap:=g5 k1 k2 s.heap l1 l2 }) :=
 .of_wp fun prog w A R s h=>by
  obtain⟨hp,g,d,tk,os⟩:=s;obtain⟨hl1,hl2,h⟩:=h
  have hsub:=sub_zip
  have L1:SqAt k1 (Shared.heap ⟨hp,g,d,tk,os⟩) l1 xs:=hl1
  have L2:SqAt k2 (Shared.heap ⟨hp.push (vK k1 l1),g,d,tk,os⟩) l2 ys:=hl2.at fun o e=>Heap.get?_push_of_some _ e
  wp_walk using xg L1,xg L2
  exact⟨_,rfl,h⟩
section
variable {prog:Program}{w:World}{A:Around}{E:Value→Shared→Prop}{s:Shared}
theorem Va {k1 k2:SK}{l1 l2:Addr}{xs ys:Array Value}{Q:Value→Shared→Prop}(hl1:SqAt k1 s.heap l1 xs) (hl2:SqAt k2 s.heap l2 ys)
  (h:∀ h',ZAt k1 k2 (s.heap.objs.size+4) (s.heap.objs.size+2) (s.heap.objs.size+3) s.heap.objs.size (s.heap.objs.size+1) l1 l2 .none 0 h'→(∀ c o,s.heap.get? c=some o→h'.get? c=some o)→Q (.ref (s.heap.objs.size+4)) { s with heap:=h' }) :
  wpAny (model prog w) A (call (.type "zip") [.ref l1,.ref l2]) Q E s:=by
 refine callType_new F.called_zip (by decide) (F.typeCall_zip_2 _ _) (F.newCall_zip_2 _ _) (fun obj=>F.args_object_init_3 obj _ _) F.entry_zip_new (Xq k1 k2 l1 l2 xs ys) ⟨hl1,hl2,?_⟩
 have z1:(g1 k1 s.heap l1).objs.size=s.heap.objs.size+1:=Heap.size_push ..
 have z2:(g2 k1 k2 s.heap l1 l2).objs.size=s.heap.objs.size+2:=by rw[Heap.size_push,z1]
 have z3:(g3 k1 k2 s.heap l1 l2).objs.size=s.heap.objs.size+3:=by rw[Heap.size_push,z2]
 have z4:(g4 k1 k2 s.heap l1 l2).objs.size=s.heap.objs.size+4:=by rw[Heap.size_push,z3]
 have p:∀ {h:Heap}{o o':Obj}{b:Addr},h.get? b=some o→(h.push o').get? b=some o:=fun e=>Heap.get?_push_of_some _ e
 have e5:(g5 k1 k2 s.heap l1 l2).get? (g4 k1 k2 s.heap l1 l2).objs.size=some _:=Heap.get?_push_size _ rfl
 have e4:(g5 k1 k2 s.heap l1 l2).get? (g3 k1 k2 s.heap l1 l2).objs.size=some _:=p (Heap.get?_push_size _ rfl)
 have e3:(g5 k1 k2 s.heap l1 l2).get? (g2 k1 k2 s.heap l1 l2).objs.size=some _:=p (p (Heap.get?_push_size _ rfl))
 have e2:(g5 k1 k2 s.heap l1 l2).get? (g1 k1 s.heap l1).objs.size=some (vK k2 l2):=p (p (p (Heap.get?_push_size _ (by cases k2<;>rfl))))
 have e1:(g5 k1 k2 s.heap l1 l2).get? s.heap.objs.size=some (vK k1 l1):=p (p (p (p (Heap.get?_push_size _ (by cases k1<;>rfl)))))
 show _∧_
 rw[z2,z3,z4] at e5
 rw[z1,z2] at e3
 rw[z3] at e4
 rw[z1] at e2
 rw[z4]
 exact⟨⟨_,e5,rfl⟩,h _ ⟨e5,e3,⟨_,_,e4⟩,wS e1,wS e2⟩ fun c o x=>p (p (p (p (p x))))⟩
end
end Zt
end PySem

namespace L2
open PySem PySem.Spec PyProof.Rows PySem.Zt
def SqK (k:SK) (K:PySem.W.Frag) (H:Hp) (a:Addr) (xs:List V):Prop:=match k with
 |.l=>SqL K H a xs
 |.t=>SqT K H a xs
section
variable {X:Cx}{pins:List (Addr×Obj)}{σ:St}{H:Hp}{s:Shared}{a b:Addr}{xs ys:List V}
theorem Inv.seqK {k:SK}(I:Inv X pins σ H s) (h:SqK k X.K H a xs):∃ its:List Value,Vals xs its∧SqAt k s.heap a its.toArray∧xs.length≤sizeLine:=by
 cases k
 ·obtain⟨its,r,p,z⟩:=I.list h
  exact⟨its,r,p.isList,z⟩
 ·obtain⟨its,r,p,z⟩:=I.tuple h
  exact⟨its,r,p,z⟩
theorem Inv.seqK_inj {k:SK}(I:Inv X pins σ H s) (h:SqK k X.K H a xs) (h':SqK k X.K H a ys):xs=ys:=by
 cases k
 ·exact I.list_inj h h'
 ·exact I.tuple_inj h h'
theorem Inv.off {k:SK}(I:Inv X pins σ H s) (h:SqK k X.K H a xs) (f:FpOk X pins H b):a≠b:=by
 rintro rfl
 have own:∀ o,X.K.lookup a=some o→False:=fun o e=>by
  have e':=I.ok.mod.kin a o e
  rcases f.2.2.2.1 with z | z
  ·exact I.ok.noex a o e' z
  ·exact absurd (Nat.lt_of_lt_of_le (Nat.lt_of_lt_of_le (Heap.lt_size e') I.ok.bsz) z) (Nat.lt_irrefl _)
 cases k
 ·rcases h with(h | ⟨o,h⟩) | ⟨o,_,_,h,_⟩
  ·rw[f.1] at h;cases h
  ·rw[f.1] at h;cases h
  ·exact own o h
 ·rcases h with(h | ⟨o,h⟩) | ⟨o,_,_,h,_⟩
  ·rw[f.1] at h;cases h
  ·rw[f.1] at h;cases h
  ·exact own o h
theorem Inv.turnedLaid {h':Heap}{t':Nat}{ch:List Addr}{T:Addr}{o:HO}(I:Inv X pins σ H s) (hf:∀ b∈ch,FpOk X pins H b) (k:∀ b u,b∉ch→s.heap.get? b=some u→h'.get? b=some u) (hT:s.heap.objs.size≤T)
  (new:ObjOk X.prog X.w (upd H T o) h' T o):Inv X pins σ (upd H T o) { s with heap:=h',toks:=t' }:=by
 have hn:H T=none:=I.hok.fresh hT
 have nch:∀ b u,H b=some u→b∉ch:=fun b u e hb=>by rw[(hf b hb).1] at e;cases e
 have neT:∀ b u,s.heap.get? b=some u→b≠T:=fun b u e=>Nat.ne_of_lt (Nat.lt_of_lt_of_le (Heap.lt_size e) hT)
 refine I.step (g':=s.gens) (d':=s.drawn) (ch:=ch) (fun b hb=>?_) (fun b u _ _ hc e _=>k b u hc e) (fun b u _ _ hc e _=>⟨u.slots,k b u hc e⟩) (fun b u _ e n=>?_) (fun b u hc e=>⟨u,k b u hc e⟩)
  (fun b zs e=>?_) (fun b ob u e=>?_) (fun b ps e=>⟨#[],?_⟩) (fun m hm=>?_) (fun b u e=>?_) I.bare
 ·exact⟨(hf b hb).2.2.2.1,(hf b hb).2.1,(hf b hb).2.2.2.2.1,(hf b hb).2.2.2.2.2⟩
 ·rw[upd_ne (neT b u e)];exact n
 ·rw[upd_ne (ne_of_none e hn)];exact e
 ·rw[upd_ne (ne_of_none e hn)];exact e
 ·rw[upd_ne (ne_of_none e hn),e];simp
 ·obtain⟨ob,es,ep,ho,r⟩:=hm
  exact⟨ob,es,ep,k _ ob (fun hb=>(hf _ hb).2.1 rfl) ho,r⟩
 ·by_cases hb:b=T
  ·subst hb
   rw[upd_same] at e
   cases e
   exact new
  ·rw[upd_ne hb] at e
   refine(I.hok b u e).stay (fun c v hc q=>k c v ?_ q) (fun c q=>by rw[upd_ne (ne_of_none q hn)];exact q) fun c zs q=>by rw[upd_ne (ne_of_none q hn)];exact q
   rcases hc with z | z
   ·rw[z];exact nch b u e
   ·exact nch c _ z
theorem Inv.turnedL {h':Heap}{t':Nat}{ch:List Addr}(I:Inv X pins σ H s) (hf:∀ b∈ch,FpOk X pins H b) (k:∀ b u,b∉ch→s.heap.get? b=some u→h'.get? b=some u):Inv X pins σ H { s with heap:=h',toks:=t' }:=by
 have nch:∀ b u,H b=some u→b∉ch:=fun b u e hb=>by rw[(hf b hb).1] at e;cases e
 refine I.step (g':=s.gens) (d':=s.drawn) (ch:=ch) (fun b hb=>?_) (fun b u _ _ hc e _=>k b u hc e) (fun b u _ _ hc e _=>⟨u.slots,k b u hc e⟩) (fun b u _ e n=>n) (fun b u hc e=>⟨u,k b u hc e⟩)
  (fun b zs e=>e) (fun b ob u e=>e) (fun b ps e=>⟨#[],by rw[e];simp⟩) (fun m hm=>?_) (fun b u e=>?_) I.bare
 ·exact⟨(hf b hb).2.2.2.1,(hf b hb).2.1,(hf b hb).2.2.2.2.1,(hf b hb).2.2.2.2.2⟩
 ·obtain⟨ob,es,ep,ho,r⟩:=hm
  exact⟨ob,es,ep,k _ ob (fun hb=>(hf _ hb).2.1 rfl) ho,r⟩
 ·refine(I.hok b u e).stay (fun c v hc q=>k c v ?_ q) (fun _ q=>q) fun _ _ q=>q
  rcases hc with z | z
  ·rw[z];exact nch b u e
  ·exact nch c _ z
end
noncomputable def Itz (k1 k2:SK) (K:PySem.W.Frag) (a b:Addr):It :=
 ⟨fun i H=>∃ xs ys x y,SqK k1 K H a xs∧SqK k2 K H b ys∧xs[i]?=some x∧ys[i]?=some y,
  fun i H v H'=>∃ p,H p=none∧v=.ref p∧∀ xs ys x y,SqK k1 K H a xs→SqK k2 K H b ys→xs[i]?=some x→ys[i]?=some y→H'=upd H p (.tup [x,y]),
  fun i H=>∃ xs ys,SqK k1 K H a xs∧SqK k2 K H b ys∧(xs.length≤i∨ys.length≤i)⟩
theorem We {P:Program}{w:World}{K:PySem.W.Frag}{es:List Expr}{n:Nat}{tp:Pos}{k1 k2:SK}{z TI TO i1 i2:Addr} (a b:Addr) (D:Ap z TI TO i1 i2) :
  Turn P w K (.Tuple es n tp) (Itz k1 k2 K a b) [z,TI,TO,i1,i2] z (fun i h=>ZAt k1 k2 z TI TO i1 i2 a b .none i h) where
 mem:=by simp
 obj:=fun i h st c hc=>by
  obtain⟨q1,q2,⟨u,v,q3⟩,q4,q5⟩:=st
  have hc':c=z∨c=TI∨c=TO∨c=i1∨c=i2:=by simpa using hc
  rcases hc' with rfl | rfl | rfl | rfl | rfl
  ·exact⟨_,q1,fun v z=>by
    have z':Data.fields _=Data.cell v:=z
    cases z'⟩
  ·exact⟨_,q2,fun v z=>by
    have z':Data.seq _ _=Data.cell v:=z
    cases z'⟩
  ·exact⟨_,q3,fun v z=>by
    have z':Data.seq _ _=Data.cell v:=z
    cases z'⟩
  ·exact q4.obj
  ·exact q5.obj
 keep:=fun i h h' st k=>st.keep k
 item:=by
  intro X hP hw hK hc i pins s σ H E I hf st hg
  subst hP hw hK
  obtain⟨xs,ys,x,y,ha,hb,hx,hy⟩:=hg
  obtain⟨its1,r1,p1,_⟩:=I.seqK ha
  obtain⟨its2,r2,p2,_⟩:=I.seqK hb
  obtain⟨u1,e1,q1⟩:=r1.get hx
  obtain⟨u2,e2,q2⟩:=r2.get hy
  have fz:=hf z (by simp)
  have fo:=hf TO (by simp)
  have f1:=hf i1 (by simp)
  have f2:=hf i2 (by simp)
  refine v8 D ⟨I.off ha fz,I.off ha fo,I.off ha f1,I.off ha f2⟩ ⟨I.off hb fz,I.off hb fo,I.off hb f1,I.off hb f2⟩ st p1 p2 (by simpa using e1) (by simpa using e2) fun h1 Z1 T1 kk=>?_
  refine⟨_,rfl,wpAny_letOwnedTupleGo_zip Z1.zz fun h2 z2 sb=>?_⟩
  have tz:s.heap.objs.size≠z:=fun q=>by
   have:=Heap.lt_size st.zz
   rw[← q] at this
   exact Nat.lt_irrefl _ this
  have T2:IsPair h2 s.heap.objs.size u1 u2:=sb.extBut _ _ tz T1
  have k2:∀ c o,c∉[z,TO,i1,i2]→s.heap.get? c=some o→h2.get? c=some o:=fun c o hc e=>by
   simp only[List.mem_cons,List.not_mem_nil,or_false,not_or] at hc
   exact sb.extBut c o hc.1 (kk c o hc.1 hc.2.1 hc.2.2.1 hc.2.2.2 e)
  have hn:H s.heap.objs.size=none:=I.fresh
  refine⟨.ref s.heap.objs.size,upd H s.heap.objs.size (.tup [x,y]),I.turnedLaid (t':=s.toks) (ch:=[z,TO,i1,i2]) (fun c hc=>hf c ?_) k2 (Nat.le_refl _) ?_,rfl,⟨_,hn,rfl,fun xs' ys' x' y' ha' hb' hx' hy'=>?_⟩,?_,fun c hc=>?_⟩
  ·simp only[List.mem_cons,List.not_mem_nil,or_false] at hc ⊢
   rcases hc with q | q | q | q<;>simp[q]
  ·exact⟨by show 2≤sizeLine;decide,[u1,u2],.cons q1 (.cons q2 .nil),⟨_,T2,rfl,_,rfl⟩⟩
  ·have:=I.seqK_inj ha ha'
   subst this
   have:=I.seqK_inj hb hb'
   subst this
   rw[hx] at hx'
   cases hx'
   rw[hy] at hy'
   cases hy'
   rfl
  ·obtain⟨_,q2,⟨u,v,q3⟩,q4,q5⟩:=Z1
   exact⟨z2,sb.extBut _ _ D.a1 q2,⟨u,v,sb.extBut _ _ D.a2 q3⟩,q4.at fun o e=>sb.extBut _ _ D.a3 e,q5.at fun o e=>sb.extBut _ _ D.a4 e⟩
  ·obtain⟨q1,q2,⟨u,v,q3⟩,q4,q5⟩:=st
   have lt:∀ {c o},s.heap.get? c=some o→c≠s.heap.objs.size:=fun e=>Nat.ne_of_lt (Heap.lt_size e)
   have hne:c≠s.heap.objs.size:=by
    have hc':c=z∨c=TI∨c=TO∨c=i1∨c=i2:=by simpa using hc
    rcases hc' with rfl | rfl | rfl | rfl | rfl
    ·exact lt q1
    ·exact lt q2
    ·exact lt q3
    ·obtain⟨o,e,_⟩:=q4.obj
     exact lt e
    ·obtain⟨o,e,_⟩:=q5.obj
     exact lt e
   rw[upd_ne hne]
   exact(hf c hc).1
 done:=by
  intro X hP hw hK hc i pins s σ H E I hf st hg
  subst hP hw hK
  obtain⟨xs,ys,ha,hb,hend⟩:=hg
  obtain⟨its1,r1,p1,_⟩:=I.seqK ha
  obtain⟨its2,r2,p2,_⟩:=I.seqK hb
  have l1:=r1.length
  have l2:=r2.length
  have fz:=hf z (by simp)
  have fo:=hf TO (by simp)
  have f1:=hf i1 (by simp)
  have f2:=hf i2 (by simp)
  refine Zy (I.ok.hd hc) D ⟨I.off ha fz,I.off ha fo,I.off ha f1,I.off ha f2⟩ ⟨I.off hb fz,I.off hb fo,I.off hb f1,I.off hb f2⟩ st p1 p2 ?_ fun h' kk=>⟨rfl,I.turnedL (t':=s.toks) (ch:=[z,TO,i1,i2]) (fun c hc=>hf c ?_) fun c o hc e=>?_⟩
  ·rcases hend with q | q
   ·left;simp;omega
   ·right;simp;omega
  ·simp only[List.mem_cons,List.not_mem_nil,or_false] at hc ⊢
   rcases hc with q | q | q | q<;>simp[q]
  ·simp only[List.mem_cons,List.not_mem_nil,or_false,not_or] at hc
   exact kk c o hc.1 hc.2.1 hc.2.2.1 hc.2.2.2 e
 self:=fun _ _ _ _ _ st h=>wpAny_pyIter_zip st.zz h
theorem zdR (n:Nat):Ap (n+4) (n+2) (n+3) n (n+1) :=
 ⟨Nat.ne_of_lt (by omega),Nat.ne_of_lt (by omega),Nat.ne_of_lt (by omega),Nat.ne_of_lt (by omega),Nat.ne_of_lt (by omega),Nat.ne_of_gt (by omega),Nat.ne_of_gt (by omega),Nat.ne_of_gt (by omega),Nat.ne_of_gt (by omega),Nat.ne_of_lt (by omega)⟩
theorem zcW {X:Cx}{x:Str}{C:Addr}{pos:Pos}(hm:X.mg x=some (.ref C)) (hg:Gl X x:=by rfl) (hd:(x == ("__debug__" : Str))=false:=by decide):PE X (.Name x pos) (tC (.ref C)):=yv hg hm rfl hd
theorem zcY {X:Cx}{x:Str}{n:String}{pos:Pos}(hm:X.mg x=none) (hv:bootBuiltins x=some (.type n)) (hg:Gl X x:=by rfl) (hn:x ≠ "__name__" := by decide) (hd:(x == ("__debug__" : Str))=false:=by decide):PE X (.Name x pos) (tC (.ty n)):=Uu hg hm hv rfl hn hd
def zpt (K:PySem.W.Frag) (ta:TA):TI:=fun σ H R=>ta σ H fun vs H1=>∃ k1 k2 a b xs ys,vs=[V.ref a,V.ref b]∧SqK k1 K H1 a xs∧SqK k2 K H1 b ys∧R (Itz k1 k2 K a b) H1
theorem zU:bootBuiltins "len" = some (.builtin "len"):=by decide +kernel
theorem Zi:bootBuiltins "int" = some (.type "int"):=by decide +kernel
theorem zx:bootBuiltins "isinstance" = some (.builtin "isinstance"):=by decide +kernel
theorem zdQ:bootBuiltins "abs" = some (.builtin "abs"):=by decide +kernel
theorem wG:bootBuiltins "str" = some (.type "str"):=by decide +kernel
theorem zdP:bootBuiltins "sum" = some (.builtin "sum"):=by decide +kernel
theorem UT:bootBuiltins "bool" = some (.type "bool"):=by decide +kernel
theorem Zh:bootBuiltins "tuple" = some (.type "tuple"):=by decide +kernel
theorem b01 (k:Bool) : -(2 ^ 64)<(if k=true then(1:Int) else 0)∧(if k=true then(1:Int) else 0)<2 ^ 64:=by cases k<;>decide
theorem boot_zip:bootBuiltins "zip" = some (.type "zip"):=by decide +kernel
theorem zcK {X:Cx}{es:List Expr}{n:Nat}{tp:Pos}{a b:Expr}{ta:TA}{p pos:Pos}(hg:Gl X "zip") (hm:X.mg "zip" = none) (ha:PA X [a,b] ta) (hs:starEach [a,b] X.env=[(false,eval a X.env),(false,eval b X.env)]:=by rfl) (hs2:starEach [b] X.env=[(false,eval b X.env)]:=by rfl) :
  PI X (.Tuple es n tp) (.Call (.Name "zip" p) [a,b] [] pos) (zpt X.K ta):=by
 intro pins s σ H R I h
 refine Call_ (ld_blt I hg hm boot_zip (PyProof.Rows.callWith_type1 (thn (ha pos pins s σ H _ I h) fun us s1 hq0=>?_) (by rw[hs,hs2]) (by rw[hs2];rfl)))
 obtain⟨vs,H1,I1,r1,q1⟩:=hq0
 obtain⟨k1,k2,a',b',xs,ys,e,h1,h2,q⟩:=q1
 subst e
 obtain⟨u,v,rfl,ru,rv⟩:=r1.two
 cases ru
 cases rv
 obtain⟨its1,x1,p1,_⟩:=I1.seqK h1
 obtain⟨its2,x2,p2,_⟩:=I1.seqK h2
 refine Va p1 p2 fun h' Z kk=>wpAny_pyIter_zip Z.zz ?_
 have fp:∀ c∈[s1.heap.objs.size+4,s1.heap.objs.size+2,s1.heap.objs.size+3,s1.heap.objs.size,s1.heap.objs.size+1],FpOk X pins H1 c:=fun c hc=>by
  have hle:s1.heap.objs.size≤c:=by
   simp only[List.mem_cons,List.not_mem_nil,or_false] at hc
   rcases hc with q | q | q | q | q<;>rw[q]<;>omega
  exact I1.fpOk hle (I1.hok.fresh hle)
 refine⟨_,_,_,_,H1,rfl,I1.kept (t':=s1.toks) kk,We a' b' (zdR _),Z,fp,q⟩
end L2

namespace L2
open PySem PySem.Spec PyProof.Rows
theorem UG {ns:List Int}{i:Nat}(h:i<ns.length):ns.getD i 0=ns[i]:=by simp[List.getD,h]
theorem VR {ns:List Int}{its:List Value}(r:Vals (ns.map V.int) its){i:Nat}{v:Value}(e:its.toArray[i]?=some v):∃ t,v=.int (ns.getD i 0) t:=by
 have e':its[i]?=some v:=by simpa using e
 have hi:i<its.length:=(List.getElem?_eq_some_iff.mp e').1
 have hl:=r.length
 rw[List.length_map] at hl
 have hb:i<ns.length:=by omega
 obtain⟨u,e2,ru⟩:=r.get (i:=i) (x:=V.int ns[i]) (by simp[hb])
 rw[e'] at e2
 cases e2
 obtain⟨t,rfl⟩:=ru
 exact⟨t,by rw[UG hb]⟩
theorem UU (val:Nat→Int):∀ k,argBest (fun i j=>decide (val i>val j)) k≤k∧∀ j,j≤k→val j≤val (argBest (fun i j=>decide (val i>val j)) k)
 |0=>⟨Nat.le_refl _,fun j hj=>by rw[Nat.le_zero.mp hj];exact Int.le_refl _⟩
 |k+1=>by
  obtain⟨h1,h2⟩:=UU val k
  show(if decide (val (k+1)>val (argBest _ k))=true then k+1 else argBest _ k)≤k+1∧∀ j,j≤k+1→val j≤val (if decide (val (k+1)>val (argBest _ k))=true then k+1 else argBest _ k)
  by_cases q:val (k+1)>val (argBest (fun i j=>decide (val i>val j)) k)
  ·rw[if_pos (decide_eq_true q)]
   refine⟨Nat.le_refl _,fun j hj=>?_⟩
   by_cases e:j=k+1
   ·rw[e];exact Int.le_refl _
   ·have:=h2 j (by omega)
    omega
  ·rw[if_neg (fun z=>q (of_decide_eq_true z))]
   refine⟨Nat.le_succ_of_le h1,fun j hj=>?_⟩
   by_cases e:j=k+1
   ·rw[e];omega
   ·exact h2 j (by omega)
theorem uS (ns:List Int):∀ k,preSum (fun i=>ns.getD i 0) k=(ns.take k).sum
 |0=>by simp[preSum]
 |k+1=>by
  show preSum _ k+ns.getD k 0=_
  rw[uS ns k,List.take_add_one]
  cases q:ns[k]? with
  |none=>simp[List.getD,q]
  |some x=>simp[List.getD,q]
def zhZ (K:PySem.W.Frag):List V→Hp→VK→Prop:=fun xs H Q=>∃ (a:Addr) (ns:List Int),xs=[V.ref a]∧SqL K H a (ns.map V.int)∧Q (.int ns.sum) H
section
variable {X:Cx}
theorem XZ (hc:X.calm=true):xA X (.builtin "sum") (zhZ X.K):=by
 intro pins s σ H xs us Q I r h
 obtain⟨a,ns,rfl,ha,q⟩:=h
 obtain⟨u,rfl,ru⟩:=r.one
 cases ru
 obtain⟨its,rv,p,hz⟩:=I.list ha
 have lt:a<s.heap.objs.size:=by
  obtain⟨_,e,_⟩:=p.isList
  exact Heap.lt_size e
 refine call_sum_walkAnyS (wpAny_pyIter_list p.isList ?_)
 refine⟨s.heap.objs.size,_,_,_,_,_,_,fun i=>ns.getD i 0,rfl,(Walks.list (A:=X.A.in1) (show X.A.in1.handled=none from I.ok.hd hc) s.heap.objs.size a (Nat.ne_of_lt lt) its.toArray).toS,⟨⟨_,Heap.get?_push_size _ rfl,rfl,rfl⟩,p.isList.push _⟩,fun b hb=>?_,fun i v hv=>VR rv hv,fun s' t' hm=>?_⟩
 ·show b<(s.heap.push _).objs.size
  rw[Heap.size_push]
  have z:b=s.heap.objs.size∨b=a:=by simpa using hb
  rcases z with z | z
  ·rw[z];exact Nat.lt_succ_self _
  ·rw[z];exact Nat.lt_succ_of_lt lt
 ·obtain⟨h',g',d',tk',os'⟩:=s'
  have e1:g'=s.gens:=hm.gens
  have e2:d'=s.drawn:=hm.drawn
  have e3:os'=s.os:=hm.os
  subst e1 e2 e3
  have hl:=rv.length
  rw[List.length_map] at hl
  rw[uS,List.size_toArray,← hl,List.take_length]
  exact⟨.int _,H,I.kept (t':=tk') fun b o e=>hm.heap b o (fun z=>by
   rw[List.mem_singleton.mp z] at e
   exact Nat.lt_irrefl _ (Heap.lt_size e)) (Heap.get?_push_of_some _ e),⟨_,rfl⟩,q⟩
def zp7 (K:PySem.W.Frag) (A:Around):R2:=fun x y H Q=>∃ (a b:Addr) (xs ys:List V),x=.ref a∧y=.ref b∧SqL K H a xs∧SqL K H b ys∧xs.length≠ys.length∧A.units<cLine∧Q (.bl true) H
theorem zc2:OpR X (compareOp .NotEq) (zp7 X.K X.A):=by
 intro pins s σ H x y v u Q I rx ry h
 obtain⟨a,b,xs,ys,rfl,rfl,h1,h2,hl,hu,q⟩:=h
 cases rx;cases ry
 obtain⟨i1,r1,p1,_⟩:=I.list h1
 obtain⟨i2,r2,p2,_⟩:=I.list h2
 exact SeqAt.RcNeAt.lists_lengths p1.isList p2.isList (by simp;rw[← r1.length,← r2.length];exact hl) hu _ _ _ _ ⟨.bl _,H,I,rfl,q⟩
end
end L2

namespace L2
open PySem PySem.Spec PyProof.Rows
theorem Vr {X:Cx}{f:Value→Value→Sem Value}{r1 r2:R2}(h1:OpR X f r1) (h2:OpR X f r2):OpR X f (fun x y H Q=>r1 x y H Q∨r2 x y H Q):=by
 intro pins s σ H x y v u Q I rx ry h
 rcases h with h | h
 ·exact h1 pins s σ H x y v u Q I rx ry h
 ·exact h2 pins s σ H x y v u Q I rx ry h
end L2

namespace K04
open PySem L2
inductive Ex where
 |num (i:Int)
 |name (x:Str)
 |two (w:Str) (e f:Ex)
 |mod (e:Ex) (n:Int)
 |less (e f g h:Ex)
noncomputable def Ex.dep:Ex→Nat
 |.num _=>1
 |.name _=>1
 |.two _ e f=>max e.dep f.dep+1
 |.mod e _=>e.dep+1
 |.less e f g h=>max (max e.dep f.dep) (max g.dep h.dep)+1
theorem Ex.dep_pos:∀ e:Ex,1≤e.dep
 |.num _=>Nat.le_refl _
 |.name _=>Nat.le_refl _
 |.two _ _ _=>Nat.le_add_left _ _
 |.mod _ _=>Nat.le_add_left _ _
 |.less _ _ _ _=>Nat.le_add_left _ _
abbrev zbg (w:Str):Prop:=w = "add" ∨ w = "sub" ∨ w = "min" ∨ w = "max"
def Ex.ok (names:List Str):Ex→Prop
 |.num i=>-100000000000000000000<i∧i<100000000000000000000
 |.name x=>x∈names
 |.two w e f=>zbg w∧e.ok names∧f.ok names
 |.mod e n=>(1≤n∧n≤1000000000)∧e.ok names
 |.less e f g h=>e.ok names∧f.ok names∧g.ok names∧h.ok names
def Ext (l:Addr) (H H':Hp):Prop:=∀ b o,H b=some o→b≠l→H' b=some o
theorem Ext.refl {l:Addr}{H:Hp}:Ext l H H:=fun _ _ e _=>e
theorem Ext.trans {l:Addr}{H H1 H2:Hp}(a:Ext l H H1) (b:Ext l H1 H2):Ext l H H2:=fun c o e n=>b c o (a c o e n) n
theorem Ext.at {l:Addr}{H:Hp}{o:HO}:Ext l H (upd H l o):=fun c u e n=>by rw[upd_ne n];exact e
theorem Same.new {p:Addr}{H:Hp}{o:HO}(h:H p=none):Same H (upd H p o):=fun c u e=>by rw[upd_ne (ne_of_none e h)];exact e
def Told (H:Hp):Ex→V→Prop
 |.num i,v=>∃ p,v=.ref p∧H p=some (.tup [.str "num",.int i])
 |.name x,v=>∃ p,v=.ref p∧H p=some (.tup [.str "name",.str x])
 |.two w e f,v=>∃ p a b,v=.ref p∧H p=some (.tup [.str w,a,b])∧Told H e a∧Told H f b
 |.mod e n,v=>∃ p a,v=.ref p∧H p=some (.tup [.str "mod",a,.int n])∧Told H e a
 |.less e f g h,v=>∃ p a b c d,v=.ref p∧H p=some (.tup [.str "less",a,b,c,d])∧Told H e a∧Told H f b∧Told H g c∧Told H h d
theorem Told.mono {H H':Hp}(k:∀ b xs,H b=some (.tup xs)→H' b=some (.tup xs)):∀ {e:Ex}{v:V},Told H e v→Told H' e v
 |.num _,_,⟨p,e,h⟩=>⟨p,e,k _ _ h⟩
 |.name _,_,⟨p,e,h⟩=>⟨p,e,k _ _ h⟩
 |.two _ _ _,_,⟨p,a,b,e,h,t1,t2⟩=>⟨p,a,b,e,k _ _ h,t1.mono k,t2.mono k⟩
 |.mod _ _,_,⟨p,a,e,h,t1⟩=>⟨p,a,e,k _ _ h,t1.mono k⟩
 |.less _ _ _ _,_,⟨p,a,b,c,d,e,h,t1,t2,t3,t4⟩=>⟨p,a,b,c,d,e,k _ _ h,t1.mono k,t2.mono k,t3.mono k,t4.mono k⟩
theorem Told.same {H H':Hp}(k:Same H H'){e:Ex}{v:V}(t:Told H e v):Told H' e v:=t.mono fun b xs h=>k b _ h
theorem Told.ref {H:Hp}:∀ {e:Ex}{v:V},Told H e v→∃ p xs,v=.ref p∧H p=some (.tup xs)
 |.num _,_,⟨p,e,h⟩=>⟨p,_,e,h⟩
 |.name _,_,⟨p,e,h⟩=>⟨p,_,e,h⟩
 |.two _ _ _,_,⟨p,a,b,e,h,_⟩=>⟨p,_,e,h⟩
 |.mod _ _,_,⟨p,a,e,h,_⟩=>⟨p,_,e,h⟩
 |.less _ _ _ _,_,⟨p,a,b,c,d,e,h,_⟩=>⟨p,_,e,h⟩
theorem eqV_refl {x:V}(h:yW x=true):eqV x x=true:=by
 cases x<;>simp[yW] at h<;>simp[eqV]
theorem yg {K:PySem.W.Frag}{H:Hp}{x:V}{n:Nat}(h:yW x=true):EqD K H x x true n:=by
 have:=EqD.flat (K:=K) (H:=H) (n:=n) h h
 rw[eqV_refl h] at this
 exact this
theorem xb {K:PySem.W.Frag}{H:Hp}{a b:Addr}{xs ys:List V}{n:Nat}(ha:H a=some (.tup xs)) (hb:H b=some (.tup ys)) (hl:xs.length=ys.length) (h:∀ (j:Nat) x y,xs[j]?=some x→ys[j]?=some y→EqD K H x y true n):EqD K H (.ref a) (.ref b) true (n+1):=by
 by_cases hne:a=b
 ·subst hne;exact .same
 ·have:=EqD.tup (K:=K) (e:=fun _=>true) hne (SqT.of ha) (SqT.of hb) hl h
  have e:((List.range xs.length).all fun _=>true)=true:=by simp
  rw[e] at this
  exact this
theorem Told.eqD {K:PySem.W.Frag}{H:Hp}:∀ {e:Ex}{u v:V},Told H e u→Told H e v→EqD K H u v true e.dep
 |.num i,_,_,⟨p,e1,h1⟩,⟨q,e2,h2⟩=>by
  subst e1 e2
  refine xb (n:=0) h1 h2 rfl fun j x y a b=>?_
  rw[a] at b;cases b
  match j,a with
  |0,a=>cases a;exact yg rfl
  |1,a=>cases a;exact yg rfl
  |_+2,a=>simp at a
 |.name i,_,_,⟨p,e1,h1⟩,⟨q,e2,h2⟩=>by
  subst e1 e2
  refine xb (n:=0) h1 h2 rfl fun j x y a b=>?_
  rw[a] at b;cases b
  match j,a with
  |0,a=>cases a;exact yg rfl
  |1,a=>cases a;exact yg rfl
  |_+2,a=>simp at a
 |.two w e f,_,_,⟨p,a1,b1,e1,h1,s1,s2⟩,⟨q,a2,b2,e2,h2,t1,t2⟩=>by
  subst e1 e2
  refine xb h1 h2 rfl fun j x y a b=>?_
  match j,a,b with
  |0,a,b=>cases a;cases b;exact yg rfl
  |1,a,b=>cases a;cases b;exact(Told.eqD s1 t1).mono (Nat.le_max_left _ _)
  |2,a,b=>cases a;cases b;exact(Told.eqD s2 t2).mono (Nat.le_max_right _ _)
  |_+3,a,b=>simp at a
 |.mod e n,_,_,⟨p,a1,e1,h1,s1⟩,⟨q,a2,e2,h2,t1⟩=>by
  subst e1 e2
  refine xb h1 h2 rfl fun j x y a b=>?_
  match j,a,b with
  |0,a,b=>cases a;cases b;exact yg rfl
  |1,a,b=>cases a;cases b;exact Told.eqD s1 t1
  |2,a,b=>cases a;cases b;exact yg rfl
  |_+3,a,b=>simp at a
 |.less e f g h,_,_,⟨p,a1,b1,c1,d1,e1,h1,s1,s2,s3,s4⟩,⟨q,a2,b2,c2,d2,e2,h2,t1,t2,t3,t4⟩=>by
  subst e1 e2
  have m1:=Nat.le_max_left (max e.dep f.dep) (max g.dep h.dep)
  have m2:=Nat.le_max_right (max e.dep f.dep) (max g.dep h.dep)
  refine xb h1 h2 rfl fun j x y a b=>?_
  match j,a,b with
  |0,a,b=>cases a;cases b;exact yg rfl
  |1,a,b=>cases a;cases b;exact(Told.eqD s1 t1).mono (Nat.le_trans (Nat.le_max_left _ _) m1)
  |2,a,b=>cases a;cases b;exact(Told.eqD s2 t2).mono (Nat.le_trans (Nat.le_max_right _ _) m1)
  |3,a,b=>cases a;cases b;exact(Told.eqD s3 t3).mono (Nat.le_trans (Nat.le_max_left _ _) m2)
  |4,a,b=>cases a;cases b;exact(Told.eqD s4 t4).mono (Nat.le_trans (Nat.le_max_right _ _) m2)
  |_+5,a,b=>simp at a
theorem Same.made {H:Hp}{x dx C:Addr}{fs fs':List (Str×V)}(nx:H x=none) (ndx:H dx=none):Same H (upd (upd (upd H dx (.own x)) x (.ins C dx fs')) x (.ins C dx fs)):=fun b o e=>by
 rw[upd_ne (ne_of_none e nx),upd_ne (ne_of_none e nx),upd_ne (ne_of_none e ndx)]
 exact e
theorem zh4:(10:Int) ^ (20:Int).toNat=100000000000000000000:=by decide
theorem zqh:(10:Int) ^ (9:Int).toNat=1000000000:=by decide
theorem zdG {i:Nat}{v:V}{τ:St}{H:Hp}{A B:St→Hp→Prop}(h:A (τ.set i (some v)) H):wV i v τ H fun τ2 H4=>zg9 τ2 H4 fun b H5=>if b=true then A τ2 H5 else B τ2 H5:=by
 show if true=true then A (τ.set i (some v)) H else B (τ.set i (some v)) H
 exact wB h
theorem WM:((1009:Int).natAbs.log2<9000):=by decide
theorem WL:((2003:Int).natAbs.log2<9000):=by decide
end K04

namespace K04
open PySem L2
noncomputable def ziy:V→Bool
 |.int _=>true
 |.bl _=>true
 |_=>false
noncomputable def zps:V→Bool
 |.bl _=>true
 |_=>false
noncomputable def zdC:V→Bool
 |.str _=>true
 |_=>false
def Lf (K:PySem.W.Frag) (H:Hp) (v:V):Prop:=∃ t,TyOf K H v t∧PySem.W.kitOne K t (.type "int")=some (ziy v)∧PySem.W.kitOne K t (.type "bool")=some (zps v)∧PySem.W.kitOne K t (.type "str")=some (zdC v)
noncomputable def whole:V→Bool
 |.int _=>true
 |_=>false
noncomputable def uM:V→Bool
 |.int i=>decide ((if i<0 then -i else i)<100000000000000000000)
 |_=>false
noncomputable def xM (ws:List Str):V→Bool
 |.str x=>inV (.str x) (ws.map V.str)
 |_=>false
noncomputable def UQ:V→Bool
 |.int i=>decide (1≤i)&&decide (i≤1000000000)
 |_=>false
theorem Wa (v:V):whole v=(ziy v&&!zps v):=by cases v<;>rfl
theorem vb {v:V}(h:whole v=true):∃ i,v=.int i:=by
 cases v<;>simp[whole] at h
 exact⟨_,rfl⟩
theorem WU {v:V}(h:zdC v=true):∃ x,v=.str x:=by
 cases v<;>simp[zdC] at h
 exact⟨_,rfl⟩
theorem inV_str {x:Str}:∀ {ws:List Str},inV (.str x) (ws.map V.str)=true↔x∈ws
 |[]=>by simp[inV]
 |w::ws=>by
  have ih:=inV_str (x:=x) (ws:=ws)
  unfold inV at ih ⊢
  rw[List.map_cons,List.any_cons,Bool.or_eq_true,List.mem_cons,ih]
  constructor
  ·rintro(h | h)
   ·left
    have:V.str w=V.str x:=by simpa[eqV] using h
    cases this
    rfl
   ·exact .inr h
  ·rintro(h | h)
   ·left
    subst h
    exact eqV_refl rfl
   ·exact .inr h
theorem flat_strs (ws:List Str):(ws.map V.str).all yW=true:=by
 rw[List.all_eq_true]
 intro v hv
 obtain⟨x,_,rfl⟩:=List.mem_map.mp hv
 rfl
inductive Gx where
 |num (v:V)
 |name (v:V)
 |two (w:V) (e f:Gx)
 |mod (e:Gx) (n:V)
 |less (e f g h:Gx)
 |oth (v:V)
noncomputable abbrev twoWs:List Str:=["add", "sub", "min", "max"]
noncomputable def Gx.sound (names:List Str):Nat→Gx→Bool
 |0,_=>false
 |_+1,.num v=>uM v
 |_+1,.name v=>xM names v
 |n+1,.two w e f=>xM twoWs w&&([e,f].all (Gx.sound names n))
 |n+1,.mod e v=>UQ v&&Gx.sound names n e
 |n+1,.less e f g h=>[e,f,g,h].all (Gx.sound names n)
 |_+1,.oth _=>false
noncomputable def Ex.gx:Ex→Gx
 |.num i=>.num (.int i)
 |.name x=>.name (.str x)
 |.two w e f=>.two (.str w) e.gx f.gx
 |.mod e n=>.mod e.gx (.int n)
 |.less e f g h=>.less e.gx f.gx g.gx h.gx
theorem Ex.sound {names:List Str}:∀ {n:Nat}{e:Ex},e.ok names→e.dep≤n→e.gx.sound names n=true
 |0,e,_,d=>by have:=e.dep_pos;omega
 |n+1,.num i,o,d=>by
  obtain⟨o1,o2⟩:=o
  show decide _=true
  refine decide_eq_true ?_
  split<;>omega
 |n+1,.name x,o,d=>inV_str.mpr o
 |n+1,.two w e f,o,d=>by
  obtain⟨hw,o1,o2⟩:=o
  have d:max e.dep f.dep+1≤n+1:=d
  have h1:=Ex.sound (n:=n) o1 (by omega)
  have h2:=Ex.sound (n:=n) o2 (by omega)
  show(inV (.str w) (twoWs.map V.str)&&([e.gx,f.gx].all _))=true
  have hw':inV (.str w) (twoWs.map V.str)=true:=inV_str.mpr (by rcases hw with rfl | rfl | rfl | rfl<;>simp)
  rw[hw']
  simp[h1,h2]
 |n+1,.mod e i,o,d=>by
  obtain⟨⟨i1,i2⟩,o1⟩:=o
  have d:e.dep+1≤n+1:=d
  have h1:=Ex.sound (n:=n) o1 (by omega)
  show((decide (1≤i)&&decide (i≤1000000000))&&e.gx.sound names n)=true
  simp[h1,i1,i2]
 |n+1,.less e f g h,o,d=>by
  obtain⟨o1,o2,o3,o4⟩:=o
  have d:max (max e.dep f.dep) (max g.dep h.dep)+1≤n+1:=d
  have h1:=Ex.sound (n:=n) o1 (by omega)
  have h2:=Ex.sound (n:=n) o2 (by omega)
  have h3:=Ex.sound (n:=n) o3 (by omega)
  have h4:=Ex.sound (n:=n) o4 (by omega)
  show([e.gx,f.gx,g.gx,h.gx].all _)=true
  simp[h1,h2,h3,h4]
noncomputable def Ex.words:Ex→List Str
 |.num i=>[toString i]
 |.name x=>[x]
 |.two w e f=>w::(e.words++f.words)
 |.mod e n => "mod" :: (e.words++[(toString n:Str)])
 |.less e f g h => "less" :: (e.words++(f.words++(g.words++h.words)))
noncomputable def Ex.size:Ex→Nat
 |.num _=>1
 |.name _=>1
 |.two _ e f=>1+e.size+f.size
 |.mod e _=>2+e.size
 |.less e f g h=>1+e.size+f.size+g.size+h.size
theorem Ex.words_len:∀ e:Ex,e.words.length=e.size
 |.num _=>rfl
 |.name _=>rfl
 |.two _ e f=>by simp[Ex.words,Ex.size,Ex.words_len e,Ex.words_len f];omega
 |.mod e _=>by simp[Ex.words,Ex.size,Ex.words_len e];omega
 |.less e f g h=>by simp[Ex.words,Ex.size,Ex.words_len e,Ex.words_len f,Ex.words_len g,Ex.words_len h];omega
end K04

namespace K04
open PySem L2
theorem Gx.of_sound {names:List Str}:∀ {n:Nat}{g:Gx},g.sound names n=true→∃ e:Ex,g=e.gx∧e.ok names∧e.dep≤n
 |0,_,h=>by cases h
 |n+1,.num v,h=>by
  cases v with
  |int i =>
   have h:decide ((if i<0 then -i else i)<100000000000000000000)=true:=h
   have h:=of_decide_eq_true h
   refine⟨.num i,rfl,?_,Nat.le_add_left _ _⟩
   split at h
   ·constructor<;>omega
   ·constructor<;>omega
  |_=>cases h
 |n+1,.name v,h=>by
  cases v with
  |str x=>exact⟨.name x,rfl,inV_str.mp h,Nat.le_add_left _ _⟩
  |_=>cases h
 |n+1,.two w e f,h=>by
  have h:(xM twoWs w&&([e,f].all (Gx.sound names n)))=true:=h
  rw[Bool.and_eq_true] at h
  obtain⟨hw,h⟩:=h
  simp only[List.all_cons,List.all_nil,Bool.and_true,Bool.and_eq_true] at h
  obtain⟨e1,rfl,o1,d1⟩:=Gx.of_sound h.1
  obtain⟨e2,rfl,o2,d2⟩:=Gx.of_sound h.2
  cases w with
  |str x =>
   refine⟨.two x e1 e2,rfl,⟨?_,o1,o2⟩,by show max e1.dep e2.dep+1≤n+1;omega⟩
   have hm:x∈twoWs:=inV_str.mp hw
   simp only[List.mem_cons,List.not_mem_nil,or_false] at hm
   exact hm
  |_=>cases hw
 |n+1,.mod e v,h=>by
  have h:(UQ v&&Gx.sound names n e)=true:=h
  rw[Bool.and_eq_true] at h
  obtain⟨e1,rfl,o1,d1⟩:=Gx.of_sound h.2
  cases v with
  |int i =>
   have h1:(decide (1≤i)&&decide (i≤1000000000))=true:=h.1
   rw[Bool.and_eq_true] at h1
   exact⟨.mod e1 i,rfl,⟨⟨of_decide_eq_true h1.1,of_decide_eq_true h1.2⟩,o1⟩,by show e1.dep+1≤n+1;omega⟩
  |_=>cases h.1
 |n+1,.less e f g k,h=>by
  have h:[e,f,g,k].all (Gx.sound names n)=true:=h
  simp only[List.all_cons,List.all_nil,Bool.and_true,Bool.and_eq_true] at h
  obtain⟨h1,h2,h3,h4⟩:=h
  obtain⟨e1,rfl,o1,d1⟩:=Gx.of_sound h1
  obtain⟨e2,rfl,o2,d2⟩:=Gx.of_sound h2
  obtain⟨e3,rfl,o3,d3⟩:=Gx.of_sound h3
  obtain⟨e4,rfl,o4,d4⟩:=Gx.of_sound h4
  exact⟨.less e1 e2 e3 e4,rfl,⟨o1,o2,o3,o4⟩,by show max (max e1.dep e2.dep) (max e3.dep e4.dep)+1≤n+1;omega⟩
 |n+1,.oth _,h=>by cases h
theorem Ex.gx_inj:∀ {e f:Ex},e.gx=f.gx→e=f
 |.num i,.num j,h=>by cases h;rfl
 |.name i,.name j,h=>by cases h;rfl
 |.two w e f,.two w' e' f',h=>by
  injection h with h1 h2 h3
  cases h1
  rw[Ex.gx_inj h2,Ex.gx_inj h3]
 |.mod e n,.mod e' n',h=>by
  injection h with h1 h2
  cases h2
  rw[Ex.gx_inj h1]
 |.less e f g k,.less e' f' g' k',h=>by
  injection h with h1 h2 h3 h4
  rw[Ex.gx_inj h1,Ex.gx_inj h2,Ex.gx_inj h3,Ex.gx_inj h4]
theorem Vp {a b:Nat}(h:a≤b):4 ^ a≤4 ^ b:=Nat.pow_le_pow_right (by decide) h
theorem Ex.size_le:∀ e:Ex,3*e.size+1≤4 ^ e.dep
 |.num _=>by show 4≤4 ^ 1;decide
 |.name _=>by show 4≤4 ^ 1;decide
 |.two _ e f=>by
  have h1:=e.size_le
  have h2:=f.size_le
  have p1:=Vp (Nat.le_max_left e.dep f.dep)
  have p2:=Vp (Nat.le_max_right e.dep f.dep)
  show 3*(1+e.size+f.size)+1≤4 ^ (max e.dep f.dep+1)
  rw[Nat.pow_succ]
  omega
 |.mod e _=>by
  have h1:=e.size_le
  have h3:=e.dep_pos
  have p1:4 ^ 1≤4 ^ e.dep:=Vp h3
  show 3*(2+e.size)+1≤4 ^ (e.dep+1)
  rw[Nat.pow_succ]
  omega
 |.less e f g k=>by
  have h1:=e.size_le
  have h2:=f.size_le
  have h3:=g.size_le
  have h4:=k.size_le
  have p1:=Vp (Nat.le_trans (Nat.le_max_left e.dep f.dep) (Nat.le_max_left _ (max g.dep k.dep)))
  have p2:=Vp (Nat.le_trans (Nat.le_max_right e.dep f.dep) (Nat.le_max_left _ (max g.dep k.dep)))
  have p3:=Vp (Nat.le_trans (Nat.le_max_left g.dep k.dep) (Nat.le_max_right (max e.dep f.dep) _))
  have p4:=Vp (Nat.le_trans (Nat.le_max_right g.dep k.dep) (Nat.le_max_right (max e.dep f.dep) _))
  show 3*(1+e.size+f.size+g.size+k.size)+1≤4 ^ (max (max e.dep f.dep) (max g.dep k.dep)+1)
  rw[Nat.pow_succ]
  omega
theorem Ex.size_line {e:Ex}(h:e.dep≤8):e.size≤sizeLine:=by
 have h1:=e.size_le
 have h2:4 ^ e.dep≤65536:=Vp h
 have:sizeLine=16777216:=by decide
 omega
end K04

namespace L2
open PySem PySem.Spec PyProof.Rows
def DictAt (a D:Addr) (h:Heap):Prop:=∃ o,h.get? a=some o∧o.dict=some D
def KD (h h':Heap):Prop:=∀ a D,DictAt a D h→DictAt a D h'
def Kp {α:Type}:Sem α→Prop
 |.pure _=>True
 |.raise _=>True
 |.unsupported _=>True
 |.finish _=>True
 |.rule _ k=>Kp (k ())
 |.at _ k=>Kp (k ())
 |.load _ _ k=>∀ o,Kp (k o)
 |.update _ _ f k=>(∀ o,(f o).dict=o.dict∧((f o).data=.freed→o.data=.freed))∧Kp (k ())
 |.alloc _ k=>∀ a,Kp (k a)
 |.loadIfAlive _ k=>∀ o,Kp (k o)
 |.point _ k=>Kp (k ())
 |.register _ _=>True
 |.fresh k=>∀ t,Kp (k t)
 |.ask k=>∀ x,Kp (k x)
 |.choose _ _ k=>∀ n,Kp (k n)
 |.os _ _ k=>∀ r,Kp (k r)
 |.call ..=>False
 |.handled _ k=>∀ o,Kp (k o)
 |.newGen _ k=>∀ n,Kp (k n)
 |.genState _ k=>∀ x,Kp (k x)
 |.resume ..=>False
 |.yield ..=>True
 |.stack k=>∀ l,Kp (k l)
 |.fork ..=>True
 |.thread k=>∀ n,Kp (k n)
 |.await ..=>True
section
variable {α β:Type}
theorem WQ (m:Sem α) (f:α→Sem β) (h:Kp m) (k:∀ x,Kp (f x)):Kp (m.bind f):=by
 induction m<;>simp only[Kp,Sem.bind] at h ⊢<;>first | trivial | exact k _ | (rename_i ih;exact ih _ h) | (rename_i ih;exact⟨h.1,ih _ h.2⟩) | (rename_i ih;exact fun x=>ih x (h x))
theorem kp_bind {m:Sem α}{f:α→Sem β}(h:Kp m) (k:∀ x,Kp (f x)):Kp (m >>= f):=WQ m f h k
theorem kp_pure {x:α}:Kp (pure x:Sem α):=True.intro
theorem xn {c:Prop} [Decidable c]{a b:Sem α}(h:Kp a) (k:Kp b):Kp (if c then a else b):=by split<;>assumption
theorem DictAt.upd {h:Heap}{a D b:Addr}{f:Obj→Obj}(hf:∀ o,(f o).dict=o.dict∧((f o).data=.freed→o.data=.freed)) (x:DictAt a D h):DictAt a D (h.update b f):=by
 obtain⟨o,e,d⟩:=x
 by_cases hb:b=a
 ·subst hb
  refine⟨f o,Heap.get?_update_self f e ?_,(hf o).1.trans d⟩
  cases q:(f o).isFreed with
  |false=>rfl
  |true =>
   exfalso
   have q1:(f o).data=.freed:=by
    revert q
    generalize f o=u
    intro q
    obtain⟨c,d',dt,sl⟩:=u
    cases dt<;>first | rfl | cases q
   have q2:=(hf o).2 q1
   obtain⟨c,d',dt,sl⟩:=o
   cases q2
   simp only[Heap.get?] at e
   split at e
   ·cases e
   ·rename_i hne
    exact hne _ _ _ e
 ·exact⟨o,(Heap.get?_update_other _ _ hb).trans e,d⟩
theorem DictAt.keeps {h h':Heap}{a D:Addr}(x:DictAt a D h) (k:∀ b o,h.get? b=some o→h'.get? b=some o):DictAt a D h':=let ⟨o,e,d⟩:=x;⟨o,k _ _ e,d⟩
theorem zg5 {M:Model}{Γ:PySem.Ctx}(t:Sem α){Q:α→Pos→Shared→Prop}{E:Value→Pos→Shared→Prop}{h0:Heap}(g:Kp t) (p:Pos) (s:Shared) (k:KD h0 s.heap) (h:Sem.wp M Γ t Q E p s) :
  Sem.wp M Γ t (fun a p' s'=>Q a p' s'∧KD h0 s'.heap) E p s:=by
 induction t generalizing p s with
 |pure x=>exact⟨h,k⟩
 |raise v=>exact h
 |unsupported | finish | yield | fork | await | register=>exact h
 |rule _ _ ih | «at» _ _ ih | point _ _ ih=>exact ih _ g _ _ k h
 |loadIfAlive _ _ ih | fresh _ ih | ask _ ih | os _ _ _ ih | handled _ _ ih | newGen _ _ ih | stack _ ih | thread _ ih=>exact ih _ (g _) _ _ k h
 |alloc o _ ih=>exact ih _ (g _) _ _ (fun a D x=>(k a D x).keeps fun b u e=>Heap.get?_push_of_some _ e) h
 |load _ _ _ ih | genState _ _ ih =>
  obtain⟨o,ho,h⟩:=h
  exact⟨o,ho,ih _ (g _) _ _ k h⟩
 |choose _ _ _ ih=>exact⟨h.1,ih _ (g _) _ _ k h.2⟩
 |update a _ f _ ih=>exact⟨h.1,ih _ g.2 _ _ (fun b D x=>(k b D x).upd g.1) h.2⟩
 |call=>exact False.elim g
 |resume=>exact False.elim g
theorem yX {M:Model}{A:Around}{t:Sem α}{Q:α→Shared→Prop}{E:Value→Shared→Prop}{s:Shared}(g:Kp t) (h:wpAny M A t Q E s):wpAny M A t (fun a s'=>Q a s'∧KD s.heap s'.heap) E s :=
 fun Γ p hΓ=>zg5 t g p s (fun _ _ x=>x) (h Γ p hΓ)
theorem uo {a:Addr}:Kp (load a):=fun _=>True.intro
theorem ut {v:Value}:Kp (fieldsOf v):=by
 unfold fieldsOf
 cases v<;>first | trivial | skip
 refine kp_bind uo fun o=>?_
 split<;>trivial
theorem xG {v:Value}{i:Nat}:Kp (field v i):=by
 unfold field
 refine kp_bind ut fun o=>?_
 split<;>trivial
theorem ur {g:Array Value→Array Value}(o:Obj):(Obj.mapFields g o).dict=o.dict∧((Obj.mapFields g o).data=.freed→o.data=.freed):=by
 obtain⟨c,d,dt,sl⟩:=o
 cases dt<;>exact⟨rfl,fun q=>by first | rfl | cases q⟩
theorem wt {a:Addr}{i:Nat}{x:Value}:Kp (updateField a i x):=by
 unfold updateField
 refine kp_bind uo fun o=>?_
 split
 ·refine xn ?_ True.intro
  exact⟨ur,True.intro⟩
 ·trivial
theorem yx {v:Value}{i:Nat}{x:Value}:Kp (setField v i x):=by
 unfold setField
 cases v<;>first | trivial | exact wt
theorem yF {e:Value}{f:Option Addr}:Kp (setFlight e f):=by
 unfold setFlight
 exact kp_bind xG fun o=>xn yx kp_pure
theorem uq {env:Env}{b:Bool}{l:List Env}:Kp (keptBack env b l):=by
 unfold keptBack
 cases l with
 |nil =>
  dsimp only
  refine xn kp_pure (kp_bind ?_ fun x=>kp_pure)
  unfold underTheClaimsCaller
  first | exact fun _=>True.intro | exact kp_bind (fun _=>True.intro) fun _=>True.intro
 |cons c l=>exact kp_pure
theorem kp_behind {env:Env}{l:List Env}:Kp (behindIsImport env l):=by
 unfold behindIsImport
 refine xn kp_pure (xn kp_pure ?_)
 exact kp_bind xG fun _=>kp_pure
theorem WP (l:List Env):Kp (readyFrames l):=by
 induction l with
 |nil=>trivial
 |cons env l ih =>
  unfold readyFrames
  split
  ·refine kp_bind uo fun o=>xn kp_pure (kp_bind kp_behind fun b=>kp_bind uq fun v=>kp_bind ?_ fun _=>ih)
   exact⟨fun o=>⟨rfl,id⟩,True.intro⟩
  ·trivial
theorem wA {env:Env}:Kp (PySem.frameOf env):=by
 unfold PySem.frameOf
 refine kp_bind (kp_bind (fun _=>True.intro) fun _=>True.intro) fun l=>kp_bind ?_ fun o=>?_
 ·generalize l.dropWhile _=l'
  cases l' with
  |nil=>trivial
  |cons c r =>
   unfold frameObject
   exact kp_bind (WP _) fun _=>kp_pure
 ·split<;>trivial
theorem xo {f:Addr}{b:Bool}:Kp (entryPlaceOf f b):=by
 unfold entryPlaceOf
 refine kp_bind (fun _=>True.intro) fun l=>?_
 split<;>trivial
theorem wg {a b c d e:Value}{pl:List Value}:Kp (EntryCells.newEntry a b c d e pl):=by
 unfold EntryCells.newEntry newFields newObj newObjAsIs
 dsimp only
 have al:∀ o:Obj,Kp (alloc o):=fun _ _=>True.intro
 refine xn ?_ ?_
 ·exact kp_bind (m:=Sem.unsupported _) True.intro fun _=>kp_bind (al _) fun _=>kp_pure
 ·exact kp_bind (al _) fun _=>kp_pure
theorem kp_noteFrame {e:Value}{env:Env}:Kp (noteFrame e env):=by
 unfold noteFrame
 split
 ·refine kp_bind xG fun hd=>?_
  refine xn (kp_bind xG fun _=>xn kp_pure (kp_bind yx fun _=>?_)) ?_
  ·exact kp_bind wA fun _=>kp_bind xo fun _=>kp_bind wg fun _=>yx
  ·exact kp_bind wA fun _=>kp_bind xo fun _=>kp_bind wg fun _=>yx
 ·trivial
theorem wz {e:Value}{env:Env}:Kp (leaving env e):=by
 unfold leaving
 exact kp_bind kp_noteFrame fun _=>yF
end
section
variable {M:Model}{A:Around}{E:Value→Shared→Prop}{s:Shared}{base:Heap}{l:List Env}{env:Env}{outer:List Env}{L e:Addr}{cls a0:Value}{Q:Unit→Shared→Prop}
theorem UD (hfr:A.frames=some (env::outer)) (hf:env.frame=some L) (hfl:Heap.FlyingW base (env::outer) e cls a0 s.heap)
  (hQ:∀ h',Heap.FlyingW base outer e cls a0 h'→s.heap.UpToSlots h'→KD s.heap h'→Q () { s with heap:=h' }):wpAny M A (leaving env (.ref e)) Q E s :=
 wpAny_mono (yX wz (wpAny_leaves_onW (Q:=fun _ s2=>∃ h',s2={ s with heap:=h' }∧Heap.FlyingW base outer e cls a0 h'∧s.heap.UpToSlots h') hfr hf hfl fun h' a b=>⟨h',rfl,a,b⟩))
  (fun _ s2 ⟨⟨h',q,a,b⟩,k⟩=>by subst q;exact hQ h' a b k) fun _ _ z=>z
theorem zdq (hfr:A.frames=some (env::outer)) (hf:env.frame=some L) (hfl:Heap.FlyingW base (env::outer) e cls a0 s.heap)
  (hQ:∀ h',Heap.HeldW base (env::outer) e cls a0 L h'→s.heap.UpToSlots h'→KD s.heap h'→Q () { s with heap:=h' }):wpAny M A (noteFrame (.ref e) env) Q E s :=
 wpAny_mono (yX kp_noteFrame (wpAny_looks_onW (Q:=fun _ s2=>∃ h',s2={ s with heap:=h' }∧Heap.HeldW base (env::outer) e cls a0 L h'∧s.heap.UpToSlots h') hfr hf hfl fun h' a b=>⟨h',rfl,a,b⟩))
  (fun _ s2 ⟨⟨h',q,a,b⟩,k⟩=>by subst q;exact hQ h' a b k) fun _ _ z=>z
theorem zdw (hh:Heap.HeldW base l e cls a0 L s.heap) (hQ:∀ h',Heap.FlyingW base l e cls a0 h'→s.heap.UpToSlots h'→KD s.heap h'→Q () { s with heap:=h' }):wpAny M A (setFlight (.ref e) none) Q E s :=
 wpAny_mono (yX yF (wpAny_landsW (Q:=fun _ s2=>∃ h',s2={ s with heap:=h' }∧Heap.FlyingW base l e cls a0 h'∧s.heap.UpToSlots h') hh fun h' a b=>⟨h',rfl,a,b⟩))
  (fun _ s2 ⟨⟨h',q,a,b⟩,k⟩=>by subst q;exact hQ h' a b k) fun _ _ z=>z
theorem UE (hh:Heap.FlyingW base l e cls a0 s.heap) (hQ:∀ h',Heap.FlyingW base l e cls a0 h'→s.heap.UpToSlots h'→KD s.heap h'→Q () { s with heap:=h' }):wpAny M A (setFlight (.ref e) none) Q E s :=
 wpAny_mono (yX yF (lands_againW (Q:=fun _ s2=>∃ h',s2={ s with heap:=h' }∧Heap.FlyingW base l e cls a0 h'∧s.heap.UpToSlots h') hh fun h' a b=>⟨h',rfl,a,b⟩))
  (fun _ s2 ⟨⟨h',q,a,b⟩,k⟩=>by subst q;exact hQ h' a b k) fun _ _ z=>z
theorem zdM {oe:Obj}{vs:Array Value}(hfr:A.frames=some (env::outer)) (hl:s.heap.FunFrames base (env::outer)) (hf:env.frame=some L) (he:s.heap.get? e=some oe) (hkb:base.StaysIn s.heap) (hen:base.get? e=none)
  (hd:oe.data=.fields vs) (h1:vs[1]?=some .none) (h0:vs[0]?=some a0)
  (hQ:∀ h',Heap.FlyingW base outer e oe.cls a0 h'→s.heap.UpToSlots h'→KD s.heap h'→Q () { s with heap:=h' }):wpAny M A (leaving env (.ref e)) Q E s :=
 wpAny_mono (yX wz (wpAny_leaving_firstW (Q:=fun _ s2=>∃ h',s2={ s with heap:=h' }∧Heap.LeftW base (env::outer) e oe.cls a0 s.heap h') hfr hl hf he hkb hen hd h1 h0 fun h' a=>⟨h',rfl,a⟩))
  (fun _ s2 ⟨⟨h',q,a⟩,k⟩=>by
   subst q
   obtain⟨k1,⟨_,_,k2⟩,k3,k4⟩:=a
   exact hQ h' ⟨k1,hen,k2,k3⟩ k4 k) fun _ _ z=>z
end
end L2

namespace L2
open PySem PySem.Spec PyProof.Rows
section
variable {P:Program}{w:World}{H H':Hp}{h h':Heap}{a:Addr}{o:HO}
theorem ObjOk.thr (x:ObjOk P w H h a o):∃ u,h.get? a=some u:=by
 cases o with
 |lst xs=>obtain⟨_,_,_,_,e⟩:=x;exact⟨_,e⟩
 |tup xs=>obtain⟨_,_,_,_,e,_⟩:=x;exact⟨_,e⟩
 |dK kvs=>obtain⟨_,_,_,_,o,_,_,e,_⟩:=x;exact⟨_,e⟩
 |dT kvs=>obtain⟨_,_,_,_,o,_,_,e,_⟩:=x;exact⟨_,e⟩
 |set S n=>obtain⟨o,_,_,_,e,_⟩:=x;exact⟨_,e⟩
 |ins C dx fs=>obtain⟨_,_,_,e,_⟩:=x;exact⟨_,e⟩
 |own y=>obtain⟨_,e⟩:=x;exact⟨_,e⟩
 |xd fs=>obtain⟨_,⟨_,_,_,e,_⟩,_⟩:=x;exact⟨_,e⟩
 |rng lo hi=>obtain⟨_,_,_,e⟩:=x;exact⟨_,e⟩
 |frz ob u=>obtain⟨e,_⟩:=x;exact⟨_,e⟩
 |tbl ps=>exact⟨_,show h.get? a=some _ from x⟩
 |met f y=>exact⟨_,show h.get? a=some _ from x⟩
 |ext φ=>obtain⟨_,⟨_,e⟩,_⟩:=x;exact⟨_,e⟩
theorem HOk.thr (x:HOk P w H h) (e:H a=some o):∃ u,h.get? a=some u:=(x a o e).thr
theorem HOk.keptT (x:HOk P w H h) (k:∀ b u,H b≠none→h.get? b=some u→h'.get? b=some u):HOk P w H h':=fun a o e =>
 (x a o e).stay (fun b u hb q=>k b u (by rcases hb with rfl | hb<;>simp_all) q) (fun _ q=>q) fun _ _ q=>q
end
structure Lies (P:Program) (w:World) (l:List Env) (H:Hp) (s:Shared) (H':Hp) (s':Shared) (B:Heap):Prop where
 os:s'.os=s.os
 bare:AllBare s'.gens
 un:Un (frs l) [] H H' s.heap s'.heap
 hok:HOk P w H' s'.heap
 c1:∀ b o,s.heap.get? b=some o→H b=none→b∉frs l→B.get? b=some o
 c2:∀ b o,H' b≠none→s'.heap.get? b=some o→B.get? b=some o
 c3:∀ b o,s.heap.get? b=some o→b∉frs l→∃ o',B.get? b=some o'
abbrev CX1 (P:Program) (w:World):CXT:=fun l H s E e s'=>∃ (a:Addr) (cls a0:Value) (H':Hp) (B:Heap),e=.ref a∧Lies P w l H s H' s' B∧Heap.FlyingW B l a cls a0 s'.heap∧∃ dd:Option Addr,(∀ D,dd=some D→DictAt a D s'.heap)∧E cls dd H'
section
variable {X:Cx}{pins:List (Addr×Obj)}{σ:St}{H H':Hp}{s s':Shared}{B h2:Heap}{t2:Nat}
theorem Lies.un2 (I:Inv X pins σ H s) (L:Lies X.prog X.w X.stack H s H' s' B) (st:B.StaysIn h2) (up:s'.heap.UpToSlots h2):Un (frs X.stack) [] H H' s.heap h2:=by
 have sl:∀ b o,s.heap.get? b=some o→b∈frs X.stack→∃ z,h2.get? b=some { o with slots:=z }:=fun b o q hb=>by
  obtain⟨z,e1⟩:=L.un.slot b o q (I.stkFree b hb) hb (by simp)
  obtain⟨_,o',ho',hd⟩:=I.stack.mem hb
  rw[q] at ho'
  cases ho'
  obtain⟨z2,e2⟩:=up b _ e1 (fun vs z=>hd vs z)
  exact⟨z2,e2⟩
 refine⟨fun b o q n hb _=>st b o (L.c1 b o q n hb),fun b o q _ hb _=>sl b o q hb,fun b o q n hx=>L.un.free b o q n hx,fun b o q _=>?_,L.un.tups,L.un.frzs,L.un.tbls⟩
 by_cases hb:b∈frs X.stack
 ·obtain⟨z,e⟩:=sl b o q hb
  exact⟨_,e⟩
 ·obtain⟨o',e⟩:=L.c3 b o q hb
  exact⟨o',st b o' e⟩
theorem Lies.ok2 {l:List Env}{P:Program}{w:World}(L:Lies P w l H s H' s' B) (st:B.StaysIn h2):HOk P w H' h2:=L.hok.keptT fun b u hb q=>st b u (L.c2 b u hb q)
theorem Lies.inv (I:Inv X pins σ H s) (L:Lies X.prog X.w X.stack H s H' s' B) (st:B.StaysIn h2) (up:s'.heap.UpToSlots h2):Inv X pins σ H' { s' with heap:=h2,toks:=t2 }:=by
 refine I.call' (s':={ s' with heap:=h2,toks:=t2 }) (ch:=[]) L.os (L.un2 I st up) (L.ok2 st) L.bare (fun b z=>absurd z (by simp))
theorem Lies.out (I:Inv X pins σ H s) (L:Lies X.prog X.w X.stack H s H' s' B) (st:B.StaysIn h2) (up:s'.heap.UpToSlots h2) (hx:X.ex=[]):Lies X.prog X.w X.outer X.H₀ X.s₀ H' { s' with heap:=h2 } B:=by
 have J:=Lies.inv (t2:=s'.toks) I L st up
 have ns:∀ b o,X.s₀.heap.get? b=some o→b∉frs X.outer→b∉frs X.stack:=fun b o q hb z=>by
  rcases List.mem_cons.mp (I.stkSub b z) with e | e
  ·exact absurd (Nat.lt_of_lt_of_le (Heap.lt_size q) I.ok.above) (by rw[e];exact Nat.lt_irrefl _)
  ·exact hb e
 have hn:∀ b:Addr,b∉X.ex:=fun b=>by rw[hx];simp
 refine⟨J.os,J.bare,?_,J.hok,fun b o q n hb=>?_,fun b o hb q=>?_,fun b o q hb=>?_⟩
 ·have:=J.base
  rw[hx] at this
  exact this
 ·exact L.c1 b o (I.base.keep b o q n hb (hn b)) (I.base.free b o q n (hn b)) (ns b o q hb)
 ·cases e:H' b with
  |none=>exact absurd e hb
  |some u =>
   obtain⟨v,hv⟩:=L.hok.thr e
   have z:=L.c2 b v hb hv
   have q':h2.get? b=some o:=q
   rw[st b v z] at q'
   cases q'
   exact z
 ·obtain⟨o',e⟩:=I.base.there b o q (hn b)
  exact L.c3 b o' e (ns b o q hb)
theorem WN (I:Inv X pins σ H s) (k:∀ b u,s.heap.get? b=some u→h2.get? b=some u):Lies X.prog X.w X.stack H s H { s with heap:=h2 } (PySem.W.hideAll s.heap (frs X.stack)):=by
 refine⟨rfl,I.bare,Un.kept k,I.hok.kept k,fun b o q _ hb=>PySem.W.hideAll_get _ q hb,fun b o hb q=>?_,fun b o q hb=>⟨o,PySem.W.hideAll_get _ q hb⟩⟩
 cases e:H b with
 |none=>exact absurd e hb
 |some u =>
  obtain⟨v,hv⟩:=I.hok.thr e
  have q':h2.get? b=some o:=q
  rw[k b v hv] at q'
  cases q'
  exact PySem.W.hideAll_get _ hv fun z=>hb (I.stkFree b z)
end
section
variable {P:Program}{w:World}{K:PySem.W.Frag}{mg:Str→Option Value}{base:Heap}{N:List Str}{qual:Str}{scope:Scope}{f:Addr}{cd:Value}{A:Around}{outer:List Env}{s0:Shared}{H0:Hp}{E:XK}
theorem zie:xC (CX1 P w) (yc (CX1 P w) P w K mg base N qual scope f cd A outer s0 H0 E) E:=by
 rintro pins σ H s e s' I ⟨a,cls,a0,H',B,rfl,L,F,dd,hdd,q⟩
 have hfr:=I.ok.frames
 refine UD (M:=model P w) (A:=A.deeper (envOfC qual scope s0.heap.objs.size f cd)) (outer:=outer) (L:=s0.heap.objs.size) hfr rfl F fun h2 F2 up kd=>?_
 exact⟨a,cls,a0,H',B,rfl,L.out I F2.1 up rfl,F2,dd,fun D e=>kd _ _ (hdd D e),q⟩
theorem zdv {pins:List (Addr×Obj)}{σ:St}{H:Hp}{s:Shared}{h':Heap}{e:Addr}{cls:Value}{args:List Value}(I:Inv (yc (CX1 P w) P w K mg base N qual scope f cd A outer s0 H0 E) pins σ H s)
  (hx:Heap.MadeExcOf s.heap h' e cls args) (q:E cls none H):(yc (CX1 P w) P w K mg base N qual scope f cd A outer s0 H0 E).xe (.ref e) { s with heap:=h' }:=by
 have hfr:=I.ok.frames
 have L:=WN I hx.keeps
 refine wpAny_leaves_madeW (M:=model P w) (A:=A.deeper (envOfC qual scope s0.heap.objs.size f cd)) (s:={ s with heap:=h' }) (outer:=outer) (L:=s0.heap.objs.size) (base:=PySem.W.hideAll s.heap (frs (envOfC qual scope s0.heap.objs.size f cd::outer))) hfr rfl (fun b o q=>PySem.W.of_hideAll _ q)
  (PySem.W.funFrames_hide I.stack fun env he b hb=>List.mem_filterMap.mpr ⟨env,he,hb⟩) hx fun h2 t F2 _ _ up=>?_
 exact⟨e,cls,.ref t,H,_,rfl,L.out I F2.1 up rfl,F2,none,(fun D e=>nomatch e),q⟩
end
end L2

namespace L2
open PySem PySem.Spec PyProof.Rows
abbrev ux:List Value:=[.type "ValueError",.type "Exception",.type "BaseException",.type "object"]
def XCls (K:PySem.W.Frag) (C:Addr):Prop:=PySem.W.excIn K C ux "ValueError.__new__" = true
def zqD (h:Heap) (C:Addr):Prop:=∃ bm N nm qn bs hd sn sub ab col dd k0 k1 k2 k3 k5 mN,h.get? C=some (excClassObj nm qn C N bs bm hd sn sub ab col dd k0 k1 k2 k3 k5 "ValueError.__new__")∧h.Ns N mN∧mN "__init__" = none∧OwnTail h ux bm
theorem XCls.obj {K:PySem.W.Frag}{C:Addr}(x:XCls K C){h:Heap}(I:K.In h):zqD h C:=by
 unfold XCls PySem.W.excIn at x
 split at x
 case h_2=>cases x
 case h_1 dd cd sl lk =>
  split at x
  case h_2=>cases x
  case h_1 C2 bm k0 k1 k2 k3 nid k5 em es =>
   rw[Bool.and_eq_true,Bool.and_eq_true,Bool.and_eq_true,Bool.and_eq_true,Bool.and_eq_true] at x
   obtain⟨⟨⟨⟨⟨x1,x2⟩,x3⟩,x4⟩,x5⟩,x6⟩:=x
   cases (beq_iff_eq.mp x1)
   cases (beq_iff_eq.mp x2)
   cases cd with
   |mk nm bs mro ns qn hd sn sub ab col del =>
    have e1:mro=.ref C::bm:=em
    have e2:del=false:=by
     cases del with
     |false=>rfl
     |true=>cases x3
    have e3:sl = #[k0,k1,k2,k3,some (.builtin "ValueError.__new__"),k5]:=by
     cases sl with
     |mk l =>
      have e:l=_:=es
      rw[e]
    rw[e1,e2,e3] at lk
    exact⟨bm,ns,nm,qn,bs,hd,sn,sub,ab,col,dd,k0,k1,k2,k3,k5,_,I _ _ lk,.of_isNs (PySem.W.isNs_of_in I x5),PySem.W.nsMap_none_of_in I x5 (beq_iff_eq.mp x6),PySem.W.tail_of_in I x4⟩
section
variable {P:Program}{w:World}{K:PySem.W.Frag}{mg:Str→Option Value}{base:Heap}{N:List Str}{qual:Str}{scope:Scope}{f:Addr}{cd:Value}{A:Around}{outer:List Env}{s0:Shared}{H0:Hp}{E:XK}
 {x:Str}{C:Addr}{e:Expr}{es:List Expr}{t:TA}{np cpos pos:Pos}
def tRz (C:Addr) (E:XK) (t:TA):TS:=fun _ σ H=>t σ H fun vs H1=>vs.length≤1000∧E (.ref C) none H1
theorem xF (hc:(A.deeper (envOfC qual scope s0.heap.objs.size f cd)).handled=none) (c:XCls K C) (hm:mg x=some (.ref C)) (ha:PA (yc (CX1 P w) P w K mg base N qual scope f cd A outer s0 H0 E) (e::es) t)
  (hg:Gl (yc (CX1 P w) P w K mg base N qual scope f cd A outer s0 H0 E) x:=by rfl)
  (he:starEach (e::es) (yc (CX1 P w) P w K mg base N qual scope f cd A outer s0 H0 E).env=(false,eval e (yc (CX1 P w) P w K mg base N qual scope f cd A outer s0 H0 E).env)::starEach es (yc (CX1 P w) P w K mg base N qual scope f cd A outer s0 H0 E).env:=by rfl)
  (hpl:(backTo cpos (starEach es (yc (CX1 P w) P w K mg base N qual scope f cd A outer s0 H0 E).env)).any (·.1)=false:=by rfl) (hdb:(x == ("__debug__" : Str))=false:=by decide) :
  PS (yc (CX1 P w) P w K mg base N qual scope f cd A outer s0 H0 E) (.Raise (some (.Call (.Name x np) (e::es) [] cpos)) none pos) (tRz C E t):=by
 intro pins s σ H D I h
 obtain⟨bm,Nn,nm,qn,bs,hd,sn,sub,ab,col,dd,k0,k1,k2,k3,k5,mN,h1,h2,h3,h4⟩:=c.obj I.mod.kin
 refine wpAny_Raise_call_subT (C:=C) (nm:=nm) (q:=qn) (N:=Nn) (bs:=bs) (bm:=bm) (hdct:=hd) (sn:=sn) (sub:=sub) (ab:=ab) (col:=col) (dd:=dd) (k0:=k0) (k1:=k1) (k2:=k2) (k3:=k3) (k5:=k5) PySem.F.excBase_ValueError (mN:=mN)
  (h4.hasType rfl) hc (by rw[he];exact hpl) h3 (ld_glob I hg hm ⟨rfl,?_⟩ hdb)
 have hA:=ha cpos pins s σ H _ I h
 rw[he] at hA ⊢
 refine Calls.evalArgs_plain (wpAny_mono hA (fun us s2 hq=>?_) fun _ _ z=>z)
 obtain⟨vs,H1,I1,r1,hl,q⟩:=hq
 refine⟨rfl,?_,I1.bk _ _ h1,h2.keeps I1.bk,h4.keeps I1.bk,fun h' e' hx=>zdv I1 hx q⟩
 show us.length≤sizeLine
 rw[← r1.length]
 exact Nat.le_of_lt (small1000 hl)
end
end L2

namespace L2
open PySem PySem.Spec PyProof.Rows
def XP (X:Cx) (pins:List (Addr×Obj)) (σ:St) (E:XK) (e:Value) (s':Shared):Prop:=∃ H1 s1,Inv X pins σ H1 s1∧CX1 X.prog X.w X.stack H1 s1 E e s'
def PV (X:Cx) (e:Expr) (t:XK→TE):Prop:=∀ (pins:List (Addr×Obj)) (s:Shared) (σ:St) (H:Hp) (Q:VK) (E:XK),Inv X pins σ H s→t E σ H Q→wpAny (model X.prog X.w) X.A (eval e X.env) (EP X pins σ Q) (XP X pins σ E) s
def PX (X:Cx) (b:List Stmt) (t:XK→TS):Prop:=∀ (pins:List (Addr×Obj)) (s:Shared) (σ:St) (H:Hp) (D:Ends) (E:XK),Inv X pins σ H s→t E D σ H→wpAny (model X.prog X.w) X.A (execs b X.env) (SP X pins D) (XP X pins σ E) s
section
variable {X:Cx}{k:Nat}{f C:Addr}{fd:FuncData}{ps:List Str}{sp:Sp}{dvs:List V}{ds:List Value}{x:Str}{p pos:Pos}{e:Expr}{es:List Expr}{t:TA}
theorem V3 {E:XK}{pins:List (Addr×Obj)}{σ:St}{H:Hp}{s:Shared}{Q:VK}{us:List Value}{vs:List V}(F:FnOk X.prog X.w X.K X.mg X.base (CX1 X.prog X.w) k f fd ps sp) (hr:Room k X.A) (hb:Binds X.K fd ps ds) (hd:Vals dvs ds)
  (I:Inv X pins σ H s) (r:Vals vs us) (h:sp (vs++dvs) H Q E):wpAny (model X.prog X.w) X.A (call (.ref f) us) (EP X pins σ Q) (XP X pins σ E) s:=by
 have r2:Vals (vs++dvs) (us++ds):=r.append hd
 have hl:(us++ds).length=ps.length:=by rw[← r2.length];exact F.len _ _ _ _ h
 refine wpAny_call (codeAny_mono (F.run X.A X.stack s H ⟨us,[]⟩ (us++ds) (vs++dvs) Q E hr I.env0 (hb s us I.kIn hl) r2 h) fun r s' hq=>?_)
 cases r with
 |error e=>exact⟨H,s,I,hq⟩
 |ok fl =>
  cases fl with
  |ret u=>exact I.after hq
  |next=>exact False.elim hq
  |brk=>exact False.elim hq
  |cont=>exact False.elim hq
theorem Ua (F:FnOk X.prog X.w X.K X.mg X.base (CX1 X.prog X.w) k f fd ps sp) (hr:Room k X.A) (hm:X.mg x=some (.ref f)) (hk:PySem.W.keepIn X.K (.ref f)=true) (hb:Binds X.K fd ps [])
  (ha:PA X.nox (e::es) t) (hg:Gl X x:=by rfl) (hdb:(x == ("__debug__" : Str))=false:=by decide) (he:starEach (e::es) X.env=(false,eval e X.env)::starEach es X.env:=by rfl) (hpl:(backTo pos (starEach es X.env)).any (·.1)=false:=by rfl) :
  PV X (.Call (.Name x p) (e::es) [] pos) (fun E=>Zr sp [] E t):=by
 intro pins s σ H Q E I h
 refine wpAny_Call_Name_kw (ld_glob I hg hm ?_ hdb)
 refine PySem.W.callWith_K (h₀:=X.base) I.ok.mod.kin hk (wpAny_mono (ha pos pins s σ H _ (I.wish _) h) (fun us s1 hq=>?_) (fun _ _ z=>False.elim z)) he hpl
 obtain⟨vs,H1,I1,r,q⟩:=hq
 exact⟨I1.unwish.kIn,V3 F hr hb .nil I1.unwish r q⟩
end
noncomputable abbrev Cx.inH (X:Cx) (a:Addr):Cx:={ X with A:=X.A.mark (some (.ref a)),calm:=false,xe:=fun _ _=>False }
section
variable {X:Cx}{pins:List (Addr×Obj)}{σ:St}{H:Hp}{s:Shared}{a:Addr}
theorem Inv.inH (I:Inv X pins σ H s) (a:Addr):Inv (X.inH a) pins σ H s :=
 ⟨⟨I.ok.mod,I.ok.kind,I.ok.glob,I.ok.blt,I.ok.above,I.ok.inj,I.ok.has,I.ok.cab,(fun z=>nomatch z),I.ok.frames,I.ok.stk,I.ok.exf,I.ok.bs,I.ok.bsz,I.ok.noex,I.ok.exfs,I.ok.funs,I.ok.frf⟩,I.os,I.bare,I.base,I.loc,I.cell,I.free,I.freeC,I.pin,I.hok,I.len⟩
theorem Inv.unH (ok:X.Ok) (I:Inv (X.inH a) pins σ H s):Inv X pins σ H s:=⟨ok,I.os,I.bare,I.base,I.loc,I.cell,I.free,I.freeC,I.pin,I.hok,I.len⟩
theorem SP.unH {D:Ends}{f:Flow}{s':Shared}(ok:X.Ok) (h:SP (X.inH a) pins D f s'):SP X pins D f s':=by
 cases f with
 |next=>obtain⟨σ',H',I,q⟩:=h;exact⟨σ',H',I.unH ok,q⟩
 |brk=>obtain⟨σ',H',I,q⟩:=h;exact⟨σ',H',I.unH ok,q⟩
 |cont=>obtain⟨σ',H',I,q⟩:=h;exact⟨σ',H',I.unH ok,q⟩
 |ret u=>obtain⟨v,σ',H',I,r,q⟩:=h;exact⟨v,σ',H',I.unH ok,r,q⟩
end
end L2
namespace L2
open PySem PySem.Spec PyProof.Rows
structure Callee1 (P:Program) (w:World) (K:PySem.W.Frag) (mg:Str→Option Value) (base:Heap) (x:Str) (f:Addr) (fd:FuncData) (ps:List Str) (k:Nat) (sp:Sp):Prop where
 ok:FnOk P w K mg base (CX1 P w) k f fd ps sp
 g:mg x=some (.ref f)
 kp:PySem.W.keepIn K (.ref f)=true
 b:Binds K fd ps []
structure Maker1 (P:Program) (w:World) (K:PySem.W.Frag) (mg:Str→Option Value) (base:Heap) (x:Str) (C f:Addr) (fd:FuncData) (ps:List Str) (k:Nat) (sp:Sp):Prop where
 ok:FnOk P w K mg base (CX1 P w) k f fd ps sp
 g:mg x=some (.ref C)
 mm:Mk K C f
 b:Binds K fd ps []
section
variable {X:Cx}{k:Nat}{f C:Addr}{fd:FuncData}{ps:List Str}{sp:Sp}{x:Str}{p pos:Pos}{e:Expr}{es:List Expr}{t:TA}
theorem zqg (c:Callee1 X.prog X.w X.K X.mg X.base x f fd ps k sp) (hr:Room k X.A) (ha:PA X.nox (e::es) t) (hg:Gl X x:=by rfl) (hdb:(x == ("__debug__" : Str))=false:=by decide)
  (he:starEach (e::es) X.env=(false,eval e X.env)::starEach es X.env:=by rfl) (hpl:(backTo pos (starEach es X.env)).any (·.1)=false:=by rfl):PV X (.Call (.Name x p) (e::es) [] pos) (fun E=>Zr sp [] E t) :=
 Ua c.ok hr c.g c.kp c.b ha hg hdb he hpl
end
section
variable {P:Program}{w:World}{K:PySem.W.Frag}{mg:Str→Option Value}{base:Heap}
theorem Fun.ok1 {x qual:Str}{st:Stmt}{f:Addr}{fd:FuncData}{N ps:List Str}{k:Nat}{sp:Sp}(F:Fun K x qual st f fd) (S:FnScope N ps (defScope st)) (len:∀ vs H Q E,sp vs H Q E→vs.length=ps.length)
  (hbody:∀ (cdv:Value) (A:Around) (outer:List Env) (s:Shared) (H:Hp) (vs:List V) (Q:VK) (E:XK),Room k (A.deeper (envOfC qual (defScope st) s.heap.objs.size f cdv))→sp vs H Q E →
   ∃ t,PSs (yc (CX1 P w) P w K mg base N qual (defScope st) f cdv A outer s H E) (defBody st) t∧t { nx:=fun _ H'=>Q .non H',rt:=Q } (start N vs) H):FnOk P w K mg base (CX1 P w) (k+1) f fd ps sp:=by
 obtain⟨oc,od,kV,doc,pm,an,cdv,ct,osl,rfl,lk,hcd⟩:=F.ex
 exact zdK lk hcd S len fun A outer s H vs Q E hr hsp=>hbody cdv A outer s H vs Q E hr hsp
end
end L2

namespace L2
open PySem PySem.W PySem.Spec PySem.Calls PyProof.Rows PySem.Builtin PySem.Builtin.ObjectAttr PySem.Builtin.Getset_descriptor
def ObC (x C:Addr) (h:Heap):Prop:=∃ o,h.get? x=some o∧o.cls=.ref C
section
variable {K:Frag}{M:Model}{h:Heap}{x C:Addr}{name:Str}
theorem ObC.type (I:ObC x C h):Looks M h (typeOf (.ref x)) (.ref C):=by
 obtain⟨o,h1,h2⟩:=I
 rw[← h2]
 exact(Looks.ld h1).andThen .now
end
section
variable {prog:Program}{w:World}{A:Around}{E:Value→Shared→Prop}{K:Frag}{x C:Addr}{s:Shared}
theorem W2 {nameV:Value}{Q:Unit→Shared→Prop}(X:K.In s.heap) (I:ObC x C s.heap) (hb:mroIn K C (.type "BaseException")=some true) (k:Q () s) :
  wpAny (model prog w) A (checkBuiltinCall "BaseException.__getattribute__" ⟨[.ref x,nameV],[]⟩) Q E s:=by
 have T0:=I.type (M:=model prog w)
 have T1:=looks_mroIn (M:=model prog w) X hb
 have hk:builtinKind "BaseException.__getattribute__" = some .slot:=by decide +kernel
 have hsplit:splitId "BaseException.__getattribute__" = some ("BaseException", "__getattribute__"):=by decide +kernel
 have ha:=F.args_bexc_ga (.ref x) nameV
 obtain⟨hh,gg,dr,tt,ss⟩:=s
 simp only[checkBuiltinCall,hk,hsplit]
 refine wpAny_bind ?_
 unfold isInstance
 repeat lk
 exact k
end
end L2

namespace L2
open PySem PySem.Spec PyProof.Rows
section
variable {X:Cx}{pins:List (Addr×Obj)}{σ:St}{H:Hp}{s:Shared}
theorem ZZ {M:Model}{A:Around}{E:Value→Shared→Prop}{i:Nat}{x:Str}{Q:Unit→Shared→Prop}(I:Inv X pins σ H s) (hN:X.N.Nodup) (hi:X.N[i]?=some x) (hk:X.env.scope.names.lookup x=some .local){v:V}(hv:σ[i]?=some (some v))
  (h:∀ s',Inv X pins (σ.set i none) H s'→Q () s'):wpAny M A (unbindName X.env x) Q E s:=by
 obtain⟨m,hn,hl⟩:=id I.loc
 have hcls:(X.env.scope.kind == .class||(X.env.scope.kind == .module&&X.env.locals != X.env.globals))=false:=by rw[I.ok.kind];rfl
 have cne:=I.cne
 have hm:∃ u,m x=some u:=by
  obtain⟨u,_,q⟩:=hl i x v hi hv (.inl hk)
  rcases q with⟨_,e⟩ | ⟨k,_⟩
  ·exact⟨u,e⟩
  ·have hk':X.env.kindOf x=some .local:=hk
   rw[hk'] at k
   rcases k with k | k<;>cases k
 obtain⟨u0,hm⟩:=hm
 obtain⟨oL,_,_,hoL,_⟩:=id hn
 refine wpAny_unbindName_local hk hn hm hcls fun h' u' hn' hs=>?_
 have tracked:HOk X.prog X.w H h':=fun b ob e=>by
  refine(I.hok b ob e).stay (fun c w' hc q=>(hs.2 c ?_).trans q) (fun _ q=>q) fun _ _ q=>q
  rintro rfl
  have hfree:=I.free
  rcases hc with rfl | hc
  ·rw[hfree] at e;cases e
  ·rw[hfree] at hc;cases hc
 refine h _ ⟨I.ok,I.os,I.bare,⟨fun b o e n hb hx=>?_,fun b o e n hb hx=>?_,I.base.free,fun b o e hx=>?_,I.base.tups,I.base.frzs,I.base.tbls⟩,⟨_,hn',fun j y v' e1 e2 e3=>?_⟩,fun y c e=>?_,I.free,I.freeC,fun p hp=>?_,tracked,by simpa using I.len⟩
 ·exact(hs.2 b (Nat.ne_of_lt (Nat.lt_of_lt_of_le (Heap.lt_size e) I.ok.above))).trans (I.base.keep b o e n hb hx)
 ·obtain⟨sl,e1⟩:=I.base.slot b o e n hb hx
  exact⟨sl,(hs.2 b (Nat.ne_of_lt (Nat.lt_of_lt_of_le (Heap.lt_size e) I.ok.above))).trans e1⟩
 ·obtain⟨o',e1⟩:=I.base.there b o e hx
  exact⟨o',(hs.2 b (Nat.ne_of_lt (Nat.lt_of_lt_of_le (Heap.lt_size e) I.ok.above))).trans e1⟩
 ·by_cases hj:j=i
  ·subst hj
   rw[List.getElem?_set] at e2
   simp at e2
  ·rw[List.getElem?_set_ne (Ne.symm hj)] at e2
   obtain⟨u',r',q⟩:=hl j y v' e1 e2 e3
   refine⟨u',r',?_⟩
   rcases q with⟨k,e⟩ | ⟨k,c,e,z⟩
   ·refine .inl ⟨k,?_⟩
    have:y≠x:=fun e=>hj (nodup_ix hN e1 (e ▸ hi))
    simp[this,e]
   ·exact .inr ⟨k,c,e,z.sameBut hs (cne y c e)⟩
 ·obtain⟨w',z⟩:=I.cell y c e
  exact⟨w',z.sameBut hs (cne y c e)⟩
 ·obtain⟨e,n,ne,nf,d⟩:=I.pin p hp
  exact⟨(hs.2 p.1 ne).trans e,n,ne,nf,d⟩
theorem wU {M:Model}{A:Around}{E:Value→Shared→Prop}{i:Nat}{x:Str}{pos:Pos}{Q:Unit→Shared→Prop}(I:Inv X pins σ H s) (hN:X.N.Nodup) (hi:X.N[i]?=some x) (hk:X.env.scope.names.lookup x=some .local)
  (h:∀ s',Inv X pins (σ.set i none) H s'→Q () s'):wpAny M A (do bindName X.env x .none;unbindBehindTheSuite X.env x pos) Q E s:=by
 have hiσ:i<σ.length:=by rw[I.len];exact(List.getElem?_eq_some_iff.mp hi).1
 refine wpAny_bind (wpAny_bindName (store_ok (v:=.non) I hN hi (.inl hk) rfl (fun s1 I1=>?_) (.inr hk)))
 unfold unbindBehindTheSuite
 refine wpAny_onRaise (ZZ I1 hN hi hk (v:=.non) (List.getElem?_set_self hiσ) fun s2 I2=>h s2 ?_)
 rw[List.set_set] at I2
 exact I2
end
noncomputable abbrev Ends.sans (D:Ends) (i:Nat):Ends:={ nx:=fun σ H=>D.nx (σ.set i none) H,rt:=D.rt,bk:=fun σ H=>D.bk (σ.set i none) H,ct:=fun σ H=>D.ct (σ.set i none) H }
end L2

namespace L2
open PySem PySem.Spec PyProof.Rows
end L2

namespace L2
open PySem
section
variable {X:Cx}{es:List Expr}{t:TA}{te:TE}
theorem zc1 {c j pos}(ha:PE X (.Constant c j pos) te) (hr:PA X es t):PA X (.Constant c j pos::es) (xc te t):=yw ha hr rfl
theorem zqj {xs c pos}(ha:PE X (.Tuple xs c pos) te) (hr:PA X es t):PA X (.Tuple xs c pos::es) (xc te t):=yw ha hr rfl
theorem zn7 {f xs ks pos}(ha:PE X (.Call f xs ks pos) te) (hr:PA X es t):PA X (.Call f xs ks pos::es) (xc te t):=yw ha hr rfl
theorem zqk {l o r pos}(ha:PE X (.BinOp l o r pos) te) (hr:PA X es t):PA X (.BinOp l o r pos::es) (xc te t):=yw ha hr rfl
theorem ub {x pos}(ha:PE X (.Name x pos) te) (hr:PA X es t):PA X (.Name x pos::es) (xc te t):=yw ha hr rfl
end
end L2

namespace L2
open PySem PySem.Spec PyProof.Rows
end L2

namespace L2
open PySem PySem.Spec PyProof.Rows PySem.Builtin PySem.Builtin.Str
section
variable {X:Cx}
theorem vf:∀ {ws:List PySem.Str}{us:List Value},Vals (ws.map V.str) us→∃ l:List (PySem.Str×Tok),strValues l=us∧l.map (·.1)=ws
 |[],_,.nil=>⟨[],rfl,rfl⟩
 |w::ws,_,.cons ⟨t,e⟩ r=>by
  obtain⟨l,e1,e2⟩:=vf r
  subst e
  exact⟨(w,t)::l,by rw[← e1];rfl,by rw[List.map_cons,e2]⟩
theorem vi:∀ (l:List (PySem.Str×Tok)),Vals ((l.map (·.1)).map V.str) (strValues l)
 |[]=>.nil
 |(w,t)::l=>.cons ⟨t,rfl⟩ (vi l)
def V6:V→List V→Hp→VK→Prop:=fun x vs H Q=>∃ a b,x=.str a∧vs=[.str b]∧Q (.bl (Txt.startswith a b)) H
theorem xj:MtR X "str.startswith" V6:=by
 intro pins s σ H x vs v us Q I rx rv h
 obtain⟨a,b,rfl,rfl,q⟩:=h
 obtain⟨t,rfl⟩:=rx
 obtain⟨u,rfl,t',rfl⟩:=rv.one
 exact SC.startswith ⟨.bl _,H,I,rfl,q⟩
def zh1 (K:PySem.W.Frag):V→List V→Hp→VK→Prop:=fun x vs H Q=>∃ sep p ws,x=.str sep∧vs=[.ref p]∧SqL K H p (ws.map V.str)∧JoinOk sep ws=true∧Q (.str (Txt.join sep ws)) H
theorem Xo:MtR X "str.join" (zh1 X.K):=by
 intro pins s σ H x vs v us Q I rx rv h
 obtain⟨sep,p,ws,rfl,rfl,hq,hok,q⟩:=h
 obtain⟨t,rfl⟩:=rx
 obtain⟨u,rfl,ru⟩:=rv.one
 cases ru
 obtain⟨its,r,pl,hz⟩:=I.list hq
 obtain⟨l,rfl,e⟩:=vf r
 exact SC.join pl.isList e hok fun t' k=>⟨.str _,H,I.tok _,⟨_,rfl⟩,q⟩
def zcC:V→List V→Hp→VK→Prop:=fun x vs H Q=>∃ a b,x=.str a∧vs=[.str b]∧(b.length == 0)=false∧a.length≤sizeLine∧(Txt.split a b).length≤sizeLine∧(partsBetween a (occurrences a b 0 a.length (a.length+1)) b.length).length≤sizeLine∧∀ p,H p=none→Q (.ref p) (upd H p (.lst ((Txt.split a b).map V.str)))
theorem xk:MtR X "str.split" zcC:=by
 intro pins s σ H x vs v us Q I rx rv h
 obtain⟨a,b,rfl,rfl,hb,hz,hz1,hz2,q⟩:=h
 obtain⟨t,rfl⟩:=rx
 obtain⟨u,rfl,t',rfl⟩:=rv.one
 have fin:∀ (l:List (PySem.Str×Tok)) (k:Nat),l.map (·.1)=Txt.split a b→EP X pins σ Q (.ref s.heap.objs.size) { s with heap:=s.heap.push { cls:=.type "list",data:=.seq (strValues l).toArray },toks:=k }:=fun l k e=>by
  refine⟨.ref s.heap.objs.size,_,I.laid (t':=k) (fun b o q=>Heap.get?_push_of_some _ q) (Nat.le_refl _) (show ObjOk X.prog X.w _ _ _ (.lst ((Txt.split a b).map V.str)) from⟨?_,strValues l,0,?_,Heap.get?_push_size _ rfl⟩),rfl,q _ (I.hok.fresh (Nat.le_refl _))⟩
  ·rw[List.length_map];exact hz1
  ·rw[← e];exact vi l
 cases h1:(decide (a.length<b.length)||decide (strKind a<strKind b))
 ·cases hf:(occurrences a b 0 a.length (a.length+1)).isEmpty
  ·refine call_meets F.slot_str_split (typeIs_str _ _ _) F.entry_str_split (F.args_str_split_2 _ _) (meets_str_split_sep a b t t' h1 hb hf hz hz2) ?_
   show wants _ _ _ { s with toks:=_,heap:=s.heap.push { cls:=.type "list",data:=.seq (strsFrom s.toks (partsBetween a (occurrences a b 0 a.length (a.length+1)) b.length)).toArray } }
   rw[strsFrom_eq]
   exact fin (numbered s.toks _) _ ((numbered_texts _ _).trans ((if_neg (ne_true_of_eq_false h1)).trans (if_neg (ne_true_of_eq_false hf))).symm)
  ·exact call_meets F.slot_str_split (typeIs_str _ _ _) F.entry_str_split (F.args_str_split_2 _ _) (meets_str_split_not_found a b t t' h1 hb hf)
    (fin [(a,t)] s.toks ((if_neg (ne_true_of_eq_false h1)).trans (if_pos hf)).symm)
 ·exact call_meets F.slot_str_split (typeIs_str _ _ _) F.entry_str_split (F.args_str_split_2 _ _) (meets_str_split_cannot_occur a b t t' h1)
   (fin [(a,t)] s.toks (if_pos h1).symm)
def zqe (neg:Bool):R2:=fun x y H Q=>∃ a b,x=.str a∧y=.str b∧Q (.bl (if neg then !Txt.contains b a else Txt.contains b a)) H
theorem vx:OpR X (compareOp .NotIn) (zqe true):=by
 intro pins s σ H x y v u Q I rx ry h
 obtain⟨a,b,rfl,rfl,q⟩:=h
 obtain⟨t,rfl⟩:=rx
 obtain⟨t',rfl⟩:=ry
 exact P.notIn_str ⟨.bl _,H,I,rfl,q⟩
theorem vW:xA X (.type "int") (fun xs H Q=>∃ x n,xs=[.str x]∧intText? x=some n∧x.length≤640∧Q (.int n) H):=by
 intro pins s σ H xs us Q I r h
 obtain⟨x,n,rfl,hn,hl,q⟩:=h
 obtain⟨u,rfl,t,rfl⟩:=vh r
 exact PySem.W.KIN.call_text hn hl ⟨.int n,H,I.tok _,⟨_,rfl⟩,q⟩
end
end L2

namespace L2
open PySem PySem.Spec PyProof.Rows
noncomputable def Its (x:PySem.Str):It:=⟨fun i _=>i<x.cps.size,fun i H v H'=>H'=H∧∃ c,x.cps[i]?=some c∧v=.str ⟨#[c]⟩,fun i _=>x.cps.size≤i⟩
theorem Wf {P:Program}{w:World}{K:PySem.W.Frag}{tg:Expr}(it:Addr) (x:PySem.Str) (t:Tok):Turn P w K tg (Its x) [it] it (fun i h=>h.IsStrIter it "str_ascii_iterator" x t i) where
 mem:=List.mem_singleton.mpr rfl
 obj:=fun i h st b hb=>by
  rw[List.mem_singleton.mp hb]
  obtain⟨o,e,_,d⟩:=st
  exact⟨o,e,fun v z=>by rw[d] at z;cases z⟩
 keep:=fun i h h' ⟨o,e,r⟩ k=>⟨o,k it (List.mem_singleton.mpr rfl) o e,r⟩
 item:=by
  intro X hP hw hK hc i pins s σ H E I hf st hg
  subst hP hw hK
  obtain⟨f0,f1,f2,f3,f4,f5⟩:=hf it (List.mem_singleton.mpr rfl)
  have hx:x.cps[i]?=some x.cps[i]:=Array.getElem?_eq_getElem hg
  refine wpAny_pyNext_ascii_item st hx fun h' st' sb=>?_
  have I1:Inv X pins σ H { s with heap:=h',toks:=s.toks+1 }:=I.turned (fun b o hb e=>(sb.2 b hb).trans e) f0 f1 f3 f4 f5
  obtain⟨o,e,c,d⟩:=id st'
  exact⟨_,rfl,XH (s:={ s with heap:=h',toks:=s.toks+1 }) e c d (by decide) ⟨.str ⟨#[x.cps[i]]⟩,H,I1,⟨_,rfl⟩,⟨rfl,_,hx,rfl⟩,st',fun b hb=>(hf b hb).1⟩⟩
 done:=by
  intro X hP hw hK hc i pins s σ H E I hf st hg
  subst hP hw hK
  obtain⟨f0,f1,f2,f3,f4,f5⟩:=hf it (List.mem_singleton.mpr rfl)
  exact wpAny_pyNext_ascii_end (I.ok.hd hc) st (Array.getElem?_eq_none hg) fun h' eb=>⟨rfl,I.turned (t':=s.toks) (fun b o hb e=>eb b o hb e) f0 f1 f3 f4 f5⟩
 self:=fun _ _ _ _ _ st h=>wpAny_pyIter_striter_ascii st h
section
variable {X:Cx}{tg:Expr}
def zpv (te:TE):TI:=fun σ H R=>te σ H fun v H1=>∃ x,v=.str x∧x.cps.all (· < 128)=true∧R (Its x) H1
theorem zcM {e:Expr}{te:TE}(he:PE X e te):PI X tg e (zpv te):=by
 intro pins s σ H R I h
 refine thn (he pins s σ H _ I h) fun v s1 hq0=>?_
 obtain⟨y,H1,I1,r1,q1⟩:=hq0
 obtain⟨x,rfl,ha,q⟩:=q1
 obtain⟨t,rfl⟩:=r1
 refine wpAny_pyIter_ascii ha ?_
 have I2:Inv X pins σ H1 { s1 with heap:=s1.heap.push { cls:=.type "str_ascii_iterator",data:=.fields #[.str x t,.int 0 0] } }:=I1.kept (t':=s1.toks) fun b o e=>Heap.get?_push_of_some _ e
 refine⟨_,[s1.heap.objs.size],_,Its x,H1,rfl,I2,Wf _ x t,⟨_,Heap.get?_push_size _ rfl,rfl,rfl⟩,fun b hb=>?_,q⟩
 rw[List.mem_singleton.mp hb]
 exact I1.fpOk (Nat.le_refl _) (I1.hok.fresh (Nat.le_refl _))
end
theorem UM {x:PySem.Str}{g:TG}{tb:TS}{D:Ends}{σ:St}{H:Hp}(Pv:Nat→St→Hp→Prop) (h0:Pv 0 σ H)
  (hs:∀ i c σ H,x.cps.toList[i]?=some c→Pv i σ H→g (.str ⟨#[c]⟩) σ H fun σ2 H2=>tb { D with nx:=Pv (i+1),ct:=Pv (i+1),bk:=D.nx } σ2 H2) (hd:∀ σ H,Pv x.cps.toList.length σ H→D.nx σ H) :
  ∃ W:Nat→Nat→St→Hp→Prop,(∃ m,W 0 m σ H)∧∀ i m σ H,W i m σ H →
   ((Its x).stop i H∧D.nx σ H)∨((Its x).go i H∧∃ N:St→Hp→Prop,(∀ σ' H',N σ' H'→∃ m',m'<m∧W (i+1) m' σ' H')∧∀ v H',(Its x).yld i H v H'→g v σ H' fun σ2 H2=>tb { D with nx:=N,ct:=N,bk:=D.nx } σ2 H2):=by
 refine⟨fun i m σ H=>m=x.cps.size-i∧i≤x.cps.size∧Pv i σ H,⟨_,rfl,Nat.zero_le _,h0⟩,?_⟩
 rintro i m σ H ⟨rfl,hi,p⟩
 by_cases hlt:i<x.cps.size
 ·refine .inr ⟨hlt,Pv (i+1),fun σ' H' z=>⟨_,by omega,rfl,hlt,z⟩,fun v H' ⟨e,c,hc,ev⟩=>?_⟩
  subst e ev
  exact hs i c σ H' (by rw[← hc,Array.getElem?_toList]) p
 ·refine .inl ⟨Nat.le_of_not_lt hlt,hd σ H ?_⟩
  rw[Array.length_toList,show x.cps.size=i by omega]
  exact p
noncomputable def Itv (K:PySem.W.Frag) (a:Addr) (n:Nat):It :=
 ⟨fun i H=>i<n∧∃ xs,SqL K H a xs∧xs.length=n,fun i H x H'=>H'=H∧∀ xs,SqL K H a xs→xs[n-1-i]?=some x,fun i _=>i=n⟩
theorem Wg {P:Program}{w:World}{K:PySem.W.Frag}{tg:Expr} (a it:Addr) (n:Nat):Turn P w K tg (Itv K a n) [it] it (fun i h=>h.IsRevIter it a ((n:Int)-1-(i:Int))) where
 mem:=List.mem_singleton.mpr rfl
 obj:=fun i h st b hb=>by
  rw[List.mem_singleton.mp hb]
  obtain⟨o,e,_,d⟩:=st
  exact⟨o,e,fun v z=>by rw[d] at z;cases z⟩
 keep:=fun i h h' st k=>st.at fun o e=>k it (List.mem_singleton.mpr rfl) o e
 item:=by
  intro X hP hw hK hc i pins s σ H E I hf st hg
  subst hP hw hK
  obtain⟨hi,xs,hq,hn⟩:=hg
  obtain⟨its,rv,p,hz⟩:=I.list hq
  have hl:=rv.length
  obtain⟨f0,f1,f2,f3,f4,f5⟩:=hf it (List.mem_singleton.mpr rfl)
  have hx:xs[n-1-i]?=some xs[n-1-i]:=List.getElem?_eq_getElem (by omega)
  obtain⟨u,hu,ru⟩:=rv.get hx
  have st:s.heap.IsRevIter it a (((n-1-i:Nat):Nat):Int):=by
   rw[show(((n-1-i:Nat):Nat):Int)=(n:Int)-1-(i:Int) by omega]
   exact st
  refine wpAny_pyNext_rev_item st p.isList (x:=u) (by simpa using hu) fun h' st' sb=>?_
  have I1:Inv X pins σ H { s with heap:=h' }:=I.turned (t':=s.toks) (fun b o hb e=>(sb.2 b hb).trans e) f0 f1 f3 f4 f5
  rw[show(((n-1-i:Nat):Nat):Int)-1=(n:Int)-1-((i+1:Nat):Int) by omega] at st'
  obtain⟨o,e,c,d⟩:=id st'
  exact⟨u,rfl,XH (s:={ s with heap:=h' }) e c d (by decide) ⟨_,H,I1,ru,⟨rfl,fun ys hy=>by rw[I.list_inj hy hq];exact hx⟩,st',fun b hb=>(hf b hb).1⟩⟩
 done:=by
  intro X hP hw hK hc i pins s σ H E I hf st hg
  subst hP hw hK
  obtain⟨f0,f1,f2,f3,f4,f5⟩:=hf it (List.mem_singleton.mpr rfl)
  have hg:i=n:=hg
  rw[hg,show(n:Int)-1-(n:Int) = -1 by omega] at st
  exact wpAny_pyNext_rev_end (I.ok.hd hc) st fun h' eb=>⟨rfl,I.turned (t':=s.toks) (fun b o hb e=>eb b o hb e) f0 f1 f3 f4 f5⟩
 self:=fun _ _ _ _ _ st h=>wpAny_pyIter_revIter st h
section
variable {X:Cx}{tg:Expr}
theorem boot_reversed:bootBuiltins "reversed" = some (.type "reversed"):=by decide +kernel
def zpw (K:PySem.W.Frag) (ta:TA):TI:=fun σ H R=>ta σ H fun vs H1=>∃ a xs,vs=[.ref a]∧SqL K H1 a xs∧R (Itv K a xs.length) H1
theorem v9 {a:Expr}{ta:TA}{p pos:Pos}(hg:Gl X "reversed") (hm:X.mg "reversed" = none) (ha:PA X [a] ta) (hs:starEach [a] X.env=[(false,eval a X.env)]:=by rfl):PI X tg (.Call (.Name "reversed" p) [a] [] pos) (zpw X.K ta):=by
 intro pins s σ H R I h
 refine Call_ (ld_blt I hg hm boot_reversed (PyProof.Rows.callWith_type1 (thn (ha pos pins s σ H _ I h) fun us s1 hq0=>?_) hs rfl))
 obtain⟨vs,H1,I1,r1,q1⟩:=hq0
 obtain⟨b,xs,e,hq,q⟩:=q1
 subst e
 obtain⟨u,rfl,ru⟩:=r1.one
 cases ru
 obtain⟨its,rv,pl,hz⟩:=I1.list hq
 have hl:=rv.length
 refine call_reversed_list pl.isList ?_
 have I2:Inv X pins σ H1 { s1 with heap:=s1.heap.push (revObj b ((its.toArray.size:Int)-1)) }:=I1.kept (t':=s1.toks) fun b o e=>Heap.get?_push_of_some _ e
 have st:(s1.heap.push (revObj b ((its.toArray.size:Int)-1))).IsRevIter s1.heap.objs.size b ((xs.length:Int)-1-((0:Nat):Int)):=⟨_,Heap.get?_push_size _ rfl,rfl,by
  show Data.fields _=_
  rw[List.size_toArray,hl]
  simp⟩
 refine wpAny_pyIter_revIter (s:={ s1 with heap:=s1.heap.push (revObj b ((its.toArray.size:Int)-1)) }) st ?_
 refine⟨_,[s1.heap.objs.size],_,Itv X.K b xs.length,H1,rfl,I2,Wg b _ xs.length,st,fun c hc=>?_,q⟩
 rw[List.mem_singleton.mp hc]
 exact I1.fpOk (Nat.le_refl _) (I1.hok.fresh (Nat.le_refl _))
end
theorem UN {K:PySem.W.Frag}{a:Addr}{xs:List V}{g:TG}{tb:TS}{D:Ends}{σ:St}{H:Hp}(Pv:Nat→St→Hp→Prop) (h0:Pv 0 σ H) (hl:∀ i σ H,i≤xs.length→Pv i σ H→SqL K H a xs)
  (hs:∀ i x σ H,xs.reverse[i]?=some x→Pv i σ H→g x σ H fun σ2 H2=>tb { D with nx:=Pv (i+1),ct:=Pv (i+1),bk:=D.nx } σ2 H2) (hd:∀ σ H,Pv xs.length σ H→D.nx σ H) :
  ∃ W:Nat→Nat→St→Hp→Prop,(∃ m,W 0 m σ H)∧∀ i m σ H,W i m σ H →
   ((Itv K a xs.length).stop i H∧D.nx σ H)∨((Itv K a xs.length).go i H∧∃ N:St→Hp→Prop,(∀ σ' H',N σ' H'→∃ m',m'<m∧W (i+1) m' σ' H')∧∀ v H',(Itv K a xs.length).yld i H v H'→g v σ H' fun σ2 H2=>tb { D with nx:=N,ct:=N,bk:=D.nx } σ2 H2):=by
 refine⟨fun i m σ H=>m=xs.length-i∧i≤xs.length∧Pv i σ H,⟨_,rfl,Nat.zero_le _,h0⟩,?_⟩
 rintro i m σ H ⟨rfl,hi,p⟩
 have q:=hl i σ H hi p
 by_cases hlt:i<xs.length
 ·refine .inr ⟨⟨hlt,xs,q,rfl⟩,Pv (i+1),fun σ' H' z=>⟨_,by omega,rfl,hlt,z⟩,fun v H' ⟨e,hv⟩=>?_⟩
  subst e
  refine hs i v σ H' ?_ p
  rw[List.getElem?_reverse hlt]
  exact hv xs q
 ·have e:i=xs.length:=by omega
  subst e
  exact .inl ⟨rfl,hd σ H p⟩
end L2

namespace PySem
namespace Zt
theorem Za {prog:Program}{w:World}{A:Around}{k:SK}(hh:A.handled=none) (it a:Addr) (hne:a≠it) (items:Array Value) :
  Draws prog w A it [it,a] items.size (fun i v=>items[i]?=some v) (fun i h=>ItAt k h it a i∧SqAt k h a items) where
 live:=fun _ _ st=>by
  obtain⟨o,ho,_⟩:=st.1.obj
  exact⟨o,ho⟩
 frame:=fun _ _ _ st hk=>⟨st.1.at fun o e=>hk it (by simp) o e,st.2.at fun o e=>hk a (by simp) o e⟩
 item:=fun i s Q E hi st hQ=>by
  have hx:items[i]?=some items[i]:=Array.getElem?_eq_getElem hi
  exact xi st.1 st.2 hx fun h' hit' hs'=>hQ _ h' s.toks hx ⟨hit',st.2.at fun o e=>hs'.extBut _ _ hne e⟩ hs'
 done:=fun s Q E st hE=>wQ hh st.1 st.2 (Array.getElem?_eq_none (Nat.le_refl _)) hE
noncomputable abbrev wZ (it:Addr):Obj:={ cls:=.type "enumerate",data:=.fields #[.none,.bool false,.ref it,rawInt 0,.none,.none] }
theorem ZD (k:SK) (l:Addr) (xs:Array Value) :
  Meets (Builtin.«enumerate.__new__» ⟨[.type "enumerate",.ref l],[]⟩) (fun _ R s=>SqAt k s.heap l xs∧R (.ok (.ret (.ref (g1 k s.heap l).objs.size))) { s with heap:=(g1 k s.heap l).push (wZ s.heap.objs.size) }) :=
 .of_wp fun prog w A R s h=>by
  obtain⟨hp,g,d,tk,os⟩:=s
  obtain⟨hl,h⟩:=h
  have hsub:=sub_enumerate
  have L1:SqAt k (Shared.heap ⟨hp,g,d,tk,os⟩) l xs:=hl
  wp_walk
  refine wpAny_stack_any fun st=>wpAny_pure ?_
  split
  ·rename_i c _ _ _ _ _
   cases (c == Value.type "enumerate")<;>(wp_walk using xg L1;exact⟨_,rfl,h⟩)
  ·wp_walk using xg L1
   exact⟨_,rfl,h⟩
theorem X2 {prog:Program}{w:World}{A:Around}{E:Value→Shared→Prop}{s:Shared}{k:SK}{l:Addr}{xs:Array Value}{Q:Value→Shared→Prop}(hl:SqAt k s.heap l xs)
  (h:∀ h',IsEnum h' (s.heap.objs.size+1) s.heap.objs.size 0 .none→ItAt k h' s.heap.objs.size l 0→(∀ b o,s.heap.get? b=some o→h'.get? b=some o)→Q (.ref (s.heap.objs.size+1)) { s with heap:=h' }) :
  wpAny (model prog w) A (call (.type "enumerate") [.ref l]) Q E s:=by
 refine callType_new F.called_enumerate (by decide) (F.typeCall_enumerate_1 _) (F.newCall_enumerate_1 _) (fun obj=>F.args_object_init_2 obj _) F.entry_enumerate_new (ZD k l xs) ⟨hl,?_⟩
 have z1:(g1 k s.heap l).objs.size=s.heap.objs.size+1:=Heap.size_push ..
 have e2:((g1 k s.heap l).push (wZ s.heap.objs.size)).get? (g1 k s.heap l).objs.size=some (wZ s.heap.objs.size):=Heap.get?_push_size _ rfl
 have e1:((g1 k s.heap l).push (wZ s.heap.objs.size)).get? s.heap.objs.size=some (vK k l):=Heap.get?_push_of_some _ (Heap.get?_push_size _ (by cases k<;>rfl))
 show _∧_
 rw[z1] at e2 ⊢
 exact⟨⟨_,e2,rfl⟩,h _ e2 (wS e1) fun b o x=>Heap.get?_push_of_some _ (Heap.get?_push_of_some _ x)⟩
end Zt
end PySem
namespace L2
open PySem PySem.Spec PyProof.Rows PySem.Zt
noncomputable def Ite (k:SK) (K:PySem.W.Frag) (a:Addr):It :=
 ⟨fun i H=>∃ xs x,SqK k K H a xs∧xs[i]?=some x,fun i H v H'=>∃ p,H p=none∧v=.ref p∧∀ xs x,SqK k K H a xs→xs[i]?=some x→H'=upd H p (.tup [.int i,x]),fun i H=>∃ xs,SqK k K H a xs∧xs.length=i⟩
theorem Z2 {P:Program}{w:World}{K:PySem.W.Frag}{es:List Expr}{n:Nat}{tp:Pos}{k:SK}{e it:Addr}(a:Addr) (ne:e≠it) :
  Turn P w K (.Tuple es n tp) (Ite k K a) [e,it] e (fun i h=>(∃ old,IsEnum h e it (i:Nat) old)∧ItAt k h it a i) where
 mem:=by simp
 obj:=fun i h st b hb=>by
  obtain⟨⟨old,he⟩,hit⟩:=st
  rcases List.mem_cons.mp hb with rfl | hb
  ·exact⟨_,he,fun v z=>by
    have z':Data.fields _=Data.cell v:=z
    cases z'⟩
  ·rw[List.mem_singleton.mp hb]
   exact hit.obj
 keep:=fun i h h' ⟨⟨old,he⟩,hit⟩ k=>⟨⟨old,k e (by simp) _ he⟩,hit.at fun o q=>k it (by simp) o q⟩
 item:=by
  intro X hP hw hK hc i pins s σ H E I hf st hg
  subst hP hw hK
  obtain⟨xs,x,ha,hx⟩:=hg
  obtain⟨its,r,p,_⟩:=I.seqK ha
  obtain⟨u,eu,ru⟩:=r.get hx
  have fe:=hf e (by simp)
  have fi:=hf it (by simp)
  have ae:a≠e:=I.off ha fe
  have ai:a≠it:=I.off ha fi
  obtain⟨⟨old,he⟩,hit⟩:=st
  have eu':its.toArray[i]?=some u:=by simpa using eu
  have hlt:i<its.toArray.size:=(Array.getElem?_eq_some_iff.mp eu').1
  refine wpAny_pyNext_enum_itemD (Za (A:=X.A.in1) (k:=k) (I.ok.hd hc) it a ai its.toArray) he ⟨hit,p⟩ hlt ne (by simp[ne,ae.symm]) fun x' h1 tk hP O1 S1 T1 z1 kk=>?_
  rw[eu'] at hP
  cases hP
  refine⟨_,rfl,wpAny_letOwnedTupleGo_enum O1 fun h2 E2 sb=>?_⟩
  have lt:∀ {c o},s.heap.get? c=some o→c≠s.heap.objs.size:=fun q=>Nat.ne_of_lt (Heap.lt_size q)
  have te:s.heap.objs.size≠e:=(lt he).symm
  have ti:s.heap.objs.size≠it:=by
   obtain⟨o,q,_⟩:=hit.obj
   exact(lt q).symm
  have T2:=sb.extBut _ _ te T1
  have k2:∀ c o,c∉[e,it]→s.heap.get? c=some o→h2.get? c=some o:=fun c o hc q=>by
   simp only[List.mem_cons,List.not_mem_nil,or_false,not_or] at hc
   exact sb.extBut c o hc.1 (kk c o hc.1 hc.2 q)
  have hn:H s.heap.objs.size=none:=I.fresh
  refine⟨.ref s.heap.objs.size,upd H s.heap.objs.size (.tup [.int i,x]),I.turnedLaid (t':=tk+1) (ch:=[e,it]) hf k2 (Nat.le_refl _) ⟨by show 2≤sizeLine;decide,[.int i tk,u],.cons ⟨_,rfl⟩ (.cons ru .nil),⟨_,T2,rfl,_,rfl⟩⟩,rfl,
   ⟨_,hn,rfl,fun xs' x' ha' hx'=>?_⟩,⟨⟨_,E2⟩,S1.1.at fun o q=>sb.extBut _ _ ne.symm q⟩,fun c hc=>?_⟩
  ·have:=I.seqK_inj ha ha'
   subst this
   rw[hx] at hx'
   cases hx'
   rfl
  ·have hne:c≠s.heap.objs.size:=by
    rcases List.mem_cons.mp hc with rfl | hc
    ·exact te.symm
    ·rw[List.mem_singleton.mp hc];exact ti.symm
   rw[upd_ne hne]
   exact(hf c hc).1
 done:=by
  intro X hP hw hK hc i pins s σ H E I hf st hg
  subst hP hw hK
  obtain⟨xs,ha,hend⟩:=hg
  obtain⟨its,r,p,_⟩:=I.seqK ha
  have l1:=r.length
  have fe:=hf e (by simp)
  have fi:=hf it (by simp)
  have ai:a≠it:=I.off ha fi
  obtain⟨⟨old,he⟩,hit⟩:=st
  have ei:i=its.toArray.size:=by simp;omega
  subst ei
  refine wpAny_pyNext_enum_endD (Za (A:=X.A.in1) (k:=k) (I.ok.hd hc) it a ai its.toArray) he ⟨hit,p⟩ fun h' kk=>⟨rfl,I.turnedL (t':=s.toks) (ch:=[e,it]) hf fun c o hc q=>?_⟩
  simp only[List.mem_cons,List.not_mem_nil,or_false,not_or] at hc
  exact kk c o hc.2 q
 self:=fun _ _ _ _ _ st h=>by
  obtain⟨⟨old,he⟩,_⟩:=st
  exact wpAny_pyIter_enum he h
theorem boot_enum:bootBuiltins "enumerate" = some (.type "enumerate"):=by decide +kernel
def zdF (K:PySem.W.Frag) (ta:TA):TI:=fun σ H R=>ta σ H fun vs H1=>∃ k a xs,vs=[.ref a]∧SqK k K H1 a xs∧R (Ite k K a) H1
theorem Uj {X:Cx}{es:List Expr}{n:Nat}{tp:Pos}{a:Expr}{ta:TA}{p pos:Pos}(hg:Gl X "enumerate") (hm:X.mg "enumerate" = none) (ha:PA X [a] ta) (hs:starEach [a] X.env=[(false,eval a X.env)]:=by rfl) :
  PI X (.Tuple es n tp) (.Call (.Name "enumerate" p) [a] [] pos) (zdF X.K ta):=by
 intro pins s σ H R I h
 refine Call_ (ld_blt I hg hm boot_enum (PyProof.Rows.callWith_type1 (thn (ha pos pins s σ H _ I h) fun us s1 hq0=>?_) hs rfl))
 obtain⟨vs,H1,I1,r1,q1⟩:=hq0
 obtain⟨k,b,xs,e,hq,q⟩:=q1
 subst e
 obtain⟨u,rfl,ru⟩:=r1.one
 cases ru
 obtain⟨its,rv,pl,hz⟩:=I1.seqK hq
 refine X2 pl fun h' E1 It1 kk=>wpAny_pyIter_enum (s:={ s1 with heap:=h' }) E1 ?_
 refine⟨_,[s1.heap.objs.size+1,s1.heap.objs.size],_,_,H1,rfl,I1.kept (t':=s1.toks) kk,Z2 b (Nat.succ_ne_self _),⟨⟨_,E1⟩,It1⟩,fun c hc=>?_,q⟩
 have hle:s1.heap.objs.size≤c:=by
  rcases List.mem_cons.mp hc with rfl | hc
  ·exact Nat.le_succ _
  ·rw[List.mem_singleton.mp hc];exact Nat.le_refl _
 exact I1.fpOk hle (I1.hok.fresh hle)
theorem u7 {K:PySem.W.Frag}{k:SK}{a:Addr}{xs:List V}{g:TG}{tb:TS}{D:Ends}{σ:St}{H:Hp}(Pv:Nat→St→Hp→Prop) (h0:Pv 0 σ H) (hl:∀ i σ H,i≤xs.length→Pv i σ H→SqK k K H a xs)
  (hs:∀ i x σ H p,xs[i]?=some x→Pv i σ H→H p=none→g (.ref p) σ (upd H p (.tup [.int i,x])) fun σ2 H2=>tb { D with nx:=Pv (i+1),ct:=Pv (i+1),bk:=D.nx } σ2 H2) (hd:∀ σ H,Pv xs.length σ H→D.nx σ H) :
  ∃ W:Nat→Nat→St→Hp→Prop,(∃ m,W 0 m σ H)∧∀ i m σ H,W i m σ H →
   ((Ite k K a).stop i H∧D.nx σ H)∨((Ite k K a).go i H∧∃ N:St→Hp→Prop,(∀ σ' H',N σ' H'→∃ m',m'<m∧W (i+1) m' σ' H')∧∀ v H',(Ite k K a).yld i H v H'→g v σ H' fun σ2 H2=>tb { D with nx:=N,ct:=N,bk:=D.nx } σ2 H2):=by
 refine⟨fun i m σ H=>m=xs.length-i∧i≤xs.length∧Pv i σ H,⟨_,rfl,Nat.zero_le _,h0⟩,?_⟩
 rintro i m σ H ⟨rfl,hi,p⟩
 have q:=hl i σ H hi p
 by_cases hlt:i<xs.length
 ·have hx:xs[i]?=some xs[i]:=List.getElem?_eq_getElem hlt
  refine .inr ⟨⟨xs,_,q,hx⟩,Pv (i+1),fun σ' H' z=>⟨_,by omega,rfl,hlt,z⟩,fun v H' hq0=>?_⟩
  obtain⟨r,hr,ev,y⟩:=hq0
  subst ev
  rw[y xs _ q hx]
  exact hs i _ σ H r hx p hr
 ·have e:i=xs.length:=by omega
  subst e
  exact .inl ⟨⟨xs,q,rfl⟩,hd σ H p⟩
end L2

namespace L2
open PySem PySem.Spec PyProof.Rows
structure TRow where
 x:PySem.Str
 i:Int
 t:Tok
 u:Tok
noncomputable def TRow.en (w:World) (r:TRow):DictEntry:=⟨PyData.keyHash w.params r.x,.str r.x r.t,.int r.i r.u⟩
def STab (w:World) (K:PySem.W.Frag) (a:Addr) (D:List (PySem.Str×Int)):Prop :=
 (a == sysModules)=false∧(D.map (·.1)).Nodup∧∃ (L:List TRow) (n:Nat),K.lookup a=some ⟨.type "dict",none,.dict (L.map (TRow.en w)).toArray n,#[]⟩∧L.map (fun r=>(r.x,r.i))=D
noncomputable def yi (D:List (PySem.Str×Int)) (z:PySem.Str):Option Int:=(D.find? fun p=>p.1=z).map (·.2)
theorem STab.dict {X:Cx}{pins:List (Addr×Obj)}{σ:St}{H:Hp}{s:Shared}{a:Addr}{D:List (PySem.Str×Int)}(I:Inv X pins σ H s) (h:STab X.w X.K a D) :
  ∃ kvs:List (PySem.Str×Value),s.heap.DictOf (PySem.strKind X.prog X.w) a kvs∧∀ z,(yi D z=none→valueAt kvs z=none)∧∀ i,yi D z=some i→∃ t,valueAt kvs z=some (.int i t):=by
 obtain⟨_,nd,L,n,lk,rfl⟩:=h
 refine⟨L.map fun r=>(r.x,.int r.i r.u),⟨_,_,_,I.kIn a _ lk,⟨rfl,rfl,rfl⟩,rfl,?_,?_,?_⟩,fun z=>?_⟩
 ·intro e he
  obtain⟨r,_,rfl⟩:=List.mem_map.mp (by simpa using he)
  exact⟨r.x,PySem.strKind_is _ _ _ _,rfl⟩
 ·clear lk nd
  show Pairs _ (L.map (TRow.en X.w)).toArray.toList _
  simp only[]
  induction L with
  |nil=>exact .nil
  |cons r L ih=>exact .cons (PySem.strKind_is _ _ _ _) rfl ih
 ·simpa[List.map_map,Function.comp_def] using nd
 ·clear lk nd
  induction L with
  |nil=>exact⟨fun _=>rfl,fun i e=>by cases e⟩
  |cons r L ih =>
   by_cases q:r.x=z
   ·refine⟨fun e=>?_,fun i e=>⟨r.u,?_⟩⟩
    ·simp[yi,q] at e
    ·simp[yi,q] at e
     simp[valueAt,q,e]
   ·have e1:yi ((r::L).map fun r=>(r.x,r.i)) z=yi (L.map fun r=>(r.x,r.i)) z:=by simp[yi,q]
    have e2:valueAt ((r::L).map fun r=>(r.x,Value.int r.i r.u)) z=valueAt (L.map fun r=>(r.x,Value.int r.i r.u)) z:=by simp[valueAt,q]
    rw[e1,e2]
    exact ih
section
variable {X:Cx}
def zqd (w:World) (K:PySem.W.Frag) (neg:Bool):R2:=fun x y H Q=>∃ z a D,x=.str z∧y=.ref a∧STab w K a D∧Q (.bl (if neg then !(yi D z).isSome else(yi D z).isSome)) H
theorem v7 {kvs:List (PySem.Str×Value)}{D:List (PySem.Str×Int)}{z:PySem.Str}(h:(yi D z=none→valueAt kvs z=none)∧∀ i,yi D z=some i→∃ t,valueAt kvs z=some (.int i t)):(valueAt kvs z).isSome=(yi D z).isSome:=by
 cases e:yi D z with
 |none=>rw[h.1 e];rfl
 |some i =>
  obtain⟨t,q⟩:=h.2 i e
  rw[q];rfl
theorem Xg:OpR X (compareOp .NotIn) (zqd X.w X.K true):=by
 intro pins s σ H x y v u Q I rx ry h
 obtain⟨z,a,D,rfl,rfl,hd,q⟩:=h
 obtain⟨t,rfl⟩:=rx
 cases ry
 obtain⟨kvs,dd,hv⟩:=hd.dict I
 refine wpAny_notIn_of (PySem.strKind_is _ _ z t) hd.1 dd.mapOf ?_
 rw[v7 (hv z)]
 exact⟨.bl _,H,I.tok _,rfl,q⟩
def zqb (w:World) (K:PySem.W.Frag):R2:=fun x y H Q=>∃ a z D i,x=.ref a∧y=.str z∧STab w K a D∧yi D z=some i∧Q (.int i) H
theorem zdB:IxR X (zqb X.w X.K):=by
 intro value slice pins s σ H x y v u Q I rx ry h hs
 obtain⟨a,z,D,i,rfl,rfl,hd,hi,q⟩:=h
 cases rx
 obtain⟨t,rfl⟩:=ry
 obtain⟨kvs,dd,hv⟩:=hd.dict I
 obtain⟨t',e⟩:=(hv z).2 i hi
 exact subscriptTail_builtinR (x:=.int i t') dd.typeIs PySem.F.slot_dict_getitem.lookup
  (wpAny_getItem_of (Q:=fun r s'=>r=Value.int i t'∧EP X pins σ Q r s') (PySem.strKind_is _ _ z t) dd.mapOf e ⟨rfl,.int i,H,I.tok _,⟨_,rfl⟩,q⟩) hs
variable {o e f:Expr}{apos cpos:Pos}{td ty tx:TE}
def Vh (w:World) (K:PySem.W.Frag) (td ty tx:TE):TE:=fun σ H Q=>td σ H fun x H1=>∃ a D,x=.ref a∧STab w K a D∧ty σ H1 fun y H2=>tx σ H2 fun z H3=>∃ k j,y=.str k∧z=.int j∧Q (.int ((yi D k).getD j)) H3
theorem Wv (ho:PE X o td) (he:PE X e ty) (hf:PE X f tx) (m:M2 X o "get" apos e f cpos):PE X (.Call (.Attribute o "get" apos) [e,f] [] cpos) (Vh X.w X.K td ty tx):=by
 intro pins s σ H Q I h
 refine wpAny_Call_method m.base m.few m.line PySem.F.plainAttrs_dict PySem.F.slot_dict_get PySem.F.type_dict_get (thn (ho pins s σ H _ I h) fun u s1 hq0=>?_)
 obtain⟨x,H1,I1,rx,a,D,ex,hd,q1⟩:=hq0
 subst ex
 obtain rfl:u=Value.ref a:=rx
 obtain⟨kvs,dd,hv⟩:=hd.dict I1
 refine⟨dd.typeIs,dd.mapOf.noDict,?_⟩
 rw[m.trees]
 refine Calls.callWith_builtin rfl (Calls.evalArgs_plain (Calls.spliced_cons (thn (he pins s1 σ H1 _ I1 q1) fun iv s2 ⟨y,H2,I2,ry,q2⟩ =>
  Calls.spliced_cons (thn (hf pins s2 σ H2 _ I2 q2) fun fv s3 ⟨z,H3,I3,rz,k,j,ey,ez,q3⟩=>Calls.spliced_nil ?_))))
 subst ey ez
 obtain⟨t,rfl⟩:=ry
 obtain⟨t',rfl⟩:=rz
 obtain⟨kvs,dd,hv⟩:=hd.dict I3
 refine call_meetsIn PySem.F.slot_dict_get dd.typeIs PySem.F.entry_dict_get (PySem.F.args_dict_get_3 _ _ _) (meets_dict_get_default (PySem.strKind X.prog X.w) a (PySem.strKind_is _ _ k t) hd.1 (.int j t')) ⟨_,dd.mapOf,?_⟩
 refine⟨.int ((yi D k).getD j),H3,I3.tok _,?_,q3⟩
 cases e:yi D k with
 |none=>rw[(hv k).1 e];exact⟨_,rfl⟩
 |some i =>
  obtain⟨t2,q⟩:=(hv k).2 i e
  rw[q]
  exact⟨_,rfl⟩
end
end L2

namespace L2
open PySem PySem.Spec PyProof.Rows
end L2

namespace L2
open PySem PySem.W PySem.Spec PySem.Calls PyProof.Rows PySem.Builtin PySem.Builtin.ObjectAttr
noncomputable def wb:List Value→Bool
 |[]=>false
 |v::r=>(v::r) == ux||match v with
  |.ref _=>wb r
  |_=>false
structure XSet (K:Frag) (C:Addr):Prop where
 sa:findIn K (.ref C) "__setattr__" = some (some (.builtin "object.__setattr__"))
 hm:mroIn K C (.type "object")=some true
 mt:(clsIn K C).any (fun cd=>wb cd.mro)=true
 hd:hasDictIn K C=true
theorem xU (self:Value):∀ {l:List Value},wb l=true→refuseLoop self "__setattr__" l=pure ()
 |[],e=>by cases e
 |v::r,e=>by
  unfold wb at e
  rcases Bool.or_eq_true_iff.mp e with q | q
  ·rw[beq_iff_eq.mp q]
   exact PySem.F.store_ValueError.passes self
  ·cases v with
   |ref a=>rw[refuseLoop_ref];exact xU self q
   |_=>cases q
section
variable {prog:Program}{w:World}{A:Around}{K:Frag}{x C:Addr}{s:Shared}{R:Result→Shared→Prop}
theorem WA {ox:Obj}{od:Option Obj}{name:Str}{tk:Tok}{v:Value}(X:K.In s.heap) (I:InstAt s.heap x ox C od) (c:XSet K C) (ht:takerIn K C name=some none)
  (h:∀ b,wpAny (model prog w) A.in1 (storeInOwnDict (.ref x) (.ref C) (.str name tk) name v b)
   (fun fin s'=>match fin with | .done f=>R (.ok f) s' | .again c'=>c'.quiet=true∧codeAny (model prog w) A c' R s') (fun e s'=>R (.error e) s') s) :
  codeAny (model prog w) A (.call (.builtin "object.__setattr__") ⟨[.ref x,.str name tk,v],[]⟩) R s:=by
 have SF:=PySem.F.store_object
 obtain⟨cd,hc,ho⟩:=any_some c.mt
 have sub:Looks (model prog w) s.heap (isInstance (.ref x) (.type "object")) true:=I.type.andThen (looks_mroIn X c.hm)
 have hm:Looks (model prog w) s.heap (mroOf (.ref C)) cd.mro:=(looks_clsIn X hc).andThen .now
 obtain⟨attr,ha,hr⟩:=Option.bind_eq_some_iff.mp ht
 have L3:Looks (model prog w) s.heap (storeTaker? attr) none:=by
  cases attr with
  |none=>exact .now
  |some a =>
   obtain⟨b,hb,q⟩:=Option.map_eq_some_iff.mp hr
   refine(looks_takesIn X hb).andThen ?_
   cases b with
   |true=>cases q
   |false=>exact .now
 refine codeAny_call_builtin SF.slot.plain SF.entry (@check_slot (model prog w) _ _ s "object.__setattr__" "object" "__setattr__" (.ref x) [.str name tk,v] [] _ SF.kind SF.split sub (SF.args (.ref x) (.str name tk) v) ?_)
 rw[osa_eq,refuse_eq]
 refine wpAny_bind (wpAny_bind (I.type.here (wpAny_bind (hm.here ?_))))
 rw[xU _ ho]
 exact wpAny_pure (wpAny_bind (I.type.here (wpAny_bind ((looks_findIn X ha).here (wpAny_bind (L3.here (h _)))))))
theorem zpB {E:Value→Shared→Prop}{cl:Value}{vs:Array Value}{sl:Array (Option Value)}{name:Str}{v:Value}{Q:Unit→Shared→Prop}(X:K.In s.heap) (hx:s.heap.get? x=some ⟨.ref C,none,.fields vs,sl⟩) (c:XSet K C) (ht:takerIn K C name=some none)
  (h:∀ h',h'.Ns1 s.heap.objs.size (fun y=>if y=name then some v else none)→h'.get? x=some ⟨.ref C,some s.heap.objs.size,.fields vs,sl⟩→(∀ b o,b≠x→s.heap.get? b=some o→h'.get? b=some o)→Q () { s with heap:=h',toks:=s.toks+2 }) :
  wpAny (model prog w) A (setAttr (.ref x) name v) Q E s:=by
 have I:InstAt s.heap x ⟨.ref C,none,.fields vs,sl⟩ C none:=⟨hx,rfl,rfl,trivial⟩
 refine set_plain X I c.sa (WA (s:={ s with toks:=s.toks+1 }) X I c ht fun b=>?_)
 obtain⟨cd,hc,hd'⟩:=any_some c.hd
 have hxs:x≠s.heap.objs.size:=Nat.ne_of_lt (Heap.lt_size hx)
 have hx1:(s.heap.push { cls:=.type "dict",data:=.dict #[] }).get? x=some ⟨.ref C,none,.fields vs,sl⟩:=Heap.get?_push_of_some _ hx
 refine wpAny_bind (wpAny_pure (wpAny_bind (wpAny_bind (wpAny_loadPart hx (wpAny_bind ((looks_clsIn (M:=model prog w) X hc).here (s:={ s with toks:=s.toks+1 }) ?_))))))
 rw[hd']
 refine wpAny_bind (wpAny_alloc (wpAny_bind (wpAny_update hx1 (wpAny_pure ?_))))
 generalize hg:(s.heap.push { cls:=.type "dict",data:=.dict #[] }).update x (fun o=>{ o with dict:=some s.heap.objs.size })=h1
 have e1:h1.get? s.heap.objs.size=some { cls:=.type "dict",data:=.dict #[] }:=by
  rw[← hg]
  exact(Heap.get?_update_other _ _ hxs).trans (Heap.get?_push_size s.heap rfl)
 have e2:h1.get? x=some ⟨.ref C,some s.heap.objs.size,.fields vs,sl⟩:=by
  rw[← hg]
  exact Heap.get?_update_self _ hx1 rfl
 have e3:∀ b o,b≠x→s.heap.get? b=some o→h1.get? b=some o:=fun b o n q=>by
  rw[← hg]
  exact(Heap.get?_update_other _ _ (Ne.symm n)).trans (Heap.get?_push_of_some _ q)
 have n1:h1.Ns s.heap.objs.size (fun _=>none):=⟨_,#[],_,e1,rfl,fun e he=>absurd he (by simp),fun _=>rfl⟩
 refine wpAny_bind (wpAny_pure (wpAny_bind ?_))
 refine wpAny_nsSet1 (Heap.Ns1.of_empty n1) fun h' hn2 hs2=>?_
 obtain⟨oD,esD,epD,hoD,hdD,hcD⟩:=hn2.count (PySem.Within.cons name v PySem.Within.nil)
 refine wpAny_bind (wpAny_lookBehind hoD (by rw[hdD];exact pastItsLine_dict (Nat.le_trans hcD (by rw[List.length_cons,List.length_nil,sizeLine_eq];omega))) ?_)
 exact wpAny_pure (h _ hn2 ((hs2.2 _ hxs).trans e2) fun b o n q=>(hs2.2 b (Nat.ne_of_lt (Heap.lt_size q))).trans (e3 b o n q))
end
end L2

namespace L2
open PySem PySem.Spec PyProof.Rows
def XM (a C:Addr) (dd:Option Addr) (h:Heap):Prop:=∃ t:Addr,h.get? a=some ⟨.ref C,dd,.fields #[.ref t,.none,.none,.none,.bool false,.none],#[]⟩
theorem zbh {P:Program}{w:World}{H:Hp}{h:Heap}{a C:Addr}{dd:Option Addr}(x:XM a C dd h):ObjOk P w H h a (.ext (XM a C dd)):=by
 refine⟨x,?_,fun h1 h2 p k=>?_⟩
 ·obtain⟨t,e⟩:=x
  exact⟨_,e⟩
 ·obtain⟨t,e⟩:=p
  exact⟨t,k _ e⟩
noncomputable def Zk (K:PySem.W.Frag) (C f:Addr):Bool:=match K.lookup C with
 |some ⟨.type "type",_,.cls cd,sl⟩=>(match cd.mro,sl.toList with
  |.ref C'::bm,[_,_,_,_,some (.builtin n),_]=>C' == C&&n == "ValueError.__new__" && !cd.hasDel&&PySem.W.tailIn K ux bm&&PySem.W.nsOkIn K cd.ns&&PySem.W.nsIn K cd.ns "__init__" == some (some (.ref f))
  |_,_=>false)
 |_=>false
def UV (h:Heap) (C f:Addr):Prop:=∃ bm N nm qn bs hd sn sub ab col dd k0 k1 k2 k3 k5 mN,h.get? C=some (excClassObj nm qn C N bs bm hd sn sub ab col dd k0 k1 k2 k3 k5 "ValueError.__new__")∧h.Ns N mN∧mN "__init__" = some (.ref f)∧OwnTail h ux bm
theorem zdm {K:PySem.W.Frag}{h:Heap}{N:Addr}{m:Str→Option Value}{x:Str}{v:Value}(X:K.In h) (G:h.Ns N m) (q:PySem.W.nsIn K N x=some (some v)):m x=some v:=by
 obtain⟨o,es,ep,e1,e2,_,e3⟩:=G
 unfold PySem.W.nsIn at q
 split at q
 case h_2=>cases q
 case h_1 lk =>
  have z:=e1.symm.trans (X _ _ lk)
  cases z
  cases e2
  split at q
  case h_2 =>
   split at q<;>cases q
  case h_1 fd =>
   rw[← e3]
   unfold nsFind findBy
   rw[← Array.find?_toList,fd]
   exact Option.some.inj q
theorem xL {K:PySem.W.Frag}{C f:Addr}(x:Zk K C f=true){h:Heap}(I:K.In h):UV h C f:=by
 unfold Zk at x
 split at x
 case h_2=>cases x
 case h_1 dd cd sl lk =>
  split at x
  case h_2=>cases x
  case h_1 C2 bm k0 k1 k2 k3 nid k5 em es =>
   rw[Bool.and_eq_true,Bool.and_eq_true,Bool.and_eq_true,Bool.and_eq_true,Bool.and_eq_true] at x
   obtain⟨⟨⟨⟨⟨x1,x2⟩,x3⟩,x4⟩,x5⟩,x6⟩:=x
   cases (beq_iff_eq.mp x1)
   cases (beq_iff_eq.mp x2)
   cases cd with
   |mk nm bs mro ns qn hd sn sub ab col del =>
    have e1:mro=.ref C::bm:=em
    have e2:del=false:=by
     cases del with
     |false=>rfl
     |true=>cases x3
    have e3:sl = #[k0,k1,k2,k3,some (.builtin "ValueError.__new__"),k5]:=by
     cases sl with
     |mk l =>
      have e:l=_:=es
      rw[e]
    rw[e1,e2,e3] at lk
    have hn:h.Ns ns (h.nsMap ns):=.of_isNs (PySem.W.isNs_of_in I x5)
    exact⟨bm,ns,nm,qn,bs,hd,sn,sub,ab,col,dd,k0,k1,k2,k3,k5,_,I _ _ lk,hn,zdm I hn (beq_iff_eq.mp x6),PySem.W.tail_of_in I x4⟩
section
variable {prog:Program}{w:World}{A:Around}{E:Value→Shared→Prop}{s:Shared}{C f:Addr}
theorem ZL {rest:List Value}{of:Obj}{Q:Value→Shared→Prop}(x:UV s.heap C f) (hfo:s.heap.get? f=some of) (hfc:of.cls=.type "function")
  (hq:∀ h' e,Heap.MadeExcOf s.heap h' e (.ref C) rest→s.heap.objs.size≤e →
   wpAny (model prog w) (A.under (.builtin "type.__call__" ⟨.ref C::rest,[]⟩)) (call (.ref f) (.ref e::rest)) (fun r s'=>r=.none∧Q (.ref e) s') E { s with heap:=h' }) (hrest:rest.length≤sizeLine) :
  wpAny (model prog w) A (call (.ref C) rest) Q E s:=by
 obtain⟨h,g,d,t,os⟩:=s
 obtain⟨bm,N,nm,qn,bs,hd,sn,sub,ab,col,dd,k0,k1,k2,k3,k5,mN,hC,hn,hi,T⟩:=x
 have F:=PySem.F.excBase_ValueError
 have f1:=tc_lookup
 have f2:=tc_bind (.ref C)
 have hT:(⟨h,g,d,t,os⟩:Shared).TypeIs (.ref C) "type" := ⟨_,hC,rfl⟩
 refine wpAny_call (codeAny_of_tree ?_)
 show wpAny _ _ (callAny (.ref C) _) _ _ _
 repeat (any_goals (first | assumption | with_reducible refine wpAny_loadPart_at hC ?_ | wp_step))
 refine⟨rfl,codeAny_call_builtin_at (Code.quiet_builtin _ (by decide +kernel)) entry_typeCall (wpAny_check_type_call_sub hC ?_)⟩
 repeat (first | with_reducible refine wpAny_loadPart_at hC ?_ | with_reducible refine wpAny_madeBy_exc hC ?_ | wp_step)
 refine codeAny_call_builtin_code (Code.quiet_builtin _ F.quiet) (wpAny_check_new_subT F T hC (codeAny_exc_new_subT F T hC ?_ hrest))
 show wpAny _ _ _ _ _ ⟨(h.push { cls:=.type "tuple",data:=.seq rest.toArray }).push { cls:=.ref C,data:=.fields #[.ref h.objs.size,.none,.none,.none,.bool false,.none] },g,d,t,os⟩
 generalize ht:({ cls:=.type "tuple",data:=.seq rest.toArray }:Obj)=ot
 generalize he:({ cls:=.ref C,data:=.fields #[.ref h.objs.size,.none,.none,.none,.bool false,.none] }:Obj)=oe
 have kp:∀ b o,h.get? b=some o→((h.push ot).push oe).get? b=some o:=fun b o q=>Heap.get?_push_of_some _ (Heap.get?_push_of_some _ q)
 have g1:((h.push ot).push oe).get? (h.objs.size+1)=some oe:=Heap.get?_push_at (by rw[Heap.size_push]) (by rw[← he];rfl)
 have g0:((h.push ot).push oe).get? h.objs.size=some ot:=Heap.get?_push_of_some _ (Heap.get?_push_at rfl (by rw[← ht];rfl))
 have oc:oe.cls=.ref C:=by rw[← he]
 have cC:(Value.ref C::bm).contains (.ref C)=true:=by simp
 have hC1:=kp _ _ hC
 have made:Heap.MadeExcOf h ((h.push ot).push oe) (h.objs.size+1) (.ref C) rest:=by
  subst ht he
  exact⟨kp,Heap.get?_none_of_le (Nat.le_succ _),h.objs.size,g1,Heap.get?_none_of_le (Nat.le_refl _),g0⟩
 unfold isInstance
 repeat (first | (with_reducible refine wpAny_loadPart_at g1 ?_;rw[oc]) | (with_reducible refine wpAny_isSubtype_exc hC1 ?_;rw[cC]) | wp_step)
 show wpAny _ _ (typeLookup (.ref C) _) _ _ _
 refine wpAny_typeLookup_tail hC1 (hn.keeps kp) (T.keeps kp) F.mroIs F.init.lookup ?_
 rw[hi]
 refine wpAny_holding (wpAny_bind ?_)
 unfold bindSpecial
 refine wpAny_bind (wpAny_typeOf (T := "function") ⟨_,kp _ _ hfo,hfc⟩ ?_)
 rw[if_pos (by decide)]
 refine wpAny_pure (wpAny_bind (wpAny_mono (hq _ _ made (Nat.le_succ _)) (fun r s' hr=>?_) fun _ _ z=>z))
 obtain⟨rfl,q⟩:=hr
 wp_walk
 exact q
end
end L2

namespace L2
open PySem PySem.Spec PyProof.Rows
def zcA (K:PySem.W.Frag) (ta tv:TE) (f:Str):TS:=fun D σ H=>tv σ H fun y H1=>ta σ H1 fun x H2=>∃ a C,x=.ref a∧H2 a=some (.ext (XM a C none))∧XSet K C∧PySem.W.takerIn K C f=some none ∧
 ∀ d,H2 d=none→D.nx σ (upd (upd H2 d (.xd [(f,y)])) a (.ext (XM a C (some d))))
section
variable {X:Cx}{o value:Expr}{f:Str}{pos pos':Pos}{ta tv:TE}
theorem Ue (ha:PE X o ta) (hv:PE X value tv) (hs:swapsWith value (some (.Attribute o f pos')) pos.line X.env=pure false):PS X (.Assign [.Attribute o f pos'] value pos) (zcA X.K ta tv f):=by
 intro pins s σ H D I h
 refine plainObj_wpAny_Assign_Attribute (thn (hv pins s σ H _ I h) fun u s1 ⟨y,H1,I1,ry,q⟩=>thn (ha pins s1 σ H1 _ I1 q) fun ov s2 hq0=>?_) hs
 obtain⟨x,H2,I2,rx,a,C,ex,ea,c,n,q2⟩:=hq0
 subst ex
 obtain rfl:ov=Value.ref a:=rx
 obtain⟨⟨t,hx⟩,_,_⟩:=(show ObjOk X.prog X.w H2 s2.heap a (.ext (XM a C none)) from I2.hok a _ ea)
 refine zpB (cl:=.none) I2.kIn hx c n fun h' hn hx' hk=>⟨σ,_,?_,q2 s2.heap.objs.size (I2.hok.fresh (Nat.le_refl _))⟩
 obtain⟨od,es,ep,e1,rest⟩:=hn
 have hfr:=(Heap.get?_some_iff.mp e1).2
 have g0:(s2.heap.push od).get? s2.heap.objs.size=some od:=Heap.get?_push_size s2.heap hfr
 have I3:=I2.laid (a:=s2.heap.objs.size) (o:=.xd [(f,y)]) (h':=s2.heap.push od) (t':=s2.toks+2) (fun b u' q=>Heap.get?_push_of_some _ q) (Nat.le_refl _) ⟨_,⟨od,es,ep,g0,rest⟩,fun g=>by
  show RelO (([(f,y)]:List (Str×V)).lookup g) (if g=f then some u else none)
  rw[List.lookup_cons]
  by_cases q:g=f
  ·rw[if_pos q,beq_iff_eq.mpr q]
   exact ry
  ·rw[if_neg q,beq_eq_false_iff_ne.mpr q]
   exact True.intro⟩
 have na:a≠s2.heap.objs.size:=Nat.ne_of_lt (Heap.lt_size hx)
 refine I3.write (x:=a) (e:=a) (o:=.ext (XM a C (some s2.heap.objs.size))) (h':=h') (t':=s2.toks+2) (by rw[upd_ne na,ea];exact True.intro) (.inl rfl) (fun b u' hb q=>?_) ⟨_,hx'⟩ (zbh ⟨t,hx'⟩)
 by_cases hd:b=s2.heap.objs.size
 ·subst hd
  have z:=g0.symm.trans q
  cases z
  exact e1
 ·refine hk b u' hb ?_
  have q':(s2.heap.push od).get? b=some u':=q
  rw[Heap.get?_push_ne _ _ _ hd] at q'
  exact q'
end
def YW (C:Addr) (f:Str):Sp:=fun vs H Q _=>∃ a v,vs=[.ref a,v]∧H a=some (.ext (XM a C none))∧∀ d,H d=none→Q .non (upd (upd H d (.xd [(f,v)])) a (.ext (XM a C (some d))))
section
variable {M:Model}{A:Around}{E:Value→Shared→Prop}{s:Shared}{env:Env}
theorem raise_xm {x:Sem Value}{Q:Flow→Shared→Prop}(hh:A.handled=none) (h:wpAny M A x (fun v s1=>∃ e C f dd,v=.ref e∧UV s1.heap C f∧XM e C dd s1.heap∧E (.ref e) s1) E s):wpAny M A (raiseStmt env (some x) none) Q E s:=by
 unfold raiseStmt
 refine wpAny_bind (wpAny_mono h (fun v s1 h1=>?_) fun _ _ z=>z)
 obtain⟨e,C,f,dd,rfl,⟨bm,N,nm,qn,bs,hd,sn,sub,ab,col,dd',k0,k1,k2,k3,k5,mN,hC,hn,hi,T⟩,⟨t,he⟩,hE⟩:=h1
 have cB:(Value.ref C::bm).contains (.type "BaseException")=true:=by rw[List.contains_cons,T.hasType (b:=true) rfl,Bool.or_true]
 obtain⟨hp,g,d,tk,os⟩:=s1
 repeat (first | with_reducible refine wpAny_loadPart_at he ?_ | with_reducible refine wpAny_loadPart_at hC ?_ | (with_reducible refine wpAny_isSubtype_exc hC ?_;rw[cB]) | wp_step)
 exact wpAny_raiseNew_none hh hE
end
end L2

namespace L2
open PySem PySem.Spec PyProof.Rows
noncomputable def sans (H:Hp) (a:Addr):Hp:=fun b=>if b=a then none else H b
theorem sans_ne {H:Hp}{a b:Addr}(h:b≠a):sans H a b=H b:=if_neg h
theorem vn {H:Hp}{a b:Addr}{o:HO}(h:sans H a b=some o):b≠a∧H b=some o:=by
 unfold sans at h
 split at h
 ·cases h
 ·rename_i n
  exact⟨n,h⟩
section
variable {P:Program}{w:World}{K:PySem.W.Frag}{mg:Str→Option Value}{base:Heap}{N:List Str}{qual:Str}{scope:Scope}{f:Addr}{cd:Value}{A:Around}{outer:List Env}{s0:Shared}{H0:Hp}{E:XK}
theorem zdu {pins:List (Addr×Obj)}{σ:St}{H:Hp}{s:Shared}{a C d:Addr}(I:Inv (yc (CX1 P w) P w K mg base N qual scope f cd A outer s0 H0 E) pins σ H s) (ha:H a=some (.ext (XM a C (some d)))) (young:s0.heap.get? a=none)
  (q:E (.ref C) (some d) (sans H a)):(yc (CX1 P w) P w K mg base N qual scope f cd A outer s0 H0 E).xe (.ref a) s:=by
 obtain⟨⟨t,hx⟩,_,_⟩:=(show ObjOk P w H s.heap a (.ext (XM a C (some d))) from I.hok a _ ha)
 have hfr:=I.ok.frames
 have sf:∀ b,b∈frs (envOfC qual scope s0.heap.objs.size f cd::outer)→H b=none:=fun b hb=>I.stkFree b hb
 have nb:∀ b,b∈frs (envOfC qual scope s0.heap.objs.size f cd::outer)→b≠a:=fun b hb e=>by
  have:=sf b hb
  rw[e,ha] at this
  cases this
 generalize hB:PySem.W.hideAll s.heap (a::frs (envOfC qual scope s0.heap.objs.size f cd::outer))=B
 have Bs:B.StaysIn s.heap:=fun b o e=>by rw[← hB] at e;exact PySem.W.of_hideAll _ e
 have Bn:B.get? a=none:=by rw[← hB];exact PySem.W.hideAll_none _ (List.mem_cons_self ..)
 have Bg:∀ b o,s.heap.get? b=some o→b≠a→b∉frs (envOfC qual scope s0.heap.objs.size f cd::outer)→B.get? b=some o:=fun b o e n1 n2=>by
  rw[← hB]
  exact PySem.W.hideAll_get _ e fun z=>(List.mem_cons.mp z).elim n1 n2
 have Bf:s.heap.FunFrames B (envOfC qual scope s0.heap.objs.size f cd::outer):=by
  rw[← hB]
  exact PySem.W.funFrames_hide I.stack fun env he b hb=>List.mem_cons_of_mem _ (List.mem_filterMap.mpr ⟨env,he,hb⟩)
 have ns:∀ b o,s0.heap.get? b=some o→b∉frs outer→b∉frs (envOfC qual scope s0.heap.objs.size f cd::outer):=fun b o e hb z=>by
  rcases List.mem_cons.mp (I.stkSub b z) with e' | e'
  ·exact absurd (Nat.lt_of_lt_of_le (Heap.lt_size e) I.ok.above) (by rw[e'];exact Nat.lt_irrefl _)
  ·exact hb e'
 have na:∀ b o,s0.heap.get? b=some o→b≠a:=fun b o e z=>by rw[z,young] at e;cases e
 refine zdM (M:=model P w) (A:=A.deeper (envOfC qual scope s0.heap.objs.size f cd)) (s:=s) (outer:=outer) (L:=s0.heap.objs.size) (base:=B) (a0:=.ref t) hfr Bf rfl hx Bs Bn rfl rfl rfl fun h2 F2 up kd=>?_
 refine⟨a,.ref C,.ref t,sans H a,B,rfl,?_,F2,some d,fun D e=>?_,q⟩
 ·refine⟨I.os,I.bare,⟨fun b o e n hb _=>?_,fun b o e n hb _=>?_,fun b o e n _=>?_,fun b o e _=>?_,fun b xs e=>?_,fun b o u e=>?_,fun b ps e=>?_⟩,?_,fun b o e n hb=>?_,fun b o hb e=>?_,fun b o e hb=>?_⟩
  ·exact F2.1 b o (Bg b o (I.base.keep b o e n hb (by simp[yc])) (na b o e) (ns b o e hb))
  ·have hs:b∈frs (envOfC qual scope s0.heap.objs.size f cd::outer):=by
    obtain⟨env,he,hf⟩:=List.mem_filterMap.mp hb
    exact List.mem_filterMap.mpr ⟨env,List.mem_cons_of_mem _ he,hf⟩
   obtain⟨z,e1⟩:=I.base.any e n (by simp[yc])
   obtain⟨_,o',ho',hd⟩:=I.stack.mem hs
   have eo:=e1.symm.trans ho'
   cases eo
   obtain⟨z2,e2⟩:=up b _ e1 (fun vs z=>hd vs z)
   exact⟨z2,e2⟩
  ·have:=I.base.free b o e n (by simp[yc])
   rw[sans_ne (na b o e)]
   exact this
  ·obtain⟨o',e1⟩:=I.base.there b o e (by simp[yc])
   by_cases hb:b∈frs (envOfC qual scope s0.heap.objs.size f cd::outer)
   ·obtain⟨_,o2,ho2,hd⟩:=I.stack.mem hb
    obtain⟨z2,e2⟩:=up b _ ho2 (fun vs z=>hd vs z)
    exact⟨_,e2⟩
   ·exact⟨o',F2.1 b o' (Bg b o' e1 (na b o e) hb)⟩
  ·have:=I.base.tups b xs e
   rw[sans_ne (fun z=>by rw[z,ha] at this;cases this)]
   exact this
  ·have:=I.base.frzs b o u e
   rw[sans_ne (fun z=>by rw[z,ha] at this;cases this)]
   exact this
  ·obtain⟨more,this⟩:=I.base.tbls b ps e
   exact⟨more,by rw[sans_ne (fun z=>by rw[z,ha] at this;cases this)];exact this⟩
  ·intro b u e
   obtain⟨n,e⟩:=vn e
   refine(I.hok b u e).stay (fun c v hc z=>?_) (fun c z=>?_) fun c xs z=>?_
   ·have tr:H c≠none:=by
     rcases hc with rfl | hc
     ·rw[e];intro z;cases z
     ·rw[hc];intro z;cases z
    have nc:c≠a:=by
     rcases hc with rfl | hc
     ·exact n
     ·intro z;rw[z,ha] at hc;cases hc
    exact F2.1 c v (Bg c v z nc fun y=>tr (sf c y))
   ·rw[sans_ne (fun y=>by rw[y,ha] at z;cases z)]
    exact z
   ·rw[sans_ne (fun y=>by rw[y,ha] at z;cases z)]
    exact z
  ·exact Bg b o (I.base.keep b o e n hb (by simp[yc])) (na b o e) (ns b o e hb)
  ·cases hq:sans H a b with
   |none=>exact absurd hq hb
   |some u =>
    obtain⟨n,e'⟩:=vn hq
    obtain⟨v,hv⟩:=I.hok.thr e'
    have z:=Bg b v hv n fun y=>by have:=sf b y;rw[e'] at this;cases this
    have z2:=F2.1 b v z
    have e2:h2.get? b=some o:=e
    rw[z2] at e2
    cases e2
    exact z
  ·obtain⟨o',e1⟩:=I.base.there b o e (by simp[yc])
   exact⟨o',Bg b o' e1 (na b o e) (ns b o e hb)⟩
 ·cases e
  exact kd _ _ ⟨_,hx,rfl⟩
end
end L2

namespace L2
open PySem PySem.Spec PyProof.Rows
theorem ZN {K:PySem.W.Frag}{g:Addr}(h:(K.lookup g).any (fun o=>o.cls == .type "function")=true):∃ o,K.lookup g=some o∧o.cls=.type "function" := by
 cases e:K.lookup g with
 |none=>rw[e] at h;cases h
 |some o =>
  rw[e] at h
  exact⟨o,rfl,beq_iff_eq.mp h⟩
theorem Wn {H:Hp}{a d:Addr}{o1 o2 o3:HO}(h:H a=none) (n:d≠a):sans (upd (upd (upd H a o1) d o2) a o3) a=upd H d o2:=by
 funext b
 unfold sans upd
 by_cases e:b=a
 ·subst e
  simp[h,Ne.symm n]
 ·simp[e]
section
variable {P:Program}{w:World}{K:PySem.W.Frag}{mg:Str→Option Value}{base:Heap}{N:List Str}{qual:Str}{scope:Scope}{f:Addr}{cd:Value}{A:Around}{outer:List Env}{s0:Shared}{H0:Hp}{E:XK}
 {x fld:Str}{C g:Addr}{e:Expr}{es:List Expr}{t:TA}{np cpos pos:Pos}{k:Nat}{fd:FuncData}{ps:List Str}
def ziI (C:Addr) (fld:Str) (E:XK) (t:TA):TS:=fun _ σ H=>t σ H fun vs H1=>∃ v,vs=[v]∧∀ d,H1 d=none→E (.ref C) (some d) (upd H1 d (.xd [(fld,v)]))
structure XInit (P:Program) (w:World) (K:PySem.W.Frag) (mg:Str→Option Value) (base:Heap) (x:Str) (C g:Addr) (fd:FuncData) (ps:List Str) (k:Nat) (fld:Str):Prop where
 ok:FnOk P w K mg base CX0 k g fd ps (YW C fld)
 c:Zk K C g=true
 fn:(K.lookup g).any (fun o=>o.cls == .type "function")=true
 kp:PySem.W.keepIn K (.ref C)=true
 gl:mg x=some (.ref C)
 b:Binds K fd ps []
theorem Y3 (c:XInit P w K mg base x C g fd ps k fld) (hc:(A.deeper (envOfC qual scope s0.heap.objs.size f cd)).handled=none) (hr:Room (k+1) (yc (CX1 P w) P w K mg base N qual scope f cd A outer s0 H0 E).A) (ha:PA (yc (CX1 P w) P w K mg base N qual scope f cd A outer s0 H0 E) (e::es) t)
  (hg:Gl (yc (CX1 P w) P w K mg base N qual scope f cd A outer s0 H0 E) x:=by rfl)
  (he:starEach (e::es) (yc (CX1 P w) P w K mg base N qual scope f cd A outer s0 H0 E).env=(false,eval e (yc (CX1 P w) P w K mg base N qual scope f cd A outer s0 H0 E).env)::starEach es (yc (CX1 P w) P w K mg base N qual scope f cd A outer s0 H0 E).env:=by rfl)
  (hpl:(backTo cpos (starEach es (yc (CX1 P w) P w K mg base N qual scope f cd A outer s0 H0 E).env)).any (·.1)=false:=by rfl) (hdb:(x == ("__debug__" : Str))=false:=by decide) :
  PS (yc (CX1 P w) P w K mg base N qual scope f cd A outer s0 H0 E) (.Raise (some (.Call (.Name x np) (e::es) [] cpos)) none pos) (ziI C fld E t):=by
 intro pins s σ H D I h
 rw[arm_exec_Raise]
 refine wpAny_bind (wpAny_standAt (raise_xm hc ?_))
 refine wpAny_bind (wpAny_mono (wpAny_Call_Name_kw (ld_glob I hg c.gl ?_ hdb)) (fun v s3 h3=>wpAny_bind (wpAny_standAt (wpAny_pure h3))) fun _ _ z=>z)
 refine PySem.W.callWith_K (h₀:=base) I.ok.mod.kin c.kp (wpAny_mono (ha cpos pins s σ H _ I h) (fun us s1 hq=>?_) (fun _ _ z=>z)) he hpl
 obtain⟨vs,H1,I1,r,v,rfl,q⟩:=hq
 refine⟨I1.kIn,?_⟩
 have kp1:=I1.bk
 obtain⟨of,lk,hof⟩:=ZN c.fn
 have r2:∀ e',Vals (V.ref e'::[v]) (Value.ref e'::us):=fun e'=>.cons rfl r
 have hu:us.length=1:=r.length.symm
 refine ZL (xL c.c I1.kIn) (I1.kIn _ _ lk) hof (fun h' e' hx le=>?_) (by rw[List.nil_append,hu];decide)
 obtain⟨tt,het,_,_⟩:=hx.there
 have He:H1 e'=none:=I1.hok.fresh le
 have I2:=I1.laid (a:=e') (o:=.ext (XM e' C none)) (t':=s1.toks) hx.keeps le (zbh ⟨tt,het⟩)
 have hsp:YW C fld [.ref e',v] (upd H1 e' (.ext (XM e' C none))) (fun v2 H2=>v2=.non∧∃ d,H1 d=none∧d≠e'∧H2=upd (upd (upd H1 e' (.ext (XM e' C none))) d (.xd [(fld,v)])) e' (.ext (XM e' C (some d)))) E0:=by
  refine⟨e',v,rfl,upd_same,fun d hd=>⟨rfl,d,?_,?_,rfl⟩⟩
  ·have n:d≠e':=fun z=>by rw[z,upd_same] at hd;cases hd
   rw[upd_ne n] at hd
   exact hd
  ·intro z
   rw[z,upd_same] at hd
   cases hd
 have hl:(Value.ref e'::us).length=ps.length:=by
  have e1:=(r2 e').length
  rw[c.ok.len _ _ _ _ hsp] at e1
  exact e1.symm
 refine wpAny_call (codeAny_mono (c.ok.run _ _ _ _ ⟨Value.ref e'::us,[]⟩ (Value.ref e'::us) _ _ E0 (hr.make C us []) (I2.env0.make C us []) (by have:=c.b _ (Value.ref e'::us) I2.kIn (by rw[List.append_nil];exact hl);rw[List.append_nil] at this;exact this) (r2 e') hsp) fun rr s' hq'=>?_)
 cases rr with
 |error e=>exact False.elim hq'
 |ok fl =>
  cases fl with
  |ret u =>
   obtain⟨v2,H3,I3,rv,ev,d,hd,dn,e3⟩:=I2.after hq'
   subst ev
   have h3:H3 e'=some (.ext (XM e' C (some d))):=by rw[e3];exact upd_same
   refine⟨rv,e',C,g,some d,rfl,xL c.c I3.kIn,?_,zdu I3 h3 ?_ ?_⟩
   ·obtain⟨p,_,_⟩:=(show ObjOk P w H3 s'.heap e' (.ext (XM e' C (some d))) from I3.hok e' _ h3)
    exact p
   ·exact Heap.get?_none_of_le (Nat.le_trans I1.sz le)
   ·rw[e3,Wn He dn]
    exact q d hd
  |next=>exact False.elim hq'
  |brk=>exact False.elim hq'
  |cont=>exact False.elim hq'
end
end L2

namespace L2
open PySem PySem.Spec PyProof.Rows
def XAny (K:PySem.W.Frag) (C:Addr):Prop:=XCls K C∨∃ g,Zk K C g=true
def zqE (h:Heap) (C:Addr):Prop:=∃ bm N nm qn bs hd sn sub ab col dd k0 k1 k2 k3 k5,h.get? C=some (excClassObj nm qn C N bs bm hd sn sub ab col dd k0 k1 k2 k3 k5 "ValueError.__new__")∧OwnTail h ux bm
theorem XAny.obj {K:PySem.W.Frag}{C:Addr}(x:XAny K C){h:Heap}(I:K.In h):zqE h C:=by
 rcases x with x | ⟨g,x⟩
 ·obtain⟨bm,N,nm,qn,bs,hd,sn,sub,ab,col,dd,k0,k1,k2,k3,k5,mN,h1,h2,h3,h4⟩:=x.obj I
  exact⟨bm,N,nm,qn,bs,hd,sn,sub,ab,col,dd,k0,k1,k2,k3,k5,h1,h4⟩
 ·obtain⟨bm,N,nm,qn,bs,hd,sn,sub,ab,col,dd,k0,k1,k2,k3,k5,mN,h1,h2,h3,h4⟩:=xL x I
  exact⟨bm,N,nm,qn,bs,hd,sn,sub,ab,col,dd,k0,k1,k2,k3,k5,h1,h4⟩
noncomputable def UZ (K:PySem.W.Frag) (C C1:Addr):Option Bool:=match K.lookup C with
 |some ⟨_,_,.cls cd,_⟩=>some (cd.mro.contains (.ref C1))
 |_=>none
theorem Vc {M:Model}{A:Around}{E:Value→Shared→Prop}{s:Shared}{K:PySem.W.Frag}{C C1 a:Addr}{b:Bool}{Q:Bool→Shared→Prop}(X:K.In s.heap) (c:XAny K C) (c1:XAny K C1) (hs:UZ K C C1=some b) (ho:ObC a C s.heap) (hq:Q b s) :
  wpAny M A (excMatches (.ref a) (.ref C1)) Q E s:=by
 obtain⟨bm,N,nm,qn,bs,hd,sn,sub,ab,col,dd,k0,k1,k2,k3,k5,hC,T⟩:=c.obj X
 obtain⟨bm1,N1,nm1,qn1,bs1,hd1,sn1,sub1,ab1,col1,dd1,j0,j1,j2,j3,j5,hC1,T1⟩:=c1.obj X
 have hc:(Value.ref C::bm).contains (.ref C1)=b:=by
  unfold UZ at hs
  split at hs
  ·rename_i lk
   have z:=hC.symm.trans (X _ _ lk)
   cases z
   exact Option.some.inj hs
  ·cases hs
 have cB:(Value.ref C1::bm1).contains (.type "BaseException")=true:=by rw[List.contains_cons,T1.hasType (b:=true) rfl,Bool.or_true]
 obtain⟨o,he,ec⟩:=ho
 obtain⟨h,g,d,t,os⟩:=s
 have f:=tc_notTuple
 unfold excMatches
 repeat (first | (with_reducible refine wpAny_loadPart_at he ?_;rw[ec]) | with_reducible refine wpAny_loadPart_at hC1 ?_ | (with_reducible refine wpAny_isSubtype_exc hC1 ?_;rw[cB]) | (with_reducible refine wpAny_isSubtype_exc hC ?_;rw[hc]) | wp_step)
 cases b<;>(repeat wp_step)<;>exact hq
section
variable {X:Cx}{pins:List (Addr×Obj)}{σ:St}{H:Hp}{s:Shared}
theorem Inv.addE {a:Addr}{φ:Heap→Prop}(I:Inv X pins σ H s) (h0:∀ b o,X.s₀.heap.get? b=some o→b∉X.ex→b≠a) (hn:H a=none) (hl:X.env.locals≠a) (hc:∀ x c,X.env.cells.lookup x=some c→c≠a) (hp:∀ p∈X.pn++pins,p.1≠a)
  (ob:ObjOk X.prog X.w (upd H a (.ext φ)) s.heap a (.ext φ)):Inv X pins σ (upd H a (.ext φ)) s:=by
 have ne:∀ {b:Addr}{u:HO},H b=some u→b≠a:=fun e=>ne_of_none e hn
 refine⟨I.ok,I.os,I.bare,⟨I.base.keep,I.base.slot,fun b o q n hx=>?_,I.base.there,fun b xs q=>?_,fun b o u q=>?_,fun b ps q=>?_⟩,I.loc,I.cell,?_,fun x c e=>?_,fun p hq=>?_,fun b u e=>?_,I.len⟩
 ·rw[upd_ne (h0 b o q hx)]
  exact I.base.free b o q n hx
 ·have:=I.base.tups b xs q
  rw[upd_ne (ne this)]
  exact this
 ·have:=I.base.frzs b o u q
  rw[upd_ne (ne this)]
  exact this
 ·obtain⟨more,this⟩:=I.base.tbls b ps q
  exact⟨more,by rw[upd_ne (ne this)];exact this⟩
 ·rw[upd_ne hl]
  exact I.free
 ·rw[upd_ne (hc x c e)]
  exact I.freeC x c e
 ·obtain⟨e,n,n1,n2,d⟩:=I.pin p hq
  exact⟨e,by rw[upd_ne (hp p hq)];exact n,n1,n2,d⟩
 ·by_cases hb:b=a
  ·subst hb
   rw[upd_same] at e
   cases e
   exact ob
  ·rw[upd_ne hb] at e
   exact(I.hok b u e).stay (fun c v _ q=>q) (fun c q=>by rw[upd_ne (ne_of_none q hn)];exact q) fun c xs q=>by rw[upd_ne (ne_of_none q hn)];exact q
end
def ObX (a C:Addr):Option Addr→Heap→Prop
 |none=>ObC a C
 |some D=>fun h=>∃ o,h.get? a=some o∧o.cls=.ref C∧o.dict=some D∧PySem.W.notCls o=true
theorem zc6 {P:Program}{w:World}{H:Hp}{h:Heap}{a C:Addr}{dd:Option Addr}(o:∃ ob,h.get? a=some ob∧ob.cls=.ref C∧PySem.W.notCls ob=true) (d:∀ D,dd=some D→DictAt a D h):ObjOk P w H h a (.ext (ObX a C dd)):=by
 obtain⟨ob,e,c,nc⟩:=o
 cases dd with
 |none=>exact⟨⟨ob,e,c⟩,⟨ob,e⟩,fun h1 h2 ⟨o,e,c⟩ k=>⟨o,k o e,c⟩⟩
 |some D =>
  obtain⟨o',e',d'⟩:=d D rfl
  rw[e] at e'
  cases e'
  exact⟨⟨ob,e,c,d',nc⟩,⟨ob,e⟩,fun h1 h2 ⟨o,e,c,d,n⟩ k=>⟨o,k o e,c,d,n⟩⟩
structure Fl (X:Cx) (pins:List (Addr×Obj)) (σ:St) (H:Hp) (s:Shared) (h:Heap) (a C:Addr) (dd:Option Addr):Prop where
 ex:∃ H1 s1 B a0,Inv X pins σ H1 s1∧Lies X.prog X.w X.stack H1 s1 H s B∧s.heap.UpToSlots h∧Heap.FlyingW B X.stack a (.ref C) a0 h∧s1.heap.get? a=none
 ha:H a=none
 dk:∀ D,dd=some D→DictAt a D h
section
variable {X:Cx}{pins:List (Addr×Obj)}{σ:St}{H:Hp}{s:Shared}{h:Heap}{a C:Addr}{dd:Option Addr}
theorem Fl.inv (F:Fl X pins σ H s h a C dd):Inv X pins σ H { s with heap:=h }:=by
 obtain⟨H1,s1,B,a0,I,L,up,W,_⟩:=F.ex
 exact Lies.inv (t2:=s.toks) I L W.1 up
theorem Fl.ob (F:Fl X pins σ H s h a C dd):ObC a C h:=by
 obtain⟨H1,s1,B,a0,I,L,up,W,_⟩:=F.ex
 exact W.there
theorem Fl.ob2 (F:Fl X pins σ H s h a C dd):∃ ob,h.get? a=some ob∧ob.cls=.ref C∧PySem.W.notCls ob=true:=by
 obtain⟨H1,s1,B,a0,I,L,up,W,_⟩:=F.ex
 obtain⟨oe,vs,he,hc,hd,_⟩:=W.first
 exact⟨oe,he,hc,by unfold PySem.W.notCls;rw[hd]⟩
theorem Fl.look (F:Fl X pins σ H s h a C dd):Inv X pins σ (upd H a (.ext (ObX a C dd))) { s with heap:=h }:=by
 have J:=F.inv
 obtain⟨H1,s1,B,a0,I,L,up,W,young⟩:=F.ex
 refine J.addE (fun b o e hx z=>?_) F.ha (fun z=>?_) (fun y k e z=>?_) (fun p hp z=>?_) (zc6 F.ob2 F.dk)
 ·obtain⟨o',e'⟩:=I.base.there b o e hx
  rw[z,young] at e'
  cases e'
 ·obtain⟨m,⟨o,_,_,e,_⟩,_⟩:=I.loc
  rw[z,young] at e
  cases e
 ·obtain⟨w',o,e',_⟩:=I.cell y k e
  rw[z,young] at e'
  cases e'
 ·have:=(I.pin p hp).1
  rw[z,young] at this
  cases this
theorem Fl.lands {M:Model}{A:Around}{E:Value→Shared→Prop}{Q:Unit→Shared→Prop}(F:Fl X pins σ H s h a C dd) (hQ:∀ h',Fl X pins σ H s h' a C dd→Q () { s with heap:=h' }):wpAny M A (setFlight (.ref a) none) Q E { s with heap:=h }:=by
 obtain⟨H1,s1,B,a0,I,L,up,W,young⟩:=F.ex
 exact UE (s:={ s with heap:=h }) W fun h' W' up' kd=>hQ h' ⟨⟨H1,s1,B,a0,I,L,up.trans up',W',young⟩,F.ha,fun D e=>kd _ _ (F.dk D e)⟩
end
def PH (X:Cx) (hs:List ExceptHandler) (th:Addr→Option Addr→TS):Prop:=∀ (pins:List (Addr×Obj)) (σ:St) (H:Hp) (D:Ends) (s:Shared) (h:Heap) (a C:Addr) (dd:Option Addr),Fl X pins σ H s h a C dd→th C dd D σ H →
 wpAny (model X.prog X.w) X.A (handleBy (.ref a) X.env hs) (SP X pins D) X.xe { s with heap:=h }
abbrev zg7:Addr→Option Addr→TS:=fun _ _ _ _ _=>False
def zg8 (K:PySem.W.Frag) (C1:Addr) (i:Nat) (th:TS) (tr:Addr→Option Addr→TS):Addr→Option Addr→TS:=fun C dd D σ H =>
 (C=C1∧∀ a,H a=none→th (D.sans i) (σ.set i (some (.ref a))) (upd H a (.ext (ObX a C dd))))∨(UZ K C C1=some false∧XAny K C∧tr C dd D σ H)
def Z3 (K:PySem.W.Frag) (C1:Addr) (th:TS) (tr:Addr→Option Addr→TS):Addr→Option Addr→TS:=fun C dd D σ H=>(C=C1∧th D σ H)∨(UZ K C C1=some false∧XAny K C∧tr C dd D σ H)
section
variable {X:Cx}{suite:List Stmt}{b0:Stmt}{i:Nat}{x n:Str}{C1:Addr}{np hpos:Pos}{th:TS}{tr:Addr→Option Addr→TS}{rest:List ExceptHandler}
theorem zh6:PH X [] zg7:=fun _ _ _ _ _ _ _ _ _ _ h=>h.elim
theorem zh7 (hN:X.N.Nodup) (hi:X.N[i]?=some n) (hk:X.env.scope.names.lookup n=some .local) (c:XAny X.K C1) (hm:X.mg x=some (.ref C1)) (hh:∀ a,PSs (X.inH a) (b0::suite) th) (hr:PH X rest tr)
  (hg:Gl X x:=by rfl) (hdb:(x == ("__debug__" : Str))=false:=by decide):PH X (.ExceptHandler (some (.Name x np)) (some n) (b0::suite) hpos::rest) (zg8 X.K C1 i th tr):=by
 intro pins σ H D s h a C dd F q
 have I5:=F.inv
 have J5:=I5.inH a
 refine wpAny_handleBy_cons (codeAny_handlers_test (ld_glob J5 hg hm ?_ hdb)) (by intro q;cases q)
 rcases q with⟨rfl,hts⟩ | ⟨hs,cC,q⟩
 ·obtain⟨bm,Nn,nm,qn,bs,hd,sn,sub,ab,col,dd',k0,k1,k2,k3,k5,h1,h4⟩:=c.obj I5.kIn
  obtain⟨ob,hob,hobc⟩:=F.ob
  obtain⟨sh,sg,sd,stk,sos⟩:=s
  refine wpAny_excMatches_sub_self h1 hob hobc (h4.hasType rfl) ?_
  refine codeAny_handlers_suite_as (F.lands fun h6 F6=>?_)
  have I7:=F6.look
  refine store_ok (v:=.ref a) I7 hN hi (.inl hk) rfl (fun s8 I8=>?_) (.inr hk)
  refine wpAny_mono (hh a pins _ _ _ (D.sans i) (I8.inH a) (hts a F.ha)) (fun fl s9 q=>?_) (fun _ _ z=>False.elim z)
  have q:=SP.unH (X:=X) I5.ok q
  cases fl with
  |next =>
   obtain⟨σ',H9,I9,q⟩:=q
   exact wU I9 hN hi hk fun s' I'=>⟨_,_,I',q⟩
  |brk =>
   obtain⟨σ',H9,I9,q⟩:=q
   exact wU I9 hN hi hk fun s' I'=>⟨_,_,I',q⟩
  |cont =>
   obtain⟨σ',H9,I9,q⟩:=q
   exact wU I9 hN hi hk fun s' I'=>⟨_,_,I',q⟩
  |ret u =>
   obtain⟨v,σ',H9,I9,r,q⟩:=q
   exact wU I9 hN hi hk fun s' I'=>⟨v,_,_,I',r,q⟩
 ·exact Vc I5.kIn cC c hs F.ob (hr pins σ H D s h a C dd F q)
theorem Uk (c:XAny X.K C1) (hm:X.mg x=some (.ref C1)) (hh:∀ a,PSs (X.inH a) (b0::suite) th) (hr:PH X rest tr)
  (hg:Gl X x:=by rfl) (hdb:(x == ("__debug__" : Str))=false:=by decide):PH X (.ExceptHandler (some (.Name x np)) none (b0::suite) hpos::rest) (Z3 X.K C1 th tr):=by
 intro pins σ H D s h a C dd F q
 have I5:=F.inv
 have J5:=I5.inH a
 refine wpAny_handleBy_cons (codeAny_handlers_test (ld_glob J5 hg hm ?_ hdb)) (by intro q;cases q)
 rcases q with⟨rfl,hts⟩ | ⟨hs,cC,q⟩
 ·obtain⟨bm,Nn,nm,qn,bs,hd,sn,sub,ab,col,dd',k0,k1,k2,k3,k5,h1,h4⟩:=c.obj I5.kIn
  obtain⟨ob,hob,hobc⟩:=F.ob
  obtain⟨sh,sg,sd,stk,sos⟩:=s
  refine wpAny_excMatches_sub_self h1 hob hobc (h4.hasType rfl) ?_
  refine codeAny_handlers_suite (F.lands fun h6 F6=>?_)
  exact wpAny_mono (hh a pins _ σ H D (F6.inv.inH a) hts) (fun fl s7 q=>q.unH I5.ok) (fun _ _ z=>False.elim z)
 ·exact Vc I5.kIn cC c hs F.ob (hr pins σ H D s h a C dd F q)
end
def VT (tb:XK→TS) (th:Addr→Option Addr→TS):TS:=fun D σ H=>tb (fun cls dd H'=>∃ C,cls=.ref C∧th C dd D σ H') D σ H
theorem Ud {X:Cx}{body:List Stmt}{h0:ExceptHandler}{hs:List ExceptHandler}{pos:Pos}{tb:XK→TS}{th:Addr→Option Addr→TS}(hst:X.stack=X.env::X.outer) (hfr:X.env.frame=some X.env.locals) (hb:PX X body tb) (hh:PH X (h0::hs) th) :
  PS X (.Try body (h0::hs) [] [] pos) (VT tb th):=by
 intro pins s σ H D I h
 refine wpAny_Try_except (wpAny_mono (hb pins s σ H D _ I h) (fun fl s1 q=>?_) (fun e s1 hx=>?_))
 ·cases fl with
  |next=>exact wpAny_execs_nil q
  |ret v=>exact q
  |brk=>exact q
  |cont=>exact q
 ·obtain⟨H1,s2,I1,a,cls,a0,H',B,rfl,L,F,dd,hdd,C,rfl,hts⟩:=hx
  obtain⟨sh,sg,sd,stk,sos⟩:=s1
  -- the exception is younger than the call
  have young:s2.heap.get? a=none:=by
   cases e:s2.heap.get? a with
   |none=>rfl
   |some o =>
    obtain⟨_,f2,f3,oe,vs,_,_,_,he,_,hd,_⟩:=id F
    by_cases hf:a∈frs X.stack
    ·obtain⟨_,o',ho',hnf⟩:=f3.mem hf
     have z:=ho'.symm.trans he
     cases z
     exact absurd hd (hnf vs)
    ·obtain⟨o',e'⟩:=L.c3 a o e hf
     rw[f2] at e'
     cases e'
  have Ha:H' a=none:=by
   cases e:H' a with
   |none=>rfl
   |some o =>
    obtain⟨u,hu⟩:=L.hok.thr e
    have:=L.c2 a u (by rw[e];intro z;cases z) hu
    rw[F.2.1] at this
    cases this
  have F':=F
  rw[hst] at F'
  refine zdq (s:=⟨sh,sg,sd,stk,sos⟩) (outer:=X.outer) (L:=X.env.locals) (by rw[I.ok.frames,hst]) hfr F' fun h4 Hd4 up4 kd4=>zdw (s:=⟨h4,sg,sd,stk,sos⟩) Hd4 fun h5 F5 up5 kd5=>?_
  refine hh pins σ H' D ⟨sh,sg,sd,stk,sos⟩ h5 a C dd ⟨⟨H1,s2,B,a0,I1,L,up4.trans up5,?_,young⟩,Ha,fun D e=>kd5 _ _ (kd4 _ _ (hdd D e))⟩ hts
  rw[hst]
  exact F5
section
variable {X:Cx}{f:Str}
structure XGet (K:PySem.W.Frag) (C:Addr) (f:Str):Prop where
 ga:PySem.W.findIn K (.ref C) "__getattribute__" = some (some (.builtin "BaseException.__getattribute__"))
 gt:PySem.W.findIn K (.ref C) "__getattr__" = some none
 hb:PySem.W.mroIn K C (.type "BaseException")=some true
 hd:PySem.W.hasDictIn K C=true
 na:PySem.W.findIn K (.ref C) f=some none
end
end L2

namespace L2
open PySem PySem.W PySem.Spec PySem.Calls PyProof.Rows PySem.Builtin PySem.Builtin.ObjectAttr PySem.Builtin.Getset_descriptor
section
variable {prog:Program}{w:World}{A:Around}{E:Value→Shared→Prop}{K:Frag}{x C:Addr}{s:Shared}{ox od:Obj}{f:Str}{v:Value}
theorem XN {tk:Tok}{Q:Fin→Shared→Prop}(X:K.In s.heap) (I:InstAt s.heap x ox C (some od)) (c:XGet K C f) (hl:lookIn f od=some (some v)) (k:Q (.done (.ret v)) s) :
  wpAny (model prog w) A (Builtin.«object.__getattribute__» ⟨[.ref x,.str f tk],[]⟩) Q E s:=by
 have T0:=I.type (M:=model prog w)
 have T1:=looks_find (M:=model prog w) X I (findObj_own c.hd c.na rfl hl)
 obtain⟨hh,gg,dr,tt,ss⟩:=s
 unfold Builtin.«object.__getattribute__»
 repeat lk
 exact k
theorem zdL {tk:Tok}{fill expr:Bool}{Q:Value→Shared→Prop}(X:K.In s.heap) (I:InstAt s.heap x ox C (some od)) (c:XGet K C f) (hl:lookIn f od=some (some v)) (hv:handedIn v=true) (k:Q v s) :
  wpAny (model prog w) A (getAttrBy (.ref x) (.str f tk) fill expr) Q E s:=by
 have T0:=I.type (M:=model prog w)
 have T1:=looks_findIn (M:=model prog w) X c.ga
 have T2:=looks_findIn (M:=model prog w) X c.gt
 have f3:=F.attr_ValueError.ga.bind (.ref x)
 have ob:ObC x C s.heap:=⟨ox,I.at_,I.cls⟩
 obtain⟨hh,gg,dr,tt,ss⟩:=s
 unfold getAttrBy
 refine wpAny_holding (wpAny_bind (T0.at (wpAny_bind (T1.at ?_))))
 show wpAny _ _ (if (onTheHeap (Value.ref C)&&Value.builtin "BaseException.__getattribute__" == Value.builtin "object.__getattribute__")=true then _ else _) _ _ _
 have z:(Value.builtin "BaseException.__getattribute__" == Value.builtin "object.__getattribute__")=false:=by decide +kernel
 rw[z,Bool.and_false,if_neg Bool.false_ne_true]
 unfold getAttrByItsOwn
 refine wpAny_bind (T2.at ?_)
 refine wpAny_bind (wpAny_attempt (wpAny_holding ?_))
 have hx0:(expr&&onTheHeap (Value.builtin "BaseException.__getattribute__"))=false:=by cases expr<;>rfl
 unfold callGetattribute
 rw[hx0]
 show wpAny _ _ (boundAndCalled _ _ _) _ _ _
 unfold boundAndCalled
 rw[f3]
 refine wpAny_bind (wpAny_pure (wpAny_call ?_))
 refine codeAny_call_builtin F.attr_ValueError.ga.plain F.entry_bexc_ga ?_
 refine W2 X ob c.hb (XN X I c hl ?_)
 show wpAny _ _ (handedOut v) _ _ _
 rw[handedOut_of hv]
 exact wpAny_pure k
theorem UO {expr:Bool}{Q:Value→Shared→Prop}(X:K.In s.heap) (I:InstAt s.heap x ox C (some od)) (c:XGet K C f) (hl:lookIn f od=some (some v)) (hv:handedIn v=true) (k:Q v { s with toks:=s.toks+1 }) :
  wpAny (model prog w) A (getAttr (.ref x) f expr) Q E s:=by
 unfold getAttr
 exact wpAny_bind (wpAny_mkText (zdL (s:={ s with toks:=s.toks+1 }) X I c hl hv k))
end
def VU (K:Frag) (ta:TE) (f:Str):TE:=fun σ H Q=>ta σ H fun x H1=>∃ a C d fs v,x=.ref a∧H1 a=some (.ext (ObX a C (some d)))∧H1 d=some (.xd fs)∧XGet K C f∧fs.lookup f=some v∧Q v H1
theorem Uo {X:Cx}{e:Expr}{f:Str}{pos:Pos}{ta:TE}(he:PE X e ta) (hb:attributeBase e f X.env (eval e X.env)=eval e X.env):PE X (.Attribute e f pos) (VU X.K ta f):=by
 intro pins s σ H Q I h
 refine attr_of hb (thn (he pins s σ H _ I h) fun u s1 hq0=>?_)
 obtain⟨x,H1,I1,rx,a,C,d,fs,v,ex,ea,ed,c,l,q⟩:=hq0
 subst ex
 obtain rfl:u=Value.ref a:=rx
 obtain⟨⟨o,e1,e2,e3,nc⟩,_,_⟩:=(show ObjOk X.prog X.w H1 s1.heap a (.ext (ObX a C (some d))) from I1.hok a _ ea)
 obtain⟨mA,ns,r⟩:=(show ObjOk X.prog X.w H1 s1.heap d (.xd fs) from I1.hok d _ ed)
 obtain⟨od,ho,hl⟩:=vI ns
 obtain⟨u',hu,ru⟩:=RelO.some_of (v:=v) (o:=mA f) (by rw[← l];exact r f)
 have Io:InstAt s1.heap a o C (some od):=⟨e1,e2,nc,by rw[e3];exact ho⟩
 exact UO I1.kIn Io c (by rw[hl,hu]) (vN ru) ⟨v,H1,I1.tok _,ru,q⟩
end L2

namespace L2
open PySem PySem.Spec PyProof.Rows
section
variable {P:Program}{w:World}{K:PySem.W.Frag}{mg:Str→Option Value}{base:Heap}{N:List Str}{qual:Str}{scope:Scope}{f:Addr}{cd:Value}{A:Around}{outer:List Env}{s0:Shared}{H0:Hp}{E:XK}
 {k:Nat}{f' C:Addr}{fd:FuncData}{ps:List Str}{sp:Sp}{x:Str}{p pos:Pos}{e:Expr}{es:List Expr}{t:TA}
theorem zia (c:Maker1 P w K mg base x C f' fd ps k sp) (hr:Room (k+1) (yc (CX1 P w) P w K mg base N qual scope f cd A outer s0 H0 E).A) (ha:PA (yc (CX1 P w) P w K mg base N qual scope f cd A outer s0 H0 E) (e::es) t)
  (hg:Gl (yc (CX1 P w) P w K mg base N qual scope f cd A outer s0 H0 E) x:=by rfl) (hdb:(x == ("__debug__" : Str))=false:=by decide)
  (he:starEach (e::es) (yc (CX1 P w) P w K mg base N qual scope f cd A outer s0 H0 E).env=(false,eval e (yc (CX1 P w) P w K mg base N qual scope f cd A outer s0 H0 E).env)::starEach es (yc (CX1 P w) P w K mg base N qual scope f cd A outer s0 H0 E).env:=by rfl)
  (hpl:(backTo pos (starEach es (yc (CX1 P w) P w K mg base N qual scope f cd A outer s0 H0 E).env)).any (·.1)=false:=by rfl) :
  PE (yc (CX1 P w) P w K mg base N qual scope f cd A outer s0 H0 E) (.Call (.Name x p) (e::es) [] pos) (Z7 C sp [] E t) :=
 Xa (X:=yc (CX1 P w) P w K mg base N qual scope f cd A outer s0 H0 E) (CX:=CX1 P w) c.mm c.ok hr hg c.g c.b .nil zie ha hdb he hpl
end
end L2

namespace L2
open PySem PySem.Spec PyProof.Rows
section
variable {X:Cx}{body suite suite2:List Stmt}{b0 c0:Stmt}{i i2:Nat}{x n x2 n2:Str}{C1 C2:Addr}{np hpos np2 hpos2 pos:Pos}{tb:XK→TS}{th th2:TS}
theorem Wr (hst:X.stack=X.env::X.outer) (hfr:X.env.frame=some X.env.locals) (hN:X.N.Nodup) (hi:X.N[i]?=some n) (hk:X.env.scope.names.lookup n=some .local) (c:XAny X.K C1) (hm:X.mg x=some (.ref C1))
  (c2:XAny X.K C2) (hm2:X.mg x2=some (.ref C2)) (hb:PX X body tb) (hh:∀ a,PSs (X.inH a) (b0::suite) th) (hh2:∀ a,PSs (X.inH a) (c0::suite2) th2)
  (hg:Gl X x:=by rfl) (hdb:(x == ("__debug__" : Str))=false:=by decide) (hg2:Gl X x2:=by rfl) (hdb2:(x2 == ("__debug__" : Str))=false:=by decide) :
  PS X (.Try body [.ExceptHandler (some (.Name x np)) (some n) (b0::suite) hpos,.ExceptHandler (some (.Name x2 np2)) none (c0::suite2) hpos2] [] [] pos) (VT tb (zg8 X.K C1 i th (Z3 X.K C2 th2 zg7))) :=
 Ud hst hfr hb (zh7 hN hi hk c hm hh (Uk c2 hm2 hh2 zh6 hg2 hdb2) hg hdb)
end
theorem Up {X:Cx}{K:PySem.W.Frag}{e:Expr}{f:Str}{pos:Pos}{ta:TE}(hK:X.K=K) (he:PE X e ta) (hb:attributeBase e f X.env (eval e X.env)=eval e X.env):PE X (.Attribute e f pos) (VU K ta f):=by
 subst hK
 exact Uo he hb
end L2

namespace L2
open PySem PySem.W PySem.Spec PySem.Calls PyProof.Rows
end L2

namespace L2
open PySem PySem.Spec PyProof.Rows
section
variable {X:Cx}{x:Str}{pos:Pos}{e:Expr}
theorem V8 {i:Nat}{te:XK→TE}{pos':Pos}{rest:List Stmt}{tr:TS}(hN:X.N.Nodup) (hi:X.N[i]?=some x) (hx:Loc X.env.scope x) (h:PV X e te) (h2:PSs X.nox rest tr) (hs:swapsWith e (some (.Name x pos')) pos.line X.env=pure false:=by rfl) (hf:X.fn x=true∨X.env.scope.names.lookup x=some .local:=by first | exact .inl rfl | exact .inr rfl | assumption) :
  PX X (.Assign [.Name x pos'] e pos::rest) (fun E=>zdU (Vi (te E) (wV i)) tr):=by
 intro pins s σ H D E I q
 refine wpAny_execs_cons (wpAny_Assign_Name (wpAny_mono (h pins s σ H _ E I q) (fun v s1 hq=>?_) fun _ _ z=>z) hs)
 obtain⟨y,H1,I1,r1,q1⟩:=hq
 exact store_ok I1 hN hi hx r1 (fun s2 I2=>wpAny_mono (h2 pins s2 _ H1 D (I2.wish _) q1) (fun f s3 hq=>hq.unwish) (fun _ _ z=>False.elim z)) hf
end
end L2

namespace L2
open PySem PySem.Spec PyProof.Rows
end L2

namespace L2
open PySem PySem.Spec PyProof.Rows
end L2

namespace L2
open PySem PySem.Spec PyProof.Rows
end L2

namespace L2
open PySem PySem.Spec PyProof.Rows Zt
theorem XJ {K:PySem.W.Frag}{k1 k2:SK}{a b:Addr}{xs ys:List V}{g:TG}{tb:TS}{D:Ends}{σ:St}{H:Hp}(hlen:xs.length=ys.length) (Pv:Nat→St→Hp→Prop) (h0:Pv 0 σ H) (hl:∀ i σ H,i≤xs.length→Pv i σ H→SqK k1 K H a xs∧SqK k2 K H b ys)
  (hs:∀ i x y σ H p,xs[i]?=some x→ys[i]?=some y→Pv i σ H→H p=none→g (.ref p) σ (upd H p (.tup [x,y])) fun σ2 H2=>tb { D with nx:=Pv (i+1),ct:=Pv (i+1),bk:=D.nx } σ2 H2) (hd:∀ σ H,Pv xs.length σ H→D.nx σ H) :
  ∃ W:Nat→Nat→St→Hp→Prop,(∃ m,W 0 m σ H)∧∀ i m σ H,W i m σ H →
   ((Itz k1 k2 K a b).stop i H∧D.nx σ H)∨((Itz k1 k2 K a b).go i H∧∃ N:St→Hp→Prop,(∀ σ' H',N σ' H'→∃ m',m'<m∧W (i+1) m' σ' H')∧∀ x H',(Itz k1 k2 K a b).yld i H x H'→g x σ H' fun σ2 H2=>tb { D with nx:=N,ct:=N,bk:=D.nx } σ2 H2):=by
 refine⟨fun i m σ H=>m=xs.length-i∧i≤xs.length∧Pv i σ H,⟨xs.length,by simp,Nat.zero_le _,h0⟩,?_⟩
 rintro i m σ H ⟨rfl,hi,p⟩
 have q:=hl i σ H hi p
 by_cases hlt:i<xs.length
 ·have hi2:i<ys.length:=by omega
  have e1:xs[i]?=some xs[i]:=by simp[hlt]
  have e2:ys[i]?=some ys[i]:=by simp[hi2]
  refine .inr ⟨⟨xs,ys,xs[i],ys[i],q.1,q.2,e1,e2⟩,Pv (i+1),fun σ' H' p'=>⟨xs.length-(i+1),by omega,rfl,hlt,p'⟩,fun x H' y=>?_⟩
  obtain⟨r,hr,rfl,y⟩:=y
  rw[y xs ys xs[i] ys[i] q.1 q.2 e1 e2]
  exact hs i _ _ σ H r e1 e2 p hr
 ·have e:i=xs.length:=by omega
  subst e
  exact .inl ⟨⟨xs,ys,q.1,q.2,.inl (Nat.le_refl _)⟩,hd σ H p⟩
end L2

namespace L2
open PySem PySem.Spec PyProof.Rows
structure Bx (p:Prop):Prop where
 of:p
theorem zM {X:Cx}{body:List Stmt}{q:TS→Prop}{t:TS}(h:Bx (PSs X body t)) (k:q t):∃ t,PSs X body t∧q t:=⟨t,h.of,k⟩
theorem X7 {X:Cx}{e:Expr}{t:TT}(h:Bx (PW X e t)):Bx (PT X e t):=⟨h.of.pt⟩
section
variable {X:Cx}
theorem zb {i j pos}:Bx (PE X (.Constant (.int i) j pos) (tC (.int i))):=⟨zcU⟩
theorem yS {b j pos}:Bx (PE X (.Constant (.bool b) j pos) (tC (.bl b))):=⟨zid⟩
theorem zG {j pos}:Bx (PE X (.Constant .none j pos) (tC .non)):=⟨zcT⟩
theorem ze {x j pos}:Bx (PE X (.Constant (.str x) j pos) (tC (.str x))):=⟨vt⟩
theorem zY {x:Str}{v:V}{u:Value}{pos:Pos}(hg:Gl X x) (hm:X.mg x=some u) (r:RelV v u) (hd:(x == ("__debug__" : Str))=false:=by decide):Bx (PE X (.Name x pos) (tC v)):=⟨yv hg hm r hd⟩
end
section
variable {X:Cx}
variable {a b:Expr}{ta tb:TE}{pos:Pos}
theorem Wb {op:CmpOp}{t:TE}(h:Bx (PC X op a b t)) (h1:behindInMarks op b=false:=by first | exact nobehind _ (by decide) (by decide) | rfl):Bx (PT X (.Compare a [op] [b] pos) (tB t)):=⟨zcF h.of h1⟩
theorem zT {e:Expr}{t:TE}(h:Bx (PE X e t)) (he:∀ whole,isTrue e X.env whole=(do let v ← whole;standAt e.pos;holding [v] (truthy v)):=by intro _;rfl):Bx (PT X e (tB t)):=⟨uQ h.of he⟩
end
section
variable {X:Cx}
variable {a b:Expr}{ta tb:TE}{pos:Pos}
variable {tA tB':TT}{rest:List Expr}
theorem yz (ha:Bx (PT X a tA)):Bx (PW X (.BoolOp .And [a] pos) tA):=⟨V9 ha.of⟩
theorem yY (ha:Bx (PT X a tA)):Bx (PW X (.BoolOp .Or [a] pos) tA):=⟨zcD ha.of⟩
theorem yG (ha:Bx (PT X a tA)) (hb:Bx (PW X (.BoolOp .And (b::rest) pos) tB')):Bx (PW X (.BoolOp .And (a::b::rest) pos) (ziQ tA tB')):=⟨zcE ha.of hb.of⟩
theorem xN (ha:Bx (PT X a tA)) (hb:Bx (PW X (.BoolOp .Or (b::rest) pos) tB')):Bx (PW X (.BoolOp .Or (a::b::rest) pos) (tOr tA tB')):=⟨zh3 ha.of hb.of⟩
theorem wH (ha:Bx (PT X a tA)):Bx (PT X (.UnaryOp .Not a pos) (ziK tA)):=⟨uR ha.of⟩
theorem zX {op}{t:TE}(h:Bx (PE X a t)):Bx (PE X (.BoolOp op [a] pos) t):=⟨zcR h.of⟩
theorem zZ (ha:Bx (PE X a ta)) (hb:Bx (PE X (.BoolOp .And (b::rest) pos) tb)):Bx (PE X (.BoolOp .And (a::b::rest) pos) (tAndV ta tb)):=⟨zc0 ha.of hb.of⟩
theorem VP (ha:Bx (PE X a ta)) (hb:Bx (PE X (.BoolOp .Or (b::rest) pos) tb)):Bx (PE X (.BoolOp .Or (a::b::rest) pos) (ziJ ta tb)):=⟨zh8 ha.of hb.of⟩
theorem uD (ha:Bx (PE X a ta)):Bx (PE X (.UnaryOp .Not a pos) (zbp ta)):=⟨zcS ha.of⟩
theorem yo {c:Expr}(hc:Bx (PT X c tA)) (ha:Bx (PE X a ta)) (hb:Bx (PE X b tb)):Bx (PE X (.IfExp c a b pos) (tIf tA ta tb)):=⟨Wx hc.of ha.of hb.of⟩
end
section
variable {X:Cx}{st:Stmt}{rest:List Stmt}{t u:TS}{e:Expr}{te:TE}{pos:Pos}
theorem zk  : Bx (PSs X [] zbq):=⟨xV⟩
theorem w_pss_cons (h1:Bx (PS X st t)) (h2:Bx (PSs X rest u)):Bx (PSs X (st::rest) (zdU t u)):=⟨yk h1.of h2.of⟩
theorem zd (h1:Bx (PS X st t)):Bx (PSs X [st] t):=⟨yU h1.of⟩
theorem zN (he:Bx (PE X e te)) (hs:swapsWith e none pos.line X.env=pure false:=by rfl):Bx (PS X (.Expr e pos) (VW te)):=⟨Uf he.of hs⟩
theorem zj (he:Bx (PE X e te)):Bx (PS X (.Return (some e) pos) (zha te)):=⟨Vo he.of⟩
theorem w_ps_if {c:Expr}{a b:List Stmt}{tc:TT}(hc:Bx (PT X c tc)) (ha:Bx (PSs X a t)) (hb:Bx (PSs X b u)):Bx (PS X (.If c a b pos) (ziM tc t u)):=⟨Y4 hc.of ha.of hb.of⟩
end
section
variable {X:Cx}{pos:Pos}
theorem zv {i:Nat}{x:Str}(hN:X.N.Nodup) (hi:X.N[i]?=some x) (hx:Loc X.env.scope x) (hf:X.fn x=true∨X.env.scope.names.lookup x=some .local:=by first | exact .inl rfl | exact .inr rfl | assumption):Bx (PG X (.Name x pos) (wV i)):=⟨Y9 hN hi hx hf⟩
theorem yA  : Bx (PGs X [] gNil):=⟨Ul⟩
theorem zL {e:Expr}{es:List Expr}{t:TG}{u:TGs}(h1:Bx (PG X e t)) (h2:Bx (PGs X es u)) (hs:(assignEach (e::es) X.env).map (·.2)=assign e X.env::(assignEach es X.env).map (·.2):=by rfl):Bx (PGs X (e::es) (zdH t u)):=⟨Wu h1.of h2.of hs⟩
theorem yZ {es:List Expr}{k:Nat}{t:TGs}{n:Nat}(hc:X.calm=true) (h:Bx (PGs X es t)) (hn:(assignEach es X.env).length=n:=by rfl) (hst:(assignEach es X.env).findIdx? (·.1)=none:=by rfl):Bx (PG X (.Tuple es k pos) (zpy X.K n t)):=⟨zcN hc h.of hn hst⟩
theorem yH {o i:Expr}{to ti:TE}{t:zg4}(ho:Bx (PE X o to)) (hi:Bx (PE X i ti)) (hs:ziD X t) (ha:∀ v,assign (.Subscript o i pos) X.env v=(do
   let ov ← holding [v] (eval o X.env)
   let iv ← holding [v,ov] (eval i X.env)
   standAt pos
   holding [v,ov,iv] (setItem ov iv v)
   release [v,ov,iv] []):=by intro _;rfl):Bx (PG X (.Subscript o i pos) (zpz to ti t)):=⟨zcO ho.of hi.of hs ha⟩
theorem yt {tg e:Expr}{te:TE}{g:TG}(he:Bx (PE X e te)) (hg:Bx (PG X tg g)) (hs:swapsWithSole [tg] e pos.line X.env=pure false:=by rfl) (hw:swappedStores [tg] e X.env=pure none:=by rfl) (h1:(assignEach [tg] X.env).map (·.2)=[assign tg X.env]:=by rfl):Bx (PS X (.Assign [tg] e pos) (Vi te g)):=⟨zcI he.of hg.of hs hw h1⟩
theorem zh {i:Nat}{x:Str}{e:Expr}{te:TE}{pos':Pos}(hN:X.N.Nodup) (hi:X.N[i]?=some x) (hx:Loc X.env.scope x) (he:Bx (PE X e te)) (hs:swapsWith e (some (.Name x pos')) pos.line X.env=pure false:=by rfl) (hf:X.fn x=true∨X.env.scope.names.lookup x=some .local:=by first | exact .inl rfl | exact .inr rfl | assumption):Bx (PS X (.Assign [.Name x pos'] e pos) (Vi te (wV i))):=⟨zcG hN hi hx he.of hs hf⟩
theorem Zl {c:Expr}{body:List Stmt}{tc:TT}{tb:TS}(hp:PassesOwn (model X.prog X.w) X.A X.env X.xe) (hc:Bx (PT X c tc)) (hb:Bx (PSs X body tb)):Bx (PS X (.While c body [] pos) (Vg tc tb)):=⟨Wq hp hc.of hb.of⟩
end
section
variable {X:Cx}{tg:Expr}
theorem xP {l:Expr}{tl:TE}(hl:Bx (PE X l tl)):Bx (PI X tg l (zdE X.K tl)):=⟨Y8 hl.of⟩
theorem Wc {l:Expr}{tl:TE}(hl:Bx (PE X l tl)):Bx (PI X tg l (zpu X.K tl)):=⟨zcL hl.of⟩
theorem xO {a:Expr}{ta:TA}{p pos:Pos}(hg:Gl X "range") (hm:X.mg "range" = none) (ha:Bx (PA X [a] ta)) (hs:starEach [a] X.env=[(false,eval a X.env)]:=by rfl):Bx (PI X tg (.Call (.Name "range" p) [a] [] pos) (zdD ta)):=⟨Y7 hg hm ha.of hs⟩
theorem zV {iter:Expr}{body:List Stmt}{wi:TI}{g:TG}{tb:TS}{pos:Pos}(hp:PassesOwn (model X.prog X.w) X.A X.env X.xe) (hc:X.calm=true) (hi:Bx (PI X tg iter wi)) (hg:Bx (PG X tg g)) (hb:Bx (PSs X body tb)) (hs:∀ x,foldedSetIterable iter X.env x=pure x:=by intro _;rfl):Bx (PS X (.For tg iter body [] pos) (ziN wi g tb)):=⟨zcH hp hc hi.of hg.of hb.of hs⟩
end
section
variable {X:Cx}{a b c:Expr}{ta tb tc:TE}{pos:Pos}
theorem zl {op:Operator}{r:R2}(ho:OpR X (binaryOp op) r) (ha:Bx (PE X a ta)) (hb:Bx (PE X b tb)):Bx (PE X (.BinOp a op b pos) (tOp r ta tb)):=⟨zh9 ho ha.of hb.of⟩
theorem zJ {op:CmpOp}{r:R2}(ho:OpR X (compareOp op) r) (ha:Bx (PE X a ta)) (hb:Bx (PE X b tb)) (hm:behindInMarks op b=false):Bx (PE X (.Compare a [op] [b] pos) (tOp r ta tb)):=⟨Us ho ha.of hb.of hm⟩
theorem w_pt_cmpR {op:CmpOp}{r:R2}(ho:OpR X (compareOp op) r) (ha:Bx (PE X a ta)) (hb:Bx (PE X b tb)) (hm:behindInMarks op b=false):Bx (PT X (.Compare a [op] [b] pos) (zbm (tOp r ta tb))):=⟨Y2 ho ha.of hb.of hm⟩
end
section
variable {X:Cx}{o e value:Expr}{f:Str}{pos pos' tpos:Pos}{ta tv:TE}
theorem zn (he:Bx (PE X e ta)) (hb:attributeBase e f X.env (eval e X.env)=eval e X.env):Bx (PE X (.Attribute e f pos) (ziO X.K ta f)):=⟨zcV he.of hb⟩
theorem zW (ha:Bx (PE X o ta)) (hv:Bx (PE X value tv)) (hs:swapsWith value (some (.Attribute o f pos')) pos.line X.env=pure false):Bx (PS X (.Assign [.Attribute o f pos'] value pos) (zn5 X.K ta tv f)):=⟨vp ha.of hv.of hs⟩
end
section
variable {X:Cx}{e:Expr}{es:List Expr}{te:TE}{t:TA}{pos:Pos}
theorem za  : Bx (PA X [] U2):=⟨yr⟩
theorem zg (ha:Bx (PE X e te)) (hr:Bx (PA X es t)) (hs:starEach (e::es) X.env=(false,eval e X.env)::starEach es X.env:=by rfl):Bx (PA X (e::es) (xc te t)):=⟨yw ha.of hr.of hs⟩
theorem zC {x1}(h:Bx (PA X es t)):Bx (PE X (.Tuple es x1 pos) (ziH t)):=⟨zcQ h.of⟩
theorem zo (h:Bx (PA X es t)):Bx (PE X (.List es pos) (ziL t)):=⟨Xb h.of⟩
end
section
variable {X:Cx}{CX:CXT}{k:Nat}{f C:Addr}{fd:FuncData}{ps:List Str}{sp:Sp}{dvs:List V}{ds:List Value}{E:XK}{x m:Str}{p pos apos:Pos}{e o:Expr}{es:List Expr}{ta:TE}{t:TA}
theorem zbj {pl:Sem Bool}(he:Bx (PE X o ta)) (c:Cls X.K C) (hm:Meth X.K C m f) (F:FnOk X.prog X.w X.K X.mg X.base CX k f fd ps sp) (hr:Room k X.A) (hb:Binds X.K fd ps ds) (hd:Vals dvs ds) (hx:xC CX X E) (ha:Bx (PA X (e::es) t)) (hst:starEach (e::es) X.env=(false,eval e X.env)::starEach es X.env:=by rfl) (hpl:(backTo pos (starEach es X.env)).any (·.1)=false:=by rfl) (ht:eval (.Call (.Attribute o m apos) (e::es) [] pos) X.env=(do
   let ov ← eval o X.env
   standAt apos.atName
   let (f,first) ← holding [ov] (getMethod ov m pl)
   callWith pos f first (backTo pos (starEach (e::es) X.env)) (backToKw pos (keywordEach [] X.env))):=by rfl):Bx (PE X (.Call (.Attribute o m apos) (e::es) [] pos) (zbr C m sp dvs E ta t)):=⟨Um he.of c hm F hr hb hd hx ha.of hst hpl ht⟩
end
section
variable {X:Cx}{x:Str}{p pos:Pos}{e:Expr}{es:List Expr}{t:TA}{id T:String}{r:List V→Hp→VK→Prop}
theorem w_pe_callB (hc:xA X (.builtin id) r) (hg:Gl X x) (hm:X.mg x=none) (hv:bootBuiltins x=some (.builtin id)) (ha:Bx (PA X (e::es) t)) (hn:x ≠ "__name__" := by decide) (hdb:(x == ("__debug__" : Str))=false:=by decide) (he:starEach (e::es) X.env=(false,eval e X.env)::starEach es X.env:=by rfl) (hpl:(backTo pos (starEach es X.env)).any (·.1)=false:=by rfl):Bx (PE X (.Call (.Name x p) (e::es) [] pos) (tCB r t)):=⟨wK hc hg hm hv ha.of hn hdb he hpl⟩
theorem zO (hc:xA X (.type T) r) (hg:Gl X x) (hm:X.mg x=none) (hv:bootBuiltins x=some (.type T)) (ha:Bx (PA X (e::es) t)) (hn:x ≠ "__name__" := by decide) (hdb:(x == ("__debug__" : Str))=false:=by decide) (he:starEach (e::es) X.env=(false,eval e X.env)::starEach es X.env:=by rfl) (hpl:(backTo pos (starEach es X.env)).any (·.1)=false:=by rfl):Bx (PE X (.Call (.Name x p) (e::es) [] pos) (tCB r t)):=⟨Xd hc hg hm hv ha.of hn hdb he hpl⟩
end
section
variable {X:Cx}{e:Expr}{te:TE}{lo hi:Option Expr}{tl th:TO}{pos p2:Pos}
theorem zF  : Bx (PO X none Z5):=⟨Ui⟩
theorem zE (h:Bx (PE X e te)):Bx (PO X (some e) (zbo te)):=⟨po_some h.of⟩
theorem zy {r:V→Option Int→Option Int→Hp→VK→Prop}(hr:SlR X r) (he:Bx (PE X e te)) (hl:Bx (PO X lo tl)) (hu:Bx (PO X hi th)):Bx (PE X (.Subscript e (.Slice lo hi none p2) pos) (tSl r te tl th)):=⟨Ww hr he.of hl.of hu.of⟩
end
section
variable {X:Cx}{a b:Expr}{ta tb:TE}{pos:Pos}
theorem zm {r:R2}(hr:IxR X r) (ha:Bx (PE X a ta)) (hb:Bx (PE X b tb)) (hs:X5 b):Bx (PE X (.Subscript a b pos) (tOp r ta tb)):=⟨zib hr ha.of hb.of hs⟩
end
section
variable {X:Cx}{a b:Expr}{ta tb:TE}{pos:Pos}
variable {o e:Expr}{es:List Expr}{to:TE}{t:TA}{name:Str}{apos cpos:Pos}{T id:String}{r:V→List V→Hp→VK→Prop}
theorem Wd (pa:PlainAttrs T) (slot:Slot T name id) (hty:typeOf (.builtin id)=pure (.type "method_descriptor")) (hm:MtR X id r) (ho:Bx (PE X o to)) (hbase:attributeBase o name X.env (eval o X.env)=eval o X.env:=by rfl) (hline:(apos.endLine == cpos.line)=true:=by rfl):Bx (PE X (.Call (.Attribute o name apos) [] [] cpos) (ziP X.K T r to)):=⟨zcZ pa slot hty hm ho.of hbase hline⟩
theorem zH (pa:PlainAttrs T) (slot:Slot T name id) (hty:typeOf (.builtin id)=pure (.type "method_descriptor")) (hm:MtR X id r) (ho:Bx (PE X o to)) (ha:Bx (PA X (e::es) t)) (hbase:attributeBase o name X.env (eval o X.env)=eval o X.env:=by rfl) (hfew:((backTo cpos (starEach (e::es) X.env)).all (fun x=>!x.1)&&(backToKw cpos (keywordEach [] X.env)).all (fun x=>x.1.isSome)
   && decide ((e::es).length+([]:List Keyword).length+(if ([]:List Keyword).isEmpty then 0 else 1)<30))=true:=by rfl) (hline:(apos.endLine == cpos.line)=true:=by rfl) (hs:starEach (e::es) X.env=(false,eval e X.env)::starEach es X.env:=by rfl) (hplain:(backTo cpos (starEach es X.env)).any (·.1)=false:=by rfl):Bx (PE X (.Call (.Attribute o name apos) (e::es) [] cpos) (tBM X.K T r to t)):=⟨zic pa slot hty hm ho.of ha.of hbase hfew hline hs hplain⟩
end
section
variable {X:Cx}{o i e value:Expr}{pos pos' tpos:Pos}{td ty tv:TE}
theorem ZX (hu:X.A.units+1<cLine) (ho:Bx (PE X o td)) (hi:Bx (PE X i ty)) (hs:ziE i):Bx (PE X (.Subscript o i pos) (zbt td ty)):=⟨Ur hu ho.of hi.of hs⟩
theorem v5 (hu:X.A.units+1<cLine) (hi:Bx (PE X i ty)) (ho:Bx (PE X o td)):Bx (PC X .NotIn i o (Z8 ty td)):=⟨Xe hu hi.of ho.of⟩
end
section
theorem ZU {X:Cx}{pos:Pos}:Bx (PPs X pos [] [] []):=⟨Ug⟩
theorem yh {X:Cx}{pos:Pos}{k v:Expr}{ks:List (Option Expr)}{vs:List Expr}{tk tv:TE}{trs:List (TE×TE)}(hk:Bx (PE X k tk)) (hv:Bx (PE X v tv)) (hr:Bx (PPs X pos ks vs trs)):Bx (PPs X pos (some k::ks) (v::vs) ((tk,tv)::trs)):=⟨Ws hk.of hv.of hr.of⟩
theorem ZW {X:Cx}{pos:Pos}{keys:List (Option Expr)}{values:List Expr}{trs:List (TE×TE)}(h:Bx (PPs X pos keys values trs)) (hall:keys.all (·.isSome)=true) (hl:keys.length=values.length) (h0:keys≠[]) (h15:keys.length≤15):Bx (PE X (.Dict keys values pos) (zbs trs)):=⟨Uq h.of hall hl h0 h15⟩
end
section
variable {X:Cx}
theorem w_pv (i:Nat){x:Str}{pos:Pos}(hN:X.N[i]?=some x:=by rfl) (hv:Vis X.env.scope x:=by first | exact Or.inl rfl | exact Or.inr (Or.inl rfl) | exact Or.inr (Or.inr rfl)) (hd:(x == ("__debug__" : Str))=false:=by decide) (hcd:(x == ("__classdict__" : Str))=false:=by decide):Bx (PE X (.Name x pos) (U1 i)):=⟨pv i hN hv hd hcd⟩
end
section
theorem zD {X:Cx}{st:Stmt}{rest:List Stmt}{t u:TS}(h1:Bx (PS X st t)) (h2:Bx (PSs X rest u)):Bx (PSs X (st::rest) (zbn t u)):=⟨Uc h1.of h2.of⟩
theorem ZS {X:Cx}:Bx (PTs X [] zg9):=⟨Y1⟩
theorem ZR {X:Cx}{c:Expr}{t:TT}(h:Bx (PT X c t)):Bx (PTs X [c] t):=⟨Ub h.of⟩
end
section
variable {X:Cx}{tg iter elt:Expr}{ifs:List Expr}{scope:Scope}{pos:Pos}{N':List Str}{t:Nat}{caps:List Nat}{g:Blk→TG}{tc:Blk→TT}{te:Blk→TE}{wi:TI}
theorem ZY (hc:X.calm=true) (S:CompOk X scope N' t caps) (hi:Bx (PI X tg iter wi)) (hg:∀ b,Bx (PG (cxB X scope N' b) tg (g b))) (ht:∀ b,Bx (PTs (cxB X scope N' b) ifs (tc b))) (he:∀ b,Bx (PE (cxB X scope N' b) elt (te b))) (hs:∀ x,foldedSetIterable iter X.env x=pure x:=by intro _;rfl):Bx (PE X (.ListComp elt [⟨tg,iter,ifs,0⟩] scope pos) (Wi wi g tc te t caps)):=⟨Xc hc S hi.of (fun x0=>(hg x0).of) (fun x0=>(ht x0).of) (fun x0=>(he x0).of) hs⟩
theorem vc {i:Nat}{y:Str}{py spos:Pos}(hc:X.calm=true) (hN:X.N.Nodup) (hiy:X.N[i]?=some y) (hy:Loc X.env.scope y) (S:CompOk X scope N' t caps) (hi:Bx (PI X tg iter wi)) (hg:∀ b,Bx (PG (cxB X scope N' b) tg (g b))) (ht:∀ b,Bx (PTs (cxB X scope N' b) ifs (tc b))) (he:∀ b,Bx (PE (cxB X scope N' b) elt (te b))) (hsw:swapsWith (.ListComp elt [⟨tg,iter,ifs,0⟩] scope pos) (some (.Name y py)) spos.line X.env=pure true:=by rfl) (hs:∀ x,foldedSetIterable iter X.env x=pure x:=by intro _;rfl) (hf:X.fn y=true∨X.env.scope.names.lookup y=some .local:=by first | exact .inl rfl | exact .inr rfl | assumption):Bx (PS X (.Assign [.Name y py] (.ListComp elt [⟨tg,iter,ifs,0⟩] scope pos) spos) (Vi (Wi wi g tc te t caps) (wV i))):=⟨Zz hc hN hiy hy S hi.of (fun x0=>(hg x0).of) (fun x0=>(ht x0).of) (fun x0=>(he x0).of) hsw hs hf⟩
end
section
variable {X:Cx}{k:Nat}{f C:Addr}{fd:FuncData}{ps:List Str}{sp:Sp}{x m:Str}{p pos apos:Pos}{e o:Expr}{es:List Expr}{ta:TE}{t:TA}
theorem zr (c:Callee X.prog X.w X.K X.mg X.base x f fd ps k sp) (hr:Room k X.A) (ha:Bx (PA X (e::es) t)) (hg:Gl X x:=by rfl) (hdb:(x == ("__debug__" : Str))=false:=by decide) (he:starEach (e::es) X.env=(false,eval e X.env)::starEach es X.env:=by rfl) (hpl:(backTo pos (starEach es X.env)).any (·.1)=false:=by rfl):Bx (PE X (.Call (.Name x p) (e::es) [] pos) (Zr sp [] E0 t)):=⟨zcX c hr ha.of hg hdb he hpl⟩
theorem ve (c:Maker X.prog X.w X.K X.mg X.base x C f fd ps k sp) (hr:Room (k+1) X.A) (ha:Bx (PA X (e::es) t)) (hg:Gl X x:=by rfl) (hdb:(x == ("__debug__" : Str))=false:=by decide) (he:starEach (e::es) X.env=(false,eval e X.env)::starEach es X.env:=by rfl) (hpl:(backTo pos (starEach es X.env)).any (·.1)=false:=by rfl):Bx (PE X (.Call (.Name x p) (e::es) [] pos) (Z7 C sp [] E0 t)):=⟨zqi c hr ha.of hg hdb he hpl⟩
theorem zt {pl:Sem Bool}(he:Bx (PE X o ta)) (ht:eval (.Call (.Attribute o m apos) [] [] pos) X.env=(do
   let ov ← eval o X.env
   standAt apos.atName
   let (f,first) ← holding [ov] (getMethod ov m pl)
   callWith pos f first (backTo pos (starEach [] X.env)) (backToKw pos (keywordEach [] X.env))):=by rfl):Bx (PE X (.Call (.Attribute o m apos) [] [] pos) (Z6 X m ta U2)):=⟨vv he.of ht⟩
end
section
theorem yI {X:Cx}{x:Str}{C:Addr}{pos:Pos}(hm:X.mg x=some (.ref C)) (hg:Gl X x:=by rfl) (hd:(x == ("__debug__" : Str))=false:=by decide):Bx (PE X (.Name x pos) (tC (.ref C))):=⟨zcW hm hg hd⟩
theorem xa {X:Cx}{x:Str}{n:String}{pos:Pos}(hm:X.mg x=none) (hv:bootBuiltins x=some (.type n)) (hg:Gl X x:=by rfl) (hn:x ≠ "__name__" := by decide) (hd:(x == ("__debug__" : Str))=false:=by decide):Bx (PE X (.Name x pos) (tC (.ty n))):=⟨zcY hm hv hg hn hd⟩
theorem uB {X:Cx}{es:List Expr}{n:Nat}{tp:Pos}{a b:Expr}{ta:TA}{p pos:Pos}(hg:Gl X "zip") (hm:X.mg "zip" = none) (ha:Bx (PA X [a,b] ta)) (hs:starEach [a,b] X.env=[(false,eval a X.env),(false,eval b X.env)]:=by rfl) (hs2:starEach [b] X.env=[(false,eval b X.env)]:=by rfl):Bx (PI X (.Tuple es n tp) (.Call (.Name "zip" p) [a,b] [] pos) (zpt X.K ta)):=⟨zcK hg hm ha.of hs hs2⟩
end
section
variable {X:Cx}{es:List Expr}{t:TA}{te:TE}
theorem zi {c j pos}(ha:Bx (PE X (.Constant c j pos) te)) (hr:Bx (PA X es t)):Bx (PA X (.Constant c j pos::es) (xc te t)):=⟨zc1 ha.of hr.of⟩
theorem Vd {xs c pos}(ha:Bx (PE X (.Tuple xs c pos) te)) (hr:Bx (PA X es t)):Bx (PA X (.Tuple xs c pos::es) (xc te t)):=⟨zqj ha.of hr.of⟩
theorem zQ {f xs ks pos}(ha:Bx (PE X (.Call f xs ks pos) te)) (hr:Bx (PA X es t)):Bx (PA X (.Call f xs ks pos::es) (xc te t)):=⟨zn7 ha.of hr.of⟩
theorem yp {l o r pos}(ha:Bx (PE X (.BinOp l o r pos) te)) (hr:Bx (PA X es t)):Bx (PA X (.BinOp l o r pos::es) (xc te t)):=⟨zqk ha.of hr.of⟩
theorem zf {x pos}(ha:Bx (PE X (.Name x pos) te)) (hr:Bx (PA X es t)):Bx (PA X (.Name x pos::es) (xc te t)):=⟨ub ha.of hr.of⟩
end
section
variable {X:Cx}{k:Nat}{f C:Addr}{fd:FuncData}{ps:List Str}{sp:Sp}{x:Str}{p pos:Pos}{e:Expr}{es:List Expr}{t:TA}
theorem zbi (c:Callee1 X.prog X.w X.K X.mg X.base x f fd ps k sp) (hr:Room k X.A) (ha:Bx (PA X.nox (e::es) t)) (hg:Gl X x:=by rfl) (hdb:(x == ("__debug__" : Str))=false:=by decide) (he:starEach (e::es) X.env=(false,eval e X.env)::starEach es X.env:=by rfl) (hpl:(backTo pos (starEach es X.env)).any (·.1)=false:=by rfl):Bx (PV X (.Call (.Name x p) (e::es) [] pos) (fun E=>Zr sp [] E t)):=⟨zqg c hr ha.of hg hdb he hpl⟩
end
section
variable {X:Cx}{tg:Expr}
theorem uC {e:Expr}{te:TE}(he:Bx (PE X e te)):Bx (PI X tg e (zpv te)):=⟨zcM he.of⟩
theorem wI {a:Expr}{ta:TA}{p pos:Pos}(hg:Gl X "reversed") (hm:X.mg "reversed" = none) (ha:Bx (PA X [a] ta)) (hs:starEach [a] X.env=[(false,eval a X.env)]:=by rfl):Bx (PI X tg (.Call (.Name "reversed" p) [a] [] pos) (zpw X.K ta)):=⟨v9 hg hm ha.of hs⟩
end
section
theorem vd {X:Cx}{es:List Expr}{n:Nat}{tp:Pos}{a:Expr}{ta:TA}{p pos:Pos}(hg:Gl X "enumerate") (hm:X.mg "enumerate" = none) (ha:Bx (PA X [a] ta)) (hs:starEach [a] X.env=[(false,eval a X.env)]:=by rfl):Bx (PI X (.Tuple es n tp) (.Call (.Name "enumerate" p) [a] [] pos) (zdF X.K ta)):=⟨Uj hg hm ha.of hs⟩
end
section
variable {X:Cx}
variable {o e f:Expr}{apos cpos:Pos}{td ty tx:TE}
theorem Zn (ho:Bx (PE X o td)) (he:Bx (PE X e ty)) (hf:Bx (PE X f tx)) (m:M2 X o "get" apos e f cpos):Bx (PE X (.Call (.Attribute o "get" apos) [e,f] [] cpos) (Vh X.w X.K td ty tx)):=⟨Wv ho.of he.of hf.of m⟩
end
section
variable {X:Cx}{o value:Expr}{f:Str}{pos pos':Pos}{ta tv:TE}
theorem ZT (ha:Bx (PE X o ta)) (hv:Bx (PE X value tv)) (hs:swapsWith value (some (.Attribute o f pos')) pos.line X.env=pure false):Bx (PS X (.Assign [.Attribute o f pos'] value pos) (zcA X.K ta tv f)):=⟨Ue ha.of hv.of hs⟩
end
section
variable {P:Program}{w:World}{K:PySem.W.Frag}{mg:Str→Option Value}{base:Heap}{N:List Str}{qual:Str}{scope:Scope}{f:Addr}{cd:Value}{A:Around}{outer:List Env}{s0:Shared}{H0:Hp}{E:XK}
theorem yR (c:XInit P w K mg base x C g fd ps k fld) (hc:(A.deeper (envOfC qual scope s0.heap.objs.size f cd)).handled=none) (hr:Room (k+1) (yc (CX1 P w) P w K mg base N qual scope f cd A outer s0 H0 E).A) (ha:Bx (PA (yc (CX1 P w) P w K mg base N qual scope f cd A outer s0 H0 E) (e::es) t)) (hg:Gl (yc (CX1 P w) P w K mg base N qual scope f cd A outer s0 H0 E) x:=by rfl) (he:starEach (e::es) (yc (CX1 P w) P w K mg base N qual scope f cd A outer s0 H0 E).env=(false,eval e (yc (CX1 P w) P w K mg base N qual scope f cd A outer s0 H0 E).env)::starEach es (yc (CX1 P w) P w K mg base N qual scope f cd A outer s0 H0 E).env:=by rfl) (hpl:(backTo cpos (starEach es (yc (CX1 P w) P w K mg base N qual scope f cd A outer s0 H0 E).env)).any (·.1)=false:=by rfl) (hdb:(x == ("__debug__" : Str))=false:=by decide):Bx (PS (yc (CX1 P w) P w K mg base N qual scope f cd A outer s0 H0 E) (.Raise (some (.Call (.Name x np) (e::es) [] cpos)) none pos) (ziI C fld E t)):=⟨Y3 c hc hr ha.of hg he hpl hdb⟩
end
section
variable {P:Program}{w:World}{K:PySem.W.Frag}{mg:Str→Option Value}{base:Heap}{N:List Str}{qual:Str}{scope:Scope}{f:Addr}{cd:Value}{A:Around}{outer:List Env}{s0:Shared}{H0:Hp}{E:XK}
theorem VQ (c:Maker1 P w K mg base x C f' fd ps k sp) (hr:Room (k+1) (yc (CX1 P w) P w K mg base N qual scope f cd A outer s0 H0 E).A) (ha:Bx (PA (yc (CX1 P w) P w K mg base N qual scope f cd A outer s0 H0 E) (e::es) t)) (hg:Gl (yc (CX1 P w) P w K mg base N qual scope f cd A outer s0 H0 E) x:=by rfl) (hdb:(x == ("__debug__" : Str))=false:=by decide) (he:starEach (e::es) (yc (CX1 P w) P w K mg base N qual scope f cd A outer s0 H0 E).env=(false,eval e (yc (CX1 P w) P w K mg base N qual scope f cd A outer s0 H0 E).env)::starEach es (yc (CX1 P w) P w K mg base N qual scope f cd A outer s0 H0 E).env:=by rfl) (hpl:(backTo pos (starEach es (yc (CX1 P w) P w K mg base N qual scope f cd A outer s0 H0 E).env)).any (·.1)=false:=by rfl):Bx (PE (yc (CX1 P w) P w K mg base N qual scope f cd A outer s0 H0 E) (.Call (.Name x p) (e::es) [] pos) (Z7 C sp [] E t)):=⟨zia c hr ha.of hg hdb he hpl⟩
end
section
variable {X:Cx}{body suite suite2:List Stmt}{b0 c0:Stmt}{i i2:Nat}{x n x2 n2:Str}{C1 C2:Addr}{np hpos np2 hpos2 pos:Pos}{tb:XK→TS}{th th2:TS}
theorem Zm (hst:X.stack=X.env::X.outer) (hfr:X.env.frame=some X.env.locals) (hN:X.N.Nodup) (hi:X.N[i]?=some n) (hk:X.env.scope.names.lookup n=some .local) (c:XAny X.K C1) (hm:X.mg x=some (.ref C1)) (c2:XAny X.K C2) (hm2:X.mg x2=some (.ref C2)) (hb:Bx (PX X body tb)) (hh:∀ a,Bx (PSs (X.inH a) (b0::suite) th)) (hh2:∀ a,Bx (PSs (X.inH a) (c0::suite2) th2)) (hg:Gl X x:=by rfl) (hdb:(x == ("__debug__" : Str))=false:=by decide) (hg2:Gl X x2:=by rfl) (hdb2:(x2 == ("__debug__" : Str))=false:=by decide):Bx (PS X (.Try body [.ExceptHandler (some (.Name x np)) (some n) (b0::suite) hpos,.ExceptHandler (some (.Name x2 np2)) none (c0::suite2) hpos2] [] [] pos) (VT tb (zg8 X.K C1 i th (Z3 X.K C2 th2 zg7)))):=⟨Wr hst hfr hN hi hk c hm c2 hm2 hb.of (fun x0=>(hh x0).of) (fun x0=>(hh2 x0).of) hg hdb hg2 hdb2⟩
end
section
theorem ZV {X:Cx}{K:PySem.W.Frag}{e:Expr}{f:Str}{pos:Pos}{ta:TE}(hK:X.K=K) (he:Bx (PE X e ta)) (hb:attributeBase e f X.env (eval e X.env)=eval e X.env):Bx (PE X (.Attribute e f pos) (VU K ta f)):=⟨Up hK he.of hb⟩
end
section
variable {X:Cx}{x:Str}{pos:Pos}{e:Expr}
theorem ZQ {i:Nat}{te:XK→TE}{pos':Pos}{rest:List Stmt}{tr:TS}(hN:X.N.Nodup) (hi:X.N[i]?=some x) (hx:Loc X.env.scope x) (h:Bx (PV X e te)) (h2:Bx (PSs X.nox rest tr)) (hs:swapsWith e (some (.Name x pos')) pos.line X.env=pure false:=by rfl) (hf:X.fn x=true∨X.env.scope.names.lookup x=some .local:=by first | exact .inl rfl | exact .inr rfl | assumption):Bx (PX X (.Assign [.Name x pos'] e pos::rest) (fun E=>zdU (Vi (te E) (wV i)) tr)):=⟨V8 hN hi hx h.of h2.of hs hf⟩
end
end L2

namespace L2
open PySem PySem.Spec PyProof.Rows PySem.Builtin PySem.Builtin.Str
section
variable {X:Cx}
def zp4:V→Option Int→Option Int→Hp→VK→Prop:=fun x lo hi H Q=>∃ z,x=.str z∧z.length≤sizeLine∧Q (.str (Txt.slice z lo hi)) H
theorem xT:SlR X zp4:=by
 intro pins s σ H x v vl vu lo hi sl Q I rx hs pl pu h
 obtain⟨z,rfl,hz,q⟩:=h
 obtain⟨t,rfl⟩:=rx
 refine⟨"str",_,F.slot_str_getitem.lookup,typeIs_str _ _ _,?_⟩
 cases pl with
 |none =>
  cases pu with
  |none=>exact wpAny_getItem_str_slice (l:=none) (u:=none) (st:=none) hs rfl (post_val_or_str ⟨Nat.le_trans (Txt.slice_le z _ _) hz,fun t' k=>⟨.str _,H,I.tok _,⟨_,rfl⟩,q⟩⟩)
  |int j u=>exact wpAny_getItem_str_slice (l:=none) (u:=some (j,u)) (st:=none) hs rfl (post_val_or_str ⟨Nat.le_trans (Txt.slice_le z _ _) hz,fun t' k=>⟨.str _,H,I.tok _,⟨_,rfl⟩,q⟩⟩)
 |int i v =>
  cases pu with
  |none=>exact wpAny_getItem_str_slice (l:=some (i,v)) (u:=none) (st:=none) hs rfl (post_val_or_str ⟨Nat.le_trans (Txt.slice_le z _ _) hz,fun t' k=>⟨.str _,H,I.tok _,⟨_,rfl⟩,q⟩⟩)
  |int j u=>exact wpAny_getItem_str_slice (l:=some (i,v)) (u:=some (j,u)) (st:=none) hs rfl (post_val_or_str ⟨Nat.le_trans (Txt.slice_le z _ _) hz,fun t' k=>⟨.str _,H,I.tok _,⟨_,rfl⟩,q⟩⟩)
end
end L2

namespace K04
open PySem L2 PySem.NumText PySem.W.KIN
theorem str_ext {x y:Str}(h:x.cps.toList=y.cps.toList):x=y:=by
 apply Str.ext'
 exact Array.toList_inj.mp h
theorem yq (x:Str) (c:Nat):Txt.startswith x ⟨#[c]⟩=decide (x.cps.toList.head?=some c):=by
 rw[Bool.eq_iff_iff,decide_eq_true_eq]
 unfold Txt.startswith
 rw[Bool.and_eq_true,decide_eq_true_eq,StrLaws.subAt_one,List.head?_eq_getElem?]
theorem yT {x:Str}{c:Nat}{r:List Nat}(h:x.cps.toList=c::r):(Txt.slice x (some 1) none).cps.toList=r:=by
 have hl:x.length=r.length+1:=by
  show x.cps.size=_
  rw[← Array.length_toList,h];rfl
 have e:=eq_of_beq (PyProof.Rows.slice_closes_fromL (x:=x) (i:=1) (b:=x.length) (by decide) (by omega) rfl)
 rw[e,h]
 show((List.drop 1 (c::r)).take _)=r
 rw[List.drop_succ_cons,List.drop_zero]
 exact List.take_of_length_le (by omega)
theorem yJ {x:Str}(h:x.length≤22):Txt.slice x none (some 22)=x:=by
 rw[PyProof.Rows.slice_to_beyond (by omega)]
 have e:=eq_of_beq (PyProof.Rows.slice_closes_toL (x:=x) (j:=x.length) (by omega) (by omega))
 rw[e]
 apply str_ext
 show((x.cps.toList.drop 0).take _)=_
 rw[List.drop_zero]
 exact List.take_of_length_le (by rw[Array.length_toList];show x.length≤_;omega)
noncomputable def vL (c:Nat):Bool:=decide (c∈("0123456789" : Str).cps.toList)
noncomputable def zu (x:Str):Str:=if Txt.startswith x "-" then Txt.slice x (some 1) none else x
noncomputable def v6 (x:Str):Bool:=decide (zu x ≠ "")&&(decide (x = "0")||!Txt.startswith (zu x) "0")
noncomputable def yE (x:Str):Bool:=(zu x).cps.toList.all vL&&v6 x
theorem xl:("-" : Str)=⟨#[45]⟩:=by decide +kernel
theorem X9:("0" : Str)=⟨#[48]⟩:=by decide +kernel
theorem contains_one (x:Str) (c:Nat):Txt.contains x ⟨#[c]⟩=decide (c∈x.cps.toList):=StrLaws.found_one x c
noncomputable def flat (c:Nat):List (List Nat)→List Nat
 |[]=>[]
 |[x]=>x
 |x::y::r=>x++c::flat c (y::r)
theorem xp (c:Nat):∀ ws:List Str,(Str.join ⟨#[c]⟩ ws).cps.toList=flat c (ws.map (·.cps.toList))
 |[]=>rfl
 |[x]=>rfl
 |x::y::r=>by
  show(x++⟨#[c]⟩++Str.join ⟨#[c]⟩ (y::r)).cps.toList=_
  rw[Str.cps_append,Str.cps_append,Array.toList_append,Array.toList_append,xp c (y::r)]
  simp[flat]
theorem XV {c:Nat}:∀ {x y a b:List Nat},c∉x→c∉y→x++c::a=y++c::b→x=y∧a=b
 |[],[],a,b,_,_,h=>⟨rfl,by simpa using h⟩
 |[],y::ys,a,b,_,hy,h=>by
  have:c=y:=by simpa using(List.cons.inj h).1
  exact absurd (this ▸ List.mem_cons_self ..) hy
 |x::xs,[],a,b,hx,_,h=>by
  have:x=c:=by simpa using(List.cons.inj h).1
  exact absurd (this ▸ List.mem_cons_self ..) hx
 |x::xs,y::ys,a,b,hx,hy,h=>by
  have e:=List.cons.inj h
  obtain⟨h1,h2⟩:=XV (fun z=>hx (List.mem_cons_of_mem _ z)) (fun z=>hy (List.mem_cons_of_mem _ z)) e.2
  exact⟨by rw[e.1,h1],h2⟩
theorem u9 {c:Nat}:∀ {us vs:List (List Nat)},us≠[]→vs≠[]→(∀ u∈us,c∉u)→(∀ v∈vs,c∉v)→flat c us=flat c vs→us=vs
 |[u],[v],_,_,_,_,h=>by
  have:u=v:=h
  rw[this]
 |[u],v::v'::vs,_,_,hu,_,h=>by
  have h:u=v++c::flat c (v'::vs):=h
  have:=hu u (List.mem_singleton.mpr rfl)
  rw[h] at this
  exact absurd (by simp) this
 |u::u'::us,[v],_,_,_,hv,h=>by
  have h:u++c::flat c (u'::us)=v:=h
  have:=hv v (List.mem_singleton.mpr rfl)
  rw[← h] at this
  exact absurd (by simp) this
 |u::u'::us,v::v'::vs,_,_,hu,hv,h=>by
  have h:u++c::flat c (u'::us)=v++c::flat c (v'::vs):=h
  obtain⟨e1,e2⟩:=XV (hu u (List.mem_cons_self ..)) (hv v (List.mem_cons_self ..)) h
  have ih:=u9 (us:=u'::us) (vs:=v'::vs) (by simp) (by simp) (fun x hx=>hu x (List.mem_cons_of_mem _ hx)) (fun x hx=>hv x (List.mem_cons_of_mem _ hx)) e2
  rw[e1,ih]
theorem Xr:∀ {us vs:List Str},us.map (·.cps.toList)=vs.map (·.cps.toList)→us=vs
 |[],[],_=>rfl
 |[],_::_,h=>by cases h
 |_::_,[],h=>by cases h
 |u::us,v::vs,h=>by
  have e:=List.cons.inj h
  rw[str_ext e.1,Xr e.2]
theorem uI (x y:Str):Txt.split x y≠[]:=by
 unfold Txt.split
 split
 ·simp
 ·split
  ·simp
  ·rw[StrLaws.partsBetween_eq]
   obtain⟨p,r,e⟩:=StrLaws.partsFrom_ne x y.length 0 (Builtin.Str.occurrences x y 0 x.length (x.length+1))
   rw[e];simp
theorem wu {c:Nat}{ws:List Str}(hn:ws≠[]) (hf:∀ w∈ws,c∉w.cps.toList):Txt.split (Txt.join ⟨#[c]⟩ ws) ⟨#[c]⟩=ws:=by
 have e0:Txt.join ⟨#[c]⟩ ws=Str.join ⟨#[c]⟩ ws:=StrLaws.glued_eq_join _ _
 have e1:=StrLaws.join_split (Txt.join ⟨#[c]⟩ ws) ⟨#[c]⟩
 have e2:(Str.join ⟨#[c]⟩ (Txt.split (Txt.join ⟨#[c]⟩ ws) ⟨#[c]⟩)).cps.toList=(Str.join ⟨#[c]⟩ ws).cps.toList:=by rw[e1,e0]
 rw[xp,xp] at e2
 refine Xr (u9 (c:=c) (by simpa using uI _ _) (by simpa using hn) ?_ ?_ e2)
 ·intro u hu
  obtain⟨p,hp,rfl⟩:=List.mem_map.mp hu
  exact StrLaws.split_free _ c p hp
 ·intro u hu
  obtain⟨p,hp,rfl⟩:=List.mem_map.mp hu
  exact hf p hp
theorem xW (x y:Str):(Builtin.Str.partsBetween x (Builtin.Str.occurrences x y 0 x.length (x.length+1)) y.length).length≤x.length+2:=by
 unfold Builtin.Str.partsBetween
 have:=StrLaws.occ_length_le x y 0 x.length (x.length+1)
 simp
 omega
end K04

namespace K04
open PySem L2
noncomputable abbrev allNs:List Str:=["worth", "me", "round", "lines", "to", "sum", "least", "most", "count"]
noncomputable abbrev rowWs:List Str:=["start", "send", "when", "reckon"]
noncomputable abbrev partsD:List (Str×Int):=[("add",2),("sub",2),("min",2),("max",2),("mod",2),("less",4)]
noncomputable def zds:List Ex→Option (List Ex)
 |e1::e2::e3::e4::r=>some (.less e1 e2 e3 e4::r)
 |_=>none
noncomputable def zpr:List Ex→Option (List Ex)
 |e1::.num n::r=>some (.mod e1 n::r)
 |_=>none
noncomputable def ziG (w:Str):List Ex→Option (List Ex)
 |e1::e2::r=>some (.two w e1 e2::r)
 |_=>none
theorem less_no:inV (.str "less") (allNs.map V.str)=false∧yE "less" = false∧yi partsD "less" = some 4:=by decide +kernel
theorem mod_no:inV (.str "mod") (allNs.map V.str)=false∧yE "mod" = false∧yi partsD "mod" = some 2:=by decide +kernel
theorem xQ {w:Str}(h:zbg w):inV (.str w) (allNs.map V.str)=false∧yE w=false∧yi partsD w=some 2:=by
 rcases h with rfl | rfl | rfl | rfl<;>decide +kernel
theorem zbk {w:Str}(h:zbg w):w ≠ "less" ∧ w ≠ "mod" := by
 rcases h with rfl | rfl | rfl | rfl<;>decide +kernel
theorem xE {w:Str}{i:Int}(h:yi partsD w=some i):w = "less" ∨ w = "mod" ∨ zbg w:=by
 unfold yi at h
 obtain⟨p,hp,_⟩:=Option.map_eq_some_iff.mp h
 have hm:=List.mem_of_find?_eq_some hp
 have he:=List.find?_some hp
 have he:p.1=w:=by simpa using he
 subst he
 simp only[List.mem_cons,List.not_mem_nil,or_false] at hm
 rcases hm with rfl | rfl | rfl | rfl | rfl | rfl
 ·exact .inr (.inr (.inl rfl))
 ·exact .inr (.inr (.inr (.inl rfl)))
 ·exact .inr (.inr (.inr (.inr (.inl rfl))))
 ·exact .inr (.inr (.inr (.inr (.inr rfl))))
 ·exact .inr (.inl rfl)
 ·exact .inl rfl
theorem uH {w:Str}(h:inV (.str w) (allNs.map V.str)=true∨yE w=true):yi partsD w=none:=by
 cases e:yi partsD w with
 |none=>rfl
 |some i =>
  have z:inV (.str w) (allNs.map V.str)=false∧yE w=false:=by
   rcases xE e with rfl | rfl | t
   ·exact⟨less_no.1,less_no.2.1⟩
   ·exact⟨mod_no.1,mod_no.2.1⟩
   ·exact⟨(xQ t).1,(xQ t).2.1⟩
  rw[z.1,z.2] at h
  rcases h with h | h<;>cases h
theorem Z9 {B:Nat}:∀ {ws:List Str},(∀ w∈ws,w.length≤B)→(ws.map (·.length)).sum≤ws.length*B
 |[],_=>by simp
 |w::ws,h=>by
  have:=Z9 (ws:=ws) fun x hx=>h x (List.mem_cons_of_mem _ hx)
  have:=h w (List.mem_cons_self ..)
  simp only[List.map_cons,List.sum_cons,List.length_cons,Nat.succ_mul]
  omega
theorem uX {c B:Nat}{ws:List Str}(h:∀ w∈ws,w.length≤B):(Txt.join ⟨#[c]⟩ ws).length≤ws.length*B+ws.length:=by
 have e0:Txt.join ⟨#[c]⟩ ws=Str.join ⟨#[c]⟩ ws:=StrLaws.glued_eq_join _ _
 rw[e0]
 have h1:=StrLaws.join_length_le ⟨#[c]⟩ ws
 have h2:=Z9 h
 have e:(⟨#[c]⟩:Str).length=1:=rfl
 rw[e] at h1
 omega
theorem xt:(" " : Str)=⟨#[32]⟩:=by decide +kernel
theorem wX:("\n" : Str)=⟨#[10]⟩:=by decide +kernel
end K04

namespace K04
open PySem L2 PySem.NumText PySem.W.KIN
theorem wE (x y:Str):(x++y).cps.toList=x.cps.toList++y.cps.toList:=by rw[Str.cps_append,Array.toList_append]
theorem xz (ws:List Str):(Txt.join " " ws).cps.toList=flat 32 (ws.map (·.cps.toList)):=by
 rw[xt]
 have e0:Txt.join ⟨#[32]⟩ ws=Str.join ⟨#[32]⟩ ws:=StrLaws.glued_eq_join _ _
 rw[e0,xp]
theorem ye (x:Str):x.cps.toList.length=x.length:=Array.length_toList
theorem xS (x:Str):(Txt.slice x none (some 22)).cps.toList=x.cps.toList.take 22:=by
 by_cases h:x.length≤22
 ·rw[yJ h,List.take_of_length_le (by rw[ye];exact h)]
 ·have e:=eq_of_beq (PyProof.Rows.slice_closes_toL (x:=x) (j:=22) (by omega) (by omega))
  rw[show(some 22:Option Int)=some ((22:Nat):Int) from rfl] at e ⊢
  rw[e]
  show((x.cps.toList.drop 0).take _)=_
  rw[List.drop_zero]
  rfl
theorem XQ {l:List Nat}(h:l.all vL=true):AllDigits l:=fun c hc=>by
 have:=List.all_eq_true.mp h c hc
 have:=of_decide_eq_true this
 have e:("0123456789" : Str).cps.toList=[48,49,50,51,52,53,54,55,56,57]:=by decide +kernel
 rw[e] at this
 simp only[List.mem_cons,List.not_mem_nil,or_false] at this
 omega
noncomputable def ZC (w:Str):Int:=(intText? (Txt.slice w none (some 22))).getD 0
theorem x8 {x:Str}(h:yE x=true):intText? (Txt.slice x none (some 22))=some (ZC x):=by
 have key:∃ n,intText? (Txt.slice x none (some 22))=some n:=by
  unfold yE at h
  rw[Bool.and_eq_true] at h
  obtain⟨h1,h2⟩:=h
  have d1:=XQ h1
  have hl:(Txt.slice x none (some 22)).length≤22:=by
   rw[← ye,xS]
   exact Nat.le_trans (List.length_take_le _ _) (Nat.le_refl _)
  have ne:zu x ≠ "" := by
   unfold v6 at h2
   rw[Bool.and_eq_true] at h2
   exact of_decide_eq_true h2.1
  have ne':(zu x).cps.toList≠[]:=fun z=>ne (str_ext (by rw[z];decide +kernel))
  by_cases q:Txt.startswith x "-" = true
  ·have q':=q
   rw[xl,yq,decide_eq_true_eq] at q'
   cases e:x.cps.toList with
   |nil=>rw[e] at q';cases q'
   |cons c r =>
    rw[e] at q'
    have hc:c=45:=Option.some.inj q'
    subst hc
    have ef:(zu x).cps.toList=r:=by
     unfold zu
     rw[if_pos q]
     exact yT e
    rw[ef] at d1 ne'
    refine⟨_,intText_neg (cs:=r.take 21) ?_ (fun c hc=>d1 c (List.mem_of_mem_take hc)) ?_ (by omega)⟩
    ·rw[xS,e]
     rfl
    ·intro z
     cases r with
     |nil=>exact ne' rfl
     |cons a b=>cases z
  ·have ef:zu x=x:=by
    unfold zu
    exact if_neg q
   rw[ef] at d1 ne'
   refine⟨_,intText_digits (x:=Txt.slice x none (some 22)) ?_ ?_ (by omega)⟩
   ·rw[xS]
    exact fun c hc=>d1 c (List.mem_of_mem_take hc)
   ·rw[xS]
    intro z
    cases hx:x.cps.toList with
    |nil=>exact ne' hx
    |cons a b=>rw[hx] at z;cases z
 obtain⟨n,e⟩:=key
 unfold ZC
 rw[e]
 rfl
noncomputable def zR (w:Str) (es:List Ex):Option (List Ex) :=
 if inV (.str w) (allNs.map V.str)=true then some (.name w::es)
 else if yE w=true then some (.num (ZC w)::es)
 else if w = "less" then zds es
 else if w = "mod" then zpr es
 else if w∈twoWs then ziG w es
 else none
def rdG (w:Str) (acc:Option (List Ex)):Option (List Ex):=acc.bind (zR w)
theorem uP:∀ ws:List Str,ws.foldr rdG none=none
 |[]=>rfl
 |w::ws=>by
  show rdG w (ws.foldr rdG none)=none
  rw[uP ws];rfl
noncomputable def zql:Option (List Ex)→Option Ex
 |some [e]=>some e
 |_=>none
noncomputable def xw (ws:List Str):Option Ex:=zql (ws.foldr rdG (some []))
noncomputable def V5 (first row:Str):Option Ex:=match Txt.split row " " with
 |w::ws=>if w=first then xw ws else none
 |[]=>none
theorem stepG_cases {w:Str}{es:List Ex}(h1:inV (.str w) (allNs.map V.str)=false) (h2:yE w=false) :
  (yi partsD w=none∧zR w es=none)∨(w = "less" ∧ zR w es=zds es)∨(w = "mod" ∧ zR w es=zpr es)∨(zbg w∧zR w es=ziG w es):=by
 unfold zR
 rw[if_neg (by rw[h1];simp),if_neg (by rw[h2];simp)]
 by_cases h3:w = "less"
 ·exact .inr (.inl ⟨h3,if_pos h3⟩)
 rw[if_neg h3]
 by_cases h4:w = "mod"
 ·exact .inr (.inr (.inl ⟨h4,if_pos h4⟩))
 rw[if_neg h4]
 by_cases h5:w∈twoWs
 ·exact .inr (.inr (.inr ⟨by simpa using h5,if_pos h5⟩))
 ·refine .inl ⟨?_,if_neg h5⟩
  cases e:yi partsD w with
  |none=>rfl
  |some i =>
   rcases xE e with h | h | h
   ·exact absurd h h3
   ·exact absurd h h4
   ·exact absurd (by simpa using h) h5
theorem Zs {w:Str}{es es':List Ex}(h:zR w es=some es'):∃ e',es'=e'::es.drop ((yi partsD w).getD 0).toNat:=by
 by_cases h1:inV (.str w) (allNs.map V.str)=true
 ·unfold zR at h
  rw[if_pos h1] at h
  cases h
  exact⟨_,by rw[uH (.inl h1)];rfl⟩
 by_cases h2:yE w=true
 ·unfold zR at h
  rw[if_neg h1,if_pos h2] at h
  cases h
  exact⟨_,by rw[uH (.inr h2)];rfl⟩
 rcases stepG_cases (es:=es) (Bool.eq_false_iff.mpr h1) (Bool.eq_false_iff.mpr h2) with⟨_,e⟩ | ⟨rfl,e⟩ | ⟨rfl,e⟩ | ⟨t,e⟩
 ·rw[e] at h;cases h
 ·rw[e] at h
  match es,h with
  |e1::e2::e3::e4::r,h=>cases h;exact⟨_,by rw[less_no.2.2];rfl⟩
 ·rw[e] at h
  match es,h with
  |e1::.num n::r,h=>cases h;exact⟨_,by rw[mod_no.2.2];rfl⟩
 ·rw[e] at h
  match es,h with
  |e1::e2::r,h=>cases h;exact⟨_,by rw[(xQ t).2.2];rfl⟩
end K04

namespace K04
open PySem L2 PySem.NumText PySem.W.KIN
end K04

namespace K04
open PySem L2 PySem.NumText PySem.W.KIN
abbrev PR1:=List Str→Option (Ex×List Str)
noncomputable def fps (f:PR1):Nat→List Str→Option (List Ex×List Str)
 |0,ws=>some ([],ws)
 |k+1,ws=>(f ws).bind fun p=>(fps f k p.2).bind fun q=>some (p.1::q.1,q.2)
noncomputable def mkE (w:Str) (p:List Ex×List Str):Option (Ex×List Str):=match zR w p.1 with
 |some [e]=>some (e,p.2)
 |_=>none
noncomputable def fp:Nat→PR1
 |0,_=>none
 |_+1,[]=>none
 |n+1,w::ws=>if inV (.str w) (allNs.map V.str)=true then some (.name w,ws)
  else if yE w=true then some (.num (ZC w),ws)
  else match yi partsD w with
   |none=>none
   |some k=>(fps (fp n) k.toNat ws).bind (mkE w)
theorem xy {f:PR1}:∀ {k:Nat}{ws r:List Str}{es:List Ex},fps f k ws=some (es,r)→es.length=k
 |0,_,_,_,h=>by cases h;rfl
 |k+1,ws,r,es,h=>by
  unfold fps at h
  cases h1:f ws with
  |none=>rw[h1] at h;cases h
  |some p =>
   rw[h1] at h
   cases h2:fps f k p.2 with
   |none=>simp only[Option.bind_some,h2] at h;cases h
   |some q =>
    simp only[Option.bind_some,h2] at h
    cases h
    have:=xy h2
    simp[this]
theorem wW {f g:PR1}(hfg:∀ ws x,f ws=some x→g ws=some x):∀ {k:Nat}{ws:List Str} {x},fps f k ws=some x→fps g k ws=some x
 |0,_,_,h=>h
 |k+1,ws,x,h=>by
  unfold fps at h ⊢
  cases h1:f ws with
  |none=>rw[h1] at h;cases h
  |some p =>
   rw[h1] at h
   rw[hfg _ _ h1]
   cases h2:fps f k p.2 with
   |none=>simp only[Option.bind_some,h2] at h;cases h
   |some q =>
    simp only[Option.bind_some,h2] at h ⊢
    rw[wW hfg h2]
    exact h
theorem XI:∀ (n:Nat) (ws:List Str) (x),fp n ws=some x→fp (n+1) ws=some x
 |0,_,_,h=>by cases h
 |_+1,[],_,h=>by cases h
 |n+1,w::ws,x,h=>by
  unfold fp at h ⊢
  split
  ·rename_i h1;rw[if_pos h1] at h;exact h
  ·rename_i h1
   rw[if_neg h1] at h
   split
   ·rename_i h2;rw[if_pos h2] at h;exact h
   ·rename_i h2
    rw[if_neg h2] at h
    cases ht:yi partsD w with
    |none=>rw[ht] at h;cases h
    |some k =>
     rw[ht] at h
     simp only at h ⊢
     cases h3:fps (fp n) k.toNat ws with
     |none=>rw[h3] at h;cases h
     |some p =>
      rw[h3] at h
      rw[wW (XI n) h3]
      exact h
theorem UB {w:Str}{k:Int}{es:List Ex}{e:Ex}(h1:inV (.str w) (allNs.map V.str)=false) (h2:yE w=false) (ht:yi partsD w=some k) (hl:es.length=k.toNat) (hs:zR w es=some [e]) (st:List Ex):zR w (es++st)=some (e::st):=by
 have c1:=stepG_cases (es:=es) h1 h2
 have c2:=stepG_cases (es:=es++st) h1 h2
 rcases c1 with⟨_,z⟩ | ⟨rfl,z⟩ | ⟨rfl,z⟩ | ⟨tw,z⟩
 ·rw[z] at hs;cases hs
 ·rw[z] at hs
  match es,hs with
  |[e1,e2,e3,e4],hs=>cases hs;exact if_neg (by rw[h1];simp) |>.trans (if_neg (by rw[h2];simp)) |>.trans rfl
  |[e1,e2,e3],hs=>cases hs
  |[e1,e2],hs=>cases hs
  |[e1],hs=>cases hs
  |[],hs=>cases hs
  |_::_::_::_::_::_,hs=>cases hs
 ·rw[z] at hs
  match es,hs with
  |[e1,.num n],hs=>cases hs;exact if_neg (by rw[h1];simp) |>.trans (if_neg (by rw[h2];simp)) |>.trans rfl
  |[e1],hs=>cases hs
  |[],hs=>cases hs
  |_::.num _::_::_,hs=>cases hs
  |_::.name _::_,hs=>cases hs
  |_::.two ..::_,hs=>cases hs
  |_::.mod ..::_,hs=>cases hs
  |_::.less ..::_,hs=>cases hs
 ·rw[z] at hs
  match es,hs with
  |[e1,e2],hs =>
   cases hs
   rcases c2 with⟨q,_⟩ | ⟨rfl,_⟩ | ⟨rfl,_⟩ | ⟨_,q⟩
   ·rw[q] at ht;cases ht
   ·rcases tw with h | h | h | h<;>exact absurd h (by decide +kernel)
   ·rcases tw with h | h | h | h<;>exact absurd h (by decide +kernel)
   ·exact q.trans rfl
  |[e1],hs=>cases hs
  |[],hs=>cases hs
  |_::_::_::_,hs=>cases hs
structure Rds (us:List Str) (es:List Ex):Prop where
 of:∀ st,us.foldr rdG (some st)=some (es++st)
theorem wn {f:PR1}(hf:∀ ws e r,f ws=some (e,r)→∃ us,ws=us++r∧Rds us [e]):∀ {k:Nat}{ws r:List Str}{es:List Ex},fps f k ws=some (es,r)→∃ us,ws=us++r∧Rds us es
 |0,ws,_,_,h=>by cases h;exact⟨[],rfl,⟨fun st=>rfl⟩⟩
 |k+1,ws,r,es,h=>by
  unfold fps at h
  cases h1:f ws with
  |none=>rw[h1] at h;cases h
  |some p =>
   rw[h1] at h
   cases h2:fps f k p.2 with
   |none=>simp only[Option.bind_some,h2] at h;cases h
   |some q =>
    simp only[Option.bind_some,h2] at h
    cases h
    obtain⟨us,e1,r1⟩:=hf ws p.1 p.2 h1
    obtain⟨vs,e2,r2⟩:=wn hf h2
    refine⟨us++vs,by rw[e1,e2,List.append_assoc],⟨fun st=>?_⟩⟩
    rw[List.foldr_append,r2.of,r1.of]
    rfl
theorem xq:∀ (n:Nat) (ws:List Str) (e:Ex) (r:List Str),fp n ws=some (e,r)→∃ us,ws=us++r∧Rds us [e]
 |0,_,_,_,h=>by cases h
 |_+1,[],_,_,h=>by cases h
 |n+1,w::ws,e,r,h=>by
  unfold fp at h
  split at h
  ·rename_i h1
   cases h
   refine⟨[w],rfl,⟨fun st=>?_⟩⟩
   show zR w st=_
   unfold zR
   rw[if_pos h1]
   rfl
  ·rename_i h1
   split at h
   ·rename_i h2
    cases h
    refine⟨[w],rfl,⟨fun st=>?_⟩⟩
    show zR w st=_
    unfold zR
    rw[if_neg h1,if_pos h2]
    rfl
   ·rename_i h2
    cases ht:yi partsD w with
    |none=>rw[ht] at h;cases h
    |some k =>
     rw[ht] at h
     simp only at h
     cases h3:fps (fp n) k.toNat ws with
     |none=>rw[h3] at h;cases h
     |some p =>
      rw[h3] at h
      obtain⟨es,r'⟩:=p
      have hl:=xy h3
      have h:mkE w (es,r')=some (e,r):=h
      unfold mkE at h
      split at h
      ·rename_i e' hs
       cases h
       obtain⟨us,e1,r1⟩:=wn (xq n) h3
       refine⟨w::us,by rw[e1];rfl,⟨fun st=>?_⟩⟩
       show rdG w (us.foldr rdG (some st))=_
       rw[r1.of]
       exact UB (Bool.eq_false_iff.mpr h1) (Bool.eq_false_iff.mpr h2) ht hl hs st
      ·cases h
theorem vP {f:PR1}{j k:Nat}:∀ {ws r:List Str}{es es':List Ex},es.length=j→fps f (j+k) ws=some (es++es',r)→∃ r',fps f j ws=some (es,r')∧fps f k r'=some (es',r):=by
 induction j with
 |zero =>
  intro ws r es es' hl h
  cases es with
  |nil=>exact⟨ws,rfl,by rw[Nat.zero_add] at h;exact h⟩
  |cons _ _=>cases hl
 |succ j ih =>
  intro ws r es es' hl h
  cases es with
  |nil=>cases hl
  |cons e es =>
   rw[show j+1+k=(j+k)+1 by omega] at h
   have h:(f ws).bind (fun p=>(fps f (j+k) p.2).bind fun q=>some (p.1::q.1,q.2))=some (e::es++es',r):=h
   cases h1:f ws with
   |none=>rw[h1] at h;cases h
   |some p =>
    rw[h1] at h
    cases h2:fps f (j+k) p.2 with
    |none=>simp only[Option.bind_some,h2] at h;cases h
    |some q =>
     simp only[Option.bind_some,h2] at h
     obtain⟨q1,q2⟩:=q
     have h:some (p.1::q1,q2)=some (e::(es++es'),r):=h
     injection h with h
     injection h with ha hb
     injection ha with ha hc
     subst ha hb hc
     obtain⟨r',e1,e2⟩:=ih (by simpa using hl) h2
     refine⟨r',?_,e2⟩
     show(f ws).bind (fun p=>(fps f j p.2).bind fun q=>some (p.1::q.1,q.2))=_
     rw[h1]
     simp only[Option.bind_some,e1]
theorem yV:∀ (ws:List Str){es:List Ex},ws.foldr rdG (some [])=some es→∀ n,ws.length≤n→fps (fp n) es.length ws=some (es,[])
 |[],_,h,n,_=>by cases h;rfl
 |w::ws,es,h,n,hn=>by
  have h:rdG w (ws.foldr rdG (some []))=some es:=h
  cases h0:ws.foldr rdG (some []) with
  |none=>rw[h0] at h;cases h
  |some es0 =>
   rw[h0] at h
   have h:zR w es0=some es:=h
   obtain⟨m,rfl⟩:∃ m,n=m+1:=⟨n-1,by simp at hn;omega⟩
   have hm:ws.length≤m:=by simpa using hn
   have I1:=yV ws h0 m hm
   have I2:=yV ws h0 (m+1) (by omega)
   by_cases q1:inV (.str w) (allNs.map V.str)=true
   ·unfold zR at h
    rw[if_pos q1] at h
    cases h
    show(fp (m+1) (w::ws)).bind _=_
    rw[show fp (m+1) (w::ws)=some (.name w,ws) by unfold fp;rw[if_pos q1]]
    simp only[Option.bind_some,I2]
   ·by_cases q2:yE w=true
    ·unfold zR at h
     rw[if_neg q1,if_pos q2] at h
     cases h
     show(fp (m+1) (w::ws)).bind _=_
     rw[show fp (m+1) (w::ws)=some (.num (ZC w),ws) by unfold fp;rw[if_neg q1,if_pos q2]]
     simp only[Option.bind_some,I2]
    ·have key:∀ (k:Int) (as bs:List Ex) (e:Ex),es0=as++bs→as.length=k.toNat→yi partsD w=some k→zR w as=some [e]→es=e::bs→fps (fp (m+1)) es.length (w::ws)=some (es,[]):=by
      intro k as bs e e0 hl ht hs he
      subst e0 he
      rw[List.length_append] at I1 I2
      obtain⟨r1,a1,a2⟩:=vP rfl I1
      obtain⟨r2,b1,b2⟩:=vP rfl I2
      have:some (as,r1)=some (as,r2):=(wW (XI m) a1).symm.trans b1
      cases this
      show(fp (m+1) (w::ws)).bind _=_
      have:fp (m+1) (w::ws)=some (e,r1):=by
       unfold fp
       rw[if_neg q1,if_neg q2,ht]
       simp only
       rw[← hl,a1]
       show mkE w (as,r1)=_
       unfold mkE
       simp only[hs]
      rw[this]
      simp only[Option.bind_some,b2]
     have n1:=Bool.eq_false_iff.mpr q1
     have n2:=Bool.eq_false_iff.mpr q2
     rcases stepG_cases (es:=es0) n1 n2 with⟨_,z⟩ | ⟨rfl,z⟩ | ⟨rfl,z⟩ | ⟨tw,z⟩
     ·rw[z] at h;cases h
     ·rw[z] at h
      match es0,h with
      |e1::e2::e3::e4::r,h =>
       cases h
       exact key 4 [e1,e2,e3,e4] r _ rfl rfl (by decide +kernel) rfl rfl
     ·rw[z] at h
      match es0,h with
      |e1::.num i::r,h =>
       cases h
       exact key 2 [e1,.num i] r _ rfl rfl (by decide +kernel) rfl rfl
     ·rw[z] at h
      match es0,h with
      |e1::e2::r,h =>
       cases h
       refine key 2 [e1,e2] r _ rfl rfl ?_ ?_ rfl
       ·rcases tw with rfl | rfl | rfl | rfl<;>decide +kernel
       ·rcases stepG_cases (es:=[e1,e2]) n1 n2 with⟨q,_⟩ | ⟨rfl,_⟩ | ⟨rfl,_⟩ | ⟨_,q⟩
        ·rcases tw with rfl | rfl | rfl | rfl<;>exact absurd q (by decide +kernel)
        ·rcases tw with h | h | h | h<;>exact absurd h (by decide +kernel)
        ·rcases tw with h | h | h | h<;>exact absurd h (by decide +kernel)
        ·exact q
theorem UJ {ws:List Str}{n:Nat}(hn:ws.length≤n) (e:Ex):xw ws=some e↔fp n ws=some (e,[]):=by
 constructor
 ·intro h
  have:ws.foldr rdG (some [])=some [e]:=by
   unfold xw at h
   match hs:ws.foldr rdG (some []),h with
   |some [x],h=>cases h;rfl
   |some [],h=>cases h
   |none,h=>cases h
   |some (_::_::_),h=>cases h
  have h2:=yV ws this n hn
  have h2:(fp n ws).bind _=some ([e],[]):=h2
  cases h3:fp n ws with
  |none=>rw[h3] at h2;cases h2
  |some p =>
   rw[h3] at h2
   obtain⟨x,r⟩:=p
   have h2:some ([x],r)=some ([e],[]):=h2
   cases h2
   rfl
 ·intro h
  obtain⟨us,e1,r⟩:=xq n ws e [] h
  rw[List.append_nil] at e1
  subst e1
  unfold xw
  rw[r.of]
  rfl
end K04

namespace L2
open PySem
theorem W7 {x:Str}{g:TG}{tc:TT}{te:TE}{Q:VK}{D:Addr}{τ0:St}{H0:Hp}(Pv:Nat→List V→St→Hp→Prop) (h0:Pv 0 [] τ0 H0)
  (hs:∀ i c zs τ H,x.cps.toList[i]?=some c→Pv i zs τ H→g (.str ⟨#[c]⟩) τ H fun τ2 H4=>tc τ2 H4 fun b H5 =>
   if b=true then te τ2 H5 fun y H6=>H6 D=some (.lst zs)∧zs.length<sizeLine∧Pv (i+1) (zs++[y]) τ2 (upd H6 D (.lst (zs++[y]))) else Pv (i+1) zs τ2 H5)
  (hd:∀ zs τ H,Pv x.cps.toList.length zs τ H→Q (.ref D) H):X6 (Its x) g tc te Q D τ0 H0 :=
 XW x.cps.toList.length Pv h0 (fun zs τ H p=>⟨by rw[Array.length_toList];exact Nat.le_refl _,hd zs τ H p⟩) fun i zs τ H hi p=>⟨by rw[Array.length_toList] at hi;exact hi,fun v H3 ⟨e,c,hc,ev⟩=>by
  subst e ev
  exact hs i c zs τ _ (by rw[← hc,Array.getElem?_toList]) p⟩
end L2
namespace K04
open PySem L2 PySem.NumText PySem.W.KIN
theorem uK (x:Str) (k:Nat):(Txt.slice x none (some (k:Int))).cps.toList=x.cps.toList.take k:=by
 by_cases h:k≤x.length
 ·have e:=eq_of_beq (PyProof.Rows.slice_closes_toL (x:=x) (j:=(k:Int)) (by omega) (by omega))
  rw[e]
  show((x.cps.toList.drop 0).take _)=_
  rw[List.drop_zero]
  congr 1
 ·rw[PyProof.Rows.slice_to_beyond (by omega)]
  have e:=eq_of_beq (PyProof.Rows.slice_closes_toL (x:=x) (j:=(x.length:Int)) (by omega) (by omega))
  rw[e]
  show((x.cps.toList.drop 0).take _)=_
  rw[List.drop_zero,List.take_of_length_le (by rw[ye];omega),List.take_of_length_le (by rw[ye];omega)]
theorem uL (x:Str) (k:Nat):(Txt.slice x (some (k:Int)) none).cps.toList=x.cps.toList.drop k:=by
 by_cases h:k≤x.length
 ·have e:=eq_of_beq (PyProof.Rows.slice_closes_fromL (x:=x) (i:=(k:Int)) (b:=x.length) (by omega) (by omega) rfl)
  rw[e]
  show((x.cps.toList.drop _).take _)=_
  rw[show((k:Int)).toNat=k by omega]
  exact List.take_of_length_le (by rw[List.length_drop,ye];omega)
 ·rw[PyProof.Rows.slice_from_beyond (by omega),List.drop_of_length_le (by rw[ye];omega)]
theorem V1 (x:Str):decide (Txt.slice x none (some 1) = "-")=Txt.startswith x "-" := by
 rw[xl,yq]
 rw[Bool.eq_iff_iff,decide_eq_true_eq,decide_eq_true_eq]
 have e:=uK x 1
 constructor
 ·intro h
  rw[show((1:Nat):Int)=1 from rfl,h] at e
  cases hx:x.cps.toList with
  |nil=>rw[hx] at e;cases e
  |cons c r=>rw[hx] at e;cases e;rfl
 ·intro h
  apply str_ext
  rw[show(1:Int)=((1:Nat):Int) from rfl,e]
  cases hx:x.cps.toList with
  |nil=>rw[hx] at h;cases h
  |cons c r=>rw[hx] at h;cases h;rfl
end K04

namespace K04
open PySem L2 PySem.NumText PySem.W.KIN
theorem xJ {f:PR1}:∀ {j:Nat}{ws:List Str},fps f (j+1) ws=(fps f j ws).bind fun q=>(f q.2).bind fun p=>some (q.1++[p.1],p.2)
 |0,ws=>by
  show(f ws).bind _=(f ws).bind _
  cases f ws<;>rfl
 |j+1,ws=>by
  show(f ws).bind (fun p=>(fps f (j+1) p.2).bind fun q=>some (p.1::q.1,q.2))=((f ws).bind (fun p=>(fps f j p.2).bind fun q=>some (p.1::q.1,q.2))).bind _
  cases h:f ws with
  |none=>rfl
  |some p =>
   simp only[Option.bind_some]
   rw[xJ]
   cases h2:fps f j p.2 with
   |none=>rfl
   |some q =>
    simp only[Option.bind_some]
    cases h3:f q.2 with
    |none=>rfl
    |some r=>rfl
theorem u5 {f:PR1}{j:Nat}{ws:List Str}(h:fps f j ws=none):∀ k,j≤k→fps f k ws=none
 |0,hk=>by
  have:j=0:=by omega
  subst this
  exact h
 |k+1,hk=>by
  by_cases e:j=k+1
  ·subst e;exact h
  ·rw[xJ,u5 h k (by omega)]
   rfl
theorem W3 {f:PR1}{j:Nat}{ws r:List Str}{es:List Ex}(h:fps f j ws=some (es,r)) (hf:f r=none) (k:Nat) (hk:j<k):fps f k ws=none :=
 u5 (j:=j+1) (by rw[xJ,h];simp only[Option.bind_some,hf];rfl) k hk
theorem zdI {f:PR1}{j:Nat}{ws r r':List Str}{es:List Ex}{e:Ex}(h:fps f j ws=some (es,r)) (hf:f r=some (e,r')):fps f (j+1) ws=some (es++[e],r'):=by
 rw[xJ,h]
 simp only[Option.bind_some,hf]
noncomputable def U0:Ex→Str
 |.num _ => "num"
 |.name _ => "name"
 |.two w _ _=>w
 |.mod _ _ => "mod"
 |.less .. => "less"
theorem zdJ:∀ {n:Nat}{ws r:List Str}{e:Ex},fp n ws=some (e,r)→(∃ i,e=.num i)∨U0 e ≠ "num"
 |0,_,_,_,h=>by cases h
 |_+1,[],_,_,h=>by cases h
 |n+1,w::ws,r,e,h=>by
  unfold fp at h
  split at h
  ·cases h;exact .inr (by show("name" : Str) ≠ "num";decide +kernel)
  ·rename_i h1
   split at h
   ·cases h;exact .inl ⟨_,rfl⟩
   ·rename_i h2
    cases ht:yi partsD w with
    |none=>rw[ht] at h;cases h
    |some k =>
     rw[ht] at h
     simp only at h
     cases h3:fps (fp n) k.toNat ws with
     |none=>rw[h3] at h;cases h
     |some p =>
      rw[h3] at h
      obtain⟨es,r'⟩:=p
      have h:mkE w (es,r')=some (e,r):=h
      unfold mkE at h
      split at h
      ·rename_i e' hs
       cases h
       rcases stepG_cases (es:=es) (Bool.eq_false_iff.mpr h1) (Bool.eq_false_iff.mpr h2) with⟨_,z⟩ | ⟨rfl,z⟩ | ⟨rfl,z⟩ | ⟨tw,z⟩
       ·rw[z] at hs;cases hs
       ·rw[z] at hs
        match es,hs with
        |[e1,e2,e3,e4],hs=>cases hs;exact .inr (by show("less" : Str) ≠ "num";decide +kernel)
       ·rw[z] at hs
        match es,hs with
        |[e1,.num i],hs=>cases hs;exact .inr (by show("mod" : Str) ≠ "num";decide +kernel)
       ·rw[z] at hs
        match es,hs with
        |[e1,e2],hs =>
         cases hs
         refine .inr ?_
         show w ≠ "num"
         rcases tw with rfl | rfl | rfl | rfl<;>decide +kernel
      ·cases h
theorem sfx {ws us r:List Str}{i:Nat}(h:ws.drop i=us++r):ws.drop (ws.length-r.length)=r∧r.length≤ws.length-i:=by
 have hl:=congrArg List.length h
 rw[List.length_drop,List.length_append] at hl
 refine⟨?_,by omega⟩
 by_cases hi:i≤ws.length
 ·have:ws=(ws.take i++us)++r:=by rw[List.append_assoc,← h,List.take_append_drop]
  have h2:ws.length-r.length=(ws.take i++us).length:=by
   have:=congrArg List.length this
   rw[List.length_append] at this
   omega
  rw[h2]
  generalize ws.take i++us=z at this
  subst this
  exact List.drop_left
 ·have:r=[]:=List.length_eq_zero_iff.mp (by omega)
  subst this
  exact List.drop_of_length_le (by simp)
theorem UH {n k:Nat}{ws r:List Str}{es:List Ex}{i:Nat}(h:fps (fp n) k (ws.drop i)=some (es,r)):ws.drop (ws.length-r.length)=r∧r.length≤ws.length-i:=by
 obtain⟨us,e,_⟩:=wn (xq n) h
 exact sfx e
noncomputable def yD:List (Key×V):=partsD.map fun p=>(.inr p.1,.int p.2)
theorem ua:wx [] yD=yD:=by rfl
theorem vw (w:Str):ZP yD (.inr w)=(yi partsD w).map V.int:=by
 unfold yD yi ZP
 rw[List.find?_map]
 have:((fun kv:Key×V=>decide (kv.1=Sum.inr w))∘fun p:Str×Int=>((Sum.inr p.1:Key),V.int p.2))=fun p=>decide (p.1=w):=by
  funext p
  simp
 first | rw[this] | skip
 cases (partsD.find? fun p=>decide (p.1=w))<;>rfl
end K04

namespace K04
open PySem L2 PySem.NumText PySem.W.KIN
theorem len1 {α:Type}{l:List α}(h:l.length=1):∃ a,l=[a]:=List.length_eq_one_iff.mp h
theorem zdt {α:Type}{l:List α}(h:l.length=2):∃ a b,l=[a,b]:=by
 cases l with
 |nil=>cases h
 |cons a l =>
  obtain⟨b,rfl⟩:=len1 (by simpa using h)
  exact⟨a,b,rfl⟩
theorem zix {α:Type}{l:List α}(h:l.length=4):∃ a b c d,l=[a,b,c,d]:=by
 cases l with
 |nil=>cases h
 |cons a l =>
  cases l with
  |nil=>cases h
  |cons b l =>
   obtain⟨c,d,rfl⟩:=zdt (by simpa using h)
   exact⟨a,b,c,d,rfl⟩
abbrev Pt:=Ex ⊕ Int
noncomputable def xx:Ex→List Pt
 |.num _=>[]
 |.name _=>[]
 |.two _ e f=>[.inl e,.inl f]
 |.mod e n=>[.inl e,.inr n]
 |.less e f g h=>[.inl e,.inl f,.inl g,.inl h]
def ptV (H:Hp) (v:V):Pt→Prop
 |.inl e=>Told H e v
 |.inr n=>v=.int n
noncomputable def ptS:Pt→Nat
 |.inl e=>e.size
 |.inr _=>1
def Ex.nice:Ex→Prop
 |.num i=>-1000000000≤i∧i≤1000000000
 |.name _=>True
 |.two w e f=>zbg w∧e.nice∧f.nice
 |.mod e n=>n≤1000000000∧e.nice
 |.less e f g h=>e.nice∧f.nice∧g.nice∧h.nice
noncomputable def lkB (names:List Str):Int→Ex→Bool
 |d,.num _=>decide (0<d)
 |d,.name x=>decide (0<d)&&inV (.str x) (names.map V.str)
 |d,.two _ e f=>decide (0<d)&&lkB names (d-1) e&&lkB names (d-1) f
 |d,.mod e n=>decide (0<d)&&lkB names (d-1) e&&decide (0<n)
 |d,.less e f g h=>decide (0<d)&&lkB names (d-1) e&&lkB names (d-1) f&&lkB names (d-1) g&&lkB names (d-1) h
noncomputable def ptB (names:List Str) (d:Int):Pt→Bool
 |.inl e=>lkB names d e
 |.inr n=>decide (0<n)
theorem Wl (e:Ex):((e.size:Nat):Int)=1+(((xx e).map fun p=>((ptS p:Nat):Int)).sum):=by
 cases e<;>simp[Ex.size,xx,ptS]<;>omega
theorem zdr {names:List Str}{d:Int}{e:Ex}(h:xx e≠[]):lkB names d e=(decide (0<d)&&(xx e).all (ptB names (d-1))):=by
 cases e with
 |num i=>exact absurd rfl h
 |name x=>exact absurd rfl h
 |two w e f=>simp[lkB,xx,ptB,Bool.and_assoc]
 |mod e n=>simp[lkB,xx,ptB,Bool.and_assoc]
 |less e f g h=>simp[lkB,xx,ptB,Bool.and_assoc]
theorem we {names:List Str}:∀ {e:Ex}{d:Nat},e.nice→(lkB names (d:Int) e=true↔e.ok names∧e.dep≤d)
 |.num i,d,h=>by
  have h : -1000000000≤i∧i≤1000000000:=h
  simp only[lkB,Ex.ok,Ex.dep,decide_eq_true_eq]
  omega
 |.name x,d,h=>by
  simp only[lkB,Ex.ok,Ex.dep,Bool.and_eq_true,decide_eq_true_eq,inV_str]
  constructor
  ·rintro⟨a,b⟩;exact⟨b,by omega⟩
  ·rintro⟨a,b⟩;exact⟨by omega,a⟩
 |.two w e f,d,h=>by
  obtain⟨tw,h1,h2⟩:=h
  cases d with
  |zero=>simp[lkB,Ex.dep]
  |succ d =>
   simp only[lkB,Ex.ok,Ex.dep,Bool.and_eq_true,decide_eq_true_eq]
   rw[show(((d+1:Nat):Int)-1)=(d:Int) by omega,we h1,we h2]
   constructor
   ·rintro⟨⟨_,a1,a2⟩,b1,b2⟩;exact⟨⟨tw,a1,b1⟩,by omega⟩
   ·rintro⟨⟨_,a1,b1⟩,c⟩;exact⟨⟨by omega,a1,by omega⟩,b1,by omega⟩
 |.mod e n,d,h=>by
  obtain⟨hn,h1⟩:=h
  cases d with
  |zero=>simp[lkB,Ex.dep]
  |succ d =>
   simp only[lkB,Ex.ok,Ex.dep,Bool.and_eq_true,decide_eq_true_eq]
   rw[show(((d+1:Nat):Int)-1)=(d:Int) by omega,we h1]
   constructor
   ·rintro⟨⟨_,a1,a2⟩,b⟩;exact⟨⟨⟨by omega,hn⟩,a1⟩,by omega⟩
   ·rintro⟨⟨⟨b,_⟩,a1⟩,c⟩;exact⟨⟨by omega,a1,by omega⟩,by omega⟩
 |.less e f g i,d,h=>by
  obtain⟨h1,h2,h3,h4⟩:=h
  cases d with
  |zero=>simp[lkB,Ex.dep]
  |succ d =>
   simp only[lkB,Ex.ok,Ex.dep,Bool.and_eq_true,decide_eq_true_eq]
   rw[show(((d+1:Nat):Int)-1)=(d:Int) by omega,we h1,we h2,we h3,we h4]
   constructor
   ·rintro⟨⟨⟨⟨_,a1,a2⟩,b1,b2⟩,c1,c2⟩,d1,d2⟩;exact⟨⟨a1,b1,c1,d1⟩,by omega⟩
   ·rintro⟨⟨a1,b1,c1,d1⟩,z⟩;exact⟨⟨⟨⟨by omega,a1,by omega⟩,b1,by omega⟩,c1,by omega⟩,d1,by omega⟩
def SmW (w:Str):Prop:=yE w=true→-1000000000≤ZC w∧ZC w≤1000000000
theorem Ya {w:Str}{es es':List Ex}(hw:SmW w) (hs:zR w es=some es') (h:∀ e∈es,e.nice):∀ e∈es',e.nice:=by
 by_cases q1:inV (.str w) (allNs.map V.str)=true
 ·unfold zR at hs
  rw[if_pos q1] at hs
  cases hs
  intro e he
  rcases List.mem_cons.mp he with rfl | he
  ·trivial
  ·exact h e he
 ·by_cases q2:yE w=true
  ·unfold zR at hs
   rw[if_neg q1,if_pos q2] at hs
   cases hs
   intro e he
   rcases List.mem_cons.mp he with rfl | he
   ·exact hw q2
   ·exact h e he
  ·rcases stepG_cases (es:=es) (Bool.eq_false_iff.mpr q1) (Bool.eq_false_iff.mpr q2) with⟨_,z⟩ | ⟨_,z⟩ | ⟨_,z⟩ | ⟨tw,z⟩
   ·rw[z] at hs;cases hs
   ·rw[z] at hs
    match es,hs,h with
    |e1::e2::e3::e4::r,hs,h =>
     cases hs
     intro e he
     rcases List.mem_cons.mp he with rfl | he
     ·exact⟨h e1 (by simp),h e2 (by simp),h e3 (by simp),h e4 (by simp)⟩
     ·exact h e (by simp[he])
   ·rw[z] at hs
    match es,hs,h with
    |e1::.num i::r,hs,h =>
     cases hs
     intro e he
     rcases List.mem_cons.mp he with rfl | he
     ·exact⟨(h (.num i) (by simp)).2,h e1 (by simp)⟩
     ·exact h e (by simp[he])
   ·rw[z] at hs
    match es,hs,h with
    |e1::e2::r,hs,h =>
     cases hs
     intro e he
     rcases List.mem_cons.mp he with rfl | he
     ·exact⟨tw,h e1 (by simp),h e2 (by simp)⟩
     ·exact h e (by simp[he])
theorem YZ:∀ {ws:List Str}{st es:List Ex},(∀ w∈ws,SmW w)→(∀ e∈st,e.nice)→ws.foldr rdG (some st)=some es→∀ e∈es,e.nice
 |[],_,_,_,hst,h=>by cases h;exact hst
 |w::ws,st,es,hw,hst,h=>by
  have h:rdG w (ws.foldr rdG (some st))=some es:=h
  cases h0:ws.foldr rdG (some st) with
  |none=>rw[h0] at h;cases h
  |some es0 =>
   rw[h0] at h
   exact Ya (hw w (by simp)) h (YZ (fun w' hw'=>hw w' (by simp[hw'])) hst h0)
theorem UK {n:Nat}{ws r:List Str}{e:Ex}(hw:∀ w∈ws,SmW w) (h:fp n ws=some (e,r)):e.nice:=by
 obtain⟨us,eu,rd⟩:=xq n ws e r h
 exact YZ (st:=[]) (fun w hm=>hw w (by rw[eu];simp[hm])) (by simp) (rd.of []) e (by simp)
end K04

namespace K04
open PySem L2 PySem.NumText PySem.W.KIN
noncomputable def nlB (c:Nat):Bool:=!(decide (97≤c)&&decide (c≤122))
noncomputable def nl (s:List Nat):Nat:=s.countP nlB
structure Seg (k m:Nat) (s:List Nat):Prop where
 of:∀ u,u <:+: s→32∉u→u.length≤m∧nl u≤k
theorem vM {u a b:List Nat}{c:Nat}(h:u <:+: a++c::b):u <:+: a∨u <:+: b∨∃ x y,u=x++c::y∧x <:+: a∧y <:+: b:=by
 obtain⟨p,q,e⟩:=h
 rw[List.append_assoc,List.append_eq_append_iff] at e
 rcases e with⟨r,e1,e2⟩ | ⟨r,e1,e2⟩
 ·rw[List.append_eq_append_iff] at e2
  rcases e2 with⟨r2,f1,f2⟩ | ⟨r2,f1,f2⟩
  ·exact .inl ⟨p,r2,by rw[e1,f1,List.append_assoc]⟩
  ·cases r2 with
   |nil=>rw[List.append_nil] at f1;subst f1;exact .inl ⟨p,[],by rw[e1,List.append_nil]⟩
   |cons d y =>
    rw[List.cons_append] at f2
    injection f2 with f3 f4
    subst f3
    exact .inr (.inr ⟨r,y,f1,⟨p,[],by rw[e1,List.append_nil]⟩,⟨[],q,by rw[f4];rfl⟩⟩)
 ·cases r with
  |nil =>
   rw[List.nil_append] at e2
   cases u with
   |nil=>exact .inl (List.nil_infix)
   |cons d y =>
    rw[List.cons_append] at e2
    injection e2 with f3 f4
    subst f3
    exact .inr (.inr ⟨[],y,rfl,List.nil_infix,⟨[],q,by rw[f4];rfl⟩⟩)
  |cons d r' =>
   rw[List.cons_append] at e2
   injection e2 with f3 f4
   exact .inr (.inl ⟨r',q,by rw[f4,List.append_assoc]⟩)
theorem XO {c:Nat}{x:List Nat}{r:List (List Nat)}(h:r≠[]):flat c (x::r)=x++c::flat c r:=by
 cases r with
 |nil=>exact absurd rfl h
 |cons y r=>rfl
theorem wC {u:List Nat}(hu:32∉u):∀ {ws:List (List Nat)},u <:+: flat 32 ws→u=[]∨∃ w∈ws,u <:+: w
 |[],h=>.inl (List.infix_nil.mp h)
 |[w],h=>.inr ⟨w,by simp,h⟩
 |w::y::r,h=>by
  rcases vM h with h | h | ⟨x,z,e,_⟩
  ·exact .inr ⟨w,by simp,h⟩
  ·rcases wC hu h with h | ⟨w',hw',h⟩
   ·exact .inl h
   ·exact .inr ⟨w',by simp at hw' ⊢;exact .inr hw',h⟩
  ·exact absurd (by rw[e];simp) hu
theorem WH {u w:List Nat}(h:u <:+: w):u.length≤w.length∧nl u≤nl w:=⟨h.length_le,List.Sublist.countP_le h.sublist⟩
theorem Wm {ws:List (List Nat)}{k m:Nat}(h:∀ w∈ws,w.length≤m∧nl w≤k):Seg k m (flat 32 ws):=⟨fun u hu h32=>by
 rcases wC h32 hu with rfl | ⟨w,hw,hi⟩
 ·exact⟨Nat.zero_le _,Nat.zero_le _⟩
 ·have:=WH hi
  have:=h w hw
  omega⟩
theorem Seg.sub {k m:Nat}{s t:List Nat}(h:Seg k m s) (hi:t <:+: s):Seg k m t:=⟨fun u hu h32=>h.of u (hu.trans hi) h32⟩
theorem Seg.mid {k m c:Nat}{a b:List Nat}(ha:Seg k m a) (hb:Seg k m b):Seg (k+1+k) (m+1+m) (a++c::b):=⟨fun u hu h32=>by
 rcases vM hu with h | h | ⟨x,y,rfl,hx,hy⟩
 ·have:=ha.of u h h32;omega
 ·have:=hb.of u h h32;omega
 ·have h1:=ha.of x hx (fun z=>h32 (by simp[z]))
  have h2:=hb.of y hy (fun z=>h32 (by simp[z]))
  have:nl (x++c::y)≤nl x+1+nl y:=by
   unfold nl
   rw[List.countP_append,List.countP_cons]
   split<;>omega
  simp only[List.length_append,List.length_cons]
  omega⟩
noncomputable def ZK:List Nat→List (List Nat)
 |[]=>[[]]
 |c::s=>if c=32 then[]::ZK s else match ZK s with
  |[]=>[[c]]
  |p::ps=>(c::p)::ps
theorem cutB_ne:∀ s,ZK s≠[]
 |[]=>by simp[ZK]
 |c::s=>by
  unfold ZK
  split
  ·simp
  ·split<;>simp
theorem xr:∀ s,flat 32 (ZK s)=s
 |[]=>rfl
 |c::s=>by
  unfold ZK
  split
  ·rename_i h
   rw[XO (cutB_ne s),xr s,h]
   rfl
  ·have ih:=xr s
   split
   ·rename_i e
    exact absurd e (cutB_ne s)
   ·rename_i p ps e
    rw[e] at ih
    cases ps with
    |nil=>rw[← ih];rfl
    |cons y r=>rw[← ih];rfl
theorem w8:∀ s,∀ p∈ZK s,32∉p
 |[],p,hp=>by rw[List.mem_singleton.mp hp];simp
 |c::s,p,hp=>by
  unfold ZK at hp
  split at hp
  ·rcases List.mem_cons.mp hp with rfl | hp
   ·simp
   ·exact w8 s p hp
  ·rename_i hc
   split at hp
   ·rename_i e
    exact absurd e (cutB_ne s)
   ·rename_i q ps e
    have ih:=w8 s
    rw[e] at ih
    rcases List.mem_cons.mp hp with rfl | hp
    ·intro z
     rcases List.mem_cons.mp z with z | z
     ·exact hc z.symm
     ·exact ih q (by simp) z
    ·exact ih p (by simp[hp])
theorem Ze:∀ s,(ZK s).length=s.count 32+1
 |[]=>rfl
 |c::s=>by
  unfold ZK
  have ih:=Ze s
  split
  ·rename_i h
   rw[List.length_cons,ih,h,List.count_cons_self]
  ·rename_i h
   rw[List.count_cons_of_ne (by omega)]
   split
   ·rename_i e
    exact absurd e (cutB_ne s)
   ·rename_i q ps e
    rw[e] at ih
    simp at ih ⊢
    exact ih
theorem XE {w:List Nat}:∀ {ws:List (List Nat)},w∈ws→w <:+: flat 32 ws
 |[x],h=>by rw[List.mem_singleton.mp h];exact List.infix_rfl
 |x::y::r,h=>by
  rcases List.mem_cons.mp h with rfl | h
  ·exact⟨[],32::flat 32 (y::r),rfl⟩
  ·have:=XE h
   exact this.trans ⟨x++[32],[],by simp[flat]⟩
def ofL (s:List Nat):Str:=⟨s.toArray⟩
theorem xR (x:Str):Txt.split x " " = (ZK x.cps.toList).map ofL:=by
 have e:x=Txt.join " " ((ZK x.cps.toList).map ofL):=by
  apply str_ext
  rw[xz,List.map_map]
  have:(fun(w:Str)=>w.cps.toList)∘ofL=id:=by funext s;simp[ofL]
  rw[this,List.map_id,xr]
 conv=>lhs;rw[e]
 rw[xt]
 refine wu ?_ fun w hw=>?_
 ·intro z
  exact cutB_ne _ (List.map_eq_nil_iff.mp z)
 ·obtain⟨s,hs,rfl⟩:=List.mem_map.mp hw
  simpa[ofL] using w8 _ s hs
theorem YL {x w:Str}(h:w∈Txt.split x " "):w.cps.toList <:+: x.cps.toList∧32∉w.cps.toList:=by
 rw[xR] at h
 obtain⟨s,hs,rfl⟩:=List.mem_map.mp h
 have h1:=XE hs
 rw[xr] at h1
 exact⟨by simpa[ofL] using h1,by simpa[ofL] using w8 _ s hs⟩
theorem Zb:∀ {cs:List Nat}(h:AllDigits cs) (acc:Nat),cs.foldl (fun acc c=>acc*10+(c-48)) acc+1≤(acc+1)*10 ^ cs.length
 |[],_,acc=>by simp
 |c::cs,h,acc=>by
  have h1:=h.head
  have ih:=Zb h.tail (acc*10+(c-48))
  rw[List.foldl_cons,List.length_cons,Nat.pow_succ]
  have:(acc*10+(c-48)+1)*10 ^ cs.length≤(acc+1)*(10 ^ cs.length*10):=by
   rw[Nat.mul_comm (10 ^ cs.length) 10,← Nat.mul_assoc]
   exact Nat.mul_le_mul_right _ (by omega)
  omega
theorem vR {cs:List Nat}(h:AllDigits cs):digitsVal cs<10 ^ cs.length:=by
 have:=Zb h 0
 unfold digitsVal
 omega
theorem VH {cs:List Nat}(h:AllDigits cs):nl cs=cs.length:=by
 unfold nl
 rw[List.countP_eq_length]
 intro c hc
 have:=h c hc
 unfold nlB
 simp
 omega
theorem zhz {w:Str}(h:nl w.cps.toList≤7):SmW w:=by
 intro hn
 have hr:=x8 hn
 unfold yE at hn
 rw[Bool.and_eq_true] at hn
 obtain⟨h1,h2⟩:=hn
 have d1:=XQ h1
 have ne:zu w ≠ "" := by
  unfold v6 at h2
  rw[Bool.and_eq_true] at h2
  exact of_decide_eq_true h2.1
 have ne':(zu w).cps.toList≠[]:=fun z=>ne (str_ext (by rw[z];decide +kernel))
 have p7:∀ n,n≤7→10 ^ n≤10000000:=fun n hn=>Nat.le_trans (Nat.pow_le_pow_right (by decide) hn) (by decide)
 by_cases q:Txt.startswith w "-" = true
 ·have q':=q
  rw[xl,yq,decide_eq_true_eq] at q'
  cases e:w.cps.toList with
  |nil=>rw[e] at q';cases q'
  |cons c r =>
   rw[e] at q'
   have hc:c=45:=Option.some.inj q'
   subst hc
   have ef:(zu w).cps.toList=r:=by
    unfold zu
    rw[if_pos q]
    exact yT e
   rw[ef] at d1 ne'
   have hl:r.length≤6:=by
    have:=VH d1
    rw[e] at h
    unfold nl at h this
    rw[List.countP_cons_of_pos (by decide)] at h
    omega
   have wl:w.length≤7:=by rw[← ye,e];simp;omega
   rw[yJ (by omega),intText_neg e d1 ne' (by omega)] at hr
   injection hr with hr
   have:=vR d1
   have:=p7 r.length (by omega)
   omega
 ·have ef:zu w=w:=by
   unfold zu
   exact if_neg q
  rw[ef] at d1 ne'
  have hl:w.cps.toList.length≤7:=by rw[← VH d1];exact h
  have wl:w.length≤7:=by rw[← ye];exact hl
  rw[yJ (by omega),intText_digits d1 ne' (by omega)] at hr
  injection hr with hr
  have:=vR d1
  have:=p7 _ hl
  omega
structure W6 (w:Str):Prop where
 ch:∀ c∈w.cps.toList,33≤c∧c<127
 len:w.length≤6
 nl:nl w.cps.toList≤3
noncomputable def w6B (w:Str):Bool:=w.cps.toList.all (fun c=>decide (33≤c∧c<127))&&decide (w.length≤6)&&decide (nl w.cps.toList≤3)
theorem Zo {w:Str}(h:w6B w=true):W6 w:=by
 unfold w6B at h
 rw[Bool.and_eq_true,Bool.and_eq_true,List.all_eq_true] at h
 exact⟨fun c hc=>of_decide_eq_true (h.1.1 c hc),of_decide_eq_true h.1.2,of_decide_eq_true h.2⟩
theorem uE {ws:List Str}(h:ws.all w6B=true):∀ w∈ws,W6 w:=fun w hw=>Zo (List.all_eq_true.mp h w hw)
structure Rw2 (k m n q:Nat) (x:Str):Prop where
 ch:∀ c∈x.cps.toList,32≤c∧c<127
 len:x.length≤n
 seg:Seg k m x.cps.toList
 cnt:x.cps.toList.count 32≤q
theorem u8 {c d:Nat}:∀ {ws:List (List Nat)},d∈flat c ws→d=c∨∃ w∈ws,d∈w
 |[],h=>by cases h
 |[x],h=>.inr ⟨x,by simp,h⟩
 |x::y::r,h=>by
  have h:d∈x++c::flat c (y::r):=h
  rcases List.mem_append.mp h with h | h
  ·exact .inr ⟨x,by simp,h⟩
  ·rcases List.mem_cons.mp h with h | h
   ·exact .inl h
   ·rcases u8 h with h | ⟨w,hw,h⟩
    ·exact .inl h
    ·exact .inr ⟨w,List.mem_cons_of_mem _ hw,h⟩
theorem wD:∀ {ws:List (List Nat)},(∀ w∈ws,32∉w)→(flat 32 ws).count 32≤ws.length
 |[],_=>Nat.zero_le _
 |[x],h=>by rw[show flat 32 [x]=x from rfl,List.count_eq_zero_of_not_mem (h x (by simp))];exact Nat.zero_le _
 |x::y::r,h=>by
  show(x++32::flat 32 (y::r)).count 32≤_
  rw[List.count_append,List.count_cons_self,List.count_eq_zero_of_not_mem (h x (by simp))]
  have:=wD (ws:=y::r) (fun w hw=>h w (List.mem_cons_of_mem _ hw))
  simp at this ⊢
  omega
theorem YY {ws:List Str}(h:∀ w∈ws,W6 w) (hl:ws.length≤40):Rw2 3 6 400 40 (Txt.join " " ws):=by
 refine⟨fun c hc=>?_,?_,?_,?_⟩
 ·rw[xz] at hc
  rcases u8 hc with rfl | ⟨w,hw,h2⟩
  ·decide
  ·obtain⟨v,hv,rfl⟩:=List.mem_map.mp hw
   have:=(h v hv).ch c h2
   omega
 ·rw[xt]
  have:=uX (c:=32) (B:=6) (fun w hw=>(h w hw).len)
  omega
 ·rw[xz]
  refine Wm fun w hw=>?_
  obtain⟨v,hv,rfl⟩:=List.mem_map.mp hw
  exact⟨by rw[ye];exact(h v hv).len,(h v hv).nl⟩
 ·rw[xz]
  have:=wD (ws:=ws.map (·.cps.toList)) (fun w hw=>by
   obtain⟨v,hv,rfl⟩:=List.mem_map.mp hw
   intro z
   have:=(h v hv).ch 32 z
   omega)
  rw[List.length_map] at this
  omega
theorem YX {x y:Str}{i d c:Nat}(h:Rw2 3 6 400 40 x) (hc:32≤c∧c<127) (hy:y.cps.toList=x.cps.toList.take i++c::x.cps.toList.drop (i+d)):Rw2 7 13 402 41 y:=by
 have ht:x.cps.toList.take i <:+: x.cps.toList:=(List.take_prefix _ _).isInfix
 have hd:x.cps.toList.drop (i+d) <:+: x.cps.toList:=(List.drop_suffix _ _).isInfix
 refine⟨fun e he=>?_,?_,?_,?_⟩
 ·rw[hy] at he
  rcases List.mem_append.mp he with he | he
  ·exact h.ch e (List.mem_of_mem_take he)
  ·rcases List.mem_cons.mp he with rfl | he
   ·exact hc
   ·exact h.ch e (List.mem_of_mem_drop he)
 ·rw[← ye,hy]
  have:=h.len
  rw[← ye] at this
  have h1:=List.length_take_le i x.cps.toList
  simp only[List.length_append,List.length_cons,List.length_take,List.length_drop]
  omega
 ·rw[hy]
  exact(h.seg.sub ht).mid (h.seg.sub hd)
 ·rw[hy,List.count_append,List.count_cons]
  have:=h.cnt
  have e1:(x.cps.toList.take i).count 32+(x.cps.toList.drop (i+d)).count 32≤x.cps.toList.count 32:=by
   conv=>rhs;rw[← List.take_append_drop i x.cps.toList,List.count_append]
   have:(x.cps.toList.drop (i+d)).count 32≤(x.cps.toList.drop i).count 32:=by
    refine List.Sublist.count_le _ ?_
    rw[← List.drop_drop]
    exact List.drop_sublist _ _
   omega
  split<;>omega
theorem Rw2.weak {x:Str}(h:Rw2 3 6 400 40 x):Rw2 7 13 402 41 x:=⟨h.ch,by have:=h.len;omega,⟨fun u hu h32=>by have:=h.seg.of u hu h32;omega⟩,by have:=h.cnt;omega⟩
end K04

namespace K04
open PySem L2
noncomputable def top (i:Nat):Stmt:=PySem.Challenge.pw_beatless_k12_whole_texts_read.main.body.getD i (.Pass ⟨0,0,0,0⟩)
abbrev Yx:Stmt:=top 13
abbrev Yw:Stmt:=top 25
abbrev Yv:Stmt:=top 26
abbrev Yu:Stmt:=top 27
abbrev Yt:Stmt:=top 28
abbrev Ys:Stmt:=top 29
abbrev Zw:Stmt:=top 30
abbrev Yr:Stmt:=top 32
abbrev Yq:Stmt:=top 33
abbrev Yp:Stmt:=top 34
abbrev Yo:Stmt:=top 35
abbrev Yn:Stmt:=top 36
abbrev Ym:Stmt:=top 37
abbrev Yl:Stmt:=top 40
abbrev Yk:Stmt:=top 41
abbrev Yj:Stmt:=top 42
abbrev Yi:Stmt:=top 43
abbrev Yh:Stmt:=top 44
abbrev Yg:Stmt:=top 45
abbrev Yf:Stmt:=top 46
abbrev Zv:Stmt:=top 47
abbrev Zu:Stmt:=top 48
noncomputable abbrev Ye:Stmt:=inClass (top 7) 0
noncomputable abbrev Yd:Stmt:=inClass (top 7) 2
noncomputable abbrev Yc:Stmt:=inClass (top 7) 3
noncomputable abbrev Yb:Stmt:=inClass (top 8) 0
noncomputable abbrev YK:Stmt:=inClass (top 8) 2
noncomputable abbrev YJ:Stmt:=inClass (top 8) 3
noncomputable abbrev YI:Stmt:=inClass (top 9) 0
noncomputable abbrev YH:Stmt:=inClass (top 9) 2
noncomputable abbrev YG:Stmt:=inClass (top 9) 3
noncomputable abbrev YF:Stmt:=inClass (top 10) 0
noncomputable abbrev YE:Stmt:=inClass (top 10) 2
noncomputable abbrev YD:Stmt:=inClass (top 10) 3
noncomputable abbrev YC:Stmt:=inClass (top 11) 0
noncomputable abbrev YB:Stmt:=inClass (top 11) 2
noncomputable abbrev YA:Stmt:=inClass (top 11) 3
noncomputable abbrev Yz:Stmt:=inClass (top 31) 0
noncomputable abbrev Yy:Stmt:=inClass (top 4) 0
theorem zhL:FnScope ["value"] ["value"] (defScope Yx):=⟨rfl,rfl,rfl,by decide +kernel,rfl,by decide +kernel,by decide +kernel⟩
theorem zhK:FnScope ["value"] ["value"] (defScope Yw):=⟨rfl,rfl,rfl,by decide +kernel,rfl,by decide +kernel,by decide +kernel⟩
theorem zhJ:FnScope ["word", "words"] ["word", "words"] (defScope Yv):=⟨rfl,rfl,rfl,by decide +kernel,rfl,by decide +kernel,by decide +kernel⟩
theorem zhI:FnScope ["number"] ["number"] (defScope Yu):=⟨rfl,rfl,rfl,by decide +kernel,rfl,by decide +kernel,by decide +kernel⟩
theorem sc_qe:FnScope ["parts", "names", "deep", "part"] ["parts", "names", "deep"] (defScope Yt):=⟨rfl,rfl,rfl,by decide +kernel,rfl,by decide +kernel,by decide +kernel⟩
theorem zhH:FnScope ["expr", "names", "deep"] ["expr", "names", "deep"] (defScope Ys):=⟨rfl,rfl,rfl,by decide +kernel,rfl,by decide +kernel,by decide +kernel⟩
theorem zhG:FnScope ["exprs"] ["exprs"] (defScope Zw):=⟨rfl,rfl,rfl,by decide +kernel,rfl,by decide +kernel,by decide +kernel⟩
theorem sc_qh:FnScope ["word", "figures", "figure"] ["word"] (defScope Yr):=⟨rfl,rfl,rfl,by decide +kernel,rfl,by decide +kernel,by decide +kernel⟩
theorem zhF:FnScope ["word"] ["word"] (defScope Yq):=⟨rfl,rfl,rfl,by decide +kernel,rfl,by decide +kernel,by decide +kernel⟩
theorem zhE:FnScope ["word", "parts"] ["word", "parts"] (defScope Yp):=⟨rfl,rfl,rfl,by decide +kernel,rfl,by decide +kernel,by decide +kernel⟩
theorem sc_qk:FnScope ["words", "parts", "word", "part"] ["words"] (defScope Yo):=⟨rfl,rfl,rfl,by decide +kernel,rfl,by decide +kernel,by decide +kernel⟩
theorem sc_ql:FnScope ["row", "first", "words"] ["row", "first"] (defScope Yn):=⟨rfl,rfl,rfl,by decide +kernel,rfl,by decide +kernel,by decide +kernel⟩
theorem sc_qm:FnScope ["text", "rows", "exprs", "at", "first", "expr"] ["text"] (defScope Ym):=⟨rfl,rfl,rfl,by decide +kernel,rfl,by decide +kernel,by decide +kernel⟩
theorem sc_qn:FnScope ["_law_state", "_law_base", "_law_cell", "_law_found_here", "_law_number_here"] ["_law_state", "_law_base"] (defScope Yl):=⟨rfl,rfl,rfl,by decide +kernel,rfl,by decide +kernel,by decide +kernel⟩
theorem sc_qo:FnScope ["_law_state", "_law_names", "_law_words", "_law_lacking", "_law_kind", "_law_word", "_law_k", "_law_odd"] ["_law_state", "_law_names"] (defScope Yk):=⟨rfl,rfl,rfl,by decide +kernel,rfl,by decide +kernel,by decide +kernel⟩
theorem sc_qp:FnScope ["_law_state", "_law_rows", "_law_signs", "_law_k", "_law_row_here", "_law_at", "_law_sign"] ["_law_state", "_law_rows"] (defScope Yj):=⟨rfl,rfl,rfl,by decide +kernel,rfl,by decide +kernel,by decide +kernel⟩
theorem sc_qq:FnScope ["_law_word", "_law_figures"] ["_law_word"] (defScope Yi):=⟨rfl,rfl,rfl,by decide +kernel,rfl,by decide +kernel,by decide +kernel⟩
theorem sc_qr:FnScope ["_law_words", "_law_at", "_law_names", "_law_many", "_law_word", "_law_parts", "_law_k", "_law_part"] ["_law_words", "_law_at"] (defScope Yh):=⟨rfl,rfl,rfl,by decide +kernel,rfl,by decide +kernel,by decide +kernel⟩
theorem sc_qs:FnScope ["_law_told", "_law_names", "_law_deep", "_law_words", "_law_good", "_law_part", "_law_found_here"] ["_law_told", "_law_names", "_law_deep"] (defScope Yg):=⟨rfl,rfl,rfl,by decide +kernel,rfl,by decide +kernel,by decide +kernel⟩
theorem sc_qt:FnScope ["_law_rows", "_law_at_send", "_law_at_end", "_law_told", "_law_k", "_law_head", "_law_found_here", "_law_words", "_law_one", "_law_names"] ["_law_rows"] (defScope Yf):=⟨rfl,rfl,rfl,by decide +kernel,rfl,by decide +kernel,by decide +kernel⟩
theorem sc_qu:FnScope ["_law_text", "_law_found_here", "_law_program", "e"] ["_law_text"] (defScope Zv):=⟨rfl,rfl,rfl,by decide +kernel,rfl,by decide +kernel,by decide +kernel⟩
theorem sc_qv:FnScope ["_law_script", "_law_at_end", "_law_cell", "_law_state", "_law_rows", "_law_pools", "_law_head", "_law_names"] ["_law_script"] (defScope Zu):=⟨rfl,rfl,rfl,by decide +kernel,rfl,by decide +kernel,by decide +kernel⟩
theorem zhD:FnScope ["self", "value"] ["self", "value"] (defScope Ye):=⟨rfl,rfl,rfl,by decide +kernel,rfl,by decide +kernel,by decide +kernel⟩
theorem zhC:FnScope ["self"] ["self"] (defScope Yd):=⟨rfl,rfl,rfl,by decide +kernel,rfl,by decide +kernel,by decide +kernel⟩
theorem zhB:FnScope ["self"] ["self"] (defScope Yc):=⟨rfl,rfl,rfl,by decide +kernel,rfl,by decide +kernel,by decide +kernel⟩
theorem zhA:FnScope ["self", "word"] ["self", "word"] (defScope Yb):=⟨rfl,rfl,rfl,by decide +kernel,rfl,by decide +kernel,by decide +kernel⟩
theorem zhY:FnScope ["self"] ["self"] (defScope YK):=⟨rfl,rfl,rfl,by decide +kernel,rfl,by decide +kernel,by decide +kernel⟩
theorem zhX:FnScope ["self"] ["self"] (defScope YJ):=⟨rfl,rfl,rfl,by decide +kernel,rfl,by decide +kernel,by decide +kernel⟩
theorem zhW:FnScope ["self", "word", "one", "other"] ["self", "word", "one", "other"] (defScope YI):=⟨rfl,rfl,rfl,by decide +kernel,rfl,by decide +kernel,by decide +kernel⟩
theorem zhV:FnScope ["self"] ["self"] (defScope YH):=⟨rfl,rfl,rfl,by decide +kernel,rfl,by decide +kernel,by decide +kernel⟩
theorem zhU:FnScope ["self"] ["self"] (defScope YG):=⟨rfl,rfl,rfl,by decide +kernel,rfl,by decide +kernel,by decide +kernel⟩
theorem zhT:FnScope ["self", "inner", "number"] ["self", "inner", "number"] (defScope YF):=⟨rfl,rfl,rfl,by decide +kernel,rfl,by decide +kernel,by decide +kernel⟩
theorem zhS:FnScope ["self"] ["self"] (defScope YE):=⟨rfl,rfl,rfl,by decide +kernel,rfl,by decide +kernel,by decide +kernel⟩
theorem zhR:FnScope ["self"] ["self"] (defScope YD):=⟨rfl,rfl,rfl,by decide +kernel,rfl,by decide +kernel,by decide +kernel⟩
theorem zhQ:FnScope ["self", "one", "other", "third", "fourth"] ["self", "one", "other", "third", "fourth"] (defScope YC):=⟨rfl,rfl,rfl,by decide +kernel,rfl,by decide +kernel,by decide +kernel⟩
theorem zhP:FnScope ["self"] ["self"] (defScope YB):=⟨rfl,rfl,rfl,by decide +kernel,rfl,by decide +kernel,by decide +kernel⟩
theorem zhO:FnScope ["self"] ["self"] (defScope YA):=⟨rfl,rfl,rfl,by decide +kernel,rfl,by decide +kernel,by decide +kernel⟩
theorem zhN:FnScope ["self", "start", "send", "when", "renew"] ["self", "start", "send", "when", "renew"] (defScope Yz):=⟨rfl,rfl,rfl,by decide +kernel,rfl,by decide +kernel,by decide +kernel⟩
theorem zhM:FnScope ["self", "row"] ["self", "row"] (defScope Yy):=⟨rfl,rfl,rfl,by decide +kernel,rfl,by decide +kernel,by decide +kernel⟩
set_option genInjectivity false in
set_option genSizeOf false in
structure Ad where
 f_qa:Addr
 d_qa:FuncData
 f_qb:Addr
 d_qb:FuncData
 f_qc:Addr
 d_qc:FuncData
 f_qd:Addr
 d_qd:FuncData
 f_qe:Addr
 d_qe:FuncData
 f_qf:Addr
 d_qf:FuncData
 f_qg:Addr
 d_qg:FuncData
 f_qh:Addr
 d_qh:FuncData
 f_qi:Addr
 d_qi:FuncData
 f_qj:Addr
 d_qj:FuncData
 f_qk:Addr
 d_qk:FuncData
 f_ql:Addr
 d_ql:FuncData
 f_qm:Addr
 d_qm:FuncData
 f_qn:Addr
 d_qn:FuncData
 f_qo:Addr
 d_qo:FuncData
 f_qp:Addr
 d_qp:FuncData
 f_qq:Addr
 d_qq:FuncData
 f_qr:Addr
 d_qr:FuncData
 f_qs:Addr
 d_qs:FuncData
 f_qt:Addr
 d_qt:FuncData
 f_qu:Addr
 d_qu:FuncData
 f_qv:Addr
 d_qv:FuncData
 f_qw:Addr
 d_qw:FuncData
 f_qx:Addr
 d_qx:FuncData
 f_qy:Addr
 d_qy:FuncData
 f_qz:Addr
 d_qz:FuncData
 f_qA:Addr
 d_qA:FuncData
 f_qB:Addr
 d_qB:FuncData
 f_qC:Addr
 d_qC:FuncData
 f_qD:Addr
 d_qD:FuncData
 f_qE:Addr
 d_qE:FuncData
 f_qF:Addr
 d_qF:FuncData
 f_qG:Addr
 d_qG:FuncData
 f_qH:Addr
 d_qH:FuncData
 f_qI:Addr
 d_qI:FuncData
 f_qJ:Addr
 d_qJ:FuncData
 f_qK:Addr
 d_qK:FuncData
 f_qL:Addr
 d_qL:FuncData
 f_qM:Addr
 d_qM:FuncData
 c_Num:Addr
 c_Name:Addr
 c_Two:Addr
 c_Mod:Addr
 c_Less:Addr
 c_Program:Addr
 c_NoProgram:Addr
 c_NoText:Addr
 t_START_NAMES:Addr
 t_SEND_NAMES:Addr
 t_RENEW_NAMES:Addr
 t_TWO_WORDS:Addr
 t_MOST_WORDS:Tok
 t_MOST_DEEP:Tok
 t_ALL_NAMES:Addr
 t_ROW_WORDS:Addr
 t_PARTS:Addr
 t_FIGURES:Tok
structure Txt (w:World) (K:PySem.W.Frag) (mg:Str→Option Value) (a:Ad):Prop where
 n_len:mg "len" = none
 n_int:mg "int" = none
 n_min:mg "min" = none
 n_max:mg "max" = none
 n_range:mg "range" = none
 n_isinstance:mg "isinstance" = none
 n_zip:mg "zip" = none
 n_abs:mg "abs" = none
 n_str:mg "str" = none
 n_sum:mg "sum" = none
 n_bool:mg "bool" = none
 n_tuple:mg "tuple" = none
 n_enumerate:mg "enumerate" = none
 n_reversed:mg "reversed" = none
 n_ValueError:mg "ValueError" = none
 F_qa:Fun K "is_whole" "is_whole" Yx a.f_qa a.d_qa
 b_qa:Binds K a.d_qa ["value"] []
 g_qa:mg "is_whole" = some (.ref a.f_qa)
 F_qb:Fun K "is_short_number" "is_short_number" Yw a.f_qb a.d_qb
 b_qb:Binds K a.d_qb ["value"] []
 g_qb:mg "is_short_number" = some (.ref a.f_qb)
 F_qc:Fun K "is_word_of" "is_word_of" Yv a.f_qc a.d_qc
 b_qc:Binds K a.d_qc ["word", "words"] []
 g_qc:mg "is_word_of" = some (.ref a.f_qc)
 F_qd:Fun K "is_divisor" "is_divisor" Yu a.f_qd a.d_qd
 b_qd:Binds K a.d_qd ["number"] []
 g_qd:mg "is_divisor" = some (.ref a.f_qd)
 F_qe:Fun K "are_sound" "are_sound" Yt a.f_qe a.d_qe
 b_qe:Binds K a.d_qe ["parts", "names", "deep"] []
 g_qe:mg "are_sound" = some (.ref a.f_qe)
 F_qf:Fun K "is_sound" "is_sound" Ys a.f_qf a.d_qf
 b_qf:Binds K a.d_qf ["expr", "names", "deep"] []
 g_qf:mg "is_sound" = some (.ref a.f_qf)
 F_qg:Fun K "count_words" "count_words" Zw a.f_qg a.d_qg
 b_qg:Binds K a.d_qg ["exprs"] []
 g_qg:mg "count_words" = some (.ref a.f_qg)
 F_qh:Fun K "is_number_word" "is_number_word" Yr a.f_qh a.d_qh
 b_qh:Binds K a.d_qh ["word"] []
 g_qh:mg "is_number_word" = some (.ref a.f_qh)
 F_qi:Fun K "number_of" "number_of" Yq a.f_qi a.d_qi
 b_qi:Binds K a.d_qi ["word"] []
 g_qi:mg "number_of" = some (.ref a.f_qi)
 F_qj:Fun K "read_part" "read_part" Yp a.f_qj a.d_qj
 b_qj:Binds K a.d_qj ["word", "parts"] []
 g_qj:mg "read_part" = some (.ref a.f_qj)
 F_qk:Fun K "read_words" "read_words" Yo a.f_qk a.d_qk
 b_qk:Binds K a.d_qk ["words"] []
 g_qk:mg "read_words" = some (.ref a.f_qk)
 F_ql:Fun K "read_row" "read_row" Yn a.f_ql a.d_ql
 b_ql:Binds K a.d_ql ["row", "first"] []
 g_ql:mg "read_row" = some (.ref a.f_ql)
 F_qm:Fun K "read_program" "read_program" Ym a.f_qm a.d_qm
 b_qm:Binds K a.d_qm ["text"] []
 g_qm:mg "read_program" = some (.ref a.f_qm)
 F_qn:Fun K "_law_digit" "_law_digit" Yl a.f_qn a.d_qn
 b_qn:Binds K a.d_qn ["_law_state", "_law_base"] []
 g_qn:mg "_law_digit" = some (.ref a.f_qn)
 F_qo:Fun K "_law_row" "_law_row" Yk a.f_qo a.d_qo
 b_qo:Binds K a.d_qo ["_law_state", "_law_names"] []
 g_qo:mg "_law_row" = some (.ref a.f_qo)
 F_qp:Fun K "_law_signed" "_law_signed" Yj a.f_qp a.d_qp
 b_qp:Binds K a.d_qp ["_law_state", "_law_rows"] []
 g_qp:mg "_law_signed" = some (.ref a.f_qp)
 F_qq:Fun K "_law_number" "_law_number" Yi a.f_qq a.d_qq
 b_qq:Binds K a.d_qq ["_law_word"] []
 g_qq:mg "_law_number" = some (.ref a.f_qq)
 F_qr:Fun K "_law_parsed" "_law_parsed" Yh a.f_qr a.d_qr
 b_qr:Binds K a.d_qr ["_law_words", "_law_at"] []
 g_qr:mg "_law_parsed" = some (.ref a.f_qr)
 F_qs:Fun K "_law_look" "_law_look" Yg a.f_qs a.d_qs
 b_qs:Binds K a.d_qs ["_law_told", "_law_names", "_law_deep"] []
 g_qs:mg "_law_look" = some (.ref a.f_qs)
 F_qt:Fun K "_law_due" "_law_due" Yf a.f_qt a.d_qt
 b_qt:Binds K a.d_qt ["_law_rows"] []
 g_qt:mg "_law_due" = some (.ref a.f_qt)
 F_qu:Fun K "_law_found" "_law_found" Zv a.f_qu a.d_qu
 b_qu:Binds K a.d_qu ["_law_text"] []
 g_qu:mg "_law_found" = some (.ref a.f_qu)
 F_qv:Fun K "law" "law" Zu a.f_qv a.d_qv
 b_qv:Binds K a.d_qv ["_law_script"] []
 b0_qv:∀ (s:Shared) (u:Value),BindsTo s a.d_qv ⟨[u],[]⟩ [("_law_script",u)]
 g_qv:mg "law" = some (.ref a.f_qv)
 F_qw:Fun K "__init__" "Num.__init__" Ye a.f_qw a.d_qw
 b_qw:Binds K a.d_qw ["self", "value"] []
 F_qx:Fun K "told" "Num.told" Yd a.f_qx a.d_qx
 b_qx:Binds K a.d_qx ["self"] []
 mt_qx:Meth K a.c_Num "told" a.f_qx
 F_qy:Fun K "words" "Num.words" Yc a.f_qy a.d_qy
 b_qy:Binds K a.d_qy ["self"] []
 mt_qy:Meth K a.c_Num "words" a.f_qy
 F_qz:Fun K "__init__" "Name.__init__" Yb a.f_qz a.d_qz
 b_qz:Binds K a.d_qz ["self", "word"] []
 F_qA:Fun K "told" "Name.told" YK a.f_qA a.d_qA
 b_qA:Binds K a.d_qA ["self"] []
 mt_qA:Meth K a.c_Name "told" a.f_qA
 F_qB:Fun K "words" "Name.words" YJ a.f_qB a.d_qB
 b_qB:Binds K a.d_qB ["self"] []
 mt_qB:Meth K a.c_Name "words" a.f_qB
 F_qC:Fun K "__init__" "Two.__init__" YI a.f_qC a.d_qC
 b_qC:Binds K a.d_qC ["self", "word", "one", "other"] []
 F_qD:Fun K "told" "Two.told" YH a.f_qD a.d_qD
 b_qD:Binds K a.d_qD ["self"] []
 mt_qD:Meth K a.c_Two "told" a.f_qD
 F_qE:Fun K "words" "Two.words" YG a.f_qE a.d_qE
 b_qE:Binds K a.d_qE ["self"] []
 mt_qE:Meth K a.c_Two "words" a.f_qE
 F_qF:Fun K "__init__" "Mod.__init__" YF a.f_qF a.d_qF
 b_qF:Binds K a.d_qF ["self", "inner", "number"] []
 F_qG:Fun K "told" "Mod.told" YE a.f_qG a.d_qG
 b_qG:Binds K a.d_qG ["self"] []
 mt_qG:Meth K a.c_Mod "told" a.f_qG
 F_qH:Fun K "words" "Mod.words" YD a.f_qH a.d_qH
 b_qH:Binds K a.d_qH ["self"] []
 mt_qH:Meth K a.c_Mod "words" a.f_qH
 F_qI:Fun K "__init__" "Less.__init__" YC a.f_qI a.d_qI
 b_qI:Binds K a.d_qI ["self", "one", "other", "third", "fourth"] []
 F_qJ:Fun K "told" "Less.told" YB a.f_qJ a.d_qJ
 b_qJ:Binds K a.d_qJ ["self"] []
 mt_qJ:Meth K a.c_Less "told" a.f_qJ
 F_qK:Fun K "words" "Less.words" YA a.f_qK a.d_qK
 b_qK:Binds K a.d_qK ["self"] []
 mt_qK:Meth K a.c_Less "words" a.f_qK
 F_qL:Fun K "__init__" "Program.__init__" Yz a.f_qL a.d_qL
 b_qL:Binds K a.d_qL ["self", "start", "send", "when", "renew"] []
 F_qM:Fun K "__init__" "NoText.__init__" Yy a.f_qM a.d_qM
 b_qM:Binds K a.d_qM ["self", "row"] []
 g_Num:mg "Num" = some (.ref a.c_Num)
 cl_Num:Cls K a.c_Num
 mk_Num:Mk K a.c_Num a.f_qw
 ty_Num:∀ (H:Hp) (p dx:Addr) (fs:List (Str×V)),H p=some (.ins a.c_Num dx fs)→TyOf K H (.ref p) (.ref a.c_Num)
 na_Num_value:NoAttr K a.c_Num "value"
 g_Name:mg "Name" = some (.ref a.c_Name)
 cl_Name:Cls K a.c_Name
 mk_Name:Mk K a.c_Name a.f_qz
 ty_Name:∀ (H:Hp) (p dx:Addr) (fs:List (Str×V)),H p=some (.ins a.c_Name dx fs)→TyOf K H (.ref p) (.ref a.c_Name)
 na_Name_word:NoAttr K a.c_Name "word"
 g_Two:mg "Two" = some (.ref a.c_Two)
 cl_Two:Cls K a.c_Two
 mk_Two:Mk K a.c_Two a.f_qC
 ty_Two:∀ (H:Hp) (p dx:Addr) (fs:List (Str×V)),H p=some (.ins a.c_Two dx fs)→TyOf K H (.ref p) (.ref a.c_Two)
 na_Two_word:NoAttr K a.c_Two "word"
 na_Two_one:NoAttr K a.c_Two "one"
 na_Two_other:NoAttr K a.c_Two "other"
 g_Mod:mg "Mod" = some (.ref a.c_Mod)
 cl_Mod:Cls K a.c_Mod
 mk_Mod:Mk K a.c_Mod a.f_qF
 ty_Mod:∀ (H:Hp) (p dx:Addr) (fs:List (Str×V)),H p=some (.ins a.c_Mod dx fs)→TyOf K H (.ref p) (.ref a.c_Mod)
 na_Mod_inner:NoAttr K a.c_Mod "inner"
 na_Mod_number:NoAttr K a.c_Mod "number"
 g_Less:mg "Less" = some (.ref a.c_Less)
 cl_Less:Cls K a.c_Less
 mk_Less:Mk K a.c_Less a.f_qI
 ty_Less:∀ (H:Hp) (p dx:Addr) (fs:List (Str×V)),H p=some (.ins a.c_Less dx fs)→TyOf K H (.ref p) (.ref a.c_Less)
 na_Less_one:NoAttr K a.c_Less "one"
 na_Less_other:NoAttr K a.c_Less "other"
 na_Less_third:NoAttr K a.c_Less "third"
 na_Less_fourth:NoAttr K a.c_Less "fourth"
 g_Program:mg "Program" = some (.ref a.c_Program)
 cl_Program:Cls K a.c_Program
 mk_Program:Mk K a.c_Program a.f_qL
 ty_Program:∀ (H:Hp) (p dx:Addr) (fs:List (Str×V)),H p=some (.ins a.c_Program dx fs)→TyOf K H (.ref p) (.ref a.c_Program)
 na_Program_start:NoAttr K a.c_Program "start"
 na_Program_send:NoAttr K a.c_Program "send"
 na_Program_when:NoAttr K a.c_Program "when"
 na_Program_renew:NoAttr K a.c_Program "renew"
 k_Num_Num:PySem.W.kitOne K (.ref a.c_Num) (.ref a.c_Num)=some true
 k_Name_Num:PySem.W.kitOne K (.ref a.c_Name) (.ref a.c_Num)=some false
 k_Name_Name:PySem.W.kitOne K (.ref a.c_Name) (.ref a.c_Name)=some true
 k_Two_Num:PySem.W.kitOne K (.ref a.c_Two) (.ref a.c_Num)=some false
 k_Two_Name:PySem.W.kitOne K (.ref a.c_Two) (.ref a.c_Name)=some false
 k_Two_Two:PySem.W.kitOne K (.ref a.c_Two) (.ref a.c_Two)=some true
 k_Mod_Num:PySem.W.kitOne K (.ref a.c_Mod) (.ref a.c_Num)=some false
 k_Mod_Name:PySem.W.kitOne K (.ref a.c_Mod) (.ref a.c_Name)=some false
 k_Mod_Two:PySem.W.kitOne K (.ref a.c_Mod) (.ref a.c_Two)=some false
 k_Mod_Mod:PySem.W.kitOne K (.ref a.c_Mod) (.ref a.c_Mod)=some true
 k_Less_Num:PySem.W.kitOne K (.ref a.c_Less) (.ref a.c_Num)=some false
 k_Less_Name:PySem.W.kitOne K (.ref a.c_Less) (.ref a.c_Name)=some false
 k_Less_Two:PySem.W.kitOne K (.ref a.c_Less) (.ref a.c_Two)=some false
 k_Less_Mod:PySem.W.kitOne K (.ref a.c_Less) (.ref a.c_Mod)=some false
 k_Less_Less:PySem.W.kitOne K (.ref a.c_Less) (.ref a.c_Less)=some true
 k_tint_tint:PySem.W.kitOne K (.type "int") (.type "int")=some true
 k_tint_tbool:PySem.W.kitOne K (.type "int") (.type "bool")=some false
 k_tstr_tstr:PySem.W.kitOne K (.type "str") (.type "str")=some true
 k_ttuple_ttuple:PySem.W.kitOne K (.type "tuple") (.type "tuple")=some true
 k_tint_ttuple:PySem.W.kitOne K (.type "int") (.type "tuple")=some false
 k_tstr_ttuple:PySem.W.kitOne K (.type "str") (.type "tuple")=some false
 k_tint_tstr:PySem.W.kitOne K (.type "int") (.type "str")=some false
 k_tstr_tint:PySem.W.kitOne K (.type "str") (.type "int")=some false
 k_tstr_tbool:PySem.W.kitOne K (.type "str") (.type "bool")=some false
 k_Program_Program:PySem.W.kitOne K (.ref a.c_Program) (.ref a.c_Program)=some true
 g_START_NAMES:mg "START_NAMES" = some (.ref a.t_START_NAMES)
 s_START_NAMES:∀ H:Hp,SqT K H a.t_START_NAMES [V.str "me",V.str "lines"]
 g_SEND_NAMES:mg "SEND_NAMES" = some (.ref a.t_SEND_NAMES)
 s_SEND_NAMES:∀ H:Hp,SqT K H a.t_SEND_NAMES [V.str "worth",V.str "me",V.str "round",V.str "lines",V.str "to"]
 g_RENEW_NAMES:mg "RENEW_NAMES" = some (.ref a.t_RENEW_NAMES)
 s_RENEW_NAMES:∀ H:Hp,SqT K H a.t_RENEW_NAMES [V.str "worth",V.str "me",V.str "round",V.str "lines",V.str "sum",V.str "least",V.str "most",V.str "count"]
 g_TWO_WORDS:mg "TWO_WORDS" = some (.ref a.t_TWO_WORDS)
 s_TWO_WORDS:∀ H:Hp,SqT K H a.t_TWO_WORDS [V.str "add",V.str "sub",V.str "min",V.str "max"]
 g_MOST_WORDS:mg "MOST_WORDS" = some (.int 60 a.t_MOST_WORDS)
 g_MOST_DEEP:mg "MOST_DEEP" = some (.int 8 a.t_MOST_DEEP)
 g_ALL_NAMES:mg "ALL_NAMES" = some (.ref a.t_ALL_NAMES)
 s_ALL_NAMES:∀ H:Hp,SqT K H a.t_ALL_NAMES [V.str "worth",V.str "me",V.str "round",V.str "lines",V.str "to",V.str "sum",V.str "least",V.str "most",V.str "count"]
 g_ROW_WORDS:mg "ROW_WORDS" = some (.ref a.t_ROW_WORDS)
 s_ROW_WORDS:∀ H:Hp,SqT K H a.t_ROW_WORDS [V.str "start",V.str "send",V.str "when",V.str "reckon"]
 g_PARTS:mg "PARTS" = some (.ref a.t_PARTS)
 s_PARTS:STab w K a.t_PARTS [("add",2),("sub",2),("min",2),("max",2),("mod",2),("less",4)]
 g_FIGURES:mg "FIGURES" = some (.str "0123456789" a.t_FIGURES)
 g_NoProgram:mg "NoProgram" = some (.ref a.c_NoProgram)
 xc_NoProgram:XCls K a.c_NoProgram
 g_NoText:mg "NoText" = some (.ref a.c_NoText)
 xn_NoText:Zk K a.c_NoText a.f_qM=true
 xf_NoText:(K.lookup a.f_qM).any (fun o=>o.cls == .type "function")=true
 xk_NoText:PySem.W.keepIn K (.ref a.c_NoText)=true
 xs_NoText:XSet K a.c_NoText
 xt_NoText:PySem.W.takerIn K a.c_NoText "row" = some none
 xg_NoText:XGet K a.c_NoText "row"
 xu_NoProgram_NoText:UZ K a.c_NoProgram a.c_NoText=some false
def Made (a:Ad) (H:Hp):Ex→V→Prop
 |.num i,v=>∃ p dx,v=.ref p∧H p=some (.ins a.c_Num dx [("value",.int i)])
 |.name x,v=>∃ p dx,v=.ref p∧H p=some (.ins a.c_Name dx [("word",.str x)])
 |.two w e f,v=>∃ p dx u1 u2,v=.ref p∧H p=some (.ins a.c_Two dx [("word",.str w),("one",u1),("other",u2)])∧Made a H e u1∧Made a H f u2
 |.mod e n,v=>∃ p dx u1,v=.ref p∧H p=some (.ins a.c_Mod dx [("inner",u1),("number",.int n)])∧Made a H e u1
 |.less e f g h,v=>∃ p dx u1 u2 u3 u4,v=.ref p∧H p=some (.ins a.c_Less dx [("one",u1),("other",u2),("third",u3),("fourth",u4)])∧Made a H e u1∧Made a H f u2∧Made a H g u3∧Made a H h u4
theorem Made.mono {a:Ad}{H H':Hp}(k:∀ b C dx fs,H b=some (.ins C dx fs)→H' b=some (.ins C dx fs)):∀ {e:Ex}{v:V},Made a H e v→Made a H' e v
 |.num _,_,⟨p,dx,e,h⟩=>⟨p,dx,e,k _ _ _ _ h⟩
 |.name _,_,⟨p,dx,e,h⟩=>⟨p,dx,e,k _ _ _ _ h⟩
 |.two _ _ _,_,⟨p,dx,u1,u2,e,h,t1,t2⟩=>⟨p,dx,u1,u2,e,k _ _ _ _ h,t1.mono k,t2.mono k⟩
 |.mod _ _,_,⟨p,dx,u1,e,h,t1⟩=>⟨p,dx,u1,e,k _ _ _ _ h,t1.mono k⟩
 |.less _ _ _ _,_,⟨p,dx,u1,u2,u3,u4,e,h,t1,t2,t3,t4⟩=>⟨p,dx,u1,u2,u3,u4,e,k _ _ _ _ h,t1.mono k,t2.mono k,t3.mono k,t4.mono k⟩
theorem Made.same {a:Ad}{H H':Hp}(k:Same H H'){e:Ex}{v:V}(t:Made a H e v):Made a H' e v:=t.mono fun b C dx fs h=>k b _ h
section
variable {P:Program}{w:World}{K:PySem.W.Frag}{mg:Str→Option Value}{base:Heap}{a:Ad}
def zdV (C:Addr) (x:Str):Sp:=fun vs H Q _=>∃ (p dx:Addr) (v:V),vs=[.ref p,v]∧H p=some (.ins C dx [])∧Q .non (upd H p (.ins C dx [(x,v)]))
def zn2 (C:Addr) (x y:Str):Sp:=fun vs H Q _=>∃ (p dx:Addr) (v u:V),vs=[.ref p,v,u]∧H p=some (.ins C dx [])∧Q .non (upd H p (.ins C dx [(x,v),(y,u)]))
def zn1 (C:Addr) (x y z:Str):Sp:=fun vs H Q _=>∃ (p dx:Addr) (v u t:V),vs=[.ref p,v,u,t]∧H p=some (.ins C dx [])∧Q .non (upd H p (.ins C dx [(x,v),(y,u),(z,t)]))
def zn0 (C:Addr) (x y z o:Str):Sp:=fun vs H Q _=>∃ (p dx:Addr) (v u t r:V),vs=[.ref p,v,u,t,r]∧H p=some (.ins C dx [])∧Q .non (upd H p (.ins C dx [(x,v),(y,u),(z,t),(o,r)]))
theorem uh (T:Txt w K mg a):FnOk P w K mg base CX0 1 a.f_qw a.d_qw ["self", "value"] (zdV a.c_Num "value"):=by
 refine T.F_qw.ok zhD (fun vs H Q E h=>?_) (fun cdv A outer s H vs Q E hr h=>?_)
 ·obtain⟨p,dx,v,rfl,_⟩:=h
  rfl
 ·obtain⟨p,dx,v,rfl,hp,k⟩:=h
  refine zM (zd (zW (w_pv 0) (w_pv 1) rfl)) ?_
  refine⟨_,rfl,_,rfl,p,a.c_Num,dx,_,rfl,hp,T.cl_Num,T.na_Num_value,(by show 0<1000;decide),?_⟩
  exact k
theorem vD (T:Txt w K mg a):FnOk P w K mg base CX0 1 a.f_qz a.d_qz ["self", "word"] (zdV a.c_Name "word"):=by
 refine T.F_qz.ok zhA (fun vs H Q E h=>?_) (fun cdv A outer s H vs Q E hr h=>?_)
 ·obtain⟨p,dx,v,rfl,_⟩:=h
  rfl
 ·obtain⟨p,dx,v,rfl,hp,k⟩:=h
  refine zM (zd (zW (w_pv 0) (w_pv 1) rfl)) ?_
  refine⟨_,rfl,_,rfl,p,a.c_Name,dx,_,rfl,hp,T.cl_Name,T.na_Name_word,(by show 0<1000;decide),?_⟩
  exact k
theorem uf (T:Txt w K mg a):FnOk P w K mg base CX0 1 a.f_qC a.d_qC ["self", "word", "one", "other"] (zn1 a.c_Two "word" "one" "other"):=by
 refine T.F_qC.ok zhW (fun vs H Q E h=>?_) (fun cdv A outer s H vs Q E hr h=>?_)
 ·obtain⟨p,dx,v,u,t,rfl,_⟩:=h
  rfl
 ·obtain⟨p,dx,v,u,t,rfl,hp,k⟩:=h
  refine zM (w_pss_cons (zW (w_pv 0) (w_pv 1) rfl)
   (w_pss_cons (zW (w_pv 0) (w_pv 2) rfl)
   (zd (zW (w_pv 0) (w_pv 3) rfl)))) ?_
  refine⟨_,rfl,_,rfl,p,a.c_Two,dx,_,rfl,hp,T.cl_Two,T.na_Two_word,(by show 0<1000;decide),?_⟩
  refine⟨_,rfl,_,rfl,p,a.c_Two,dx,_,rfl,upd_same,T.cl_Two,T.na_Two_one,(by show 1<1000;decide),?_⟩
  refine⟨_,rfl,_,rfl,p,a.c_Two,dx,_,rfl,upd_same,T.cl_Two,T.na_Two_other,(by show 2<1000;decide),?_⟩
  rw[yu,yu]
  exact k
theorem uj (T:Txt w K mg a):FnOk P w K mg base CX0 1 a.f_qF a.d_qF ["self", "inner", "number"] (zn2 a.c_Mod "inner" "number"):=by
 refine T.F_qF.ok zhT (fun vs H Q E h=>?_) (fun cdv A outer s H vs Q E hr h=>?_)
 ·obtain⟨p,dx,v,u,rfl,_⟩:=h
  rfl
 ·obtain⟨p,dx,v,u,rfl,hp,k⟩:=h
  refine zM (w_pss_cons (zW (w_pv 0) (w_pv 1) rfl)
   (zd (zW (w_pv 0) (w_pv 2) rfl))) ?_
  refine⟨_,rfl,_,rfl,p,a.c_Mod,dx,_,rfl,hp,T.cl_Mod,T.na_Mod_inner,(by show 0<1000;decide),?_⟩
  refine⟨_,rfl,_,rfl,p,a.c_Mod,dx,_,rfl,upd_same,T.cl_Mod,T.na_Mod_number,(by show 1<1000;decide),?_⟩
  rw[yu]
  exact k
theorem vG (T:Txt w K mg a):FnOk P w K mg base CX0 1 a.f_qI a.d_qI ["self", "one", "other", "third", "fourth"] (zn0 a.c_Less "one" "other" "third" "fourth"):=by
 refine T.F_qI.ok zhQ (fun vs H Q E h=>?_) (fun cdv A outer s H vs Q E hr h=>?_)
 ·obtain⟨p,dx,v,u,t,r,rfl,_⟩:=h
  rfl
 ·obtain⟨p,dx,v,u,t,r,rfl,hp,k⟩:=h
  refine zM (w_pss_cons (zW (w_pv 0) (w_pv 1) rfl)
   (w_pss_cons (zW (w_pv 0) (w_pv 2) rfl)
   (w_pss_cons (zW (w_pv 0) (w_pv 3) rfl)
   (zd (zW (w_pv 0) (w_pv 4) rfl))))) ?_
  refine⟨_,rfl,_,rfl,p,a.c_Less,dx,_,rfl,hp,T.cl_Less,T.na_Less_one,(by show 0<1000;decide),?_⟩
  refine⟨_,rfl,_,rfl,p,a.c_Less,dx,_,rfl,upd_same,T.cl_Less,T.na_Less_other,(by show 1<1000;decide),?_⟩
  refine⟨_,rfl,_,rfl,p,a.c_Less,dx,_,rfl,upd_same,T.cl_Less,T.na_Less_third,(by show 2<1000;decide),?_⟩
  refine⟨_,rfl,_,rfl,p,a.c_Less,dx,_,rfl,upd_same,T.cl_Less,T.na_Less_fourth,(by show 3<1000;decide),?_⟩
  rw[yu,yu,yu]
  exact k
end
end K04

namespace K04
open PySem L2
section
variable {P:Program}{w:World}{K:PySem.W.Frag}{mg:Str→Option Value}{base:Heap}{a:Ad}
abbrev WV (e:Ex):Prop:=∃ i,e=.num i
abbrev uY (e:Ex):Prop:=∃ x,e=.name x
abbrev WT (e:Ex):Prop:=∃ w e1 e2,e=.two w e1 e2
abbrev WX (e:Ex):Prop:=∃ e1 n,e=.mod e1 n
abbrev uZ (e:Ex):Prop:=∃ e1 e2 e3 e4,e=.less e1 e2 e3 e4
end
end K04

namespace K04
open PySem L2
section
variable {P:Program}{w:World}{K:PySem.W.Frag}{mg:Str→Option Value}{base:Heap}{a:Ad}
def VZ (K:PySem.W.Frag) (f:V→Bool):Sp:=fun vs H Q _=>∃ v,vs=[v]∧Lf K H v∧Q (.bl (f v)) H
theorem xZ (T:Txt w K mg a):FnOk P w K mg base CX0 1 a.f_qa a.d_qa ["value"] (VZ K whole):=by
 refine T.F_qa.ok zhL (fun vs H Q E h=>?_) (fun cdv A outer s H vs Q E hr h=>?_)
 ·obtain⟨v,rfl,_⟩:=h
  rfl
 ·obtain⟨v,rfl,⟨t,ty,k1,k2,_⟩,k⟩:=h
  refine zM (zd (zj (zZ (w_pe_callB yb (by rfl) T.n_isinstance zx (zf (w_pv 0) (zf (xa T.n_int Zi) za))) (zX (uD (w_pe_callB yb (by rfl) T.n_isinstance zx (zf (w_pv 0) (zf (xa T.n_bool UT) za)))))))) ?_
  rw[Wa] at k
  refine⟨_,rfl,_,_,_,_,_,rfl,rfl,ty,k1,_,rfl,?_⟩
  by_cases q:ziy v=true
  ·rw[q] at k
   exact zP q ⟨_,rfl,_,_,_,_,_,rfl,rfl,ty,k2,_,rfl,k⟩
  ·have q:=Bool.eq_false_iff.mpr q
   rw[q] at k
   exact iteN q k
theorem ud (T:Txt w K mg a):FnOk P w K mg base CX0 2 a.f_qb a.d_qb ["value"] (VZ K uM):=by
 have c_qa:Callee P w K mg base "is_whole" a.f_qa a.d_qa ["value"] 1 (VZ K whole):=⟨xZ T,T.g_qa,T.F_qa.kp,T.b_qa⟩
 refine T.F_qb.ok zhK (fun vs H Q E h=>?_) (fun cdv A outer s H vs Q E hr h=>?_)
 ·obtain⟨v,rfl,_⟩:=h
  rfl
 ·obtain⟨v,rfl,lf,k⟩:=h
  refine zM (zd (zj (zZ (zr c_qa (hr.mono (by omega)) (zf (w_pv 0) za)) (zX (zJ vz (w_pe_callB Vb (by rfl) T.n_abs zdQ (zf (w_pv 0) za)) (zl Xf zb zb) (zp _)))))) ?_
  refine⟨_,rfl,v,rfl,lf,_,rfl,?_⟩
  by_cases q:whole v=true
  ·obtain⟨i,rfl⟩:=vb q
   refine zP q ⟨_,rfl,i,rfl,_,_,rfl,rfl,⟨by decide,by decide,by decide⟩,_,_,rfl,rfl,?_⟩
   rw[zh4]
   exact k
  ·have q:=Bool.eq_false_iff.mpr q
   refine iteN q ?_
   have e:uM v=false:=by cases v<;>first | rfl | simp[whole] at q
   rw[e] at k
   exact k
theorem wM (T:Txt w K mg a):FnOk P w K mg base CX0 2 a.f_qd a.d_qd ["number"] (VZ K UQ):=by
 have c_qa:Callee P w K mg base "is_whole" a.f_qa a.d_qa ["value"] 1 (VZ K whole):=⟨xZ T,T.g_qa,T.F_qa.kp,T.b_qa⟩
 refine T.F_qd.ok zhI (fun vs H Q E h=>?_) (fun cdv A outer s H vs Q E hr h=>?_)
 ·obtain⟨v,rfl,_⟩:=h
  rfl
 ·obtain⟨v,rfl,lf,k⟩:=h
  refine zM (zd (zj (zZ (zr c_qa (hr.mono (by omega)) (zf (w_pv 0) za)) (zZ (zJ op_ge (w_pv 0) zb (zp _)) (zX (zJ zif (w_pv 0) (zl Xf zb zb) (zp _))))))) ?_
  refine⟨_,rfl,v,rfl,lf,_,rfl,?_⟩
  by_cases q:whole v=true
  ·obtain⟨i,rfl⟩:=vb q
   have k':Q (.bl (decide (1≤i)&&decide (i≤1000000000))) H:=k
   refine zP q ⟨_,rfl,_,_,rfl,rfl,_,rfl,?_⟩
   by_cases q1:(1:Int)≤i
   ·refine zP (decide_eq_true q1) ⟨_,rfl,_,_,rfl,rfl,⟨by decide,by decide,by decide⟩,_,_,rfl,rfl,?_⟩
    rw[decide_eq_true q1,Bool.true_and] at k'
    rw[zqh]
    exact k'
   ·refine iteN (decide_eq_false q1) ?_
    rw[decide_eq_false q1,Bool.false_and] at k'
    exact k'
  ·have q:=Bool.eq_false_iff.mpr q
   refine iteN q ?_
   have e:UQ v=false:=by cases v<;>first | rfl | simp[whole] at q
   rw[e] at k
   exact k
def Vj (K:PySem.W.Frag):Sp:=fun vs H Q _=>∃ (v:V) (p:Addr) (ws:List Str),vs=[v,.ref p]∧Lf K H v∧SqT K H p (ws.map V.str)∧Q (.bl (xM ws v)) H
theorem ZB (T:Txt w K mg a):FnOk P w K mg base CX0 1 a.f_qc a.d_qc ["word", "words"] (Vj K):=by
 refine T.F_qc.ok zhJ (fun vs H Q E h=>?_) (fun cdv A outer s H vs Q E hr h=>?_)
 ·obtain⟨v,p,ws,rfl,_⟩:=h
  rfl
 ·obtain⟨v,p,ws,rfl,⟨t,ty,_,_,k3⟩,hp,k⟩:=h
  refine zM (zd (zj (zZ (w_pe_callB yb (by rfl) T.n_isinstance zx (zf (w_pv 0) (zf (xa T.n_str wG) za))) (zX (zJ xh (w_pv 0) (w_pv 1) (by with_unfolding_all rfl)))))) ?_
  refine⟨_,rfl,_,_,_,_,_,rfl,rfl,ty,k3,_,rfl,?_⟩
  by_cases q:zdC v=true
  ·obtain⟨x,rfl⟩:=WU q
   exact zP q ⟨_,rfl,_,rfl,p,_,rfl,.inr hp,rfl,flat_strs ws,k⟩
  ·have q:=Bool.eq_false_iff.mpr q
   refine iteN q ?_
   have e:xM ws v=false:=by cases v<;>first | rfl | simp[zdC] at q
   rw[e] at k
   exact k
end
end K04

namespace K04
open PySem L2
theorem TyOf.same {K:PySem.W.Frag}{H H':Hp}{v:V}{t:Value}(s:Same H H') (h:TyOf K H v t):TyOf K H' v t:=by
 cases h with
 |non=>exact .non
 |bl x=>exact .bl x
 |int i=>exact .int i
 |str x=>exact .str x
 |flt x=>exact .flt x
 |lst e=>exact .lst (s _ _ e)
 |frz e=>exact .frz (s _ _ e)
 |tup e=>exact .tup (s _ _ e)
 |dK e=>exact .dK (s _ _ e)
 |dT e=>exact .dT (s _ _ e)
 |ins e cl ha hn htk hm=>exact .ins (s _ _ e) cl ha hn htk hm
theorem Lf.same {K:PySem.W.Frag}{H H':Hp}{v:V}(s:Same H H') (h:Lf K H v):Lf K H' v:=by
 obtain⟨t,ty,k⟩:=h
 exact⟨t,TyOf.same s ty,k⟩
section
variable {P:Program}{w:World}{K:PySem.W.Frag}{mg:Str→Option Value}{base:Heap}{a:Ad}
def GMade (K:PySem.W.Frag) (a:Ad) (H:Hp):Gx→V→Prop
 |.num v,r=>∃ p dx,r=.ref p∧H p=some (.ins a.c_Num dx [("value",v)])∧Lf K H v
 |.name v,r=>∃ p dx,r=.ref p∧H p=some (.ins a.c_Name dx [("word",v)])∧Lf K H v
 |.two wd e f,r=>∃ p dx u1 u2,r=.ref p∧H p=some (.ins a.c_Two dx [("word",wd),("one",u1),("other",u2)])∧Lf K H wd∧GMade K a H e u1∧GMade K a H f u2
 |.mod e n,r=>∃ p dx u1,r=.ref p∧H p=some (.ins a.c_Mod dx [("inner",u1),("number",n)])∧Lf K H n∧GMade K a H e u1
 |.less e f g h,r=>∃ p dx u1 u2 u3 u4,r=.ref p∧H p=some (.ins a.c_Less dx [("one",u1),("other",u2),("third",u3),("fourth",u4)])∧GMade K a H e u1∧GMade K a H f u2∧GMade K a H g u3∧GMade K a H h u4
 |.oth v,r=>r=v∧∃ t,TyOf K H v t∧PySem.W.kitOne K t (.ref a.c_Num)=some false∧PySem.W.kitOne K t (.ref a.c_Name)=some false∧PySem.W.kitOne K t (.ref a.c_Two)=some false∧PySem.W.kitOne K t (.ref a.c_Mod)=some false∧PySem.W.kitOne K t (.ref a.c_Less)=some false
theorem GMade.same {H H':Hp}(s:Same H H'):∀ {g:Gx}{r:V},GMade K a H g r→GMade K a H' g r
 |.num _,_,⟨p,dx,e,h,l⟩=>⟨p,dx,e,s _ _ h,l.same s⟩
 |.name _,_,⟨p,dx,e,h,l⟩=>⟨p,dx,e,s _ _ h,l.same s⟩
 |.two _ _ _,_,⟨p,dx,u1,u2,e,h,l,t1,t2⟩=>⟨p,dx,u1,u2,e,s _ _ h,l.same s,t1.same s,t2.same s⟩
 |.mod _ _,_,⟨p,dx,u1,e,h,l,t1⟩=>⟨p,dx,u1,e,s _ _ h,l.same s,t1.same s⟩
 |.less _ _ _ _,_,⟨p,dx,u1,u2,u3,u4,e,h,t1,t2,t3,t4⟩=>⟨p,dx,u1,u2,u3,u4,e,s _ _ h,t1.same s,t2.same s,t3.same s,t4.same s⟩
 |.oth _,_,⟨e,t,ty,k⟩=>⟨e,t,TyOf.same s ty,k⟩
theorem VJ (T:Txt w K mg a){H:Hp}(i:Int):Lf K H (.int i):=⟨_,.int i,T.k_tint_tint,T.k_tint_tbool,T.k_tint_tstr⟩
theorem VI (T:Txt w K mg a){H:Hp}(x:Str):Lf K H (.str x):=⟨_,.str x,T.k_tstr_tint,T.k_tstr_tbool,T.k_tstr_tstr⟩
theorem Made.gx (T:Txt w K mg a){H:Hp}:∀ {e:Ex}{r:V},Made a H e r→GMade K a H e.gx r
 |.num i,_,⟨p,dx,e,h⟩=>⟨p,dx,e,h,VJ T i⟩
 |.name x,_,⟨p,dx,e,h⟩=>⟨p,dx,e,h,VI T x⟩
 |.two w _ _,_,⟨p,dx,u1,u2,e,h,t1,t2⟩=>⟨p,dx,u1,u2,e,h,VI T w,t1.gx T,t2.gx T⟩
 |.mod _ n,_,⟨p,dx,u1,e,h,t1⟩=>⟨p,dx,u1,e,h,VJ T n,t1.gx T⟩
 |.less _ _ _ _,_,⟨p,dx,u1,u2,u3,u4,e,h,t1,t2,t3,t4⟩=>⟨p,dx,u1,u2,u3,u4,e,h,t1.gx T,t2.gx T,t3.gx T,t4.gx T⟩
def GMs (K:PySem.W.Frag) (a:Ad) (H:Hp) (rs:List V) (gs:List Gx):Prop:=rs.length=gs.length∧∀ (i:Nat) r,rs[i]?=some r→∃ g,gs[i]?=some g∧GMade K a H g r
def yC (K:PySem.W.Frag) (a:Ad) (n:Nat):Sp:=fun vs H Q _=>∃ (g:Gx) (r:V) (nm:Addr) (names:List Str) (d:Int),vs=[r,.ref nm,.int d]∧GMade K a H g r∧(∀ H,SqT K H nm (names.map V.str))∧0≤d∧d<n∧∀ H',Same H H'→Q (.bl (g.sound names d.toNat)) H'
def V0 (K:PySem.W.Frag) (a:Ad) (n:Nat):Sp:=fun vs H Q _=>∃ (l:Addr) (rs:List V) (gs:List Gx) (nm:Addr) (names:List Str) (d:Int),vs=[.ref l,.ref nm,.int d]∧H l=some (.lst rs)∧GMs K a H rs gs∧(∀ H,SqT K H nm (names.map V.str))∧0≤d∧d<n∧∀ H',Same H H'→Q (.bl (gs.all (Gx.sound names d.toNat))) H'
theorem Vt (T:Txt w K mg a){n:Nat}(I:FnOk P w K mg base CX0 (2*n+1) a.f_qf a.d_qf ["expr", "names", "deep"] (yC K a n)):FnOk P w K mg base CX0 (2*n+2) a.f_qe a.d_qe ["parts", "names", "deep"] (V0 K a n):=by
 have c_qf:Callee P w K mg base "is_sound" a.f_qf a.d_qf ["expr", "names", "deep"] (2*n+1) (yC K a n):=⟨I,T.g_qf,T.F_qf.kp,T.b_qf⟩
 refine T.F_qe.ok sc_qe (fun vs H Q E h=>?_) (fun cdv A outer s H vs Q E hr h=>?_)
 ·obtain⟨l,rs,gs,nm,names,d,rfl,_⟩:=h
  rfl
 ·obtain⟨l,rs,gs,nm,names,d,rfl,hl,⟨hlen,hgm⟩,hn,d0,d1,k⟩:=h
  refine zM (w_pss_cons (zV PassesOwn.never rfl (xP (w_pv 0)) (zv (i:=3) sc_qe.nd rfl (Or.inl rfl))
    (zd (w_ps_if (wH (zT (zr c_qf (hr.mono (by omega)) (zf (w_pv 3) (zf (w_pv 1) (zf (w_pv 2) za))))))
     (zd (zj yS))
     zk)))
   (zd (zj yS))) ?_
  refine⟨_,rfl,l,rfl,⟨_,SqL.of hl⟩,?_⟩
  refine u6 (K:=K) (a:=l) (xs:=rs) (fun i σ H'=>∃ o,σ=[some (.ref l),some (.ref nm),some (.int d),o]∧Same H H'∧(gs.take i).all (Gx.sound names d.toNat)=true) ?_ ?_ ?_ ?_
  ·exact⟨none,rfl,Same.refl H,by simp⟩
  ·rintro i σ H' _ ⟨o,_,sm,_⟩
   exact SqL.of (sm _ _ hl)
  ·rintro i x σ H' hi ⟨o,rfl,sm,ha⟩
   obtain⟨g,hg,gm⟩:=hgm i x hi
   refine⟨_,rfl,_,rfl,_,rfl,g,x,nm,names,d,rfl,gm.same sm,hn,d0,d1,fun H1 s1=>⟨_,rfl,?_⟩⟩
   have hi':i<gs.length:=(List.getElem?_eq_some_iff.mp hg).1
   by_cases q:g.sound names d.toNat=true
   ·refine iteN (by rw[q];rfl) ?_
    refine⟨_,rfl,sm.trans s1,?_⟩
    rw[List.take_add_one,hg,List.all_append,ha]
    simp[q]
   ·have q:=Bool.eq_false_iff.mpr q
    refine zP (by rw[q];rfl) ?_
    have e:gs.all (Gx.sound names d.toNat)=false:=by
     rw[List.all_eq_false]
     exact⟨g,List.mem_of_getElem? hg,by rw[q];simp⟩
    have:=k H1 (sm.trans s1)
    rw[e] at this
    exact this
  ·rintro σ H' ⟨o,rfl,sm,ha⟩
   rw[hlen,List.take_length] at ha
   have:=k H' sm
   rw[ha] at this
   exact this
theorem zpx {H:Hp}{u1 u2:V}{g1 g2:Gx}(h1:GMade K a H g1 u1) (h2:GMade K a H g2 u2):GMs K a H [u1,u2] [g1,g2]:=⟨rfl,fun i r e=>by
 match i,e with
 |0,e=>cases e;exact⟨_,rfl,h1⟩
 |1,e=>cases e;exact⟨_,rfl,h2⟩
 |_+2,e=>simp at e⟩
theorem zqB {H:Hp}{u1 u2 u3 u4:V}{g1 g2 g3 g4:Gx}(h1:GMade K a H g1 u1) (h2:GMade K a H g2 u2) (h3:GMade K a H g3 u3) (h4:GMade K a H g4 u4):GMs K a H [u1,u2,u3,u4] [g1,g2,g3,g4]:=⟨rfl,fun i r e=>by
 match i,e with
 |0,e=>cases e;exact⟨_,rfl,h1⟩
 |1,e=>cases e;exact⟨_,rfl,h2⟩
 |2,e=>cases e;exact⟨_,rfl,h3⟩
 |3,e=>cases e;exact⟨_,rfl,h4⟩
 |_+4,e=>simp at e⟩
theorem uc (T:Txt w K mg a){n:Nat}(I:FnOk P w K mg base CX0 (2*n+1) a.f_qf a.d_qf ["expr", "names", "deep"] (yC K a n)):FnOk P w K mg base CX0 (2*n+3) a.f_qf a.d_qf ["expr", "names", "deep"] (yC K a (n+1)):=by
 have c_qf:Callee P w K mg base "is_sound" a.f_qf a.d_qf ["expr", "names", "deep"] (2*n+1) (yC K a n):=⟨I,T.g_qf,T.F_qf.kp,T.b_qf⟩
 have c_qe:Callee P w K mg base "are_sound" a.f_qe a.d_qe ["parts", "names", "deep"] (2*n+2) (V0 K a n):=⟨Vt T I,T.g_qe,T.F_qe.kp,T.b_qe⟩
 have c_qb:Callee P w K mg base "is_short_number" a.f_qb a.d_qb ["value"] 2 (VZ K uM):=⟨ud T,T.g_qb,T.F_qb.kp,T.b_qb⟩
 have c_qd:Callee P w K mg base "is_divisor" a.f_qd a.d_qd ["number"] 2 (VZ K UQ):=⟨wM T,T.g_qd,T.F_qd.kp,T.b_qd⟩
 have c_qc:Callee P w K mg base "is_word_of" a.f_qc a.d_qc ["word", "words"] 1 (Vj K):=⟨ZB T,T.g_qc,T.F_qc.kp,T.b_qc⟩
 refine T.F_qf.ok zhH (fun vs H Q E h=>?_) (fun cdv A outer s H vs Q E hr h=>?_)
 ·obtain⟨g,r,nm,names,d,rfl,_⟩:=h
  rfl
 ·obtain⟨g,r,nm,names,d,rfl,gm,hn,d0,d1,k⟩:=h
  refine zM (w_pss_cons (w_ps_if (w_pt_cmpR yf (w_pv 2) zb (zp _))
    (zd (zj yS))
    zk)
   (w_pss_cons (w_ps_if (zT (w_pe_callB yb (by rfl) T.n_isinstance zx (zf (w_pv 0) (zf (yI T.g_Num) za))))
    (zd (zj (zr c_qb (hr.mono (by omega)) (zg (zn (w_pv 0) rfl) za))))
    zk)
   (w_pss_cons (w_ps_if (zT (w_pe_callB yb (by rfl) T.n_isinstance zx (zf (w_pv 0) (zf (yI T.g_Name) za))))
    (zd (zj (zr c_qc (hr.mono (by omega)) (zg (zn (w_pv 0) rfl) (zf (w_pv 1) za)))))
    zk)
   (w_pss_cons (w_ps_if (zT (w_pe_callB yb (by rfl) T.n_isinstance zx (zf (w_pv 0) (zf (yI T.g_Two) za))))
    (zd (zj (zZ (zr c_qc (hr.mono (by omega)) (zg (zn (w_pv 0) rfl) (zf (zY (v:=.ref a.t_TWO_WORDS) rfl T.g_TWO_WORDS rfl) za))) (zX (zr c_qe (hr.mono (by omega)) (zg (zo (zg (zn (w_pv 0) rfl) (zg (zn (w_pv 0) rfl) za))) (zf (w_pv 1) (yp (zl xB (w_pv 2) zb) za))))))))
    zk)
   (w_pss_cons (w_ps_if (zT (w_pe_callB yb (by rfl) T.n_isinstance zx (zf (w_pv 0) (zf (yI T.g_Mod) za))))
    (zd (zj (zZ (zr c_qd (hr.mono (by omega)) (zg (zn (w_pv 0) rfl) za)) (zX (zr c_qf (hr.mono (by omega)) (zg (zn (w_pv 0) rfl) (zf (w_pv 1) (yp (zl xB (w_pv 2) zb) za))))))))
    zk)
   (w_pss_cons (w_ps_if (zT (w_pe_callB yb (by rfl) T.n_isinstance zx (zf (w_pv 0) (zf (yI T.g_Less) za))))
    (zd (zj (zr c_qe (hr.mono (by omega)) (zg (zo (zg (zn (w_pv 0) rfl) (zg (zn (w_pv 0) rfl) (zg (zn (w_pv 0) rfl) (zg (zn (w_pv 0) rfl) za))))) (zf (w_pv 1) (yp (zl xB (w_pv 2) zb) za))))))
    zk)
   (zd (zj yS)))))))) ?_
  refine⟨_,rfl,rfl,_,rfl,?_⟩
  refine ite2 (fun q=>?_) (fun q=>?_)
  ·have e:d=0:=by simpa using q
   subst e
   exact k H (Same.refl H)
  have hd:d≠0:=fun e=>q (by subst e;rfl)
  have e1:d.toNat=(d-1).toNat+1:=by omega
  rw[e1] at k
  have b0:0≤d-1:=by omega
  have b1:d-1<n:=by omega
  cases g with
  |num v =>
   obtain⟨p,dx,rfl,hp,lf⟩:=gm
   refine⟨_,rfl,_,_,_,_,_,rfl,rfl,T.ty_Num H p dx _ hp,T.k_Num_Num,_,rfl,wB ?_⟩
   exact⟨_,rfl,p,_,dx,_,_,rfl,hp,T.cl_Num,T.na_Num_value,rfl,v,rfl,lf,k H (Same.refl H)⟩
  |name v =>
   obtain⟨p,dx,rfl,hp,lf⟩:=gm
   refine⟨_,rfl,_,_,_,_,_,rfl,rfl,T.ty_Name H p dx _ hp,T.k_Name_Num,_,rfl,wq ?_⟩
   refine⟨_,rfl,_,_,_,_,_,rfl,rfl,T.ty_Name H p dx _ hp,T.k_Name_Name,_,rfl,wB ?_⟩
   exact⟨_,rfl,p,_,dx,_,_,rfl,hp,T.cl_Name,T.na_Name_word,rfl,_,rfl,v,nm,names,rfl,lf,hn H,k H (Same.refl H)⟩
  |two wd g1 g2 =>
   obtain⟨p,dx,u1,u2,rfl,hp,lf,m1,m2⟩:=gm
   refine⟨_,rfl,_,_,_,_,_,rfl,rfl,T.ty_Two H p dx _ hp,T.k_Two_Num,_,rfl,wq ?_⟩
   refine⟨_,rfl,_,_,_,_,_,rfl,rfl,T.ty_Two H p dx _ hp,T.k_Two_Name,_,rfl,wq ?_⟩
   refine⟨_,rfl,_,_,_,_,_,rfl,rfl,T.ty_Two H p dx _ hp,T.k_Two_Two,_,rfl,wB ?_⟩
   refine⟨_,rfl,p,_,dx,_,_,rfl,hp,T.cl_Two,T.na_Two_word,rfl,wd,_,twoWs,rfl,lf,T.s_TWO_WORDS H,_,rfl,?_⟩
   have k':∀ H',Same H H'→Q (.bl (xM twoWs wd&&([g1,g2].all (Gx.sound names (d-1).toNat)))) H':=k
   by_cases qw:xM twoWs wd=true
   ·rw[qw] at k'
    refine zP qw ?_
    refine⟨_,rfl,p,_,dx,_,_,rfl,hp,T.cl_Two,T.na_Two_one,rfl,_,rfl,p,_,dx,_,_,rfl,hp,T.cl_Two,T.na_Two_other,rfl,(by show 2≤sizeLine;decide),fun lp hlp=>?_⟩
    have s1:=Same.new (o:=HO.lst [u1,u2]) hlp
    exact⟨_,rfl,_,rfl,_,_,rfl,rfl,lp,_,_,nm,names,d-1,rfl,upd_same,zpx (m1.same s1) (m2.same s1),hn,b0,b1,fun H2 s2=>k' H2 (s1.trans s2)⟩
   ·have qw:=Bool.eq_false_iff.mpr qw
    rw[qw] at k'
    exact iteN qw (k' H (Same.refl H))
  |mod g1 v =>
   obtain⟨p,dx,u1,rfl,hp,lf,m1⟩:=gm
   refine⟨_,rfl,_,_,_,_,_,rfl,rfl,T.ty_Mod H p dx _ hp,T.k_Mod_Num,_,rfl,wq ?_⟩
   refine⟨_,rfl,_,_,_,_,_,rfl,rfl,T.ty_Mod H p dx _ hp,T.k_Mod_Name,_,rfl,wq ?_⟩
   refine⟨_,rfl,_,_,_,_,_,rfl,rfl,T.ty_Mod H p dx _ hp,T.k_Mod_Two,_,rfl,wq ?_⟩
   refine⟨_,rfl,_,_,_,_,_,rfl,rfl,T.ty_Mod H p dx _ hp,T.k_Mod_Mod,_,rfl,wB ?_⟩
   refine⟨_,rfl,p,_,dx,_,_,rfl,hp,T.cl_Mod,T.na_Mod_number,rfl,v,rfl,lf,_,rfl,?_⟩
   have k':∀ H',Same H H'→Q (.bl (UQ v&&g1.sound names (d-1).toNat)) H':=k
   by_cases qw:UQ v=true
   ·rw[qw] at k'
    refine zP qw ?_
    exact⟨_,rfl,p,_,dx,_,_,rfl,hp,T.cl_Mod,T.na_Mod_inner,rfl,_,rfl,_,rfl,_,_,rfl,rfl,g1,u1,nm,names,d-1,rfl,m1,hn,b0,b1,k'⟩
   ·have qw:=Bool.eq_false_iff.mpr qw
    rw[qw] at k'
    exact iteN qw (k' H (Same.refl H))
  |less g1 g2 g3 g4 =>
   obtain⟨p,dx,u1,u2,u3,u4,rfl,hp,m1,m2,m3,m4⟩:=gm
   refine⟨_,rfl,_,_,_,_,_,rfl,rfl,T.ty_Less H p dx _ hp,T.k_Less_Num,_,rfl,wq ?_⟩
   refine⟨_,rfl,_,_,_,_,_,rfl,rfl,T.ty_Less H p dx _ hp,T.k_Less_Name,_,rfl,wq ?_⟩
   refine⟨_,rfl,_,_,_,_,_,rfl,rfl,T.ty_Less H p dx _ hp,T.k_Less_Two,_,rfl,wq ?_⟩
   refine⟨_,rfl,_,_,_,_,_,rfl,rfl,T.ty_Less H p dx _ hp,T.k_Less_Mod,_,rfl,wq ?_⟩
   refine⟨_,rfl,_,_,_,_,_,rfl,rfl,T.ty_Less H p dx _ hp,T.k_Less_Less,_,rfl,wB ?_⟩
   refine⟨_,rfl,p,_,dx,_,_,rfl,hp,T.cl_Less,T.na_Less_one,rfl,_,rfl,p,_,dx,_,_,rfl,hp,T.cl_Less,T.na_Less_other,rfl,_,rfl,p,_,dx,_,_,rfl,hp,T.cl_Less,T.na_Less_third,rfl,_,rfl,p,_,dx,_,_,rfl,hp,T.cl_Less,T.na_Less_fourth,rfl,(by show 4≤sizeLine;decide),fun lp hlp=>?_⟩
   have s1:=Same.new (o:=HO.lst [u1,u2,u3,u4]) hlp
   exact⟨_,rfl,_,rfl,_,_,rfl,rfl,lp,_,_,nm,names,d-1,rfl,upd_same,zqB (m1.same s1) (m2.same s1) (m3.same s1) (m4.same s1),hn,b0,b1,fun H2 s2=>k H2 (s1.trans s2)⟩
  |oth v =>
   obtain⟨rfl,t,ty,n1,n2,n3,n4,n5⟩:=gm
   refine⟨_,rfl,_,_,_,_,_,rfl,rfl,ty,n1,_,rfl,wq ?_⟩
   refine⟨_,rfl,_,_,_,_,_,rfl,rfl,ty,n2,_,rfl,wq ?_⟩
   refine⟨_,rfl,_,_,_,_,_,rfl,rfl,ty,n3,_,rfl,wq ?_⟩
   refine⟨_,rfl,_,_,_,_,_,rfl,rfl,ty,n4,_,rfl,wq ?_⟩
   refine⟨_,rfl,_,_,_,_,_,rfl,rfl,ty,n5,_,rfl,wq ?_⟩
   exact k H (Same.refl H)
theorem zcw {k:Nat}:FnOk P w K mg base CX0 k a.f_qf a.d_qf ["expr", "names", "deep"] (yC K a 0) :=
 ⟨fun vs H Q E h=>by
  obtain⟨g,r,nm,names,d,rfl,_⟩:=h
  rfl,fun A outer s H args us vs Q E _ _ _ _ h=>by
  obtain⟨g,r,nm,names,d,_,_,_,d0,d1,_⟩:=h
  exact absurd d1 (by simp;omega)⟩
theorem YT (T:Txt w K mg a):∀ n,FnOk P w K mg base CX0 (2*n+1) a.f_qf a.d_qf ["expr", "names", "deep"] (yC K a n)
 |0=>zcw
 |n+1=>uc T (YT T n)
end
end K04

namespace K04
open PySem L2
theorem Xu {i:Int}(h : -100000000000000000000<i∧i<100000000000000000000):i.natAbs.log2<1920:=by
 by_cases h0:i.natAbs=0
 ·rw[h0];decide
 ·have:=(Nat.log2_lt h0 (k:=67)).mpr (Nat.lt_of_le_of_lt (show i.natAbs≤100000000000000000000 by omega) (by decide))
  omega
section
variable {P:Program}{w:World}{K:PySem.W.Frag}{mg:Str→Option Value}{base:Heap}{a:Ad}
def yj (a:Ad) (n:Nat) (Kd:Ex→Prop):Sp:=fun vs H Q _=>∃ (e:Ex) (r:V) (names:List Str),vs=[r]∧Kd e∧Made a H e r∧e.ok names∧e.dep≤n∧e.size≤sizeLine∧∀ p H',H' p=some (.lst (e.words.map V.str))→Same H H'→Q (.ref p) H'
structure Wordss (P:Program) (w:World) (K:PySem.W.Frag) (mg:Str→Option Value) (base:Heap) (a:Ad) (n:Nat):Prop where
 num:FnOk P w K mg base CX0 (n+1) a.f_qy a.d_qy ["self"] (yj a n WV)
 name:FnOk P w K mg base CX0 (n+1) a.f_qB a.d_qB ["self"] (yj a n uY)
 two:FnOk P w K mg base CX0 (n+1) a.f_qE a.d_qE ["self"] (yj a n WT)
 mod:FnOk P w K mg base CX0 (n+1) a.f_qH a.d_qH ["self"] (yj a n WX)
 less:FnOk P w K mg base CX0 (n+1) a.f_qK a.d_qK ["self"] (yj a n uZ)
theorem Wordss.call {n:Nat}(R:Wordss P w K mg base a n) (T:Txt w K mg a){A:Around}(hr:Room (n+1) A){H:Hp}{e:Ex}{x:V}{names:List Str}(hM:Made a H e x) (ho:e.ok names) (hd:e.dep≤n) (hs:e.size≤sizeLine) :
  ∃ (p C dx:Addr) (fs:List (Str×V)) (f:Addr) (fd:FuncData) (ps:List Str) (k:Nat) (sp:Sp),x=.ref p∧H p=some (.ins C dx fs)∧fs.lookup ("words" : Str)=none∧Cls K C∧Meth K C "words" f∧FnOk P w K mg base CX0 k f fd ps sp∧Room k A∧Binds K fd ps [] ∧
   ∀ Q:VK,(∀ p H',H' p=some (.lst (e.words.map V.str))→Same H H'→Q (.ref p) H')→sp (x::([]++[])) H Q E0:=by
 cases e with
 |num i =>
  obtain⟨p,dx,rfl,hp⟩:=id hM
  exact⟨p,_,dx,_,_,_,_,_,_,rfl,hp,rfl,T.cl_Num,T.mt_qy,R.num,hr,T.b_qy,fun Q q=>⟨_,_,names,rfl,⟨_,rfl⟩,hM,ho,hd,hs,q⟩⟩
 |name i =>
  obtain⟨p,dx,rfl,hp⟩:=id hM
  exact⟨p,_,dx,_,_,_,_,_,_,rfl,hp,rfl,T.cl_Name,T.mt_qB,R.name,hr,T.b_qB,fun Q q=>⟨_,_,names,rfl,⟨_,rfl⟩,hM,ho,hd,hs,q⟩⟩
 |two i e1 e2 =>
  obtain⟨p,dx,u1,u2,rfl,hp,_⟩:=id hM
  exact⟨p,_,dx,_,_,_,_,_,_,rfl,hp,rfl,T.cl_Two,T.mt_qE,R.two,hr,T.b_qE,fun Q q=>⟨_,_,names,rfl,⟨_,_,_,rfl⟩,hM,ho,hd,hs,q⟩⟩
 |mod e1 i =>
  obtain⟨p,dx,u1,rfl,hp,_⟩:=id hM
  exact⟨p,_,dx,_,_,_,_,_,_,rfl,hp,rfl,T.cl_Mod,T.mt_qH,R.mod,hr,T.b_qH,fun Q q=>⟨_,_,names,rfl,⟨_,_,rfl⟩,hM,ho,hd,hs,q⟩⟩
 |less e1 e2 e3 e4 =>
  obtain⟨p,dx,u1,u2,u3,u4,rfl,hp,_⟩:=id hM
  exact⟨p,_,dx,_,_,_,_,_,_,rfl,hp,rfl,T.cl_Less,T.mt_qK,R.less,hr,T.b_qK,fun Q q=>⟨_,_,names,rfl,⟨_,_,_,_,rfl⟩,hM,ho,hd,hs,q⟩⟩
theorem vB (T:Txt w K mg a) (n:Nat):FnOk P w K mg base CX0 (n+1) a.f_qy a.d_qy ["self"] (yj a n WV):=by
 refine T.F_qy.ok zhB (fun vs H Q E h=>?_) (fun cdv A outer s H vs Q E hr h=>?_)
 ·obtain⟨e,r,names,rfl,_⟩:=h
  rfl
 ·obtain⟨e,r,names,rfl,⟨i,rfl⟩,⟨p,dx,rfl,hp⟩,ho,_,_,k⟩:=h
  refine zM (zd (zj (zo (zQ (zO ym (by rfl) T.n_str wG (zg (zn (w_pv 0) rfl) za)) za)))) ?_
  refine⟨_,rfl,p,_,dx,_,_,rfl,hp,T.cl_Num,T.na_Num_value,rfl,i,rfl,Xu ho,(by show 1≤sizeLine;decide),fun q hq=>?_⟩
  exact k _ _ upd_same (Same.new hq)
theorem wN (T:Txt w K mg a) (n:Nat):FnOk P w K mg base CX0 (n+1) a.f_qB a.d_qB ["self"] (yj a n uY):=by
 refine T.F_qB.ok zhX (fun vs H Q E h=>?_) (fun cdv A outer s H vs Q E hr h=>?_)
 ·obtain⟨e,r,names,rfl,_⟩:=h
  rfl
 ·obtain⟨e,r,names,rfl,⟨i,rfl⟩,⟨p,dx,rfl,hp⟩,ho,_,_,k⟩:=h
  refine zM (zd (zj (zo (zg (zn (w_pv 0) rfl) za)))) ?_
  refine⟨_,rfl,p,_,dx,_,_,rfl,hp,T.cl_Name,T.na_Name_word,rfl,(by show 1≤sizeLine;decide),fun q hq=>?_⟩
  exact k _ _ upd_same (Same.new hq)
theorem vA (T:Txt w K mg a){n:Nat}(R:Wordss P w K mg base a n):FnOk P w K mg base CX0 (n+2) a.f_qE a.d_qE ["self"] (yj a (n+1) WT):=by
 refine T.F_qE.ok zhU (fun vs H Q E h=>?_) (fun cdv A outer s H vs Q E hr h=>?_)
 ·obtain⟨e,r,names,rfl,_⟩:=h
  rfl
 ·obtain⟨e,r,names,rfl,⟨wd,e1,e2,rfl⟩,⟨p,dx,u1,u2,rfl,hp,m1,m2⟩,⟨_,o1,o2⟩,hdep,hz,k⟩:=h
  have hdep:max e1.dep e2.dep+1≤n+1:=hdep
  have hz:1+e1.size+e2.size≤sizeLine:=hz
  have l1:=e1.words_len
  have l2:=e2.words_len
  refine zM (zd (zj (zl yl (zl yl (zo (zg (zn (w_pv 0) rfl) za)) (zt (zn (w_pv 0) rfl))) (zt (zn (w_pv 0) rfl))))) ?_
  refine⟨_,rfl,p,_,dx,_,_,rfl,hp,T.cl_Two,T.na_Two_word,rfl,(by show 1≤sizeLine;decide),fun q0 hq0=>?_⟩
  have s0:=Same.new (o:=HO.lst [V.str wd]) hq0
  refine⟨_,rfl,p,_,dx,_,_,rfl,s0 _ _ hp,T.cl_Two,T.na_Two_one,rfl,?_⟩
  obtain⟨p1,c1,x1,f1,f2,f3,f4,f5,f6,q1,q2,q3,q4,q5,q6,q7,q8,q9⟩:=R.call T hr (m1.same s0) o1 (by omega) (by omega)
  refine⟨p1,c1,x1,f1,f2,f3,f4,f5,f6,q1,q2,q3,q4,q5,q6,q7,q8,q9 _ fun w1 H1 t1 s1=>?_⟩
  refine⟨q0,w1,_,_,rfl,rfl,s1 _ _ upd_same,t1,(by simp[l1];omega),fun q2 hq2=>?_⟩
  have s2:=s0.trans (s1.trans (Same.new (o:=HO.lst ([V.str wd]++e1.words.map V.str)) hq2))
  refine⟨_,rfl,p,_,dx,_,_,rfl,s2 _ _ hp,T.cl_Two,T.na_Two_other,rfl,?_⟩
  obtain⟨p1,c1,x1,f1,f2,f3,f4,f5,f6,z1,z2,z3,z4,z5,z6,z7,z8,z9⟩:=R.call T hr (m2.same s2) o2 (by omega) (by omega)
  refine⟨p1,c1,x1,f1,f2,f3,f4,f5,f6,z1,z2,z3,z4,z5,z6,z7,z8,z9 _ fun w2 H2 t2 s3=>?_⟩
  refine⟨q2,w2,_,_,rfl,rfl,s3 _ _ upd_same,t2,(by simp[l1,l2];omega),fun q4 hq4=>?_⟩
  refine k _ _ ?_ (s2.trans (s3.trans (Same.new hq4)))
  rw[upd_same]
  simp[Ex.words]
theorem vE (T:Txt w K mg a){n:Nat}(R:Wordss P w K mg base a n):FnOk P w K mg base CX0 (n+2) a.f_qH a.d_qH ["self"] (yj a (n+1) WX):=by
 refine T.F_qH.ok zhR (fun vs H Q E h=>?_) (fun cdv A outer s H vs Q E hr h=>?_)
 ·obtain⟨e,r,names,rfl,_⟩:=h
  rfl
 ·obtain⟨e,r,names,rfl,⟨e1,i,rfl⟩,⟨p,dx,u1,rfl,hp,m1⟩,⟨⟨i1,i2⟩,o1⟩,hdep,hz,k⟩:=h
  have hdep:e1.dep+1≤n+1:=hdep
  have hz:2+e1.size≤sizeLine:=hz
  have l1:=e1.words_len
  refine zM (zd (zj (zl yl (zl yl (zo (zi ze za)) (zt (zn (w_pv 0) rfl))) (zo (zQ (zO ym (by rfl) T.n_str wG (zg (zn (w_pv 0) rfl) za)) za))))) ?_
  refine⟨by show 1≤sizeLine;decide,fun q0 hq0=>?_⟩
  have s0:=Same.new (o:=HO.lst [V.str "mod"]) hq0
  refine⟨_,rfl,p,_,dx,_,_,rfl,s0 _ _ hp,T.cl_Mod,T.na_Mod_inner,rfl,?_⟩
  obtain⟨p1,c1,x1,f1,f2,f3,f4,f5,f6,q1,q2,q3,q4,q5,q6,q7,q8,q9⟩:=R.call T hr (m1.same s0) o1 (by omega) (by omega)
  refine⟨p1,c1,x1,f1,f2,f3,f4,f5,f6,q1,q2,q3,q4,q5,q6,q7,q8,q9 _ fun w1 H1 t1 s1=>?_⟩
  refine⟨q0,w1,_,_,rfl,rfl,s1 _ _ upd_same,t1,(by simp[l1];omega),fun q2 hq2=>?_⟩
  have s2:=s0.trans (s1.trans (Same.new (o:=HO.lst ([V.str "mod"]++e1.words.map V.str)) hq2))
  refine⟨_,rfl,p,_,dx,_,_,rfl,s2 _ _ hp,T.cl_Mod,T.na_Mod_number,rfl,i,rfl,Xu (by omega),(by show 1≤sizeLine;decide),fun q3 hq3=>?_⟩
  refine⟨q2,q3,_,_,rfl,rfl,(Same.new hq3) _ _ upd_same,upd_same,(by simp[l1];omega),fun q4 hq4=>?_⟩
  refine k _ _ ?_ (s2.trans ((Same.new hq3).trans (Same.new hq4)))
  rw[upd_same]
  simp[Ex.words]
theorem wO (T:Txt w K mg a){n:Nat}(R:Wordss P w K mg base a n):FnOk P w K mg base CX0 (n+2) a.f_qK a.d_qK ["self"] (yj a (n+1) uZ):=by
 refine T.F_qK.ok zhO (fun vs H Q E h=>?_) (fun cdv A outer s H vs Q E hr h=>?_)
 ·obtain⟨e,r,names,rfl,_⟩:=h
  rfl
 ·obtain⟨e,r,names,rfl,⟨e1,e2,e3,e4,rfl⟩,⟨p,dx,u1,u2,u3,u4,rfl,hp,m1,m2,m3,m4⟩,⟨o1,o2,o3,o4⟩,hdep,hz,k⟩:=h
  have hdep:max (max e1.dep e2.dep) (max e3.dep e4.dep)+1≤n+1:=hdep
  have hz:1+e1.size+e2.size+e3.size+e4.size≤sizeLine:=hz
  have l1:=e1.words_len
  have l2:=e2.words_len
  have l3:=e3.words_len
  have l4:=e4.words_len
  refine zM (zd (zj (zl yl (zl yl (zl yl (zl yl (zo (zi ze za)) (zt (zn (w_pv 0) rfl))) (zt (zn (w_pv 0) rfl))) (zt (zn (w_pv 0) rfl))) (zt (zn (w_pv 0) rfl))))) ?_
  refine⟨by show 1≤sizeLine;decide,fun q0 hq0=>?_⟩
  have s0:=Same.new (o:=HO.lst [V.str "less"]) hq0
  refine⟨_,rfl,p,_,dx,_,_,rfl,s0 _ _ hp,T.cl_Less,T.na_Less_one,rfl,?_⟩
  obtain⟨p1,c1,x1,f1,f2,f3,f4,f5,f6,z1,z2,z3,z4,z5,z6,z7,z8,z9⟩:=R.call T hr (m1.same s0) o1 (by omega) (by omega)
  refine⟨p1,c1,x1,f1,f2,f3,f4,f5,f6,z1,z2,z3,z4,z5,z6,z7,z8,z9 _ fun w1 H1 t1 y1=>?_⟩
  refine⟨q0,w1,_,_,rfl,rfl,y1 _ _ upd_same,t1,(by simp[l1,l2,l3,l4];omega),fun q1 hq1=>?_⟩
  have s1:=s0.trans (y1.trans (Same.new (o:=HO.lst ([V.str "less"]++e1.words.map V.str)) hq1))
  refine⟨_,rfl,p,_,dx,_,_,rfl,s1 _ _ hp,T.cl_Less,T.na_Less_other,rfl,?_⟩
  obtain⟨p1,c1,x1,f1,f2,f3,f4,f5,f6,z1,z2,z3,z4,z5,z6,z7,z8,z9⟩:=R.call T hr (m2.same s1) o2 (by omega) (by omega)
  refine⟨p1,c1,x1,f1,f2,f3,f4,f5,f6,z1,z2,z3,z4,z5,z6,z7,z8,z9 _ fun w2 H2 t2 y2=>?_⟩
  refine⟨q1,w2,_,_,rfl,rfl,y2 _ _ upd_same,t2,(by simp[l1,l2,l3,l4];omega),fun q2 hq2=>?_⟩
  have s2:=s1.trans (y2.trans (Same.new (o:=HO.lst (([V.str "less"]++e1.words.map V.str)++e2.words.map V.str)) hq2))
  refine⟨_,rfl,p,_,dx,_,_,rfl,s2 _ _ hp,T.cl_Less,T.na_Less_third,rfl,?_⟩
  obtain⟨p1,c1,x1,f1,f2,f3,f4,f5,f6,z1,z2,z3,z4,z5,z6,z7,z8,z9⟩:=R.call T hr (m3.same s2) o3 (by omega) (by omega)
  refine⟨p1,c1,x1,f1,f2,f3,f4,f5,f6,z1,z2,z3,z4,z5,z6,z7,z8,z9 _ fun w3 H3 t3 y3=>?_⟩
  refine⟨q2,w3,_,_,rfl,rfl,y3 _ _ upd_same,t3,(by simp[l1,l2,l3,l4];omega),fun q3 hq3=>?_⟩
  have s3:=s2.trans (y3.trans (Same.new (o:=HO.lst ((([V.str "less"]++e1.words.map V.str)++e2.words.map V.str)++e3.words.map V.str)) hq3))
  refine⟨_,rfl,p,_,dx,_,_,rfl,s3 _ _ hp,T.cl_Less,T.na_Less_fourth,rfl,?_⟩
  obtain⟨p1,c1,x1,f1,f2,f3,f4,f5,f6,z1,z2,z3,z4,z5,z6,z7,z8,z9⟩:=R.call T hr (m4.same s3) o4 (by omega) (by omega)
  refine⟨p1,c1,x1,f1,f2,f3,f4,f5,f6,z1,z2,z3,z4,z5,z6,z7,z8,z9 _ fun w4 H4 t4 y4=>?_⟩
  refine⟨q3,w4,_,_,rfl,rfl,y4 _ _ upd_same,t4,(by simp[l1,l2,l3,l4];omega),fun q4 hq4=>?_⟩
  refine k _ _ ?_ (s3.trans (y4.trans (Same.new hq4)))
  rw[upd_same]
  simp[Ex.words]
theorem x9 {f:Addr}{fd:FuncData}{ps:List Str}{Kd:Ex→Prop}{k:Nat}(hl:ps.length=1):FnOk P w K mg base CX0 k f fd ps (yj a 0 Kd) :=
 ⟨fun vs H Q E h=>by
  obtain⟨e,r,names,rfl,_⟩:=h
  exact hl.symm,fun A outer s H args us vs Q E _ _ _ _ h=>by
  obtain⟨e,r,names,_,_,_,_,hd,_⟩:=h
  have:=e.dep_pos
  omega⟩
theorem uA (T:Txt w K mg a):∀ n,Wordss P w K mg base a n
 |0=>⟨x9 rfl,x9 rfl,x9 rfl,x9 rfl,x9 rfl⟩
 |n+1=>⟨vB T (n+1),wN T (n+1),vA T (uA T n),vE T (uA T n),wO T (uA T n)⟩
end
end K04

namespace K04
open PySem L2
section
variable {P:Program}{w:World}{K:PySem.W.Frag}{mg:Str→Option Value}{base:Heap}{a:Ad}
def UX (a:Ad) (H:Hp) (n:Nat) (rs:List V) (es:List Ex):Prop:=rs.length=es.length∧∀ (i:Nat) r,rs[i]?=some r→∃ e names,es[i]?=some e∧Made a H e r∧e.ok names∧e.dep≤n∧e.size≤sizeLine
def wr (es:List Ex):List Int:=es.map fun e=>(e.size:Int)
def YS (a:Ad) (n:Nat):Sp:=fun vs H Q _=>∃ (l:Addr) (rs:List V) (es:List Ex),vs=[.ref l]∧H l=some (.lst rs)∧rs.length≤1000∧UX a H n rs es∧∀ H',Same H H'→Q (.int (wr es).sum) H'
theorem WF (T:Txt w K mg a) (n:Nat):FnOk P w K mg base CX0 (n+2) a.f_qg a.d_qg ["exprs"] (YS a n):=by
 have WW:Wordss P w K mg base a n:=uA T n
 refine T.F_qg.ok zhG (fun vs H Q E h=>?_) (fun cdv A outer s H vs Q E hr h=>?_)
 ·obtain⟨l,rs,es,rfl,_⟩:=h
  rfl
 ·obtain⟨l,rs,es,rfl,hl,hz,⟨hlen,hm⟩,k⟩:=h
  refine⟨_,(yU (Vo (wK (XZ rfl) (by rfl) T.n_sum zdP (yw (Xc rfl (N':=["expr"]) (t:=1) (caps:=[]) ⟨rfl,rfl,rfl⟩ (Y8 (pv 0)) (fun _=>(Y9 (i:=0) (show(["expr"]:List Str).Nodup by decide +kernel) rfl (Or.inl rfl))) (fun _=>Y1) (fun _=>(wK call_len_seq (by rfl) T.n_len zU (zn7 (vv (pv 0)) yr)))) yr)))),?_⟩
  refine⟨_,rfl,l,rfl,⟨_,SqL.of hl⟩,fun D hD _=>?_⟩
  refine vS (K:=K) (a:=l) (xs:=rs) (fun i zs τ H'=>∃ o,τ=[o]∧i≤rs.length∧zs=((wr es).take i).map V.int∧H' D=some (.lst zs)∧Same H H') ?_ ?_ ?_ ?_
  ·exact⟨none,rfl,Nat.zero_le _,by simp,upd_same,Same.new hD⟩
  ·rintro i zs τ H' ⟨o,_,_,_,_,sm⟩
   exact SqL.of (sm _ _ hl)
  ·rintro i x zs τ H' hi ⟨o,rfl,_,rfl,hD',sm⟩
   obtain⟨e,names,he,m,ok,dd,sz⟩:=hm i x hi
   have hi':i<rs.length:=(List.getElem?_eq_some_iff.mp hi).1
   refine zdG ?_
   refine⟨_,rfl,?_⟩
   obtain⟨p1,c1,x1,f1,f2,f3,f4,f5,f6,z1,z2,z3,z4,z5,z6,z7,z8,z9⟩:=WW.call T (A:=A.deeper (PyProof.Rows.envOfC "count_words" (defScope Zw) s.heap.objs.size a.f_qg cdv)) hr (m.same sm) ok dd sz
   refine⟨p1,c1,x1,f1,f2,f3,f4,f5,f6,z1,z2,z3,z4,z5,z6,z7,z8,z9 _ fun p H1 t1 s1=>?_⟩
   have ez:(wr es)[i]?=some ((e.size:Nat):Int):=by unfold wr;rw[List.getElem?_map,he];rfl
   refine⟨p,_,rfl,.inl (SqL.of t1),s1 _ _ hD',?_,some x,rfl,hi',?_,upd_same,?_⟩
   ·rw[List.length_map]
    exact small1000 (Nat.le_trans (List.length_take_le _ _) (by omega))
   ·rw[List.take_add_one,ez,List.map_append,List.length_map,e.words_len]
    rfl
   ·have s2:=sm.trans s1
    intro b o e
    have hb:b≠D:=ne_of_none e hD
    rw[upd_ne hb]
    exact s2 b o e
  ·rintro zs τ H' ⟨o,rfl,_,rfl,hD',sm⟩
   have el:(wr es).take rs.length=wr es:=List.take_of_length_le (by unfold wr;rw[List.length_map,hlen];exact Nat.le_refl _)
   rw[el] at hD'
   exact⟨D,wr es,rfl,SqL.of hD',k H' sm⟩
noncomputable abbrev yn:List Str:=["me", "lines"]
noncomputable abbrev z0:List Str:=["worth", "me", "round", "lines", "to"]
noncomputable abbrev renewNs:List Str:=["worth", "me", "round", "lines", "sum", "least", "most", "count"]
theorem GMade.made {H:Hp}:∀ {e:Ex}{r:V},GMade K a H e.gx r→Made a H e r
 |.num i,_,⟨p,dx,e,h,_⟩=>⟨p,dx,e,h⟩
 |.name x,_,⟨p,dx,e,h,_⟩=>⟨p,dx,e,h⟩
 |.two w _ _,_,⟨p,dx,u1,u2,e,h,_,t1,t2⟩=>⟨p,dx,u1,u2,e,h,t1.made,t2.made⟩
 |.mod _ n,_,⟨p,dx,u1,e,h,_,t1⟩=>⟨p,dx,u1,e,h,t1.made⟩
 |.less _ _ _ _,_,⟨p,dx,u1,u2,u3,u4,e,h,t1,t2,t3,t4⟩=>⟨p,dx,u1,u2,u3,u4,e,h,t1.made,t2.made,t3.made,t4.made⟩
def UY (g1 g2 g3 g4:Gx):Prop:=∃ e1 e2 e3 e4:Ex,(g1=e1.gx∧g2=e2.gx∧g3=e3.gx∧g4=e4.gx)∧(e1.ok yn∧e2.ok z0∧e3.ok z0∧e4.ok renewNs)∧(e1.dep≤8∧e2.dep≤8∧e3.dep≤8∧e4.dep≤8)∧e1.size+e2.size+e3.size+e4.size≤60
def YM (K:PySem.W.Frag) (a:Ad):Sp:=fun vs H Q E=>∃ (p dx:Addr) (r1 r2 r3 r4:V) (g1 g2 g3 g4:Gx),vs=[.ref p,r1,r2,r3,r4]∧H p=some (.ins a.c_Program dx [])∧(GMade K a H g1 r1∧GMade K a H g2 r2∧GMade K a H g3 r3∧GMade K a H g4 r4) ∧
 (UY g1 g2 g3 g4→∀ H',Same H H'→Q .non (upd H' p (.ins a.c_Program dx [("start",r1),("send",r2),("when",r3),("renew",r4)])))∧(¬ UY g1 g2 g3 g4→∀ H',Same H H'→E (.ref a.c_NoProgram) none H')
theorem WB (T:Txt w K mg a):FnOk P w K mg base (CX1 P w) 22 a.f_qL a.d_qL ["self", "start", "send", "when", "renew"] (YM K a):=by
 have c_qf:Callee P w K mg base "is_sound" a.f_qf a.d_qf ["expr", "names", "deep"] 19 (yC K a 9):=⟨YT T 9,T.g_qf,T.F_qf.kp,T.b_qf⟩
 have c_qe:Callee P w K mg base "are_sound" a.f_qe a.d_qe ["parts", "names", "deep"] 20 (V0 K a 9):=⟨Vt T (YT T 9),T.g_qe,T.F_qe.kp,T.b_qe⟩
 have c_qg:Callee P w K mg base "count_words" a.f_qg a.d_qg ["exprs"] 10 (YS a 8):=⟨WF T 8,T.g_qg,T.F_qg.kp,T.b_qg⟩
 refine T.F_qL.ok1 zhN (fun vs H Q E h=>?_) (fun cdv A outer s H vs Q E hr h=>?_)
 ·obtain⟨p,dx,r1,r2,r3,r4,g1,g2,g3,g4,rfl,_⟩:=h
  rfl
 ·obtain⟨p,dx,r1,r2,r3,r4,g1,g2,g3,g4,rfl,hp,⟨m1,m2,m3,m4⟩,k,kx⟩:=h
  refine⟨_,(yk (Y4 (uR (uQ (zcX c_qf (hr.mono (by omega)) (ub (pv 1) (ub (yv (v:=.ref a.t_START_NAMES) rfl T.g_START_NAMES rfl) (ub (yv (v:=.int 8) rfl T.g_MOST_DEEP ⟨_,rfl⟩) yr))))))
    (yU (xF hr.hd T.xc_NoProgram T.g_NoProgram (zc1 vt yr)))
    xV)
   (yk (Y4 (uR (uQ (zcX c_qe (hr.mono (by omega)) (yw (Xb (ub (pv 2) (ub (pv 3) yr))) (ub (yv (v:=.ref a.t_SEND_NAMES) rfl T.g_SEND_NAMES rfl) (ub (yv (v:=.int 8) rfl T.g_MOST_DEEP ⟨_,rfl⟩) yr))))))
    (yU (xF hr.hd T.xc_NoProgram T.g_NoProgram (zc1 vt yr)))
    xV)
   (yk (Y4 (uR (uQ (zcX c_qf (hr.mono (by omega)) (ub (pv 4) (ub (yv (v:=.ref a.t_RENEW_NAMES) rfl T.g_RENEW_NAMES rfl) (ub (yv (v:=.int 8) rfl T.g_MOST_DEEP ⟨_,rfl⟩) yr))))))
    (yU (xF hr.hd T.xc_NoProgram T.g_NoProgram (zc1 vt yr)))
    xV)
   (yk (Y4 (Y2 xY (zcX c_qg (hr.mono (by omega)) (yw (Xb (ub (pv 1) (ub (pv 2) (ub (pv 3) (ub (pv 4) yr))))) yr)) (yv (v:=.int 60) rfl T.g_MOST_WORDS ⟨_,rfl⟩) (zp _))
    (yU (xF hr.hd T.xc_NoProgram T.g_NoProgram (zc1 vt yr)))
    xV)
   (yk (vp (pv 0) (pv 1) rfl)
   (yk (vp (pv 0) (pv 2) rfl)
   (yk (vp (pv 0) (pv 3) rfl)
   (yU (vp (pv 0) (pv 4) rfl))))))))),?_⟩
  refine⟨_,rfl,g1,r1,_,yn,8,rfl,m1,T.s_START_NAMES,by decide,by decide,fun H1 s1=>⟨_,rfl,?_⟩⟩
  by_cases q1:g1.sound yn (8:Int).toNat=true
  case neg =>
   refine zP (by rw[Bool.not_eq_true] at q1;rw[q1];rfl) ⟨by show 1≤1000;decide,kx ?_ H1 s1⟩
   rintro⟨e1,e2,e3,e4,⟨rfl,_⟩,⟨o1,_⟩,⟨d1,_⟩,_⟩
   exact q1 (Ex.sound o1 d1)
  refine iteN (by rw[q1];rfl) ?_
  refine⟨_,rfl,_,rfl,(by show 2≤sizeLine;decide),fun lp hlp=>?_⟩
  have s2:=s1.trans (Same.new (o:=HO.lst [r2,r3]) hlp)
  refine⟨lp,_,_,_,z0,8,rfl,upd_same,zpx (m2.same s2) (m3.same s2),T.s_SEND_NAMES,by decide,by decide,fun H3 s3=>⟨_,rfl,?_⟩⟩
  have s3:=s2.trans s3
  by_cases q2:g2.sound z0 (8:Int).toNat=true
  case neg =>
   refine zP (by rw[Bool.not_eq_true] at q2;rw[List.all_cons,q2];rfl) ⟨by show 1≤1000;decide,kx ?_ H3 s3⟩
   rintro⟨e1,e2,e3,e4,⟨_,rfl,_⟩,⟨_,o1,_⟩,⟨_,d1,_⟩,_⟩
   exact q2 (Ex.sound o1 d1)
  by_cases q3:g3.sound z0 (8:Int).toNat=true
  case neg =>
   refine zP (by rw[Bool.not_eq_true] at q3;rw[List.all_cons,List.all_cons,q2,q3];rfl) ⟨by show 1≤1000;decide,kx ?_ H3 s3⟩
   rintro⟨e1,e2,e3,e4,⟨_,_,rfl,_⟩,⟨_,_,o1,_⟩,⟨_,_,d1,_⟩,_⟩
   exact q3 (Ex.sound o1 d1)
  refine iteN (by rw[List.all_cons,List.all_cons,q2,q3];rfl) ?_
  refine⟨_,rfl,g4,r4,_,renewNs,8,rfl,m4.same s3,T.s_RENEW_NAMES,by decide,by decide,fun H4 s4=>⟨_,rfl,?_⟩⟩
  have s4:=s3.trans s4
  by_cases q4:g4.sound renewNs (8:Int).toNat=true
  case neg =>
   refine zP (by rw[Bool.not_eq_true] at q4;rw[q4];rfl) ⟨by show 1≤1000;decide,kx ?_ H4 s4⟩
   rintro⟨e1,e2,e3,e4,⟨_,_,_,rfl⟩,⟨_,_,_,o1⟩,⟨_,_,_,d1⟩,_⟩
   exact q4 (Ex.sound o1 d1)
  refine iteN (by rw[q4];rfl) ?_
  obtain⟨e1,rfl,o1,d1⟩:=Gx.of_sound q1
  obtain⟨e2,rfl,o2,d2⟩:=Gx.of_sound q2
  obtain⟨e3,rfl,o3,d3⟩:=Gx.of_sound q3
  obtain⟨e4,rfl,o4,d4⟩:=Gx.of_sound q4
  have m1:=m1.made
  have m2:=m2.made
  have m3:=m3.made
  have m4:=m4.made
  refine⟨_,rfl,_,rfl,_,rfl,_,rfl,(by show 4≤sizeLine;decide),fun lq hlq=>?_⟩
  have s5:=s4.trans (Same.new (o:=HO.lst [r1,r2,r3,r4]) hlq)
  refine⟨lq,_,[e1,e2,e3,e4],rfl,upd_same,by simp,⟨rfl,fun i r hi=>?_⟩,fun H6 s6=>⟨_,_,rfl,rfl,_,rfl,?_⟩⟩
  ·match i,hi with
   |0,hi=>cases hi;exact⟨e1,_,rfl,m1.same s5,o1,d1,Ex.size_line d1⟩
   |1,hi=>cases hi;exact⟨e2,_,rfl,m2.same s5,o2,d2,Ex.size_line d2⟩
   |2,hi=>cases hi;exact⟨e3,_,rfl,m3.same s5,o3,d3,Ex.size_line d3⟩
   |3,hi=>cases hi;exact⟨e4,_,rfl,m4.same s5,o4,d4,Ex.size_line d4⟩
   |_+4,hi=>simp at hi
  have s6:=s5.trans s6
  have es:(wr [e1,e2,e3,e4]).sum=(e1.size+e2.size+e3.size+e4.size:Nat):=by
   simp[wr]
   omega
  rw[es]
  by_cases hz:e1.size+e2.size+e3.size+e4.size≤60
  case neg =>
   refine zP (decide_eq_true (by show((e1.size+e2.size+e3.size+e4.size:Nat):Int)>60;omega)) ⟨by show 1≤1000;decide,kx ?_ H6 s6⟩
   rintro⟨f1,f2,f3,f4,⟨h1,h2,h3,h4⟩,_,_,z⟩
   cases Ex.gx_inj h1
   cases Ex.gx_inj h2
   cases Ex.gx_inj h3
   cases Ex.gx_inj h4
   exact hz z
  refine iteN (decide_eq_false (by show ¬ ((e1.size+e2.size+e3.size+e4.size:Nat):Int)>60;omega)) ?_
  refine⟨_,rfl,_,rfl,p,a.c_Program,dx,_,rfl,s6 _ _ hp,T.cl_Program,T.na_Program_start,(by show 0<1000;decide),?_⟩
  refine⟨_,rfl,_,rfl,p,a.c_Program,dx,_,rfl,upd_same,T.cl_Program,T.na_Program_send,(by show 1<1000;decide),?_⟩
  refine⟨_,rfl,_,rfl,p,a.c_Program,dx,_,rfl,upd_same,T.cl_Program,T.na_Program_when,(by show 2<1000;decide),?_⟩
  refine⟨_,rfl,_,rfl,p,a.c_Program,dx,_,rfl,upd_same,T.cl_Program,T.na_Program_renew,(by show 3<1000;decide),?_⟩
  rw[yu,yu,yu]
  exact k ⟨e1,e2,e3,e4,⟨rfl,rfl,rfl,rfl⟩,⟨o1,o2,o3,o4⟩,⟨d1,d2,d3,d4⟩,hz⟩ H6 s6
end
end K04

namespace K04
open PySem L2
theorem zpA {x:V}{xs:List V}:Zd (x::xs) (some 1) none=xs:=by
 have h1:HT.sIx (x::xs).length 0 (some 1)=1:=by
  unfold HT.sIx
  simp
 have h2:HT.sIx (x::xs).length (x::xs).length none=xs.length+1:=rfl
 unfold Zd
 rw[h1,h2]
 simp
theorem at0 {x:V}{xs:List V}:atI (x::xs) 0=some x:=by
 unfold atI ixN
 simp
section
variable {P:Program}{w:World}{K:PySem.W.Frag}{mg:Str→Option Value}{base:Heap}{a:Ad}
def yB (a:Ad) (n:Nat) (Kd:Ex→Prop):Sp:=fun vs H Q _=>∃ (e:Ex) (r:V),vs=[r]∧Kd e∧Made a H e r∧e.dep≤n∧∀ v H',Told H' e v→Same H H'→Q v H'
structure Tolds (P:Program) (w:World) (K:PySem.W.Frag) (mg:Str→Option Value) (base:Heap) (a:Ad) (n:Nat):Prop where
 num:FnOk P w K mg base CX0 (n+1) a.f_qx a.d_qx ["self"] (yB a n WV)
 name:FnOk P w K mg base CX0 (n+1) a.f_qA a.d_qA ["self"] (yB a n uY)
 two:FnOk P w K mg base CX0 (n+1) a.f_qD a.d_qD ["self"] (yB a n WT)
 mod:FnOk P w K mg base CX0 (n+1) a.f_qG a.d_qG ["self"] (yB a n WX)
 less:FnOk P w K mg base CX0 (n+1) a.f_qJ a.d_qJ ["self"] (yB a n uZ)
theorem Tolds.call {n:Nat}(R:Tolds P w K mg base a n) (T:Txt w K mg a){A:Around}(hr:Room (n+1) A){H:Hp}{e:Ex}{x:V}(hM:Made a H e x) (hd:e.dep≤n) :
  ∃ (p C dx:Addr) (fs:List (Str×V)) (f:Addr) (fd:FuncData) (ps:List Str) (k:Nat) (sp:Sp),x=.ref p∧H p=some (.ins C dx fs)∧fs.lookup ("told" : Str)=none∧Cls K C∧Meth K C "told" f∧FnOk P w K mg base CX0 k f fd ps sp∧Room k A∧Binds K fd ps [] ∧
   ∀ Q:VK,(∀ v H',Told H' e v→Same H H'→Q v H')→sp (x::([]++[])) H Q E0:=by
 cases e with
 |num i =>
  obtain⟨p,dx,rfl,hp⟩:=id hM
  exact⟨p,_,dx,_,_,_,_,_,_,rfl,hp,rfl,T.cl_Num,T.mt_qx,R.num,hr,T.b_qx,fun Q q=>⟨_,_,rfl,⟨_,rfl⟩,hM,hd,q⟩⟩
 |name i =>
  obtain⟨p,dx,rfl,hp⟩:=id hM
  exact⟨p,_,dx,_,_,_,_,_,_,rfl,hp,rfl,T.cl_Name,T.mt_qA,R.name,hr,T.b_qA,fun Q q=>⟨_,_,rfl,⟨_,rfl⟩,hM,hd,q⟩⟩
 |two i e1 e2 =>
  obtain⟨p,dx,u1,u2,rfl,hp,_⟩:=id hM
  exact⟨p,_,dx,_,_,_,_,_,_,rfl,hp,rfl,T.cl_Two,T.mt_qD,R.two,hr,T.b_qD,fun Q q=>⟨_,_,rfl,⟨_,_,_,rfl⟩,hM,hd,q⟩⟩
 |mod e1 i =>
  obtain⟨p,dx,u1,rfl,hp,_⟩:=id hM
  exact⟨p,_,dx,_,_,_,_,_,_,rfl,hp,rfl,T.cl_Mod,T.mt_qG,R.mod,hr,T.b_qG,fun Q q=>⟨_,_,rfl,⟨_,_,rfl⟩,hM,hd,q⟩⟩
 |less e1 e2 e3 e4 =>
  obtain⟨p,dx,u1,u2,u3,u4,rfl,hp,_⟩:=id hM
  exact⟨p,_,dx,_,_,_,_,_,_,rfl,hp,rfl,T.cl_Less,T.mt_qJ,R.less,hr,T.b_qJ,fun Q q=>⟨_,_,rfl,⟨_,_,_,_,rfl⟩,hM,hd,q⟩⟩
theorem ug (T:Txt w K mg a) (n:Nat):FnOk P w K mg base CX0 (n+1) a.f_qx a.d_qx ["self"] (yB a n WV):=by
 refine T.F_qx.ok zhC (fun vs H Q E h=>?_) (fun cdv A outer s H vs Q E hr h=>?_)
 ·obtain⟨e,r,rfl,_⟩:=h
  rfl
 ·obtain⟨e,r,rfl,⟨i,rfl⟩,⟨p,dx,rfl,hp⟩,_,k⟩:=h
  refine zM (zd (zj (zC (zi ze (zg (zn (w_pv 0) rfl) za))))) ?_
  refine⟨_,rfl,p,_,dx,_,_,rfl,hp,T.cl_Num,T.na_Num_value,rfl,(by show 2≤sizeLine;decide),fun q hq=>?_⟩
  exact k _ _ ⟨q,rfl,upd_same⟩ (Same.new hq)
theorem vC (T:Txt w K mg a) (n:Nat):FnOk P w K mg base CX0 (n+1) a.f_qA a.d_qA ["self"] (yB a n uY):=by
 refine T.F_qA.ok zhY (fun vs H Q E h=>?_) (fun cdv A outer s H vs Q E hr h=>?_)
 ·obtain⟨e,r,rfl,_⟩:=h
  rfl
 ·obtain⟨e,r,rfl,⟨i,rfl⟩,⟨p,dx,rfl,hp⟩,_,k⟩:=h
  refine zM (zd (zj (zC (zi ze (zg (zn (w_pv 0) rfl) za))))) ?_
  refine⟨_,rfl,p,_,dx,_,_,rfl,hp,T.cl_Name,T.na_Name_word,rfl,(by show 2≤sizeLine;decide),fun q hq=>?_⟩
  exact k _ _ ⟨q,rfl,upd_same⟩ (Same.new hq)
theorem ue (T:Txt w K mg a){n:Nat}(R:Tolds P w K mg base a n):FnOk P w K mg base CX0 (n+2) a.f_qD a.d_qD ["self"] (yB a (n+1) WT):=by
 refine T.F_qD.ok zhV (fun vs H Q E h=>?_) (fun cdv A outer s H vs Q E hr h=>?_)
 ·obtain⟨e,r,rfl,_⟩:=h
  rfl
 ·obtain⟨e,r,rfl,⟨wd,e1,e2,rfl⟩,⟨p,dx,u1,u2,rfl,hp,m1,m2⟩,hdep,k⟩:=h
  have hdep:max e1.dep e2.dep+1≤n+1:=hdep
  refine zM (zd (zj (zC (zg (zn (w_pv 0) rfl) (zQ (zt (zn (w_pv 0) rfl)) (zQ (zt (zn (w_pv 0) rfl)) za)))))) ?_
  refine⟨_,rfl,p,_,dx,_,_,rfl,hp,T.cl_Two,T.na_Two_word,rfl,?_⟩
  refine⟨_,rfl,p,_,dx,_,_,rfl,hp,T.cl_Two,T.na_Two_one,rfl,?_⟩
  obtain⟨p1,c1,x1,f1,f2,f3,f4,f5,f6,q1,q2,q3,q4,q5,q6,q7,q8,q9⟩:=R.call T hr m1 (by omega)
  refine⟨p1,c1,x1,f1,f2,f3,f4,f5,f6,q1,q2,q3,q4,q5,q6,q7,q8,q9 _ fun v1 H1 t1 s1=>?_⟩
  refine⟨_,rfl,p,_,dx,_,_,rfl,s1 _ _ hp,T.cl_Two,T.na_Two_other,rfl,?_⟩
  obtain⟨p1,c1,x1,f1,f2,f3,f4,f5,f6,q1,q2,q3,q4,q5,q6,q7,q8,q9⟩:=R.call T hr (m2.same s1) (by omega)
  refine⟨p1,c1,x1,f1,f2,f3,f4,f5,f6,q1,q2,q3,q4,q5,q6,q7,q8,q9 _ fun v2 H2 t2 s2=>?_⟩
  refine⟨by show 3≤sizeLine;decide,fun q hq=>?_⟩
  exact k _ _ ⟨q,v1,v2,rfl,upd_same,t1.same (s2.trans (Same.new hq)),t2.same (Same.new hq)⟩ ((s1.trans s2).trans (Same.new hq))
theorem ui (T:Txt w K mg a){n:Nat}(R:Tolds P w K mg base a n):FnOk P w K mg base CX0 (n+2) a.f_qG a.d_qG ["self"] (yB a (n+1) WX):=by
 refine T.F_qG.ok zhS (fun vs H Q E h=>?_) (fun cdv A outer s H vs Q E hr h=>?_)
 ·obtain⟨e,r,rfl,_⟩:=h
  rfl
 ·obtain⟨e,r,rfl,⟨e1,i,rfl⟩,⟨p,dx,u1,rfl,hp,m1⟩,hdep,k⟩:=h
  have hdep:e1.dep+1≤n+1:=hdep
  refine zM (zd (zj (zC (zi ze (zQ (zt (zn (w_pv 0) rfl)) (zg (zn (w_pv 0) rfl) za)))))) ?_
  refine⟨_,rfl,p,_,dx,_,_,rfl,hp,T.cl_Mod,T.na_Mod_inner,rfl,?_⟩
  obtain⟨p1,c1,x1,f1,f2,f3,f4,f5,f6,q1,q2,q3,q4,q5,q6,q7,q8,q9⟩:=R.call T hr m1 (by omega)
  refine⟨p1,c1,x1,f1,f2,f3,f4,f5,f6,q1,q2,q3,q4,q5,q6,q7,q8,q9 _ fun v1 H1 t1 s1=>?_⟩
  refine⟨_,rfl,p,_,dx,_,_,rfl,s1 _ _ hp,T.cl_Mod,T.na_Mod_number,rfl,(by show 3≤sizeLine;decide),fun q hq=>?_⟩
  exact k _ _ ⟨q,v1,rfl,upd_same,t1.same (Same.new hq)⟩ (s1.trans (Same.new hq))
theorem vF (T:Txt w K mg a){n:Nat}(R:Tolds P w K mg base a n):FnOk P w K mg base CX0 (n+2) a.f_qJ a.d_qJ ["self"] (yB a (n+1) uZ):=by
 refine T.F_qJ.ok zhP (fun vs H Q E h=>?_) (fun cdv A outer s H vs Q E hr h=>?_)
 ·obtain⟨e,r,rfl,_⟩:=h
  rfl
 ·obtain⟨e,r,rfl,⟨e1,e2,e3,e4,rfl⟩,⟨p,dx,u1,u2,u3,u4,rfl,hp,m1,m2,m3,m4⟩,hdep,k⟩:=h
  have hdep:max (max e1.dep e2.dep) (max e3.dep e4.dep)+1≤n+1:=hdep
  refine zM (zd (zj (zC (zi ze (zQ (zt (zn (w_pv 0) rfl)) (zQ (zt (zn (w_pv 0) rfl)) (zQ (zt (zn (w_pv 0) rfl)) (zQ (zt (zn (w_pv 0) rfl)) za)))))))) ?_
  refine⟨_,rfl,p,_,dx,_,_,rfl,hp,T.cl_Less,T.na_Less_one,rfl,?_⟩
  obtain⟨p1,c1,x1,f1,f2,f3,f4,f5,f6,q1,q2,q3,q4,q5,q6,q7,q8,q9⟩:=R.call T hr m1 (by omega)
  refine⟨p1,c1,x1,f1,f2,f3,f4,f5,f6,q1,q2,q3,q4,q5,q6,q7,q8,q9 _ fun v1 H1 t1 s1=>?_⟩
  refine⟨_,rfl,p,_,dx,_,_,rfl,s1 _ _ hp,T.cl_Less,T.na_Less_other,rfl,?_⟩
  obtain⟨p1,c1,x1,f1,f2,f3,f4,f5,f6,q1,q2,q3,q4,q5,q6,q7,q8,q9⟩:=R.call T hr (m2.same s1) (by omega)
  refine⟨p1,c1,x1,f1,f2,f3,f4,f5,f6,q1,q2,q3,q4,q5,q6,q7,q8,q9 _ fun v2 H2 t2 s2=>?_⟩
  have s12:=s1.trans s2
  refine⟨_,rfl,p,_,dx,_,_,rfl,s12 _ _ hp,T.cl_Less,T.na_Less_third,rfl,?_⟩
  obtain⟨p1,c1,x1,f1,f2,f3,f4,f5,f6,q1,q2,q3,q4,q5,q6,q7,q8,q9⟩:=R.call T hr (m3.same s12) (by omega)
  refine⟨p1,c1,x1,f1,f2,f3,f4,f5,f6,q1,q2,q3,q4,q5,q6,q7,q8,q9 _ fun v3 H3 t3 s3=>?_⟩
  have s123:=s12.trans s3
  refine⟨_,rfl,p,_,dx,_,_,rfl,s123 _ _ hp,T.cl_Less,T.na_Less_fourth,rfl,?_⟩
  obtain⟨p1,c1,x1,f1,f2,f3,f4,f5,f6,q1,q2,q3,q4,q5,q6,q7,q8,q9⟩:=R.call T hr (m4.same s123) (by omega)
  refine⟨p1,c1,x1,f1,f2,f3,f4,f5,f6,q1,q2,q3,q4,q5,q6,q7,q8,q9 _ fun v4 H4 t4 s4=>?_⟩
  refine⟨by show 5≤sizeLine;decide,fun q hq=>?_⟩
  have s5:=Same.new (o:=HO.tup [V.str "less",v1,v2,v3,v4]) hq
  exact k _ _ ⟨q,v1,v2,v3,v4,rfl,upd_same,t1.same (s2.trans (s3.trans (s4.trans s5))),t2.same (s3.trans (s4.trans s5)),t3.same (s4.trans s5),t4.same s5⟩ (s123.trans (s4.trans s5))
theorem wa {f:Addr}{fd:FuncData}{ps:List Str}{Kd:Ex→Prop}{k:Nat}(hl:ps.length=1):FnOk P w K mg base CX0 k f fd ps (yB a 0 Kd) :=
 ⟨fun vs H Q E h=>by
  obtain⟨e,r,rfl,_⟩:=h
  exact hl.symm,fun A outer s H args us vs Q E _ _ _ _ h=>by
  obtain⟨e,r,_,_,_,hd,_⟩:=h
  have:=e.dep_pos
  omega⟩
theorem Wh (T:Txt w K mg a):∀ n,Tolds P w K mg base a n
 |0=>⟨wa rfl,wa rfl,wa rfl,wa rfl,wa rfl⟩
 |n+1=>⟨ug T (n+1),vC T (n+1),ue T (Wh T n),ui T (Wh T n),vF T (Wh T n)⟩
end
end K04

namespace K04
open PySem L2
theorem dec_str {x y:Str}:decide (V.str x=V.str y)=decide (x=y):=by
 by_cases h:x=y
 ·rw[decide_eq_true h,decide_eq_true (by rw[h])]
 ·rw[decide_eq_false h,decide_eq_false (by intro z;exact h (V.str.inj z))]
section
variable {P:Program}{w:World}{K:PySem.W.Frag}{mg:Str→Option Value}{base:Heap}{a:Ad}
def Asc (x:Str):Prop:=x.cps.all (· < 128)=true∧x.length≤sizeLine
theorem X3 {x:Str}(h:∀ c∈x.cps.toList,c<128):x.cps.all (· < 128)=true:=by
 rw[← Array.all_toList,List.all_eq_true]
 intro c hc
 exact decide_eq_true (h c hc)
theorem Asc.mem {x:Str}(h:Asc x):∀ c∈x.cps.toList,c<128:=fun c hc=>by
 have:=h.1
 rw[← Array.all_toList,List.all_eq_true] at this
 exact of_decide_eq_true (this c hc)
theorem Zj {x:Str}(h:Asc x):Asc (zu x):=by
 unfold zu
 by_cases q:Txt.startswith x "-" = true
 ·rw[if_pos q]
  refine⟨X3 fun c hc=>?_,Nat.le_trans (Txt.slice_le x _ _) h.2⟩
  rw[xl,yq,decide_eq_true_eq] at q
  cases e:x.cps.toList with
  |nil=>rw[e] at q;cases q
  |cons d r =>
   rw[yT e] at hc
   exact h.mem c (by rw[e];exact List.mem_cons_of_mem _ hc)
 ·rw[if_neg q];exact h
def YQ:Sp:=fun vs H Q _=>∃ x,vs=[.str x]∧Asc x∧Q (.bl (yE x)) H
theorem WD (T:Txt w K mg a):FnOk P w K mg base CX0 1 a.f_qh a.d_qh ["word"] YQ:=by
 refine T.F_qh.ok sc_qh (fun vs H Q E h=>?_) (fun cdv A outer s H vs Q E hr h=>?_)
 ·obtain⟨x,rfl,_⟩:=h
  rfl
 ·obtain⟨x,rfl,ha,k⟩:=h
  refine zM (zD (zh (i:=1) sc_qh.nd rfl (Or.inl rfl) (yo (zT (zH PySem.F.plainAttrs_str PySem.F.slot_str_startswith PySem.F.type_str_startswith xj (w_pv 0) (zi ze za))) (zy xT (w_pv 0) (zE zb) zF) (w_pv 0)))
   (w_pss_cons (zV PassesOwn.never rfl (uC (w_pv 1)) (zv (i:=2) sc_qh.nd rfl (Or.inl rfl))
    (zd (w_ps_if (w_pt_cmpR vx (w_pv 2) (zY (v:=.str "0123456789") rfl T.g_FIGURES ⟨_,rfl⟩) (by with_unfolding_all rfl))
     (zd (zj yS))
     zk)))
   (zd (zj (zZ (zJ Xh (w_pv 1) ze (zp _)) (zX (VP (zJ yf (w_pv 0) ze (zp _)) (zX (uD (zH PySem.F.plainAttrs_str PySem.F.slot_str_startswith PySem.F.type_str_startswith xj (w_pv 1) (zi ze za))))))))))) ?_
  refine⟨fun σ' H'=>σ'=[some (.str x),some (.str (zu x)),none]∧H'=H,?_,?_⟩
  ·refine⟨_,rfl,rfl,_,_,rfl,rfl,_,rfl,?_⟩
   by_cases q:Txt.startswith x "-" = true
   ·refine zP q ⟨_,rfl,_,rfl,x,rfl,ha.2,?_⟩
    rw[show Txt.slice x (some 1) none=zu x by unfold zu;rw[if_pos q]]
    exact⟨rfl,rfl⟩
   ·refine iteN (Bool.eq_false_iff.mpr q) ⟨_,rfl,?_⟩
    refine⟨?_,rfl⟩
    unfold zu
    rw[if_neg q]
    rfl
  rintro σ' H' ⟨rfl,rfl⟩
  generalize hf:zu x=f
  have haf:Asc f:=hf ▸ Zj ha
  refine⟨_,rfl,f,rfl,haf.1,?_⟩
  refine UM (x:=f) (fun i σ H2=>∃ o,σ=[some (.str x),some (.str f),o]∧H2=H'∧(f.cps.toList.take i).all vL=true) ?_ ?_ ?_
  ·exact⟨none,rfl,rfl,by simp⟩
  ·rintro i c σ H2 hc ⟨o,rfl,rfl,hall⟩
   refine⟨_,rfl,_,_,rfl,rfl,_,rfl,?_⟩
   rw[contains_one]
   by_cases q:vL c=true
   ·refine iteN (by show(!(decide (c∈_)))=false;rw[show decide _=true from q];rfl) ?_
    refine⟨_,rfl,rfl,?_⟩
    rw[List.take_add_one,hc,List.all_append,hall]
    simp[q]
   ·refine zP (by show(!(decide (c∈_)))=true;rw[show decide _=false from Bool.eq_false_iff.mpr q];rfl) ?_
    have e:yE x=false:=by
     unfold yE
     rw[hf]
     have:f.cps.toList.all vL=false:=List.all_eq_false.mpr ⟨c,List.mem_of_getElem? hc,q⟩
     rw[this];rfl
    rw[e] at k
    exact k
  ·rintro σ H2 ⟨o,rfl,rfl,hall⟩
   rw[List.take_length] at hall
   have e:yE x=v6 x:=by
    unfold yE
    rw[hf,hall];rfl
   rw[e] at k
   unfold v6 at k
   rw[hf] at k
   refine⟨_,rfl,rfl,_,rfl,?_⟩
   by_cases q:f = ""
   ·refine iteN (by rw[dec_str,decide_eq_true q];rfl) ?_
    rw[decide_eq_false (by simpa using q)] at k
    exact k
   ·refine zP (by rw[dec_str,decide_eq_false q];rfl) ?_
    rw[decide_eq_true q,Bool.true_and] at k
    refine⟨_,rfl,rfl,_,rfl,?_⟩
    rw[dec_str]
    by_cases q0:x = "0"
    ·refine zP (decide_eq_true q0) ?_
     rw[decide_eq_true q0] at k
     exact k
    ·refine iteN (decide_eq_false q0) ⟨_,rfl,rfl,_,_,rfl,rfl,_,rfl,?_⟩
     rw[decide_eq_false q0] at k
     exact k
def YO:Sp:=fun vs H Q _=>∃ x,vs=[.str x]∧x.length≤sizeLine∧yE x=true∧Q (.int (ZC x)) H
theorem WC (T:Txt w K mg a):FnOk P w K mg base CX0 1 a.f_qi a.d_qi ["word"] YO:=by
 refine T.F_qi.ok zhF (fun vs H Q E h=>?_) (fun cdv A outer s H vs Q E hr h=>?_)
 ·obtain⟨x,rfl,_⟩:=h
  rfl
 ·obtain⟨x,rfl,hz,hn,k⟩:=h
  refine zM (zd (zj (zO vW (by rfl) T.n_int Zi (zg (zy xT (w_pv 0) zF (zE zb)) za)))) ?_
  have hl:(Txt.slice x none (some 22)).length≤22:=by
   rw[← ye,xS]
   exact List.length_take_le _ _
  exact⟨_,rfl,_,rfl,x,rfl,hz,_,_,rfl,x8 hn,by omega,k⟩
def MadeL (a:Ad) (H:Hp):List V→List Ex→Prop
 |[],[]=>True
 |r::rs,e::es=>Made a H e r∧MadeL a H rs es
 |_,_=>False
theorem MadeL.same {H H':Hp}(k:Same H H'):∀ {rs:List V}{es:List Ex},MadeL a H rs es→MadeL a H' rs es
 |[],[],_=>trivial
 |_::_,_::_,⟨h,t⟩=>⟨h.same k,MadeL.same k t⟩
theorem MadeL.cons {H:Hp}{rs:List V}{e:Ex}{es:List Ex}(h:MadeL a H rs (e::es)):∃ r rs',rs=r::rs'∧Made a H e r∧MadeL a H rs' es:=by
 match rs,h with
 |r::rs',⟨h1,h2⟩=>exact⟨r,rs',rfl,h1,h2⟩
theorem MadeL.nil {H:Hp}{rs:List V}(h:MadeL a H rs []):rs=[]:=by
 match rs,h with
 |[],_=>rfl
theorem MadeL.drop {H:Hp}:∀ (n:Nat){rs:List V}{es:List Ex},MadeL a H rs es→MadeL a H (rs.drop n) (es.drop n)
 |0,_,_,h=>h
 |_+1,[],[],h=>h
 |n+1,_::_,_::_,⟨_,t⟩=>MadeL.drop n t
theorem MadeL.len {H:Hp}:∀ {rs:List V}{es:List Ex},MadeL a H rs es→rs.length=es.length
 |[],[],_=>rfl
 |_::_,_::_,⟨_,t⟩=>by rw[List.length_cons,List.length_cons,MadeL.len t]
def Vl (a:Ad):Sp:=fun vs H Q _=>∃ x l rs es,vs=[.str x,.ref l]∧Asc x∧H l=some (.lst rs)∧MadeL a H rs es ∧
 (∀ e' rest,zR x es=some (e'::rest)→∀ r H',Made a H' e' r→Same H H'→Q r H')∧(zR x es=none→Q .non H)
theorem Uy (T:Txt w K mg a):FnOk P w K mg base CX0 3 a.f_qj a.d_qj ["word", "parts"] (Vl a):=by
 have c_qh:Callee P w K mg base "is_number_word" a.f_qh a.d_qh ["word"] 1 YQ:=⟨WD T,T.g_qh,T.F_qh.kp,T.b_qh⟩
 have c_qi:Callee P w K mg base "number_of" a.f_qi a.d_qi ["word"] 1 YO:=⟨WC T,T.g_qi,T.F_qi.kp,T.b_qi⟩
 have m_Num:Maker P w K mg base "Num" a.c_Num a.f_qw a.d_qw ["self", "value"] 1 (zdV a.c_Num "value"):=⟨uh T,T.g_Num,T.mk_Num,T.b_qw⟩
 have m_Name:Maker P w K mg base "Name" a.c_Name a.f_qz a.d_qz ["self", "word"] 1 (zdV a.c_Name "word"):=⟨vD T,T.g_Name,T.mk_Name,T.b_qz⟩
 have m_Two:Maker P w K mg base "Two" a.c_Two a.f_qC a.d_qC ["self", "word", "one", "other"] 1 (zn1 a.c_Two "word" "one" "other"):=⟨uf T,T.g_Two,T.mk_Two,T.b_qC⟩
 have m_Mod:Maker P w K mg base "Mod" a.c_Mod a.f_qF a.d_qF ["self", "inner", "number"] 1 (zn2 a.c_Mod "inner" "number"):=⟨uj T,T.g_Mod,T.mk_Mod,T.b_qF⟩
 have m_Less:Maker P w K mg base "Less" a.c_Less a.f_qI a.d_qI ["self", "one", "other", "third", "fourth"] 1 (zn0 a.c_Less "one" "other" "third" "fourth"):=⟨vG T,T.g_Less,T.mk_Less,T.b_qI⟩
 refine T.F_qj.ok zhE (fun vs H Q E h=>?_) (fun cdv A outer s H vs Q E hr h=>?_)
 ·obtain⟨x,l,rs,es,rfl,_⟩:=h
  rfl
 ·obtain⟨x,l,rs,es,rfl,ha,hl,hm,k,kn⟩:=h
  refine zM (w_pss_cons (w_ps_if (w_pt_cmpR xh (w_pv 0) (zY (v:=.ref a.t_ALL_NAMES) rfl T.g_ALL_NAMES rfl) (by with_unfolding_all rfl))
    (zd (zj (ve m_Name (hr.mono (by omega)) (zf (w_pv 0) za))))
    zk)
   (w_pss_cons (w_ps_if (zT (zr c_qh (hr.mono (by omega)) (zf (w_pv 0) za)))
    (zd (zj (ve m_Num (hr.mono (by omega)) (zQ (zr c_qi (hr.mono (by omega)) (zf (w_pv 0) za)) za))))
    zk)
   (w_pss_cons (w_ps_if (X7 (xN (w_pt_cmpR Xg (w_pv 0) (zY (v:=.ref a.t_PARTS) rfl T.g_PARTS rfl) (by with_unfolding_all rfl)) (yY (w_pt_cmpR vz (w_pe_callB call_len_seq (by rfl) T.n_len zU (zf (w_pv 1) za)) (zm zdB (zY (v:=.ref a.t_PARTS) rfl T.g_PARTS rfl) (w_pv 0) (fun _ _=>rfl)) (zp _)))))
    (zd (zj zG))
    zk)
   (w_pss_cons (w_ps_if (w_pt_cmpR yf (w_pv 0) ze (zp _))
    (zd (zj (ve m_Less (hr.mono (by omega)) (zg (zm zq (w_pv 1) zb (fun _ _=>rfl)) (zg (zm zq (w_pv 1) zb (fun _ _=>rfl)) (zg (zm zq (w_pv 1) zb (fun _ _=>rfl)) (zg (zm zq (w_pv 1) zb (fun _ _=>rfl)) za)))))))
    zk)
   (w_pss_cons (w_ps_if (w_pt_cmpR yf (w_pv 0) ze (zp _))
    (zd (zj (yo (zT (w_pe_callB yb (by rfl) T.n_isinstance zx (zg (zm zq (w_pv 1) zb (fun _ _=>rfl)) (zf (yI T.g_Num) za)))) (ve m_Mod (hr.mono (by omega)) (zg (zm zq (w_pv 1) zb (fun _ _=>rfl)) (zg (zn (zm zq (w_pv 1) zb (fun _ _=>rfl)) rfl) za))) zG)))
    zk)
   (zd (zj (ve m_Two (hr.mono (by omega)) (zf (w_pv 0) (zg (zm zq (w_pv 1) zb (fun _ _=>rfl)) (zg (zm zq (w_pv 1) zb (fun _ _=>rfl)) za))))))))))) ?_
  refine⟨_,rfl,_,_,rfl,.inr (T.s_ALL_NAMES H),rfl,flat_strs allNs,_,rfl,?_⟩
  by_cases h1:inV (.str x) (allNs.map V.str)=true
  ·refine zP h1 ⟨_,rfl,fun p dx nx ndx nex=>⟨p,dx,_,rfl,upd_same,rfl,?_⟩⟩
   exact k (.name x) es (by unfold zR;rw[if_pos h1]) _ _ ⟨p,dx,rfl,upd_same⟩ (Same.made nx ndx)
  have h1':=Bool.eq_false_iff.mpr h1
  refine iteN h1' ⟨_,rfl,x,rfl,ha,_,rfl,?_⟩
  by_cases h2:yE x=true
  ·refine zP h2 ⟨_,rfl,x,rfl,ha.2,h2,?_⟩
   refine fun p dx nx ndx nex=>⟨p,dx,_,rfl,upd_same,rfl,?_⟩
   exact k (.num (ZC x)) es (by unfold zR;rw[if_neg h1,if_pos h2]) _ _ ⟨p,dx,rfl,upd_same⟩ (Same.made nx ndx)
  have h2':=Bool.eq_false_iff.mpr h2
  refine iteN h2' ?_
  have hlen:=hm.len
  rcases stepG_cases (es:=es) h1' h2' with⟨tn,e⟩ | ⟨rfl,e⟩ | ⟨rfl,e⟩ | ⟨t,e⟩
  ·refine⟨_,rfl,_,_,_,rfl,rfl,T.s_PARTS,_,rfl,zP (by rw[tn];rfl) ?_⟩
   exact kn e
  ·refine⟨_,rfl,_,_,_,rfl,rfl,T.s_PARTS,_,rfl,iteN (by rw[less_no.2.2];rfl) ?_⟩
   refine⟨_,rfl,l,_,rfl,.inl (SqL.of hl),_,rfl,_,_,_,4,rfl,rfl,T.s_PARTS,less_no.2.2,_,_,rfl,rfl,_,rfl,?_⟩
   match es,hm,hlen,e with
   |e1::e2::e3::e4::r,hm,hlen,e =>
    obtain⟨r1,rs1,rfl,m1,hm⟩:=hm.cons
    obtain⟨r2,rs2,rfl,m2,hm⟩:=hm.cons
    obtain⟨r3,rs3,rfl,m3,hm⟩:=hm.cons
    obtain⟨r4,rs4,rfl,m4,hm⟩:=hm.cons
    refine iteN (decide_eq_false (by simp only[List.length_cons];omega)) ?_
    refine⟨_,rfl,rfl,_,rfl,zP (by decide +kernel) ?_⟩
    refine⟨_,rfl,l,_,0,_,rfl,rfl,SqL.of hl,zB (j:=0) rfl,_,rfl,l,_,1,_,rfl,rfl,SqL.of hl,zB (j:=1) rfl,_,rfl,l,_,2,_,rfl,rfl,SqL.of hl,zB (j:=2) rfl,_,rfl,l,_,3,_,rfl,rfl,SqL.of hl,zB (j:=3) rfl,?_⟩
    refine fun p dx nx ndx nex=>⟨p,dx,_,_,_,_,rfl,upd_same,rfl,?_⟩
    have s5:Same H _:=Same.made (C:=a.c_Less) (fs:=[("one",r1),("other",r2),("third",r3),("fourth",r4)]) (fs':=[]) nx ndx
    exact k (.less e1 e2 e3 e4) r e _ _ ⟨p,dx,r1,r2,r3,r4,rfl,upd_same,m1.same s5,m2.same s5,m3.same s5,m4.same s5⟩ s5
   |[],_,hlen,e=>exact zP (decide_eq_true (by show(rs.length:Int)<4;rw[hlen];simp)) (kn e)
   |[_],_,hlen,e=>exact zP (decide_eq_true (by show(rs.length:Int)<4;rw[hlen];simp)) (kn e)
   |[_,_],_,hlen,e=>exact zP (decide_eq_true (by show(rs.length:Int)<4;rw[hlen];simp)) (kn e)
   |[_,_,_],_,hlen,e=>exact zP (decide_eq_true (by show(rs.length:Int)<4;rw[hlen];simp)) (kn e)
  ·refine⟨_,rfl,_,_,_,rfl,rfl,T.s_PARTS,_,rfl,iteN (by rw[mod_no.2.2];rfl) ?_⟩
   refine⟨_,rfl,l,_,rfl,.inl (SqL.of hl),_,rfl,_,_,_,2,rfl,rfl,T.s_PARTS,mod_no.2.2,_,_,rfl,rfl,_,rfl,?_⟩
   match es,hm,hlen,e with
   |[],_,hlen,e=>exact zP (decide_eq_true (by show(rs.length:Int)<2;rw[hlen];simp)) (kn e)
   |[_],_,hlen,e=>exact zP (decide_eq_true (by show(rs.length:Int)<2;rw[hlen];simp)) (kn e)
   |e1::e2::r,hm,hlen,e =>
    obtain⟨r1,rs1,rfl,m1,hm⟩:=hm.cons
    obtain⟨r2,rs2,rfl,m2,hm⟩:=hm.cons
    refine iteN (decide_eq_false (by simp only[List.length_cons];omega)) ?_
    refine⟨_,rfl,rfl,_,rfl,iteN (by decide +kernel) ?_⟩
    refine⟨_,rfl,rfl,_,rfl,zP (by decide +kernel) ?_⟩
    cases e2 with
    |num n =>
     obtain⟨p2,dx2,rfl,h2⟩:=m2
     refine⟨_,rfl,l,_,1,_,rfl,rfl,SqL.of hl,zB (j:=1) rfl,_,_,_,_,_,rfl,rfl,T.ty_Num H p2 dx2 _ h2,T.k_Num_Num,_,rfl,wB ?_⟩
     refine⟨_,rfl,l,_,0,_,rfl,rfl,SqL.of hl,zB (j:=0) rfl,_,rfl,l,_,1,_,rfl,rfl,SqL.of hl,zB (j:=1) rfl,p2,_,dx2,_,_,rfl,h2,T.cl_Num,T.na_Num_value,rfl,?_⟩
     refine fun p dx nx ndx nex=>⟨p,dx,_,_,rfl,upd_same,rfl,?_⟩
     have s5:Same H _:=Same.made (C:=a.c_Mod) (fs:=[("inner",r1),("number",.int n)]) (fs':=[]) nx ndx
     exact k (.mod e1 n) r e _ _ ⟨p,dx,r1,rfl,upd_same,m1.same s5⟩ s5
    |name y =>
     obtain⟨p2,dx2,rfl,h2⟩:=m2
     exact⟨_,rfl,l,_,1,_,rfl,rfl,SqL.of hl,zB (j:=1) rfl,_,_,_,_,_,rfl,rfl,T.ty_Name H p2 dx2 _ h2,T.k_Name_Num,_,rfl,iteN rfl (kn e)⟩
    |two y f g =>
     obtain⟨p2,dx2,_,_,rfl,h2,_⟩:=m2
     exact⟨_,rfl,l,_,1,_,rfl,rfl,SqL.of hl,zB (j:=1) rfl,_,_,_,_,_,rfl,rfl,T.ty_Two H p2 dx2 _ h2,T.k_Two_Num,_,rfl,iteN rfl (kn e)⟩
    |mod f n =>
     obtain⟨p2,dx2,_,rfl,h2,_⟩:=m2
     exact⟨_,rfl,l,_,1,_,rfl,rfl,SqL.of hl,zB (j:=1) rfl,_,_,_,_,_,rfl,rfl,T.ty_Mod H p2 dx2 _ h2,T.k_Mod_Num,_,rfl,iteN rfl (kn e)⟩
    |less f g h i =>
     obtain⟨p2,dx2,_,_,_,_,rfl,h2,_⟩:=m2
     exact⟨_,rfl,l,_,1,_,rfl,rfl,SqL.of hl,zB (j:=1) rfl,_,_,_,_,_,rfl,rfl,T.ty_Less H p2 dx2 _ h2,T.k_Less_Num,_,rfl,iteN rfl (kn e)⟩
  ·obtain⟨n1,n2,n3⟩:=xQ t
   obtain⟨n4,n5⟩:=zbk t
   refine⟨_,rfl,_,_,_,rfl,rfl,T.s_PARTS,_,rfl,iteN (by rw[n3];rfl) ?_⟩
   refine⟨_,rfl,l,_,rfl,.inl (SqL.of hl),_,rfl,_,_,_,2,rfl,rfl,T.s_PARTS,n3,_,_,rfl,rfl,_,rfl,?_⟩
   match es,hm,hlen,e with
   |[],_,hlen,e=>exact zP (decide_eq_true (by show(rs.length:Int)<2;rw[hlen];simp)) (kn e)
   |[_],_,hlen,e=>exact zP (decide_eq_true (by show(rs.length:Int)<2;rw[hlen];simp)) (kn e)
   |e1::e2::r,hm,hlen,e =>
    obtain⟨r1,rs1,rfl,m1,hm⟩:=hm.cons
    obtain⟨r2,rs2,rfl,m2,hm⟩:=hm.cons
    refine iteN (decide_eq_false (by simp only[List.length_cons];omega)) ?_
    refine⟨_,rfl,rfl,_,rfl,iteN (by rw[dec_str];exact decide_eq_false n4) ?_⟩
    refine⟨_,rfl,rfl,_,rfl,iteN (by rw[dec_str];exact decide_eq_false n5) ?_⟩
    refine⟨_,rfl,_,rfl,l,_,0,_,rfl,rfl,SqL.of hl,zB (j:=0) rfl,_,rfl,l,_,1,_,rfl,rfl,SqL.of hl,zB (j:=1) rfl,?_⟩
    refine fun p dx nx ndx nex=>⟨p,dx,_,_,_,rfl,upd_same,rfl,?_⟩
    have s5:Same H _:=Same.made (C:=a.c_Two) (fs:=[("word",.str x),("one",r1),("other",r2)]) (fs':=[]) nx ndx
    exact k (.two x e1 e2) r e _ _ ⟨p,dx,r1,r2,rfl,upd_same,m1.same s5,m2.same s5⟩ s5
end
end K04

namespace K04
open PySem L2
theorem Zc {xs:List V}(k:Nat):Zd xs (some (k:Int)) none=xs.drop k:=by
 have h1:HT.sIx xs.length 0 (some (k:Int))=min k xs.length:=by
  unfold HT.sIx
  simp
  omega
 have h2:HT.sIx xs.length xs.length none=xs.length:=rfl
 unfold Zd
 rw[h1,h2]
 by_cases h:k≤xs.length
 ·rw[Nat.min_eq_left h]
  exact List.take_of_length_le (by simp)
 ·rw[Nat.min_eq_right (by omega),List.drop_eq_nil_of_le (Nat.le_refl _),List.drop_eq_nil_of_le (by omega)]
  simp
theorem zbl (w:Str):(yi partsD w).getD 0=(((yi partsD w).getD 0).toNat:Int):=by
 cases e:yi partsD w with
 |none=>rfl
 |some i =>
  have:0≤i:=by
   rcases xE e with rfl | rfl | h
   ·rw[less_no.2.2] at e;cases e;decide
   ·rw[mod_no.2.2] at e;cases e;decide
   ·rw[(xQ h).2.2] at e;cases e;decide
  show i=(i.toNat:Int)
  omega
theorem Made.ref {a:Ad}{H:Hp}:∀ {e:Ex}{r:V},Made a H e r→∃ p,r=.ref p
 |.num _,_,⟨p,_,h,_⟩=>⟨p,h⟩
 |.name _,_,⟨p,_,h,_⟩=>⟨p,h⟩
 |.two _ _ _,_,⟨p,_,_,_,h,_⟩=>⟨p,h⟩
 |.mod _ _,_,⟨p,_,_,h,_⟩=>⟨p,h⟩
 |.less _ _ _ _,_,⟨p,_,_,_,_,_,h,_⟩=>⟨p,h⟩
theorem Made.no {a:Ad}{H:Hp}{e:Ex}{r:V}(h:Made a H e r):decide (r=.non)=false:=by
 obtain⟨p,rfl⟩:=h.ref
 rfl
section
variable {P:Program}{w:World}{K:PySem.W.Frag}{mg:Str→Option Value}{base:Heap}{a:Ad}
def uJ (a:Ad):Sp:=fun vs H Q _=>∃ (l:Addr) (ws:List Str),vs=[.ref l]∧H l=some (.lst (ws.map V.str))∧(∀ w∈ws,Asc w)∧ws.length≤1000 ∧
 (∀ e,xw ws=some e→∀ r H',Made a H' e r→Same H H'→Q r H')∧(xw ws=none→∀ H',Same H H'→Q .non H')
theorem Xi (T:Txt w K mg a):FnOk P w K mg base CX0 4 a.f_qk a.d_qk ["words"] (uJ a):=by
 have c_qj:Callee P w K mg base "read_part" a.f_qj a.d_qj ["word", "parts"] 3 (Vl a):=⟨Uy T,T.g_qj,T.F_qj.kp,T.b_qj⟩
 refine T.F_qk.ok sc_qk (fun vs H Q E h=>?_) (fun cdv A outer s H vs Q E hr h=>?_)
 ·obtain⟨l,ws,rfl,_⟩:=h
  rfl
 ·obtain⟨l,ws,rfl,hl,hasc,hlen,k,kn⟩:=h
  refine zM (w_pss_cons (zh (i:=1) sc_qk.nd rfl (Or.inl rfl) (zo za))
   (w_pss_cons (zV PassesOwn.never rfl (wI rfl T.n_reversed (zf (w_pv 0) za)) (zv (i:=2) sc_qk.nd rfl (Or.inl rfl))
    (w_pss_cons (zh (i:=3) sc_qk.nd rfl (Or.inl rfl) (zr c_qj (hr.mono (by omega)) (zf (w_pv 2) (zf (w_pv 1) za))))
    (w_pss_cons (w_ps_if (w_pt_cmpR uT (w_pv 3) zG (zp _))
     (zd (zj zG))
     zk)
    (zd (zh (i:=1) sc_qk.nd rfl (Or.inl rfl) (zl yl (zo (zf (w_pv 3) za)) (zy xu (w_pv 1) (zE (Zn (zY (v:=.ref a.t_PARTS) rfl T.g_PARTS rfl) (w_pv 2) zb ⟨rfl,rfl,rfl,rfl⟩)) zF)))))))
   (zd (zj (yo (w_pt_cmpR yf (w_pe_callB call_len_seq (by rfl) T.n_len zU (zf (w_pv 1) za)) zb (zp _)) (zm zq (w_pv 1) zb (fun _ _=>rfl)) zG))))) ?_
  refine⟨by show 0≤sizeLine;decide,fun q0 hq0=>?_⟩
  have s0:=Same.new (o:=HO.lst []) hq0
  refine⟨_,rfl,l,_,rfl,SqL.of (s0 _ _ hl),?_⟩
  refine UN (K:=K) (a:=l) (xs:=ws.map V.str) (fun i σ H'=>∃ q rs es o2 o3,σ=[some (.ref l),some (.ref q),o2,o3]∧Same H H'∧H' q=some (.lst rs)∧MadeL a H' rs es∧(ws.drop (ws.length-i)).foldr rdG (some [])=some es∧rs.length≤i) ?_ ?_ ?_ ?_
  ·exact⟨q0,[],[],none,none,rfl,s0,upd_same,trivial,by rw[Nat.sub_zero,List.drop_length];rfl,Nat.le_refl _⟩
  ·rintro i σ H' _ ⟨q,rs,es,o2,o3,_,sm,_⟩
   exact SqL.of (sm _ _ hl)
  ·rintro i x σ H' hx ⟨q,rs,es,o2,o3,rfl,sm,hq,hm,hes,hrs⟩
   have hi:i<ws.length:=by
    have:=(List.getElem?_eq_some_iff.mp hx).1
    simpa using this
   rw[List.getElem?_reverse (by simpa using hi),List.length_map,List.getElem?_map] at hx
   obtain⟨wd,hwd,rfl⟩:=Option.map_eq_some_iff.mp hx
   have hj:ws.length-1-i<ws.length:=by omega
   have ej:ws.drop (ws.length-(i+1))=wd::ws.drop (ws.length-i):=by
    rw[show ws.length-(i+1)=ws.length-1-i by omega,List.drop_eq_getElem_cons hj,show ws.length-1-i+1=ws.length-i by omega]
    congr 1
    exact(List.getElem?_eq_some_iff.mp hwd).2
   have ew:ws=ws.take (ws.length-(i+1))++wd::ws.drop (ws.length-i):=by
    rw[← ej,List.take_append_drop]
   have e1:(ws.drop (ws.length-(i+1))).foldr rdG (some [])=zR wd es:=by
    rw[ej]
    show rdG wd ((ws.drop (ws.length-i)).foldr rdG (some []))=_
    rw[hes]
    rfl
   refine⟨_,rfl,_,rfl,wd,q,rs,es,rfl,hasc wd (List.mem_of_getElem? hwd),hq,hm,fun e' rest hst r H1 m1 s1=>?_,fun hst=>?_⟩
   ·obtain⟨e'',he⟩:=Zs hst
    cases he
    refine⟨_,rfl,rfl,_,rfl,iteN m1.no ?_⟩
    refine⟨_,rfl,(by show 1≤sizeLine;decide),fun p1 hp1=>?_⟩
    have s2:=s1.trans (Same.new (o:=HO.lst [r]) hp1)
    refine⟨_,rfl,_,_,rfl,T.s_PARTS,_,rfl,_,_,rfl,rfl,_,rfl,q,rs,rfl,SqL.of (s2 _ _ hq),fun p2 hp2=>?_⟩
    rw[zbl,Zc]
    generalize hk:((yi partsD wd).getD 0).toNat=kk at *
    have s3:=s2.trans (Same.new (o:=HO.lst (rs.drop kk)) hp2)
    have hd:(rs.drop kk).length≤i:=Nat.le_trans (by simp) hrs
    refine⟨p1,p2,[r],rs.drop kk,rfl,rfl,(Same.new hp2) _ _ upd_same,upd_same,(by rw[List.length_singleton];exact Nat.le_trans (show 1+(rs.drop kk).length≤2000 by omega) (by decide)),fun p3 hp3=>?_⟩
    have s4:=Same.new (o:=HO.lst ([r]++rs.drop kk)) hp3
    refine⟨p3,[r]++rs.drop kk,e'::es.drop kk,_,_,rfl,sm.trans (s3.trans s4),upd_same,⟨?_,?_⟩,e1.trans hst,?_⟩
    ·exact m1.same ((Same.new (o:=HO.lst [r]) hp1).trans ((Same.new hp2).trans s4))
    ·exact(hm.drop kk).same (s3.trans s4)
    ·rw[List.length_append,List.length_singleton]
     omega
   ·refine⟨_,rfl,rfl,_,rfl,zP rfl (kn ?_ _ sm)⟩
    unfold xw
    have:ws.foldr rdG (some [])=none:=by
     conv=>lhs;rw[ew]
     rw[List.foldr_append]
     have:(wd::ws.drop (ws.length-i)).foldr rdG (some [])=none:=by rw[← ej,e1,hst]
     rw[this]
     exact uP _
    rw[this]
    rfl
  ·rintro σ H' ⟨q,rs,es,o2,o3,rfl,sm,hq,hm,hes,hrs⟩
   rw[List.length_map,Nat.sub_self,List.drop_zero] at hes
   have hlen:=hm.len
   refine⟨_,rfl,q,_,rfl,.inl (SqL.of hq),rfl,_,rfl,?_⟩
   match es,hm,hes,hlen with
   |[e],hm,hes,hlen =>
    obtain⟨r,rs',rfl,m1,hm⟩:=hm.cons
    cases hm.nil
    exact zP rfl ⟨_,rfl,q,_,0,_,rfl,rfl,SqL.of hq,at0,k e (by unfold xw;rw[hes];rfl) _ _ m1 sm⟩
   |[],hm,hes,hlen=>exact iteN (decide_eq_false (by rw[hlen];simp)) (kn (by unfold xw;rw[hes];rfl) _ sm)
   |e::f::r,hm,hes,hlen=>exact iteN (decide_eq_false (by rw[hlen];simp;omega)) (kn (by unfold xw;rw[hes];rfl) _ sm)
structure Fit (row:Str):Prop where
 len:row.length≤100000
 asc:∀ w∈Txt.split row " ",Asc w
 cnt:(Txt.split row " ").length≤1000
def zct (a:Ad):Sp:=fun vs H Q _=>∃ (row first:Str),vs=[.str row,.str first]∧Fit row ∧
 (∀ e,V5 first row=some e→∀ r H',Made a H' e r→Same H H'→Q r H')∧(V5 first row=none→∀ H',Same H H'→Q .non H')
theorem zc3 (T:Txt w K mg a):FnOk P w K mg base CX0 5 a.f_ql a.d_ql ["row", "first"] (zct a):=by
 have c_qk:Callee P w K mg base "read_words" a.f_qk a.d_qk ["words"] 4 (uJ a):=⟨Xi T,T.g_qk,T.F_qk.kp,T.b_qk⟩
 refine T.F_ql.ok sc_ql (fun vs H Q E h=>?_) (fun cdv A outer s H vs Q E hr h=>?_)
 ·obtain⟨row,first,rfl,_⟩:=h
  rfl
 ·obtain⟨row,first,rfl,hf,k,kn⟩:=h
  refine zM (w_pss_cons (zh (i:=2) sc_ql.nd rfl (Or.inl rfl) (zH PySem.F.plainAttrs_str PySem.F.slot_str_split PySem.F.type_str_split xk (w_pv 0) (zi ze za)))
   (zd (zj (yo (w_pt_cmpR yf (zm zq (w_pv 2) zb (fun _ _=>rfl)) (w_pv 1) (zp _)) (zr c_qk (hr.mono (by omega)) (zg (zy xu (w_pv 2) (zE zb) zF) za)) zG)))) ?_
  obtain⟨hl,ha,hc⟩:=hf
  have hp:=xW row " "
  have e2:sizeLine=16777216:=rfl
  refine⟨_,rfl,rfl,_,_,rfl,rfl,(by decide +kernel),(by omega),(by omega),(by omega),fun p hp=>?_⟩
  have hne:=uI row " "
  unfold V5 at k kn
  generalize hs:Txt.split row " " = ws at *
  cases ws with
  |nil=>exact absurd rfl hne
  |cons f ws =>
   have s0:=Same.new (o:=HO.lst ((f::ws).map V.str)) hp
   refine⟨_,rfl,p,_,0,_,rfl,rfl,SqL.of upd_same,at0,_,rfl,rfl,_,rfl,?_⟩
   rw[dec_str]
   by_cases hf:f=first
   ·refine zP (decide_eq_true hf) ?_
    simp only[if_pos hf] at k kn
    refine⟨_,rfl,_,rfl,p,_,rfl,SqL.of upd_same,fun p2 hp2=>?_⟩
    rw[List.map_cons,zpA]
    have s1:=s0.trans (Same.new (o:=HO.lst (ws.map V.str)) hp2)
    exact⟨p2,ws,rfl,upd_same,fun w hw=>ha w (List.mem_cons_of_mem _ hw),by rw[List.length_cons] at hc;omega,fun e he r H' m sm=>k e he r H' m (s1.trans sm),fun he H' sm=>kn he H' (s1.trans sm)⟩
   ·refine iteN (decide_eq_false hf) ?_
    simp only[if_neg hf] at k kn
    exact kn trivial _ s0
end
end K04

namespace K04
open PySem L2
theorem Same.updF {p:Addr}{H H':Hp}{o:HO}(x:Same H H') (h:H p=none):Same H (upd H' p o):=fun b u e=>by
 rw[upd_ne (ne_of_none e h)]
 exact x b u e
theorem Made.updL {a:Ad}{H:Hp}{D:Addr}{zs:List V}{o:HO}(hD:H D=some (.lst zs)){e:Ex}{v:V}(t:Made a H e v):Made a (L2.upd H D o) e v:=t.mono fun b C dx fs h=>by
 have hb:b≠D:=Xn h hD (by intro z;cases z)
 rw[upd_ne hb]
 exact h
theorem MadeL.updL {a:Ad}{H:Hp}{D:Addr}{zs:List V}{o:HO}(hD:H D=some (.lst zs)):∀ {rs:List V}{es:List Ex},MadeL a H rs es→MadeL a (L2.upd H D o) rs es
 |[],[],_=>trivial
 |_::_,_::_,⟨h,t⟩=>⟨h.updL hD,MadeL.updL hD t⟩
theorem MadeL.snoc {a:Ad}{H:Hp}{r:V}{e:Ex}(h:Made a H e r):∀ {rs:List V}{es:List Ex},MadeL a H rs es→MadeL a H (rs++[r]) (es++[e])
 |[],[],_=>⟨h,trivial⟩
 |_::_,_::_,⟨h1,t⟩=>⟨h1,MadeL.snoc h t⟩
def zqG (a:Ad) (H:Hp) (e1 e2 e3 e4:Ex) (r1 r2 r3 r4:V):Prop :=
 (Made a H e1 r1∧e1.ok yn∧e1.dep≤8)∧(Made a H e2 r2∧e2.ok z0∧e2.dep≤8)∧(Made a H e3 r3∧e3.ok z0∧e3.dep≤8)∧(Made a H e4 r4∧e4.ok renewNs∧e4.dep≤8)∧e1.size+e2.size+e3.size+e4.size≤60
def zdS (a:Ad) (H:Hp) (e1 e2 e3 e4:Ex) (r:V):Prop:=∃ (p dx:Addr) (r1 r2 r3 r4:V),r=.ref p∧H p=some (.ins a.c_Program dx [("start",r1),("send",r2),("when",r3),("renew",r4)])∧zqG a H e1 e2 e3 e4 r1 r2 r3 r4
def vZ (e1 e2 e3 e4:Ex):Prop:=(e1.ok yn∧e1.dep≤8)∧(e2.ok z0∧e2.dep≤8)∧(e3.ok z0∧e3.dep≤8)∧(e4.ok renewNs∧e4.dep≤8)∧e1.size+e2.size+e3.size+e4.size≤60
section
variable {P:Program}{w:World}{K:PySem.W.Frag}{mg:Str→Option Value}{base:Heap}{a:Ad}
theorem good_gx {e1 e2 e3 e4:Ex}:UY e1.gx e2.gx e3.gx e4.gx↔vZ e1 e2 e3 e4:=by
 constructor
 ·rintro⟨f1,f2,f3,f4,⟨h1,h2,h3,h4⟩,⟨o1,o2,o3,o4⟩,⟨d1,d2,d3,d4⟩,z⟩
  cases Ex.gx_inj h1
  cases Ex.gx_inj h2
  cases Ex.gx_inj h3
  cases Ex.gx_inj h4
  exact⟨⟨o1,d1⟩,⟨o2,d2⟩,⟨o3,d3⟩,⟨o4,d4⟩,z⟩
 ·rintro⟨⟨o1,d1⟩,⟨o2,d2⟩,⟨o3,d3⟩,⟨o4,d4⟩,z⟩
  exact⟨e1,e2,e3,e4,⟨rfl,rfl,rfl,rfl⟩,⟨o1,o2,o3,o4⟩,⟨d1,d2,d3,d4⟩,z⟩
theorem Xj (T:Txt w K mg a):FnOk P w K mg base CX0 1 a.f_qM a.d_qM ["self", "row"] (YW a.c_NoText "row"):=by
 refine T.F_qM.ok zhM (fun vs H Q E h=>?_) (fun cdv A outer s H vs Q E hr h=>?_)
 ·obtain⟨p,v,rfl,_⟩:=h
  rfl
 ·obtain⟨p,v,rfl,hp,k⟩:=h
  refine zM (zd (ZT (w_pv 0) (w_pv 1) rfl)) ?_
  exact⟨_,rfl,_,rfl,p,_,rfl,hp,T.xs_NoText,T.xt_NoText,fun d hd=>k d hd⟩
noncomputable def zK (rows:List Str) (i:Nat):Option Ex:=(rowWs[i]?).bind fun f=>(rows[i]?).bind (V5 f)
def VX (a:Ad):Sp:=fun vs H Q E=>∃ (x:Str) (rows:List Str),vs=[.str x]∧Txt.split x "\n" = rows∧x.length≤400000∧rows.length≤1000∧(∀ r∈rows,Fit r) ∧
 (∀ i:Nat,i<4→(∀ j<i,zK rows j≠none)→zK rows i=none→∀ d H',Same H H'→H d=none→H' d=some (.xd [("row",.int i)])→E (.ref a.c_NoText) (some d) H') ∧
 ((∀ j<4,zK rows j≠none)→4<rows.length→∀ d H',Same H H'→H d=none→H' d=some (.xd [("row",.int 4)])→E (.ref a.c_NoText) (some d) H') ∧
 (∀ e1 e2 e3 e4,zK rows 0=some e1→zK rows 1=some e2→zK rows 2=some e3→zK rows 3=some e4→rows.length≤4 →
  (vZ e1 e2 e3 e4→∀ r H',zdS a H' e1 e2 e3 e4 r→Same H H'→Q r H')∧(¬ vZ e1 e2 e3 e4→∀ H',Same H H'→E (.ref a.c_NoProgram) none H'))
def VY (K:PySem.W.Frag) (a:Ad):Sp:=fun vs H Q E=>∃ (v:V) (t:Value),vs=[v]∧TyOf K H v t∧PySem.W.kitOne K t (.type "str")=some false∧∀ d H',Same H H'→H d=none→H' d=some (.xd [("row",.int 0)])→E (.ref a.c_NoText) (some d) H'
def Vk (K:PySem.W.Frag) (a:Ad):Sp:=fun vs H Q E=>VX a vs H Q E∨VY K a vs H Q E
theorem Ux (T:Txt w K mg a):FnOk P w K mg base (CX1 P w) 24 a.f_qm a.d_qm ["text"] (Vk K a):=by
 have c_ql:Callee P w K mg base "read_row" a.f_ql a.d_ql ["row", "first"] 5 (zct a):=⟨zc3 T,T.g_ql,T.F_ql.kp,T.b_ql⟩
 have mx_Program:Maker1 P w K mg base "Program" a.c_Program a.f_qL a.d_qL ["self", "start", "send", "when", "renew"] 22 (YM K a):=⟨WB T,T.g_Program,T.mk_Program,T.b_qL⟩
 have xi_NoText:XInit P w K mg base "NoText" a.c_NoText a.f_qM a.d_qM ["self", "row"] 1 "row" := ⟨Xj T,T.xn_NoText,T.xf_NoText,T.xk_NoText,T.g_NoText,T.b_qM⟩
 refine T.F_qm.ok1 sc_qm (fun vs H Q E h=>?_) (fun cdv A outer s H vs Q E hr h=>?_)
 ·rcases h with⟨x,rows,rfl,_⟩ | ⟨v,t,rfl,_⟩<;>rfl
 ·refine zM (w_pss_cons (w_ps_if (wH (zT (w_pe_callB yb (by rfl) T.n_isinstance zx (zf (w_pv 0) (zf (xa T.n_str wG) za)))))
    (zd (yR xi_NoText hr.hd (hr.mono (by omega)) (zi zb za)))
    zk)
   (w_pss_cons (zh (i:=1) sc_qm.nd rfl (Or.inl rfl) (zH PySem.F.plainAttrs_str PySem.F.slot_str_split PySem.F.type_str_split xk (w_pv 0) (zi ze za)))
   (w_pss_cons (zh (i:=2) sc_qm.nd rfl (Or.inl rfl) (zo za))
   (w_pss_cons (zV PassesOwn.leaving rfl (vd rfl T.n_enumerate (zf (zY (v:=.ref a.t_ROW_WORDS) rfl T.g_ROW_WORDS rfl) za)) (yZ rfl (zL (zv (i:=3) sc_qm.nd rfl (Or.inl rfl)) (zL (zv (i:=4) sc_qm.nd rfl (Or.inl rfl)) yA)))
    (w_pss_cons (zh (i:=5) sc_qm.nd rfl (Or.inl rfl) (yo (w_pt_cmpR vz (w_pv 3) (w_pe_callB call_len_seq (by rfl) T.n_len zU (zf (w_pv 1) za)) (zp _)) (zr c_ql (hr.mono (by omega)) (zg (zm zq (w_pv 1) (w_pv 3) (fun _ _=>rfl)) (zf (w_pv 4) za))) zG))
    (w_pss_cons (w_ps_if (w_pt_cmpR uT (w_pv 5) zG (zp _))
     (zd (yR xi_NoText hr.hd (hr.mono (by omega)) (zf (w_pv 3) za)))
     zk)
    (zd (zN (zH PySem.F.plainAttrs_list PySem.F.slot_list_append PySem.F.type_list_append zS (w_pv 2) (zf (w_pv 5) za)))))))
   (w_pss_cons (w_ps_if (w_pt_cmpR xY (w_pe_callB call_len_seq (by rfl) T.n_len zU (zf (w_pv 1) za)) (w_pe_callB call_len_seq (by rfl) T.n_len zU (zf (zY (v:=.ref a.t_ROW_WORDS) rfl T.g_ROW_WORDS rfl) za)) (zp _))
    (zd (yR xi_NoText hr.hd (hr.mono (by omega)) (zQ (w_pe_callB call_len_seq (by rfl) T.n_len zU (zf (zY (v:=.ref a.t_ROW_WORDS) rfl T.g_ROW_WORDS rfl) za)) za)))
    zk)
   (zd (zj (VQ mx_Program (hr.mono (by omega)) (zg (zm zq (w_pv 2) zb (fun _ _=>rfl)) (zg (zm zq (w_pv 2) zb (fun _ _=>rfl)) (zg (zm zq (w_pv 2) zb (fun _ _=>rfl)) (zg (zm zq (w_pv 2) zb (fun _ _=>rfl)) za)))))))))))) ?_
  rcases h with⟨x,rows,rfl,hs,hl,hrl,hfit,k1,k2,k3⟩ | ⟨v,t,rfl,ht,hk,k0⟩
  case inr =>
   refine⟨_,rfl,_,_,_,_,_,rfl,rfl,ht,hk,_,rfl,zP rfl ?_⟩
   exact⟨_,rfl,fun d hd=>k0 d _ (Same.new hd) hd upd_same⟩
  have hpl:=xW x "\n"
  have e2':sizeLine=16777216:=rfl
  refine⟨_,rfl,_,_,_,_,_,rfl,rfl,TyOf.str _,T.k_tstr_tstr,_,rfl,iteN rfl ?_⟩
  refine⟨_,rfl,rfl,_,_,rfl,rfl,(by decide +kernel),(by omega),(by rw[hs];omega),(by omega),fun pr hpr=>?_⟩
  rw[hs]
  have s0:=Same.new (o:=HO.lst (rows.map V.str)) hpr
  refine⟨by show 0≤sizeLine;decide,fun pe hpe=>?_⟩
  have s1:=Same.new (o:=HO.lst []) hpe
  refine⟨.t,a.t_ROW_WORDS,_,rfl,T.s_ROW_WORDS _,?_⟩
  refine u7 (K:=K) (k:=.t) (a:=a.t_ROW_WORDS) (xs:=rowWs.map V.str) (fun i σ H'=>∃ o3 o4 o5 rs es,σ=[some (.str x),some (.ref pr),some (.ref pe),o3,o4,o5]∧Same (upd H pr (HO.lst (rows.map V.str))) H'∧H' pe=some (.lst rs)∧MadeL a H' rs es∧i≤4∧es.length=i∧∀ j<i,zK rows j=es[j]?) ?_ ?_ ?_ ?_
  ·exact⟨none,none,none,[],[],rfl,s1,upd_same,trivial,by omega,rfl,fun j hj=>by omega⟩
  ·rintro i σ H' _ _
   exact T.s_ROW_WORDS _
  ·rintro i x' σ H' q hx ⟨o3,o4,o5,rs,es,rfl,sm,hpe',hm,hi4,hel,hat⟩ hq
   rw[List.getElem?_map] at hx
   obtain⟨first,hfirst,rfl⟩:=Option.map_eq_some_iff.mp hx
   have i4:i<4:=(List.getElem?_eq_some_iff.mp hfirst).1
   have sq:=Same.new (o:=HO.tup [V.int i,V.str first]) hq
   have hpr':=sq _ _ (sm _ _ upd_same)
   have sH:Same H _:=s0.trans (sm.trans sq)
   have hno:∀ j<i,zK rows j≠none:=fun j hj=>by
    rw[hat j hj]
    intro z
    rw[List.getElem?_eq_none_iff] at z
    omega
   have hlen:rs.length=i:=by rw[hm.len,hel]
   refine⟨q,[.int i,.str first],rfl,SqT.of upd_same,rfl,_,_,rfl,_,_,rfl,rfl,?_⟩
   have bad:∀ H1,Same (upd H' q (HO.tup [V.int i,V.str first])) H1→zK rows i=none→∀ d,H1 d=none→E (.ref a.c_NoText) (some d) (upd H1 d (.xd [("row",.int i)])):=fun H1 sr hr d hd =>
    k1 i i4 hno hr d _ (Same.updF (sH.trans sr) ((sH.trans sr).free hd)) ((sH.trans sr).free hd) upd_same
   refine⟨_,rfl,_,rfl,pr,_,rfl,.inl (SqL.of hpr'),_,_,rfl,rfl,_,rfl,?_⟩
   rw[List.length_map]
   by_cases hir:i<rows.length
   ·refine zP (decide_eq_true (by show(i:Int)<rows.length;omega)) ?_
    have hrow:rows[i]?=some rows[i]:=List.getElem?_eq_getElem hir
    have hat':zK rows i=V5 first rows[i]:=by
     unfold zK
     rw[hfirst,hrow]
     rfl
    refine⟨_,rfl,_,rfl,pr,_,i,_,rfl,rfl,SqL.of hpr',zB (by rw[List.getElem?_map,hrow];rfl),_,rfl,rows[i],first,rfl,hfit _ (List.getElem_mem hir),fun e he r H1 m1 sr=>?_,fun he H1 sr=>?_⟩
    ·refine⟨_,rfl,rfl,_,rfl,iteN m1.no ?_⟩
     have hpe1:=sr _ _ (sq _ _ hpe')
     refine⟨_,rfl,.inl ⟨rfl,_,SqL.of hpe1⟩,_,rfl,pe,rs,r,rfl,rfl,hpe1,small1000 (by omega),?_⟩
     refine⟨_,_,_,rs++[r],es++[e],rfl,Same.updF (sm.trans (sq.trans sr)) hpe,upd_same,((hm.same (sq.trans sr)).snoc m1).updL hpe1,i4,by simp[hel],fun j hj=>?_⟩
     by_cases hji:j<i
     ·rw[hat j hji,List.getElem?_append_left (by omega)]
     ·have:j=i:=by omega
      subst this
      rw[hat',he,List.getElem?_append_right (by omega),hel,Nat.sub_self]
      rfl
    ·refine⟨_,rfl,rfl,_,rfl,zP rfl ?_⟩
     exact⟨_,rfl,_,rfl,bad H1 sr (hat'.trans he)⟩
   ·refine iteN (decide_eq_false (by show ¬ (i:Int)<rows.length;omega)) ?_
    refine⟨_,rfl,rfl,_,rfl,zP rfl ?_⟩
    refine⟨_,rfl,_,rfl,bad _ (Same.refl _) ?_⟩
    unfold zK
    rw[hfirst,List.getElem?_eq_none_iff.mpr (by omega)]
    rfl
  ·rintro σ H' ⟨o3,o4,o5,rs,es,rfl,sm,hpe',hm,_,hel,hat⟩
   have hel:es.length=4:=hel
   have hat:∀ j<4,zK rows j=es[j]?:=hat
   have hpr':=sm _ _ upd_same
   have sH:=s0.trans sm
   refine⟨_,rfl,pr,_,rfl,.inl (SqL.of hpr'),a.t_ROW_WORDS,_,rfl,.inr (T.s_ROW_WORDS _),_,_,rfl,rfl,_,rfl,?_⟩
   rw[List.length_map]
   by_cases hr4:4<rows.length
   ·refine zP (decide_eq_true (by show(rows.length:Int)>4;omega)) ?_
    refine⟨a.t_ROW_WORDS,_,rfl,.inr (T.s_ROW_WORDS _),_,rfl,fun d hd=>?_⟩
    refine k2 (fun j hj z=>?_) hr4 d _ (Same.updF sH (sH.free hd)) (sH.free hd) upd_same
    rw[hat j hj,List.getElem?_eq_none_iff] at z
    omega
   refine iteN (decide_eq_false (by show ¬ (rows.length:Int)>4;omega)) ?_
   match es,hel,hm,hat with
   |[e1,e2,e3,e4],_,hm,hat =>
    obtain⟨r1,rs1,rfl,m1,hm⟩:=hm.cons
    obtain⟨r2,rs2,rfl,m2,hm⟩:=hm.cons
    obtain⟨r3,rs3,rfl,m3,hm⟩:=hm.cons
    obtain⟨r4,rs4,rfl,m4,hm⟩:=hm.cons
    cases hm.nil
    obtain⟨kg,kb⟩:=k3 e1 e2 e3 e4 (hat 0 (by decide)) (hat 1 (by decide)) (hat 2 (by decide)) (hat 3 (by decide)) (by omega)
    refine⟨_,rfl,pe,_,0,_,rfl,rfl,SqL.of hpe',rfl,_,rfl,pe,_,1,_,rfl,rfl,SqL.of hpe',rfl,_,rfl,pe,_,2,_,rfl,rfl,SqL.of hpe',rfl,_,rfl,pe,_,3,_,rfl,rfl,SqL.of hpe',rfl,fun x dx nx ndx nex=>?_⟩
    have sN:Same H' (L2.upd (L2.upd H' dx (.own x)) x (.ins a.c_Program dx [])):=fun b o e=>by
     rw[upd_ne (ne_of_none e nx),upd_ne (ne_of_none e ndx)]
     exact e
    refine⟨x,dx,r1,r2,r3,r4,e1.gx,e2.gx,e3.gx,e4.gx,rfl,upd_same,⟨(m1.same sN).gx T,(m2.same sN).gx T,(m3.same sN).gx T,(m4.same sN).gx T⟩,fun hG H4 s4=>⟨rfl,?_⟩,fun hG H4 s4=>kb (fun z=>hG (good_gx.mpr z)) _ (sH.trans (sN.trans s4))⟩
    have hG:=good_gx.mp hG
    have s34:Same H' (L2.upd H4 x (.ins a.c_Program dx [("start",r1),("send",r2),("when",r3),("renew",r4)])):=Same.updF (sN.trans s4) nx
    have hG':=hG
    obtain⟨⟨q1,g1⟩,⟨q2,g2⟩,⟨q3,g3⟩,⟨q4,g4⟩,z⟩:=hG'
    exact kg hG _ _ ⟨x,dx,r1,r2,r3,r4,rfl,upd_same,⟨m1.same s34,q1,g1⟩,⟨m2.same s34,q2,g2⟩,⟨m3.same s34,q3,g3⟩,⟨m4.same s34,q4,g4⟩,z⟩ (sH.trans s34)
end
end K04

namespace K04
open PySem L2
section
variable {P:Program}{w:World}{K:PySem.W.Frag}{mg:Str→Option Value}{base:Heap}{a:Ad}
def zcu:Sp:=fun vs H Q _=>∃ x,vs=[.str x]∧Asc x∧x.length≤22∧∀ H',Same H H'→Q (if yE x=true then .int (ZC x) else .non) H'
theorem zc4 (T:Txt w K mg a):FnOk P w K mg base CX0 1 a.f_qq a.d_qq ["_law_word"] zcu:=by
 refine T.F_qq.ok sc_qq (fun vs H Q E h=>?_) (fun cdv A outer s H vs Q E hr h=>?_)
 ·obtain⟨x,rfl,_⟩:=h
  rfl
 ·obtain⟨x,rfl,ha,hl,k⟩:=h
  refine zM (w_pss_cons (zh (i:=1) sc_qq.nd rfl (Or.inl rfl) (w_pv 0))
   (zD (w_ps_if (w_pt_cmpR yf (zy xT (w_pv 0) zF (zE zb)) ze (zp _))
    (zd (zh (i:=1) sc_qq.nd rfl (Or.inl rfl) (zy xT (w_pv 0) (zE zb) zF)))
    zk)
   (w_pss_cons (w_ps_if (X7 (xN (w_pt_cmpR yf (w_pv 1) ze (zp _)) (yY (w_pt_cmpR (Vr Vq zc2) (ZY rfl (N':=["_law_sign"]) (t:=1) (caps:=[]) ⟨rfl,rfl,rfl⟩ (uC (w_pv 1)) (fun _=>(zv (i:=0) (show(["_law_sign"]:List Str).Nodup by decide +kernel) rfl (Or.inl rfl))) (fun _=>(ZR (w_pt_cmpR vx (w_pv 0) ze (by with_unfolding_all rfl)))) (fun _=>(w_pv 0))) (zo za) (zp _)))))
    (zd (zj zG))
    zk)
   (w_pss_cons (w_ps_if (X7 (yG (w_pt_cmpR yf (zm Xz (w_pv 1) zb (fun _ _=>rfl)) ze (zp _)) (yz (w_pt_cmpR Xh (w_pv 0) ze (zp _)))))
    (zd (zj zG))
    zk)
   (zd (zj (zO vW (by rfl) T.n_int Zi (zf (w_pv 0) za)))))))) ?_
  refine⟨_,rfl,fun σ' H'=>σ'=[some (.str x),some (.str (zu x))]∧H'=H,?_,?_⟩
  ·refine⟨_,rfl,_,rfl,x,rfl,ha.2,rfl,_,rfl,?_⟩
   have e1:decide (V.str (Txt.slice x none (some 1))=V.str "-")=Txt.startswith x "-" := by rw[dec_str,V1]
   by_cases q:Txt.startswith x "-" = true
   ·refine zP (e1.trans q) ⟨_,rfl,_,rfl,x,rfl,ha.2,?_⟩
    rw[show Txt.slice x (some 1) none=zu x by unfold zu;rw[if_pos q]]
    exact⟨rfl,rfl⟩
   ·refine iteN (e1.trans (Bool.eq_false_iff.mpr q)) ?_
    refine⟨?_,rfl⟩
    unfold zu
    rw[if_neg q]
    rfl
  rintro σ' H' ⟨rfl,rfl⟩
  have haf:Asc (zu x):=Zj ha
  have hu:=hr.units
  refine⟨_,rfl,rfl,_,rfl,?_⟩
  rw[dec_str]
  by_cases q0:zu x = ""
  ·have nn:yE x=false:=by unfold yE v6;rw[q0];simp
   rw[decide_eq_true q0]
   have kk:=k H' (Same.refl _)
   rw[nn] at kk
   exact wB (wB kk)
  rw[decide_eq_false q0]
  refine wq ?_
  refine⟨_,rfl,_,rfl,haf.1,fun D hD _=>?_⟩
  refine W7 (x:=zu x) (fun i zs τ H2=>(∃ o,τ=[o])∧Same H' H2∧H2 D=some (.lst zs)∧zs.length≤i∧(zs=[]↔((zu x).cps.toList.take i).all vL=true)) ?_ ?_ ?_
  ·exact⟨⟨none,rfl⟩,Same.new hD,upd_same,Nat.le_refl _,by simp⟩
  ·rintro i c zs τ H2 hc ⟨⟨o,rfl⟩,s2,h2,hz,hall⟩
   have hi:i<(zu x).cps.toList.length:=(List.getElem?_eq_some_iff.mp hc).1
   have hl1:(zu x).cps.toList.length≤sizeLine:=by rw[ye];exact haf.2
   refine⟨_,rfl,_,_,rfl,rfl,_,rfl,?_⟩
   rw[contains_one]
   by_cases q:vL c=true
   ·refine iteN (by show(!(decide (c∈_)))=false;rw[show decide _=true from q];rfl) ?_
    refine⟨⟨_,rfl⟩,s2,h2,by omega,?_⟩
    rw[List.take_add_one,hc,List.all_append]
    simp[q,hall]
   ·refine zP (by show(!(decide (c∈_)))=true;rw[show decide _=false from Bool.eq_false_iff.mpr q];rfl) ?_
    refine⟨_,rfl,h2,by omega,⟨_,rfl⟩,Same.updF s2 hD,upd_same,by simp;omega,?_⟩
    rw[List.take_add_one,hc,List.all_append]
    simp[q]
  ·rintro zs τ H2 ⟨⟨o,rfl⟩,s2,h2,hz,hall⟩
   rw[List.take_length] at hall
   refine⟨by show 0≤sizeLine;decide,fun p hp=>?_⟩
   have n1:=Same.new (o:=HO.lst []) hp
   have sE:=s2.trans n1
   by_cases q:(zu x).cps.toList.all vL=true
   ·have ez:=hall.mpr q
    subst ez
    refine .inl ⟨D,p,[],[],fun _=>true,0,rfl,rfl,.inl ⟨SqL.of (n1 _ _ h2),SqL.of upd_same⟩,rfl,(Nat.lt_of_le_of_lt (Nat.add_le_add_left (show 2≤64 by decide) _) hr.units),fun j x y h=>(by cases h),?_⟩
    refine⟨_,rfl,iteN rfl ?_⟩
    obtain⟨c,r,hc⟩:∃ c r,(zu x).cps.toList=c::r:=by
     cases hx:(zu x).cps.toList with
     |nil=>exact absurd (str_ext (by rw[hx];decide +kernel)) q0
     |cons c r=>exact⟨c,r,rfl⟩
    have i0:atI (zu x).cps.toList 0=some c:=by rw[hc];unfold atI ixN;simp
    refine⟨_,rfl,_,_,_,rfl,rfl,haf.2,i0,rfl,_,rfl,?_⟩
    have st0:Txt.startswith (zu x) "0" = decide (V.str ⟨#[c]⟩=V.str "0"):=by
     rw[dec_str,X9,yq,hc]
     rw[Bool.eq_iff_iff,decide_eq_true_eq,decide_eq_true_eq]
     constructor
     ·intro h;cases h;rfl
     ·intro h;cases h;rfl
    rw[← st0]
    have fin:yE x=true→∃ n,intText? x=some n∧ZC x=n:=fun hn=>by
     have:=x8 hn
     rw[yJ hl] at this
     exact⟨_,this,rfl⟩
    have nW:yE x=(decide (x = "0")||!Txt.startswith (zu x) "0"):=by
     unfold yE v6
     rw[q,decide_eq_true q0]
     rfl
    have good:yE x=true→zha (tCB (fun xs H Q=>∃ x n,xs=[V.str x]∧intText? x=some n∧x.length≤640∧Q (V.int n) H) (xc (U1 0) U2)) { nx:=fun x H'=>Q V.non H',rt:=Q } [some (V.str x),some (V.str (zu x))] (upd H2 p (HO.lst [])):=fun hn=>by
     obtain⟨n,h1,h2⟩:=fin hn
     have kk:=k _ sE
     rw[hn,h2] at kk
     exact⟨_,rfl,_,_,rfl,h1,by omega,kk⟩
    cases hs:Txt.startswith (zu x) "0" with
    |false =>
     refine wq (wq (good ?_))
     rw[nW,hs]
     simp
    |true =>
     refine wB ⟨_,rfl,rfl,_,rfl,?_⟩
     rw[dec_str]
     by_cases z:x = "0"
     ·rw[decide_eq_true z]
      refine iteN rfl (good ?_)
      rw[nW,decide_eq_true z]
      rfl
     ·rw[decide_eq_false z]
      refine wB ?_
      have nn:yE x=false:=by rw[nW,hs,decide_eq_false z];rfl
      have kk:=k _ sE
      rw[nn] at kk
      exact kk
   ·have ne:zs≠[]:=fun z=>q (hall.mp z)
    have nn:yE x=false:=by unfold yE;rw[Bool.eq_false_iff.mpr q];rfl
    refine .inr ⟨D,p,zs,[],rfl,rfl,SqL.of (n1 _ _ h2),SqL.of upd_same,fun z=>ne (List.length_eq_zero_iff.mp z),?_,?_⟩
    ·exact hr.units0
    refine⟨_,rfl,wB ?_⟩
    have kk:=k _ sE
    rw[nn] at kk
    exact kk
end
end K04

namespace K04
open PySem L2
theorem Told.tag {H:Hp}{e:Ex}{v:V}(h:Told H e v):∃ p rest,v=.ref p∧H p=some (.tup (.str (U0 e)::rest)):=by
 cases e with
 |num i=>obtain⟨p,e,h⟩:=h;exact⟨p,_,e,h⟩
 |name x=>obtain⟨p,e,h⟩:=h;exact⟨p,_,e,h⟩
 |two w e f=>obtain⟨p,_,_,e,h,_⟩:=h;exact⟨p,_,e,h⟩
 |mod e n=>obtain⟨p,_,e,h,_⟩:=h;exact⟨p,_,e,h⟩
 |less e f g h'=>obtain⟨p,_,_,_,_,e,h,_⟩:=h;exact⟨p,_,e,h⟩
def ToldL (H:Hp):List V→List Ex→Prop:=Paired fun v e=>Told H e v
theorem ToldL.mono {H H':Hp}(k:∀ b xs,H b=some (.tup xs)→H' b=some (.tup xs)){vs:List V}{es:List Ex}(h:ToldL H vs es):ToldL H' vs es:=L2.Paired.imp' (fun _ _ z=>z.mono k) h
theorem tl_snoc {H:Hp}{v:V}{e:Ex}(t:Told H e v):∀ {vs:List V}{es:List Ex},ToldL H vs es→ToldL H (vs++[v]) (es++[e])
 |_,_,.nil=>.cons t .nil
 |_,_,.cons h r=>.cons h (tl_snoc t r)
section
variable {P:Program}{w:World}{K:PySem.W.Frag}{mg:Str→Option Value}{base:Heap}{a:Ad}
def PsR (H:Hp) (ws:List Str):Option (Ex×List Str)→V→Prop
 |none,v=>∃ (p:Addr) (i:Int),v=.ref p∧H p=some (.tup [.non,.int i])
 |some (e,r),v=>∃ (p:Addr) (u:V),v=.ref p∧H p=some (.tup [u,.int ((ws.length:Int)-(r.length:Int))])∧Told H e u
def YN (n:Nat):Sp:=fun vs H Q _=>∃ (l:Addr) (ws:List Str) (i:Nat),vs=[.ref l,.int (i:Int)]∧H l=some (.lst (ws.map V.str))∧(∀ w∈ws,Asc w∧w.length≤22)∧ws.length≤400∧i≤ws.length∧ws.length-i<n ∧
 ∀ v H',PsR H' ws (fp n (ws.drop i)) v→Same H H'→Q v H'
theorem Wz (T:Txt w K mg a) (n:Nat) (I:FnOk P w K mg base CX0 (n+1) a.f_qr a.d_qr ["_law_words", "_law_at"] (YN n)):FnOk P w K mg base CX0 (n+2) a.f_qr a.d_qr ["_law_words", "_law_at"] (YN (n+1)):=by
 have c_qq:Callee P w K mg base "_law_number" a.f_qq a.d_qq ["_law_word"] 1 zcu:=⟨zc4 T,T.g_qq,T.F_qq.kp,T.b_qq⟩
 have c_qr:Callee P w K mg base "_law_parsed" a.f_qr a.d_qr ["_law_words", "_law_at"] (n+1) (YN n):=⟨I,T.g_qr,T.F_qr.kp,T.b_qr⟩
 refine T.F_qr.ok sc_qr (fun vs H Q E h=>?_) (fun cdv A outer s H vs Q E hr h=>?_)
 ·obtain⟨l,ws,i,rfl,_⟩:=h
  rfl
 ·obtain⟨l,ws,i,rfl,hl,hw,hn,hi,hm,k⟩:=h
  have hu:=ziz hr
  refine zM (w_pss_cons (zh (i:=2) sc_qr.nd rfl (Or.inl rfl) (zo (zi ze (zi ze (zi ze (zi ze (zi ze (zi ze (zi ze (zi ze (zi ze za)))))))))))
   (w_pss_cons (zh (i:=3) sc_qr.nd rfl (Or.inl rfl) (ZW (yh ze zb (yh ze zb (yh ze zb (yh ze zb (yh ze zb (yh ze zb ZU)))))) rfl rfl (by intro z;cases z) (by decide)))
   (w_pss_cons (w_ps_if (w_pt_cmpR op_ge (w_pv 1) (w_pe_callB call_len_seq (by rfl) T.n_len zU (zf (w_pv 0) za)) (zp _))
    (zd (zj (zC (zi zG (zf (w_pv 1) za)))))
    zk)
   (w_pss_cons (zh (i:=4) sc_qr.nd rfl (Or.inl rfl) (zm zq (w_pv 0) (w_pv 1) (fun _ _=>rfl)))
   (w_pss_cons (w_ps_if (w_pt_cmpR xh (w_pv 4) (w_pv 2) (by with_unfolding_all rfl))
    (zd (zj (zC (Vd (zC (zi ze (zf (w_pv 4) za))) (yp (zl yd (w_pv 1) zb) za)))))
    zk)
   (w_pss_cons (w_ps_if (w_pt_cmpR Uv (zr c_qq (hr.mono (by omega)) (zf (w_pv 4) za)) zG (zp _))
    (zd (zj (zC (Vd (zC (zi ze (zQ (zr c_qq (hr.mono (by omega)) (zf (w_pv 4) za)) za))) (yp (zl yd (w_pv 1) zb) za)))))
    zk)
   (w_pss_cons (w_ps_if (Wb (v5 hu (w_pv 4) (w_pv 3)))
    (zd (zj (zC (zi zG (zf (w_pv 1) za)))))
    zk)
   (w_pss_cons (zh (i:=5) sc_qr.nd rfl (Or.inl rfl) (zo za))
   (w_pss_cons (zh (i:=1) sc_qr.nd rfl (Or.inl rfl) (zl yd (w_pv 1) zb))
   (w_pss_cons (zV PassesOwn.never rfl (xO rfl T.n_range (zg (ZX hu (w_pv 3) (w_pv 4) (fun _ _=>rfl)) za)) (zv (i:=6) sc_qr.nd rfl (Or.inl rfl))
    (w_pss_cons (yt (zr c_qr (hr.mono (by omega)) (zf (w_pv 0) (zf (w_pv 1) za))) (yZ rfl (zL (zv (i:=7) sc_qr.nd rfl (Or.inl rfl)) (zL (zv (i:=1) sc_qr.nd rfl (Or.inl rfl)) yA))))
    (w_pss_cons (w_ps_if (X7 (xN (w_pt_cmpR uT (w_pv 7) zG (zp _)) (yY (X7 (yG (w_pt_cmpR yf (w_pv 4) ze (zp _)) (yG (w_pt_cmpR yf (w_pv 6) zb (zp _)) (yz (w_pt_cmpR Xh (zm yy (w_pv 7) zb (fun _ _=>rfl)) ze (zp _)))))))))
     (zd (zj (zC (zi zG (zf (w_pv 1) za)))))
     zk)
    (zd (zN (zH PySem.F.plainAttrs_list PySem.F.slot_list_append PySem.F.type_list_append zS (w_pv 5) (zf (w_pv 7) za)))))))
   (zD (w_ps_if (w_pt_cmpR yf (w_pv 4) ze (zp _))
    (zd (yt (zm yy (zm zq (w_pv 5) zb (fun _ _=>rfl)) zb (fun _ _=>rfl)) (yH (w_pv 5) zb yL)))
    zk)
   (zd (zj (zC (yp (zl Uw (zC (zf (w_pv 4) za)) (zO va (by rfl) T.n_tuple Zh (zf (w_pv 5) za))) (zf (w_pv 1) za)))))))))))))))) ?_
  have e2':sizeLine=16777216:=rfl
  refine⟨(by show 9≤sizeLine;decide),fun q0 hq0=>?_⟩
  have s0:=Same.new (o:=HO.lst [V.str "worth",V.str "me",V.str "round",V.str "lines",V.str "to",V.str "sum",V.str "least",V.str "most",V.str "count"]) hq0
  refine fun pd hpd=>⟨upd_same,yD,rfl,by decide,?_⟩
  rw[ua]
  have s1:Same H (upd (upd (upd H q0 (HO.lst [V.str "worth",V.str "me",V.str "round",V.str "lines",V.str "to",V.str "sum",V.str "least",V.str "most",V.str "count"])) pd (.dK [])) pd (.dK yD)):=Same.updF (s0.trans (Same.new hpd)) (s0.free hpd)
  have hq1:(upd (upd (upd H q0 (HO.lst [V.str "worth",V.str "me",V.str "round",V.str "lines",V.str "to",V.str "sum",V.str "least",V.str "most",V.str "count"])) pd (.dK [])) pd (.dK yD)) q0=some (.lst [V.str "worth",V.str "me",V.str "round",V.str "lines",V.str "to",V.str "sum",V.str "least",V.str "most",V.str "count"]):=by
   have:q0≠pd:=fun z=>by rw[z] at hpd;rw[upd_same] at hpd;cases hpd
   rw[upd_ne this,upd_ne this]
   exact upd_same
  have hd1:(upd (upd (upd H q0 (HO.lst [V.str "worth",V.str "me",V.str "round",V.str "lines",V.str "to",V.str "sum",V.str "least",V.str "most",V.str "count"])) pd (.dK [])) pd (.dK yD)) pd=some (.dK yD):=upd_same
  generalize hH1:(upd (upd (upd H q0 (HO.lst [V.str "worth",V.str "me",V.str "round",V.str "lines",V.str "to",V.str "sum",V.str "least",V.str "most",V.str "count"])) pd (.dK [])) pd (.dK yD))=H1 at *
  have hl1:=s1 _ _ hl
  refine⟨_,rfl,_,rfl,l,_,rfl,.inl (SqL.of hl1),_,_,rfl,rfl,_,rfl,?_⟩
  rw[List.length_map]
  refine ite2 (fun z=>?_) (fun z=>?_)
  ·have z:((ws.length:Nat):Int)≤(i:Int):=of_decide_eq_true z
   have ed:ws.drop i=[]:=List.drop_of_length_le (by omega)
   refine⟨_,rfl,(by show 2≤sizeLine;decide),fun p hp=>?_⟩
   refine k _ _ ?_ (s1.trans (Same.new hp))
   rw[ed]
   exact⟨p,_,rfl,upd_same⟩
  have z:¬ ((ws.length:Nat):Int)≤(i:Int):=fun q=>z (decide_eq_true q)
  have hil:i<ws.length:=by omega
  obtain⟨wd,hwd⟩:∃ wd,ws[i]?=some wd:=⟨ws[i],by simp[hil]⟩
  have hwm:=List.mem_of_getElem? hwd
  obtain⟨hwa,hwl⟩:=hw wd hwm
  have ed:ws.drop i=wd::ws.drop (i+1):=by
   rw[List.drop_eq_getElem_cons hil]
   rw[List.getElem?_eq_getElem hil] at hwd
   cases hwd
   rfl
  rw[ed] at k
  refine⟨_,rfl,_,rfl,l,_,_,_,rfl,rfl,SqL.of hl1,zB (by rw[List.getElem?_map,hwd];rfl),?_⟩
  refine⟨_,rfl,_,rfl,q0,_,rfl,.inl (SqL.of hq1),rfl,rfl,_,rfl,?_⟩
  have len1:(ws.length:Int)-((ws.drop (i+1)).length:Int)=(i:Int)+1:=by rw[List.length_drop];omega
  refine ite2 (fun q=>?_) (fun q1=>?_)
  ·have q:inV (.str wd) (allNs.map V.str)=true:=q
   refine⟨_,rfl,(by show 2≤sizeLine;decide),fun p1 hp1=>?_⟩
   have n1:=Same.new (o:=HO.tup [V.str "name",V.str wd]) hp1
   refine⟨_,rfl,_,_,rfl,rfl,(by show 2≤sizeLine;decide),fun p2 hp2=>?_⟩
   refine k _ _ ?_ (s1.trans (n1.trans (Same.new hp2)))
   have:fp (n+1) (wd::ws.drop (i+1))=some (.name wd,ws.drop (i+1)):=by unfold fp;rw[if_pos q]
   rw[this]
   refine⟨p2,_,rfl,by rw[len1];exact upd_same,p1,rfl,(Same.new hp2) _ _ upd_same⟩
  have q1:¬ inV (.str wd) (allNs.map V.str)=true:=q1
  refine⟨_,rfl,wd,rfl,hwa,hwl,fun H2 s2=>⟨rfl,_,rfl,?_⟩⟩
  by_cases q2:yE wd=true
  ·rw[if_pos q2]
   refine zP rfl ?_
   refine⟨_,rfl,wd,rfl,hwa,hwl,fun H3 s3=>⟨(by show 2≤sizeLine;decide),fun p1 hp1=>?_⟩⟩
   rw[if_pos q2] at *
   have n1:=Same.new (o:=HO.tup [V.str "num",V.int (ZC wd)]) hp1
   refine⟨_,rfl,_,_,rfl,rfl,(by show 2≤sizeLine;decide),fun p2 hp2=>?_⟩
   refine k _ _ ?_ (s1.trans (s2.trans (s3.trans (n1.trans (Same.new hp2)))))
   have:fp (n+1) (wd::ws.drop (i+1))=some (.num (ZC wd),ws.drop (i+1)):=by unfold fp;rw[if_neg q1,if_pos q2]
   rw[this]
   refine⟨p2,_,rfl,by rw[len1];exact upd_same,p1,rfl,(Same.new hp2) _ _ upd_same⟩
  rw[if_neg q2]
  refine iteN rfl ?_
  have s12:=s1.trans s2
  have hd2:=s2 _ _ hd1
  have hl2:=s2 _ _ hl1
  have hget:DGet H2 pd (V.str wd) ((yi partsD wd).map V.int):=by
   have:=DGet.k (k:=.inr wd) hd2
   rw[vw] at this
   exact this
  refine⟨_,rfl,_,rfl,pd,_,rfl,hget,_,rfl,?_⟩
  cases ht:yi partsD wd with
  |none =>
   refine zP rfl ?_
   refine⟨_,rfl,(by show 2≤sizeLine;decide),fun p hp=>?_⟩
   refine k _ _ ?_ (s12.trans (Same.new hp))
   have:fp (n+1) (wd::ws.drop (i+1))=none:=by unfold fp;rw[if_neg q1,if_neg q2,ht]
   rw[this]
   exact⟨p,_,rfl,upd_same⟩
  |some kk =>
   refine iteN rfl ?_
   have efp:fp (n+1) (wd::ws.drop (i+1))=(fps (fp n) kk.toNat (ws.drop (i+1))).bind (mkE wd):=by
    conv=>lhs;unfold fp
    rw[if_neg q1,if_neg q2,ht]
   rw[efp] at k
   have kb:0≤kk∧kk≤4:=by
    rcases xE ht with rfl | rfl | tw
    ·rw[show yi partsD "less" = some 4 by decide +kernel] at ht;cases ht;decide
    ·rw[show yi partsD "mod" = some 2 by decide +kernel] at ht;cases ht;decide
    ·rw[show yi partsD wd=some 2 by rcases tw with rfl | rfl | rfl | rfl<;>decide +kernel] at ht;cases ht;decide
   refine⟨(by show 0≤sizeLine;decide),fun pl hpl=>?_⟩
   have n3:=Same.new (o:=HO.lst []) hpl
   have hd3:=n3 _ _ hd2
   rw[ht] at hget
   refine⟨_,rfl,_,_,rfl,rfl,?_⟩
   refine⟨_,rfl,_,rfl,pd,_,rfl,.inl ⟨yD,.inr wd,.inl hd3,rfl,by rw[vw,ht];rfl⟩,kk,rfl,by omega,by omega,?_⟩
   have hm':ws.length-(i+1)<n:=by omega
   have s13:Same H (upd H2 pl (HO.lst [])):=s12.trans n3
   have hpl0:H pl=none:=s12.free hpl
   obtain⟨Pv,hPv⟩:∃ Pv:Nat→St→Hp→Prop,Pv=(fun j σ H'=>∃ (es:List Ex) (r:List Str) (vs:List V) (o6 o7:Option V),σ=[some (.ref l),some (.int ((ws.length:Int)-(r.length:Int))),some (.ref q0),some (.ref pd),some (.str wd),some (.ref pl),o6,o7]∧fps (fp n) j (ws.drop (i+1))=some (es,r)∧H' pl=some (.lst vs)∧ToldL H' vs es∧Same H2 H'∧(wd = "mod" → ∀ e,es[1]?=some e→∃ i,e=.num i)):=⟨_,rfl⟩
   refine vQ (lo:=0) Pv ?_ ?_ ?_
   ·rw[hPv]
    refine⟨[],ws.drop (i+1),[],none,none,?_,rfl,upd_same,.nil,n3,fun _ e h=>by cases h⟩
    rw[len1]
    rfl
   ·intro j σ H3 hj hp3
    rw[hPv] at hp3
    obtain⟨es,r,vs,o6,o7,rfl,hes,hvl,htl,s3,hnm⟩:=hp3
    obtain⟨er,lr⟩:=UH hes
    have hl3:=s3 _ _ hl2
    have ean:V.int ((ws.length:Int)-(r.length:Int))=V.int ((ws.length-r.length:Nat):Int):=by congr 1;omega
    refine⟨_,rfl,_,rfl,l,ws,ws.length-r.length,by rw[ean];rfl,hl3,hw,hn,by omega,by omega,fun v H4 hv s4=>?_⟩
    rw[er] at hv
    have lv:vs.length=j:=htl.length.trans (xy hes)
    have htl4:ToldL H4 vs es:=htl.mono fun b xs h=>s4 _ _ h
    cases hf:fp n r with
    |none =>
     rw[hf] at hv
     obtain⟨p,i',rfl,hp⟩:=hv
     refine⟨p,_,rfl,SqT.of hp,rfl,_,_,rfl,_,_,rfl,rfl,?_⟩
     refine⟨_,rfl,rfl,_,rfl,wB (wB ?_)⟩
     refine⟨_,rfl,(by show 2≤sizeLine;decide),fun p2 hp2=>?_⟩
     refine k _ _ ?_ (s12.trans (s3.trans (s4.trans (Same.new hp2))))
     rw[W3 hes hf _ hj]
     exact⟨p2,_,rfl,upd_same⟩
    |some er' =>
     obtain⟨e,r'⟩:=er'
     rw[hf] at hv
     obtain⟨p,u,rfl,hp,htu⟩:=hv
     have hgo:=zdI hes hf
     refine⟨p,_,rfl,SqT.of hp,rfl,_,_,rfl,_,_,rfl,rfl,?_⟩
     obtain⟨pt,rest,rfl,hpt⟩:=htu.tag
     have cont:(wd = "mod" → j=1→∃ i,e=.num i)→∀ D:Ends,D.nx=Pv (j+1)→(VW (tBM K "list" Y0 (U1 5) (xc (U1 7) U2))) D [some (.ref l),some (.int ((ws.length:Int)-(r'.length:Int))),some (.ref q0),some (.ref pd),some (.str wd),some (.ref pl),some (.int (0+(j:Int))),some (.ref pt)] H4:=by
      intro hnum D hD
      refine⟨_,rfl,.inl ⟨rfl,_,SqL.of (s4 _ _ hvl)⟩,_,rfl,pl,vs,_,rfl,rfl,s4 _ _ hvl,by omega,?_⟩
      show D.nx _ _
      rw[hD,hPv]
      refine⟨es++[e],r',vs++[.ref pt],_,_,rfl,hgo,upd_same,?tl,Same.updF (s3.trans s4) hpl,?nm⟩
      case nm =>
       intro hmod e' he'
       have le:=xy hes
       by_cases hj1:j=1
       ·rw[List.getElem?_append_right (by omega),le,hj1] at he'
        cases he'
        exact hnum hmod hj1
       ·by_cases hj0:j=0
        ·rw[List.getElem?_eq_none (by rw[List.length_append,le,hj0];exact Nat.le_refl 1)] at he'
         cases he'
        ·rw[List.getElem?_append_left (by omega)] at he'
         exact hnm hmod e' he'
      case tl =>
       have m4:∀ b xs,H4 b=some (.tup xs)→upd H4 pl (HO.lst (vs++[.ref pt])) b=some (.tup xs):=fun b xs h=>by
        rw[upd_ne (Xn h (s4 _ _ hvl) (by intro z;cases z))]
        exact h
       exact tl_snoc (htu.mono m4) (htl4.mono m4)
     refine⟨_,rfl,rfl,_,rfl,iteN rfl ?_⟩
     refine⟨_,rfl,rfl,_,rfl,?_⟩
     by_cases hmod:wd = "mod"
     ·have kk2:kk=2:=by rw[hmod,show yi partsD "mod" = some 2 by decide +kernel] at ht;cases ht;rfl
      subst kk2
      have hj2:j<2:=hj
      refine zP (by rw[dec_str];exact decide_eq_true hmod) ?_
      refine⟨_,rfl,rfl,_,rfl,?_⟩
      by_cases hj1:j=1
      ·subst hj1
       refine zP rfl ?_
       refine⟨_,rfl,pt,_,_,_,rfl,rfl,SqT.of hpt,at0,rfl,_,rfl,?_⟩
       by_cases hnn:∃ i,e=.num i
       ·refine iteN ?_ (cont (fun _ _=>hnn) _ rfl)
        obtain⟨i',rfl⟩:=hnn
        rfl
       ·have tg:=(zdJ hf).resolve_left hnn
        refine zP (by rw[dec_str];rw[decide_eq_false tg];rfl) ?_
        refine⟨_,rfl,(by show 2≤sizeLine;decide),fun p2 hp2=>?_⟩
        refine k _ _ ?_ (s12.trans (s3.trans (s4.trans (Same.new hp2))))
        have:(fps (fp n) (2:Int).toNat (ws.drop (i+1))).bind (mkE wd)=none:=by
         rw[show(2:Int).toNat=1+1 from rfl,hgo]
         show mkE wd (es++[e],r')=none
         have le:=xy hes
         obtain⟨e0,rfl⟩:=List.length_eq_one_iff.mp le
         ·unfold mkE
          have:zR wd [e0,e]=none:=by
           rcases stepG_cases (es:=[e0,e]) (Bool.eq_false_iff.mpr q1) (Bool.eq_false_iff.mpr q2) with⟨_,z⟩ | ⟨z,_⟩ | ⟨_,z⟩ | ⟨tw,_⟩
           ·exact z
           ·rw[hmod] at z;exact absurd z (by decide +kernel)
           ·rw[z]
            cases e with
            |num i'=>exact absurd ⟨i',rfl⟩ hnn
            |_=>rfl
           ·rw[hmod] at tw
            rcases tw with h | h | h | h<;>exact absurd h (by decide +kernel)
          simp only[List.cons_append,List.nil_append,this]
        rw[this]
        exact⟨p2,_,rfl,upd_same⟩
      ·refine iteN ?_ (iteN rfl (cont (fun _ z=>absurd z hj1) _ rfl))
       show decide (V.int (0+(j:Int))=V.int 1)=false
       rw[decide_eq_false]
       intro z
       injection z with z
       omega
     ·exact iteN (by rw[dec_str];exact decide_eq_false hmod) (iteN rfl (cont (fun z=>absurd z hmod) _ rfl))
   ·intro σ H3 hp3
    rw[hPv] at hp3
    obtain⟨es,r,vs,o6,o7,rfl,hes,hvl,htl,s3,hnm⟩:=hp3
    have le:es.length=kk.toNat:=xy hes
    have lv:vs.length=es.length:=htl.length
    rw[hes] at k
    have k:∀ v H',PsR H' ws (mkE wd (es,r)) v→Same H H'→Q v H':=k
    refine⟨fun σ' H'=>∃ (ys:List V) (e:Ex),σ'=[some (.ref l),some (.int ((ws.length:Int)-(r.length:Int))),some (.ref q0),some (.ref pd),some (.str wd),some (.ref pl),o6,o7]∧H' pl=some (.lst ys)∧(ys≠[]∧ys.length≤4)∧Same H2 H'∧zR wd es=some [e]∧∀ (p:Addr) (H'':Hp),(∀ b xs,H' b=some (.tup xs)→H'' b=some (.tup xs))→H'' p=some (.tup (.str wd::ys))→Told H'' e (.ref p),?_,?_⟩
    ·refine⟨_,rfl,rfl,_,rfl,?_⟩
     rw[dec_str]
     have hn1:=Bool.eq_false_iff.mpr q1
     have hn2:=Bool.eq_false_iff.mpr q2
     rcases stepG_cases (es:=es) hn1 hn2 with⟨z,_⟩ | ⟨z,st⟩ | ⟨z,st⟩ | ⟨tw,st⟩
     ·rw[ht] at z;cases z
     ·have kk4:kk=4:=by rw[z,show yi partsD "less" = some 4 by decide +kernel] at ht;cases ht;rfl
      subst kk4
      refine iteN (by rw[z];decide +kernel) ?_
      obtain⟨f1,f2,f3,f4,rfl⟩:=zix (show es.length=4 from le)
      obtain⟨u1,u2,u3,u4,rfl⟩:=zix (show vs.length=4 from lv)
      cases htl with | cons t1 htl =>
       cases htl with | cons t2 htl =>
       cases htl with | cons t3 htl =>
       cases htl with | cons t4 htl =>
       refine⟨_,.less f1 f2 f3 f4,rfl,hvl,⟨by simp,by simp⟩,s3,st,fun p H'' m hp=>?_⟩
       exact⟨p,u1,u2,u3,u4,rfl,by rw[hp,z],t1.mono m,t2.mono m,t3.mono m,t4.mono m⟩
     ·have kk2:kk=2:=by rw[z,show yi partsD "mod" = some 2 by decide +kernel] at ht;cases ht;rfl
      subst kk2
      refine zP (decide_eq_true z) ?_
      obtain⟨f1,f2,rfl⟩:=zdt (show es.length=2 from le)
      obtain⟨u1,u2,rfl⟩:=zdt (show vs.length=2 from lv)
      obtain⟨i',rfl⟩:=hnm z f2 rfl
      cases htl with | cons t1 htl =>
       cases htl with | cons t2 htl =>
       obtain⟨p2,rfl,hp2⟩:=t2
       refine⟨_,rfl,pl,_,1,_,rfl,rfl,SqL.of hvl,rfl,p2,_,1,_,rfl,rfl,SqT.of hp2,rfl,_,rfl,pl,_,1,1,rfl,rfl,hvl,rfl,?_⟩
       refine⟨[u1,.int i'],.mod f1 i',rfl,upd_same,⟨by simp,by simp⟩,Same.updF s3 hpl,st,fun p H'' m hp=>?_⟩
       have m4:∀ b xs,H3 b=some (.tup xs)→H'' b=some (.tup xs):=fun b xs h=>m b xs (by rw[upd_ne (Xn h hvl (by intro z;cases z))];exact h)
       exact⟨p,u1,rfl,by rw[hp,z],t1.mono m4⟩
     ·have kk2:kk=2:=by rw[show yi partsD wd=some 2 by rcases tw with rfl | rfl | rfl | rfl<;>decide +kernel] at ht;cases ht;rfl
      subst kk2
      have nm:wd ≠ "mod" := by rcases tw with rfl | rfl | rfl | rfl<;>decide +kernel
      refine iteN (decide_eq_false nm) ?_
      obtain⟨f1,f2,rfl⟩:=zdt (show es.length=2 from le)
      obtain⟨u1,u2,rfl⟩:=zdt (show vs.length=2 from lv)
      cases htl with | cons t1 htl =>
       cases htl with | cons t2 htl =>
       refine⟨_,.two wd f1 f2,rfl,hvl,⟨by simp,by simp⟩,s3,st,fun p H'' m hp=>?_⟩
       exact⟨p,u1,u2,rfl,hp,t1.mono m,t2.mono m⟩
    ·rintro σ' H4 ⟨ys,e,rfl,hyl,⟨ny,ly⟩,s4,st,tk⟩
     refine⟨_,rfl,(by show 1≤sizeLine;decide),fun p1 hp1=>?_⟩
     have n4:=Same.new (o:=HO.tup [V.str wd]) hp1
     refine⟨_,rfl,pl,ys,rfl,.inl ⟨SqL.of (n4 _ _ hyl),fun p2 hp2=>?_⟩⟩
     have n5:=Same.new (o:=HO.tup ys) hp2
     refine⟨p1,p2,_,_,rfl,rfl,SqT.of (n5 _ _ upd_same),SqT.of upd_same,by simp,by simp;omega,fun z=>absurd z ny,fun _ p3 hp3=>?_⟩
     have n6:=Same.new (o:=HO.tup ([V.str wd]++ys)) hp3
     refine⟨_,rfl,(by show 2≤sizeLine;decide),fun p4 hp4=>?_⟩
     have n7:=Same.new (o:=HO.tup [V.ref p3,V.int ((ws.length:Int)-(r.length:Int))]) hp4
     refine k _ _ ?_ (s12.trans (s4.trans (n4.trans (n5.trans (n6.trans n7)))))
     have:mkE wd (es,r)=some (e,r):=by unfold mkE;simp only[st]
     rw[this]
     refine⟨p4,_,rfl,upd_same,tk p3 _ (fun b xs h=>(n4.trans (n5.trans (n6.trans n7))) _ _ h) ?_⟩
     exact n7 _ _ upd_same
theorem Vs (T:Txt w K mg a):∀ n,FnOk P w K mg base CX0 (n+1) a.f_qr a.d_qr ["_law_words", "_law_at"] (YN n)
 |0=>⟨fun vs H Q E h=>by
   obtain⟨l,ws,i,rfl,_⟩:=h
   rfl,fun A outer s H args us vs Q E _ _ _ _ h=>by
   obtain⟨l,ws,i,_,_,_,_,_,hm,_⟩:=h
   omega⟩
 |n+1=>Wz T n (Vs T n)
end
end K04

namespace K04
open PySem L2
theorem xX {α β:Type}{F:α→β→Prop}:∀ {as:List α}{bs:List β}{i:Nat}{x:α}{y:β},Paired F as bs→as[i]?=some x→bs[i]?=some y→F x y
 |_,_,0,_,_,.cons h _,hx,hy=>by cases hx;cases hy;exact h
 |_,_,i+1,_,_,.cons _ t,hx,hy=>xX t (by simpa using hx) (by simpa using hy)
theorem Told.pts {H:Hp}{e:Ex}{v:V}(h:Told H e v) (hp:xx e≠[]):∃ p vs,v=.ref p∧H p=some (.tup (.str (U0 e)::vs))∧Paired (fun v q=>ptV H v q) vs (xx e):=by
 cases e with
 |num i=>exact absurd rfl hp
 |name x=>exact absurd rfl hp
 |two w e f=>obtain⟨p,a,b,e,h,t1,t2⟩:=h;exact⟨p,_,e,h,.cons t1 (.cons t2 .nil)⟩
 |mod e n=>obtain⟨p,a,e,h,t1⟩:=h;exact⟨p,_,e,h,.cons t1 (.cons rfl .nil)⟩
 |less e f g h'=>obtain⟨p,a,b,c,d,e,h,t1,t2,t3,t4⟩:=h;exact⟨p,_,e,h,.cons t1 (.cons t2 (.cons t3 (.cons t4 .nil)))⟩
theorem WJ {e e':Ex}(h:e.nice) (m:.inl e'∈xx e):e'.nice∧e'.dep<e.dep:=by
 cases e with
 |num i=>cases m
 |name x=>cases m
 |two w e f =>
  obtain⟨_,h1,h2⟩:=h
  simp only[xx,List.mem_cons,List.not_mem_nil,or_false] at m
  rcases m with m | m<;>cases m
  ·exact⟨h1,by show _<max _ _+1;omega⟩
  ·exact⟨h2,by show _<max _ _+1;omega⟩
 |mod e n =>
  obtain⟨_,h1⟩:=h
  simp only[xx,List.mem_cons,List.not_mem_nil,or_false] at m
  rcases m with m | m<;>cases m
  exact⟨h1,by show _<_+1;omega⟩
 |less e f g i =>
  obtain⟨h1,h2,h3,h4⟩:=h
  simp only[xx,List.mem_cons,List.not_mem_nil,or_false] at m
  rcases m with m | m | m | m<;>cases m
  ·exact⟨h1,by show _<max (max _ _) (max _ _)+1;omega⟩
  ·exact⟨h2,by show _<max (max _ _) (max _ _)+1;omega⟩
  ·exact⟨h3,by show _<max (max _ _) (max _ _)+1;omega⟩
  ·exact⟨h4,by show _<max (max _ _) (max _ _)+1;omega⟩
theorem WI {e:Ex}(h:e.nice) (hp:xx e≠[]):U0 e ≠ "num" ∧ U0 e ≠ "name" ∧ (xx e).length≤4:=by
 cases e with
 |num i=>exact absurd rfl hp
 |name x=>exact absurd rfl hp
 |two w e f =>
  obtain⟨tw,_⟩:=h
  have:w ≠ "num" ∧ w ≠ "name" := by rcases tw with rfl | rfl | rfl | rfl<;>decide +kernel
  exact⟨this.1,this.2,by show 2≤4;decide⟩
 |mod e n=>exact⟨by show("mod" : Str) ≠ "num";decide +kernel,by show("mod" : Str) ≠ "name";decide +kernel,by show 2≤4;decide⟩
 |less e f g i=>exact⟨by show("less" : Str) ≠ "num";decide +kernel,by show("less" : Str) ≠ "name";decide +kernel,by show 4≤4;decide⟩
section
variable {P:Program}{w:World}{K:PySem.W.Frag}{mg:Str→Option Value}{base:Heap}{a:Ad}
def vk (n:Nat):Sp:=fun vs H Q _=>∃ (e:Ex) (v:V) (l:Addr) (names:List Str) (d:Int),vs=[v,.ref l,.int d]∧Told H e v∧e.nice∧H l=some (.lst (names.map V.str))∧e.dep≤n ∧
 ∀ p H',Same H H'→H' p=some (.tup [.int (e.size:Int),.bl (lkB names d e)])→Q (.ref p) H'
theorem Xs (T:Txt w K mg a) (n:Nat) (I:FnOk P w K mg base CX0 (n+1) a.f_qs a.d_qs ["_law_told", "_law_names", "_law_deep"] (vk n)):FnOk P w K mg base CX0 (n+2) a.f_qs a.d_qs ["_law_told", "_law_names", "_law_deep"] (vk (n+1)):=by
 have c_qs:Callee P w K mg base "_law_look" a.f_qs a.d_qs ["_law_told", "_law_names", "_law_deep"] (n+1) (vk n):=⟨I,T.g_qs,T.F_qs.kp,T.b_qs⟩
 refine T.F_qs.ok sc_qs (fun vs H Q E h=>?_) (fun cdv A outer s H vs Q E hr h=>?_)
 ·obtain⟨e,v,l,names,d,rfl,_⟩:=h
  rfl
 ·obtain⟨e,v,l,names,d,rfl,ht,hnc,hl,hd,k⟩:=h
  refine zM (w_pss_cons (w_ps_if (w_pt_cmpR yf (zm yy (w_pv 0) zb (fun _ _=>rfl)) ze (zp _))
    (zd (zj (zC (zi zb (zg (zJ xY (w_pv 2) zb (zp _)) za)))))
    zk)
   (w_pss_cons (w_ps_if (w_pt_cmpR yf (zm yy (w_pv 0) zb (fun _ _=>rfl)) ze (zp _))
    (zd (zj (zC (zi zb (zg (zZ (zJ xY (w_pv 2) zb (zp _)) (zX (zJ xh (zm yy (w_pv 0) zb (fun _ _=>rfl)) (w_pv 1) (by with_unfolding_all rfl)))) za)))))
    zk)
   (w_pss_cons (zh (i:=3) sc_qs.nd rfl (Or.inl rfl) zb)
   (w_pss_cons (zh (i:=4) sc_qs.nd rfl (Or.inl rfl) (zJ xY (w_pv 2) zb (zp _)))
   (w_pss_cons (zV PassesOwn.never rfl (Wc (zy zcx (w_pv 0) (zE zb) zF)) (zv (i:=5) sc_qs.nd rfl (Or.inl rfl))
    (zd (w_ps_if (zT (w_pe_callB yb (by rfl) T.n_isinstance zx (zf (w_pv 5) (zf (xa T.n_tuple Zh) za))))
     (w_pss_cons (zh (i:=6) sc_qs.nd rfl (Or.inl rfl) (zr c_qs (hr.mono (by omega)) (zf (w_pv 5) (zf (w_pv 1) (yp (zl xB (w_pv 2) zb) za)))))
     (w_pss_cons (zh (i:=3) sc_qs.nd rfl (Or.inl rfl) (zl yd (w_pv 3) (zm yy (w_pv 6) zb (fun _ _=>rfl))))
     (zd (zh (i:=4) sc_qs.nd rfl (Or.inl rfl) (zZ (w_pv 4) (zX (zm yy (w_pv 6) zb (fun _ _=>rfl))))))))
     (w_pss_cons (zh (i:=3) sc_qs.nd rfl (Or.inl rfl) (zl yd (w_pv 3) zb))
     (zd (zh (i:=4) sc_qs.nd rfl (Or.inl rfl) (zZ (w_pv 4) (zX (zJ xY (w_pv 5) zb (zp _))))))))))
   (zd (zj (zC (zf (w_pv 3) (zf (w_pv 4) za)))))))))) ?_
  have hall:(names.map V.str).all yW=true:=by rw[List.all_map,List.all_eq_true];exact fun _ _=>rfl
  by_cases hp:xx e=[]
  ·cases e with
   |num i =>
    obtain⟨p,rfl,hp⟩:=ht
    refine⟨_,rfl,p,_,_,_,rfl,rfl,SqT.of hp,at0,rfl,_,rfl,zP rfl ?_⟩
    refine⟨_,rfl,_,_,rfl,rfl,(by show 2≤sizeLine;decide),fun q hq=>?_⟩
    exact k q _ (Same.new hq) upd_same
   |name x =>
    obtain⟨p,rfl,hp⟩:=ht
    refine⟨_,rfl,p,_,_,_,rfl,rfl,SqT.of hp,at0,rfl,_,rfl,iteN (by decide +kernel) ?_⟩
    refine⟨_,rfl,p,_,_,_,rfl,rfl,SqT.of hp,at0,rfl,_,rfl,zP rfl ?_⟩
    refine⟨_,rfl,_,_,rfl,rfl,_,rfl,?_⟩
    by_cases z:0<d
    ·refine zP (decide_eq_true z) ?_
     refine⟨_,rfl,p,_,1,_,rfl,rfl,SqT.of hp,rfl,_,rfl,l,_,rfl,.inl (SqL.of hl),rfl,hall,(by show 2≤sizeLine;decide),fun q hq=>?_⟩
     refine k q _ (Same.new hq) ?_
     show _=some (HO.tup [_,V.bl (decide (0<d)&&inV (.str x) (names.map V.str))])
     rw[decide_eq_true z,upd_same]
     rfl
    ·refine iteN (decide_eq_false z) ?_
     refine⟨(by show 2≤sizeLine;decide),fun q hq=>?_⟩
     refine k q _ (Same.new hq) ?_
     show _=some (HO.tup [_,V.bl (decide (0<d)&&inV (.str x) (names.map V.str))])
     rw[decide_eq_false z,upd_same]
     rfl
   |two w e f=>cases hp
   |mod e n=>cases hp
   |less e f g h=>cases hp
  ·obtain⟨p,vs,rfl,hpt,hpr⟩:=ht.pts hp
   obtain⟨n1,n2,l4⟩:=WI hnc hp
   have lvs:vs.length=(xx e).length:=hpr.length
   refine⟨_,rfl,p,_,_,_,rfl,rfl,SqT.of hpt,at0,rfl,_,rfl,iteN (by rw[dec_str];exact decide_eq_false n1) ?_⟩
   refine⟨_,rfl,p,_,_,_,rfl,rfl,SqT.of hpt,at0,rfl,_,rfl,iteN (by rw[dec_str];exact decide_eq_false n2) ?_⟩
   refine⟨_,rfl,_,_,rfl,rfl,?_⟩
   refine⟨_,rfl,_,rfl,p,_,rfl,SqT.of hpt,(fun z=>by
     have h1:HT.sIx (V.str (U0 e)::vs).length 0 (some 1)=1:=by
      unfold HT.sIx
      simp
     rw[h1] at z
     exact absurd z.1 (by decide)),fun lt hlt=>?_⟩
   rw[zpA]
   have s1:=Same.new (o:=HO.tup vs) hlt
   refine⟨lt,rfl,⟨_,SqT.of upd_same⟩,?_⟩
   generalize hH1:upd H lt (HO.tup vs)=H1 at *
   have hlt1:H1 lt=some (.tup vs):=by rw[← hH1];exact upd_same
   have hl1:=s1 _ _ hl
   refine UL (xs:=vs) (fun i σ H'=>∃ o5 o6,σ=[some (.ref p),some (.ref l),some (.int d),some (.int (1+(((xx e).take i).map fun q=>((ptS q:Nat):Int)).sum)),some (.bl (decide (0<d)&&((xx e).take i).all (ptB names (d-1)))),o5,o6]∧Same H1 H') ?_ ?_ ?_ ?_
   ·refine⟨none,none,?_,Same.refl _⟩
    simp
    rfl
   ·rintro i σ H' hi ⟨o5,o6,rfl,s'⟩
    exact SqT.of (s' _ _ hlt1)
   ·rintro i x σ H' hx ⟨o5,o6,rfl,s'⟩
    have hi:i<vs.length:=(List.getElem?_eq_some_iff.mp hx).1
    obtain⟨q,hq⟩:∃ q,(xx e)[i]?=some q:=⟨(xx e)[i]'(by omega),by simp[show i<(xx e).length by omega]⟩
    have hv:ptV H x q:=xX hpr hx hq
    have e3:(((xx e).take (i+1)).map fun q=>((ptS q:Nat):Int)).sum=(((xx e).take i).map fun q=>((ptS q:Nat):Int)).sum+((ptS q:Nat):Int):=by
     rw[List.take_add_one,hq,List.map_append,List.sum_append]
     simp
    have e4:(decide (0<d)&&((xx e).take (i+1)).all (ptB names (d-1)))=((decide (0<d)&&((xx e).take i).all (ptB names (d-1)))&&ptB names (d-1) q):=by
     rw[List.take_add_one,hq,List.all_append,Bool.and_assoc]
     simp
    rw[e3,e4,← Int.add_assoc]
    generalize hc:(decide (0<d)&&((xx e).take i).all (ptB names (d-1)))=cc
    have hmem:=List.mem_of_getElem? hq
    cases q with
    |inl e' =>
     obtain⟨hn',hd'⟩:=WJ hnc hmem
     have ht':Told H' e' x:=(hv:Told H e' x).same (s1.trans s')
     obtain⟨pe,xs,rfl,hpe⟩:=ht'.ref
     refine⟨_,rfl,_,_,_,_,_,rfl,rfl,TyOf.tup hpe,T.k_ttuple_ttuple,_,rfl,wB ?_⟩
     refine⟨_,rfl,_,rfl,_,rfl,_,_,rfl,rfl,e',_,l,names,d-1,rfl,ht',hn',s' _ _ hl1,by omega,fun p2 H2 s2 hp2=>?_⟩
     refine⟨_,rfl,_,rfl,p2,_,_,_,rfl,rfl,SqT.of hp2,at0,_,_,rfl,rfl,?_⟩
     refine⟨_,rfl,_,rfl,?_⟩
     cases cc with
     |true =>
      exact wB ⟨_,rfl,p2,_,1,_,rfl,rfl,SqT.of hp2,rfl,some (.ref pe),some (.ref p2),rfl,s'.trans s2⟩
     |false =>
      exact wq ⟨some (.ref pe),some (.ref p2),rfl,s'.trans s2⟩
    |inr m =>
     have hv:x=.int m:=hv
     subst hv
     refine⟨_,rfl,_,_,_,_,_,rfl,rfl,TyOf.int m,T.k_tint_ttuple,_,rfl,wq ?_⟩
     refine⟨_,rfl,_,_,rfl,rfl,?_⟩
     refine⟨_,rfl,_,rfl,?_⟩
     cases cc with
     |true =>
      exact wB ⟨_,rfl,_,_,rfl,rfl,some (.int m),o6,rfl,s'⟩
     |false =>
      exact wq ⟨some (.int m),o6,rfl,s'⟩
   ·rintro σ H' ⟨o5,o6,rfl,s'⟩
    rw[lvs,List.take_length]
    refine⟨_,rfl,_,rfl,(by show 2≤sizeLine;decide),fun q hq=>?_⟩
    refine k q _ (s1.trans (s'.trans (Same.new hq))) ?_
    rw[upd_same,Wl,zdr hp]
theorem Xk (T:Txt w K mg a):∀ n,FnOk P w K mg base CX0 (n+1) a.f_qs a.d_qs ["_law_told", "_law_names", "_law_deep"] (vk n)
 |0=>⟨fun vs H Q E h=>by
   obtain⟨e,v,l,names,d,rfl,_⟩:=h
   rfl,fun A outer s H args us vs Q E _ _ _ _ h=>by
   obtain⟨e,v,l,names,d,_,_,_,_,hd,_⟩:=h
   have:=e.dep_pos
   omega⟩
 |n+1=>Xs T n (Xk T n)
end
end K04

namespace K04
open PySem L2
structure RowOk (x:Str):Prop where
 len:x.length≤10000
 ne:Txt.split x " " ≠ []
 cnt:(Txt.split x " ").length≤60
 ws:∀ w∈Txt.split x " ",Asc w∧w.length≤22∧SmW w
theorem xK:((" " : Str).length == 0)=false:=by decide +kernel
theorem RowOk.l1 {x:Str}(h:RowOk x):x.length≤sizeLine:=Nat.le_trans h.len (by decide)
theorem RowOk.l2 {x:Str}(h:RowOk x):(Txt.split x " ").length≤sizeLine:=Nat.le_trans h.cnt (by decide)
theorem RowOk.l3 {x:Str}(h:RowOk x):(Builtin.Str.partsBetween x (Builtin.Str.occurrences x " " 0 x.length (x.length+1)) (" " : Str).length).length≤sizeLine:=Nat.le_trans (xW x " ") (Nat.le_trans (Nat.add_le_add_right h.len 2) (by decide))
theorem Ex.dep_size:∀ e:Ex,e.dep≤e.size
 |.num _=>Nat.le_refl _
 |.name _=>Nat.le_refl _
 |.two _ e f=>by have:=e.dep_size;have:=f.dep_size;simp only[Ex.dep,Ex.size];omega
 |.mod e _=>by have:=e.dep_size;simp only[Ex.dep,Ex.size];omega
 |.less e f g h=>by have:=e.dep_size;have:=f.dep_size;have:=g.dep_size;have:=h.dep_size;simp only[Ex.dep,Ex.size];omega
noncomputable def szs (es:List Ex):Nat:=(es.map Ex.size).sum
theorem Wj {w:Str}{es es':List Ex}(hs:zR w es=some es'):szs es'=szs es+1:=by
 unfold szs
 by_cases q1:inV (.str w) (allNs.map V.str)=true
 ·unfold zR at hs
  rw[if_pos q1] at hs
  cases hs
  simp[Ex.size];omega
 ·by_cases q2:yE w=true
  ·unfold zR at hs
   rw[if_neg q1,if_pos q2] at hs
   cases hs
   simp[Ex.size];omega
  ·rcases stepG_cases (es:=es) (Bool.eq_false_iff.mpr q1) (Bool.eq_false_iff.mpr q2) with⟨_,z⟩ | ⟨_,z⟩ | ⟨_,z⟩ | ⟨tw,z⟩
   ·rw[z] at hs;cases hs
   ·rw[z] at hs
    match es,hs with
    |e1::e2::e3::e4::r,hs=>cases hs;simp[Ex.size];omega
   ·rw[z] at hs
    match es,hs with
    |e1::.num i::r,hs=>cases hs;simp[Ex.size];omega
   ·rw[z] at hs
    match es,hs with
    |e1::e2::r,hs=>cases hs;simp[Ex.size];omega
theorem Vm:∀ {ws:List Str}{st es:List Ex},ws.foldr rdG (some st)=some es→szs es=szs st+ws.length
 |[],_,_,h=>by cases h;rfl
 |w::ws,st,es,h=>by
  have h:rdG w (ws.foldr rdG (some st))=some es:=h
  cases h0:ws.foldr rdG (some st) with
  |none=>rw[h0] at h;cases h
  |some es0 =>
   rw[h0] at h
   have h1:=Vm h0
   have h2:=Wj h
   simp
   omega
theorem UI {n:Nat}{ws r:List Str}{e:Ex}(h:fp n ws=some (e,r)):e.size≤ws.length:=by
 obtain⟨us,eu,rd⟩:=xq n ws e r h
 have:=Vm (rd.of [])
 rw[eu,List.length_append]
 simp[szs] at this
 omega
section
variable {P:Program}{w:World}{K:PySem.W.Frag}{mg:Str→Option Value}{base:Heap}{a:Ad}
def zcv:Sp:=fun vs H Q _=>∃ (l:Addr) (rows:List Str),vs=[.ref l]∧H l=some (.lst (rows.map V.str))∧(∀ r∈rows,RowOk r) ∧
 (∀ i:Nat,i<4→(∀ j<i,zK rows j≠none)→zK rows i=none→∀ H',Same H H'→Q (.int i) H') ∧
 ((∀ j<4,zK rows j≠none)→4<rows.length→∀ H',Same H H'→Q (.int 4) H') ∧
 (∀ e1 e2 e3 e4,zK rows 0=some e1→zK rows 1=some e2→zK rows 2=some e3→zK rows 3=some e4→rows.length≤4→(vZ e1 e2 e3 e4→∀ p vs H',Same H H'→H' p=some (.lst vs)→ToldL H' vs [e1,e2,e3,e4]→Q (.ref p) H')∧(¬ vZ e1 e2 e3 e4→∀ H',Same H H'→Q (.str "program") H'))
theorem zc5 (T:Txt w K mg a):FnOk P w K mg base CX0 102 a.f_qt a.d_qt ["_law_rows"] zcv:=by
 have c_qr:Callee P w K mg base "_law_parsed" a.f_qr a.d_qr ["_law_words", "_law_at"] 101 (YN 100):=⟨Vs T 100,T.g_qr,T.F_qr.kp,T.b_qr⟩
 have c_qs:Callee P w K mg base "_law_look" a.f_qs a.d_qs ["_law_told", "_law_names", "_law_deep"] 61 (vk 60):=⟨Xk T 60,T.g_qs,T.F_qs.kp,T.b_qs⟩
 refine T.F_qt.ok sc_qt (fun vs H Q E h=>?_) (fun cdv A outer s H vs Q E hr h=>?_)
 ·obtain⟨l,rows,rfl,_⟩:=h
  rfl
 ·obtain⟨l,rows,rfl,hl,hok,k1,k2,k3⟩:=h
  refine zM (w_pss_cons (zh (i:=1) sc_qt.nd rfl (Or.inl rfl) (zo (zi ze (zi ze (zi ze (zi ze (zi ze za)))))))
   (w_pss_cons (zh (i:=2) sc_qt.nd rfl (Or.inl rfl) (zo (zi ze (zi ze (zi ze (zi ze (zi ze (zi ze (zi ze (zi ze za))))))))))
   (w_pss_cons (zh (i:=3) sc_qt.nd rfl (Or.inl rfl) (zo za))
   (w_pss_cons (zV PassesOwn.never rfl (vd rfl T.n_enumerate (zg (zo (zi ze (zi ze (zi ze (zi ze za))))) za)) (yZ rfl (zL (zv (i:=4) sc_qt.nd rfl (Or.inl rfl)) (zL (zv (i:=5) sc_qt.nd rfl (Or.inl rfl)) yA)))
    (w_pss_cons (zh (i:=6) sc_qt.nd rfl (Or.inl rfl) (zC (zi zG (zi zb za))))
    (zD (w_ps_if (X7 (yG (w_pt_cmpR vz (w_pv 4) (w_pe_callB call_len_seq (by rfl) T.n_len zU (zf (w_pv 0) za)) (zp _)) (yz (w_pt_cmpR yf (zm zq (zH PySem.F.plainAttrs_str PySem.F.slot_str_split PySem.F.type_str_split xk (zm zq (w_pv 0) (w_pv 4) (fun _ _=>rfl)) (zi ze za)) zb (fun _ _=>rfl)) (w_pv 5) (zp _)))))
     (zd (zh (i:=6) sc_qt.nd rfl (Or.inl rfl) (zr c_qr (hr.mono (by omega)) (zQ (zH PySem.F.plainAttrs_str PySem.F.slot_str_split PySem.F.type_str_split xk (zm zq (w_pv 0) (w_pv 4) (fun _ _=>rfl)) (zi ze za)) (zi zb za)))))
     zk)
    (w_pss_cons (w_ps_if (X7 (xN (w_pt_cmpR uT (zm yy (w_pv 6) zb (fun _ _=>rfl)) zG (zp _)) (yY (w_pt_cmpR Xh (zm yy (w_pv 6) zb (fun _ _=>rfl)) (w_pe_callB call_len_seq (by rfl) T.n_len zU (zQ (zH PySem.F.plainAttrs_str PySem.F.slot_str_split PySem.F.type_str_split xk (zm zq (w_pv 0) (w_pv 4) (fun _ _=>rfl)) (zi ze za)) za)) (zp _)))))
     (zd (zj (w_pv 4)))
     zk)
    (zd (zN (zH PySem.F.plainAttrs_list PySem.F.slot_list_append PySem.F.type_list_append zS (w_pv 3) (zg (zm yy (w_pv 6) zb (fun _ _=>rfl)) za))))))))
   (w_pss_cons (w_ps_if (w_pt_cmpR xY (w_pe_callB call_len_seq (by rfl) T.n_len zU (zf (w_pv 0) za)) zb (zp _))
    (zd (zj zb))
    zk)
   (w_pss_cons (zh (i:=7) sc_qt.nd rfl (Or.inl rfl) zb)
   (w_pss_cons (zV PassesOwn.never rfl (uB rfl T.n_zip (zf (w_pv 3) (zg (zo (zg (zo (zi ze (zi ze za))) (zf (w_pv 1) (zf (w_pv 1) (zf (w_pv 2) za))))) za))) (yZ rfl (zL (zv (i:=8) sc_qt.nd rfl (Or.inl rfl)) (zL (zv (i:=9) sc_qt.nd rfl (Or.inl rfl)) yA)))
    (w_pss_cons (zh (i:=6) sc_qt.nd rfl (Or.inl rfl) (zr c_qs (hr.mono (by omega)) (zf (w_pv 8) (zf (w_pv 9) (zi zb za)))))
    (w_pss_cons (zh (i:=7) sc_qt.nd rfl (Or.inl rfl) (zl yd (w_pv 7) (zm yy (w_pv 6) zb (fun _ _=>rfl))))
    (zd (w_ps_if (wH (zT (zm yy (w_pv 6) zb (fun _ _=>rfl))))
     (zd (zj ze))
     zk)))))
   (w_pss_cons (w_ps_if (w_pt_cmpR xY (w_pv 7) zb (zp _))
    (zd (zj ze))
    zk)
   (zd (zj (w_pv 3))))))))))) ?_
  have e2':sizeLine=16777216:=rfl
  refine⟨(by show 5≤sizeLine;decide),fun ps hps=>?_⟩
  have s1:=Same.new (o:=HO.lst [V.str "worth",V.str "me",V.str "round",V.str "lines",V.str "to"]) hps
  refine⟨(by show 8≤sizeLine;decide),fun pe hpe=>?_⟩
  have s2:=s1.trans (Same.new (o:=HO.lst [V.str "worth",V.str "me",V.str "round",V.str "lines",V.str "sum",V.str "least",V.str "most",V.str "count"]) hpe)
  have hs2:=(Same.new (o:=HO.lst [V.str "worth",V.str "me",V.str "round",V.str "lines",V.str "sum",V.str "least",V.str "most",V.str "count"]) hpe) _ _ (upd_same (H:=H) (a:=ps) (o:=HO.lst [V.str "worth",V.str "me",V.str "round",V.str "lines",V.str "to"]))
  have he2:(upd (upd H ps (HO.lst [V.str "worth",V.str "me",V.str "round",V.str "lines",V.str "to"])) pe (HO.lst [V.str "worth",V.str "me",V.str "round",V.str "lines",V.str "sum",V.str "least",V.str "most",V.str "count"])) pe=some (.lst [V.str "worth",V.str "me",V.str "round",V.str "lines",V.str "sum",V.str "least",V.str "most",V.str "count"]):=upd_same
  refine⟨(by show 0≤sizeLine;decide),fun pt hpt=>?_⟩
  have s3:=s2.trans (Same.new (o:=HO.lst []) hpt)
  have ht0:H pt=none:=s2.free hpt
  refine⟨(by show 4≤sizeLine;decide),fun pw hpw=>?_⟩
  have s4:=s3.trans (Same.new (o:=HO.lst [V.str "start",V.str "send",V.str "when",V.str "reckon"]) hpw)
  refine⟨.l,pw,rowWs.map V.str,rfl,SqL.of upd_same,?_⟩
  have hsE:=(Same.new (o:=HO.lst [V.str "start",V.str "send",V.str "when",V.str "reckon"]) hpw) _ _ ((Same.new (o:=HO.lst []) hpt) _ _ hs2)
  have heE:=(Same.new (o:=HO.lst [V.str "start",V.str "send",V.str "when",V.str "reckon"]) hpw) _ _ ((Same.new (o:=HO.lst []) hpt) _ _ he2)
  have htE:=(Same.new (o:=HO.lst [V.str "start",V.str "send",V.str "when",V.str "reckon"]) hpw) _ _ (upd_same (H:=upd (upd H ps (HO.lst [V.str "worth",V.str "me",V.str "round",V.str "lines",V.str "to"])) pe (HO.lst [V.str "worth",V.str "me",V.str "round",V.str "lines",V.str "sum",V.str "least",V.str "most",V.str "count"])) (a:=pt) (o:=HO.lst []))
  have hwE:(upd (upd (upd (upd H ps (HO.lst [V.str "worth",V.str "me",V.str "round",V.str "lines",V.str "to"])) pe (HO.lst [V.str "worth",V.str "me",V.str "round",V.str "lines",V.str "sum",V.str "least",V.str "most",V.str "count"])) pt (HO.lst [])) pw (HO.lst [V.str "start",V.str "send",V.str "when",V.str "reckon"])) pw=some (.lst [V.str "start",V.str "send",V.str "when",V.str "reckon"]):=upd_same
  obtain⟨HE,hHE⟩:∃ HE,(upd (upd (upd (upd H ps (HO.lst [V.str "worth",V.str "me",V.str "round",V.str "lines",V.str "to"])) pe (HO.lst [V.str "worth",V.str "me",V.str "round",V.str "lines",V.str "sum",V.str "least",V.str "most",V.str "count"])) pt (HO.lst [])) pw (HO.lst [V.str "start",V.str "send",V.str "when",V.str "reckon"]))=HE:=⟨_,rfl⟩
  rw[hHE] at s4 hsE heE htE hwE
  /- all but pt stays -/
  have hlE:=s4 _ _ hl
  have npt:∀ {b o},HE b=some o→b≠pt→True:=fun _ _=>trivial
  have nl:l≠pt:=fun z=>by rw[z,ht0] at hl;cases hl
  have ns:ps≠pt:=fun z=>by rw[← z,hs2] at hpt;cases hpt
  have ne_:pe≠pt:=fun z=>by rw[← z,he2] at hpt;cases hpt
  have nw:pw≠pt:=fun z=>by rw[z,upd_same] at hpw;cases hpw
  obtain⟨Pv,hPv⟩:∃ Pv:Nat→St→Hp→Prop,Pv=(fun i σ H'=>∃ (es:List Ex) (vs:List V) (o4 o5 o6:Option V),σ=[some (.ref l),some (.ref ps),some (.ref pe),some (.ref pt),o4,o5,o6,none,none,none]∧es.length=i∧(∀ j<i,zK rows j=es[j]?)∧H' pt=some (.lst vs)∧ToldL H' vs es∧(∀ e∈es,e.nice∧e.dep≤60)∧Ext pt HE H'):=⟨_,rfl⟩
  have start:Pv 0 [some (.ref l),some (.ref ps),some (.ref pe),some (.ref pt),none,none,none,none,none,none] HE:=by
   rw[hPv]
   exact⟨[],[],none,none,none,rfl,rfl,fun j hj=>by omega,htE,.nil,(fun e he=>absurd he (by simp)),Ext.refl⟩
  rw[← hHE] at start
  refine u7 (k:=.l) (xs:=rowWs.map V.str) Pv start ?_ ?_ ?_
  ·intro i σ H' hi hp
   rw[hPv] at hp
   obtain⟨es,vs,o4,o5,o6,rfl,_,_,_,_,_,x⟩:=hp
   exact SqL.of (x _ _ hwE nw)
  ·intro i x σ H' p hx hp hp0
   rw[hPv] at hp
   obtain⟨es,vs,o4,o5,o6,rfl,le,hrow,hvs,htl,hnice,xe⟩:=hp
   have hi:i<4:=(List.getElem?_eq_some_iff.mp hx).1
   obtain⟨f,hf,rfl⟩:∃ f,rowWs[i]?=some f∧x=.str f:=by
    rw[List.getElem?_map] at hx
    obtain⟨f,hf,e⟩:=Option.map_eq_some_iff.mp hx
    exact⟨f,hf,e.symm⟩
   refine⟨p,_,rfl,SqT.of upd_same,rfl,_,_,rfl,_,_,rfl,rfl,?_⟩
   refine⟨(by show 2≤sizeLine;decide),fun p6 hp6=>?_⟩
   have m1:=(Same.new (o:=HO.tup [V.int (i:Int),V.str f]) hp0).trans (Same.new (o:=HO.tup [V.non,V.int 0]) hp6)
   generalize hH6:upd (upd H' p (HO.tup [V.int (i:Int),V.str f])) p6 (HO.tup [V.non,V.int 0])=H6 at *
   have h66:H6 p6=some (.tup [.non,.int 0]):=by rw[← hH6];exact upd_same
   have hl6:H6 l=some (.lst (rows.map V.str)):=m1 _ _ (xe _ _ hlE nl)
   refine⟨fun σ' H7=>∃ (q:Addr) (r:V) (m:Int),σ'=[some (.ref l),some (.ref ps),some (.ref pe),some (.ref pt),some (.int (i:Int)),some (.str f),some (.ref q),none,none,none]∧H7 q=some (.tup [r,.int m])∧Same H6 H7 ∧
    ((∃ e row,rows[i]?=some row∧zK rows i=some e∧Told H7 e r∧m=((Txt.split row " ").length:Int)∧e.nice∧e.dep≤60)∨(zK rows i=none∧(r=.non∨∃ row,rows[i]?=some row∧(∃ pr,r=.ref pr)∧m≠((Txt.split row " ").length:Int)))),?_,?_⟩
   ·refine⟨_,rfl,_,rfl,l,_,rfl,.inl (SqL.of hl6),_,_,rfl,rfl,_,rfl,?_⟩
    rw[List.length_map]
    refine ite2 (fun z=>?_) (fun z=>?_)
    ·have z:(i:Int)<(rows.length:Int):=of_decide_eq_true z
     have hil:i<rows.length:=by omega
     obtain⟨row,hrow⟩:∃ row,rows[i]?=some row:=⟨rows[i],by simp[hil]⟩
     have ok:=hok row (List.mem_of_getElem? hrow)
     have hat:∀ H'',Same H6 H''→atI (rows.map V.str) (i:Int)=some (V.str row):=fun _ _=>zB (by rw[List.getElem?_map,hrow];rfl)
     obtain⟨w0,ws,hsp⟩:∃ w0 ws,Txt.split row " " = w0::ws:=by
      cases h:Txt.split row " " with
      |nil=>exact absurd h ok.ne
      |cons a b=>exact⟨a,b,rfl⟩
     have hra:zK rows i=if w0=f then xw ws else none:=by
      unfold zK
      rw[hf,hrow]
      show V5 f row=_
      unfold V5
      rw[hsp]
     refine⟨_,rfl,_,rfl,l,_,_,_,rfl,rfl,SqL.of hl6,hat _ (Same.refl _),rfl,_,_,rfl,rfl,xK,ok.l1,ok.l2,ok.l3,fun p7 hp7=>?_⟩
     rw[hsp]
     have m2:=Same.new (o:=HO.lst ((w0::ws).map V.str)) hp7
     refine⟨p7,_,_,_,rfl,rfl,SqL.of upd_same,at0,_,rfl,rfl,_,rfl,?_⟩
     rw[dec_str]
     by_cases hw:w0=f
     ·rw[if_pos hw] at hra
      refine zP (decide_eq_true hw) ?_
      refine⟨_,rfl,_,rfl,l,_,_,_,rfl,rfl,SqL.of (m2 _ _ hl6),hat _ m2,rfl,_,_,rfl,rfl,xK,ok.l1,ok.l2,ok.l3,fun p8 hp8=>?_⟩
      have m3:=m2.trans (Same.new (o:=HO.lst ((Txt.split row " ").map V.str)) hp8)
      have cn:=ok.cnt
      refine⟨p8,Txt.split row " ",1,rfl,upd_same,fun w hw=>⟨(ok.ws w hw).1,(ok.ws w hw).2.1⟩,by omega,by rw[hsp];simp,by omega,fun v H7 hv s7=>?_⟩
      rw[hsp] at hv
      have hv:PsR H7 (w0::ws) (fp 100 ws) v:=hv
      have m4:=m3.trans s7
      rw[hsp] at cn
      have ln:ws.length≤100:=by simp at cn;omega
      have rd:=fun e=>UJ ln e
      cases hfp:fp 100 ws with
      |none =>
       rw[hfp] at hv
       obtain⟨q,m,rfl,hq⟩:=hv
       refine⟨q,_,m,rfl,hq,m4,.inr ⟨?_,.inl rfl⟩⟩
       rw[hra]
       cases hrd:xw ws with
       |none=>rfl
       |some e=>rw[(rd e).mp hrd] at hfp;cases hfp
      |some er =>
       obtain⟨e,r⟩:=er
       rw[hfp] at hv
       obtain⟨q,u,rfl,hq,htu⟩:=hv
       have hsm:∀ w∈ws,SmW w:=fun w hw=>(ok.ws w (by rw[hsp];simp[hw])).2.2
       have hnc:=UK hsm hfp
       have hdp:=Nat.le_trans e.dep_size (UI hfp)
       by_cases hr0:r=[]
       ·subst hr0
        refine⟨q,u,_,rfl,hq,m4,.inl ⟨e,row,hrow,by rw[hra];exact(rd e).mpr hfp,htu,by rw[hsp];simp,hnc,by simp at cn;omega⟩⟩
       ·refine⟨q,u,_,rfl,hq,m4,.inr ⟨?_,.inr ⟨row,hrow,?_,?_⟩⟩⟩
        ·rw[hra]
         cases hrd:xw ws with
         |none=>rfl
         |some e' =>
          rw[(rd e').mp hrd] at hfp
          cases hfp
          exact absurd rfl hr0
        ·obtain⟨pu,_,rfl,_⟩:=htu.ref
         exact⟨pu,rfl⟩
        ·rw[hsp]
         have:r.length≠0:=fun z=>hr0 (List.length_eq_zero_iff.mp z)
         omega
     ·rw[if_neg hw] at hra
      refine iteN (decide_eq_false hw) ?_
      exact⟨p6,_,_,rfl,m2 _ _ h66,m2,.inr ⟨hra,.inl rfl⟩⟩
    ·have z:¬ (i:Int)<(rows.length:Int):=fun q=>z (decide_eq_true q)
     refine⟨p6,_,_,rfl,h66,Same.refl _,.inr ⟨?_,.inl rfl⟩⟩
     unfold zK
     rw[hf,List.getElem?_eq_none (by omega)]
     rfl
   ·rintro σ' H7 ⟨q,r,m,rfl,hq,s7,alt⟩
    have hl7:=s7 _ _ hl6
    have mE:Same H' H7:=m1.trans s7
    have hv7:H7 pt=some (.lst vs):=mE _ _ hvs
    have x7:Ext pt HE H7:=fun b o e nb=>mE _ _ (xe b o e nb)
    rcases alt with⟨e,row,hrw,hra,htu,rfl,hnc,hdp⟩ | ⟨hra,alt⟩
    ·have ok:=hok row (List.mem_of_getElem? hrw)
     have hat:atI (rows.map V.str) (i:Int)=some (V.str row):=zB (by rw[List.getElem?_map,hrw];rfl)
     obtain⟨pu,xs,rfl,hpu⟩:=htu.ref
     refine⟨_,rfl,q,_,_,_,rfl,rfl,SqT.of hq,at0,rfl,_,rfl,iteN rfl ?_⟩
     refine⟨_,rfl,q,_,1,_,rfl,rfl,SqT.of hq,rfl,_,rfl,_,rfl,l,_,_,_,rfl,rfl,SqL.of hl7,hat,rfl,_,_,rfl,rfl,xK,ok.l1,ok.l2,ok.l3,fun p8 hp8=>?_⟩
     have n8:=Same.new (o:=HO.lst ((Txt.split row " ").map V.str)) hp8
     refine⟨p8,_,rfl,.inl (SqL.of upd_same),rfl,_,rfl,iteN (by rw[List.length_map];simp) ?_⟩
     have hv8:=n8 _ _ hv7
     refine⟨_,rfl,.inl ⟨rfl,_,SqL.of hv8⟩,_,rfl,q,_,_,_,rfl,rfl,SqT.of (n8 _ _ hq),at0,pt,vs,_,rfl,rfl,hv8,by rw[htl.length,le];omega,?_⟩
     show Pv (i+1) _ _
     rw[hPv]
     have m8:∀ b xs,H7 b=some (.tup xs)→upd (upd H7 p8 (HO.lst ((Txt.split row " ").map V.str))) pt (HO.lst (vs++[.ref pu])) b=some (.tup xs):=fun b xs h=>by
      rw[upd_ne (Xn h hv7 (by intro z;cases z))]
      exact n8 _ _ h
     refine⟨es++[e],vs++[.ref pu],_,_,_,rfl,by simp[le],fun j hj=>?_,upd_same,tl_snoc (htu.mono m8) ((htl.mono fun b xs h=>mE _ _ h).mono m8),fun e' he'=>?_,fun b o e nb=>by rw[upd_ne nb];exact n8 _ _ (x7 b o e nb)⟩
     ·by_cases hji:j<i
      ·rw[List.getElem?_append_left (by omega)]
       exact hrow j hji
      ·have:j=i:=by omega
       subst this
       rw[hra,List.getElem?_append_right (by omega),le]
       simp
     ·rcases List.mem_append.mp he' with h | h
      ·exact hnice e' h
      ·rw[List.mem_singleton.mp h]
       exact⟨hnc,hdp⟩
    ·have fin:∀ H8,Same H7 H8→Q (.int i) H8:=fun H8 s8=>k1 i hi (fun j hj=>by rw[hrow j hj,List.getElem?_eq_getElem (by omega)];simp) hra H8 (fun b o e=>s8 _ _ (x7 b o (s4 _ _ e) (ne_of_none e ht0)))
     rcases alt with rfl | ⟨row,hrw,⟨pu,rfl⟩,hm⟩
     ·refine⟨_,rfl,q,_,_,_,rfl,rfl,SqT.of hq,at0,rfl,_,rfl,wB (wB ?_)⟩
      exact⟨_,rfl,fin _ (Same.refl _)⟩
     ·have ok:=hok row (List.mem_of_getElem? hrw)
      have hat:atI (rows.map V.str) (i:Int)=some (V.str row):=zB (by rw[List.getElem?_map,hrw];rfl)
      refine⟨_,rfl,q,_,_,_,rfl,rfl,SqT.of hq,at0,rfl,_,rfl,iteN rfl ?_⟩
      refine⟨_,rfl,q,_,1,_,rfl,rfl,SqT.of hq,rfl,_,rfl,_,rfl,l,_,_,_,rfl,rfl,SqL.of hl7,hat,rfl,_,_,rfl,rfl,xK,ok.l1,ok.l2,ok.l3,fun p8 hp8=>?_⟩
      have n8:=Same.new (o:=HO.lst ((Txt.split row " ").map V.str)) hp8
      refine⟨p8,_,rfl,.inl (SqL.of upd_same),rfl,_,rfl,zP ?_ ?_⟩
      ·rw[List.length_map]
       rw[decide_eq_false (by intro z;injection z with z;exact hm z)]
       rfl
      ·exact⟨_,rfl,fin _ n8⟩
  ·intro σ H5 hp5
   rw[hPv] at hp5
   obtain⟨es,vs,o4,o5,o6,rfl,le,hrow,hvs,htl,hnice,xe⟩:=hp5
   have le:es.length=4:=le
   have hl5:=xe _ _ hlE nl
   have sH:∀ {H6},Same H5 H6→Same H H6:=fun s8 b o e=>s8 _ _ (xe b o (s4 _ _ e) (ne_of_none e ht0))
   obtain⟨e1,e2,e3,e4,rfl⟩:=zix le
   have r0:zK rows 0=some e1:=hrow 0 (by decide)
   have r1:zK rows 1=some e2:=hrow 1 (by decide)
   have r2:zK rows 2=some e3:=hrow 2 (by decide)
   have r3:zK rows 3=some e4:=hrow 3 (by decide)
   refine⟨_,rfl,l,_,rfl,.inl (SqL.of hl5),_,_,rfl,rfl,_,rfl,?_⟩
   rw[List.length_map]
   refine ite2 (fun z=>?_) (fun z=>?_)
   ·have z:(4:Int)<(rows.length:Int):=of_decide_eq_true z
    refine k2 (fun j hj=>?_) (by omega) _ (sH (Same.refl _))
    match j,hj with
    |0,_=>rw[r0];simp
    |1,_=>rw[r1];simp
    |2,_=>rw[r2];simp
    |3,_=>rw[r3];simp
   have z:¬ (4:Int)<(rows.length:Int):=fun q=>z (decide_eq_true q)
   obtain⟨kg,kb⟩:=k3 e1 e2 e3 e4 r0 r1 r2 r3 (by omega)
   refine⟨_,rfl,(by show 2≤sizeLine;decide),fun pm hpm=>?_⟩
   have n1:=Same.new (o:=HO.lst [V.str "me",V.str "lines"]) hpm
   refine⟨_,rfl,_,rfl,_,rfl,(by show 4≤sizeLine;decide),fun pz hpz=>?_⟩
   have n2:=Same.new (o:=HO.lst [V.ref pm,V.ref ps,V.ref ps,V.ref pe]) hpz
   have hpm2:=n2 _ _ (upd_same (H:=H5) (a:=pm) (o:=HO.lst [V.str "me",V.str "lines"]))
   have hpz2:(upd (upd H5 pm (HO.lst [V.str "me",V.str "lines"])) pz (HO.lst [V.ref pm,V.ref ps,V.ref ps,V.ref pe])) pz=some (.lst [V.ref pm,V.ref ps,V.ref ps,V.ref pe]):=upd_same
   have n12:=n1.trans n2
   have hvs2:=n12 _ _ hvs
   have hps2:=n12 _ _ (xe _ _ hsE ns)
   have hpe2:=n12 _ _ (xe _ _ heE ne_)
   have sH2:=sH n12
   have htl2:=htl.mono fun b xs h=>n12 _ _ h
   generalize hH2:upd (upd H5 pm (HO.lst [V.str "me",V.str "lines"])) pz (HO.lst [V.ref pm,V.ref ps,V.ref ps,V.ref pe])=H2 at *
   refine⟨.l,.l,pt,pz,vs,_,rfl,SqL.of hvs2,SqL.of hpz2,?_⟩
   have lvs:vs.length=4:=htl2.length
   have hnm:∀ (i:Nat) (y:V),[V.ref pm,V.ref ps,V.ref ps,V.ref pe][i]?=some y→∃ b ns,y=.ref b∧H2 b=some (.lst (List.map V.str ns))∧[yn,z0,z0,renewNs][i]?=some ns:=fun i y h=>by
    match i,h with
    |0,h=>cases h;exact⟨pm,yn,rfl,hpm2,rfl⟩
    |1,h=>cases h;exact⟨ps,z0,rfl,hps2,rfl⟩
    |2,h=>cases h;exact⟨ps,z0,rfl,hps2,rfl⟩
    |3,h=>cases h;exact⟨pe,renewNs,rfl,hpe2,rfl⟩
    |_+4,h=>simp at h
   have hgood:vZ e1 e2 e3 e4↔(∀ (i:Nat) (e:Ex) (ns:List Str),[e1,e2,e3,e4][i]?=some e→[yn,z0,z0,renewNs][i]?=some ns→lkB ns 8 e=true)∧szs [e1,e2,e3,e4]≤60:=by
    have l1:=we (names:=yn) (d:=8) (hnice e1 (by simp)).1
    have l2:=we (names:=z0) (d:=8) (hnice e2 (by simp)).1
    have l3:=we (names:=z0) (d:=8) (hnice e3 (by simp)).1
    have l4:=we (names:=renewNs) (d:=8) (hnice e4 (by simp)).1
    have sz:szs [e1,e2,e3,e4]=e1.size+e2.size+e3.size+e4.size:=by simp[szs];omega
    rw[sz]
    constructor
    ·rintro⟨g1,g2,g3,g4,g5⟩
     refine⟨fun i e ns he hn=>?_,g5⟩
     match i,he,hn with
     |0,he,hn=>cases he;cases hn;exact l1.mpr g1
     |1,he,hn=>cases he;cases hn;exact l2.mpr g2
     |2,he,hn=>cases he;cases hn;exact l3.mpr g3
     |3,he,hn=>cases he;cases hn;exact l4.mpr g4
     |_+4,he,hn=>simp at he
    ·rintro⟨g,g5⟩
     exact⟨l1.mp (g 0 _ _ rfl rfl),l2.mp (g 1 _ _ rfl rfl),l3.mp (g 2 _ _ rfl rfl),l4.mp (g 3 _ _ rfl rfl),g5⟩
   generalize hes:[e1,e2,e3,e4]=es at *
   have les:es.length=4:=by rw[← hes];rfl
   refine XJ (k1:=.l) (k2:=.l) (xs:=vs) (ys:=[V.ref pm,V.ref ps,V.ref ps,V.ref pe]) lvs (fun i σ H'=>∃ o4 o5 o6 o8 o9,σ=[some (.ref l),some (.ref ps),some (.ref pe),some (.ref pt),o4,o5,o6,some (.int (szs (es.take i):Int)),o8,o9]∧Same H2 H'∧∀ (j:Nat) (e:Ex) (ns:List Str),j<i→es[j]?=some e→[yn,z0,z0,renewNs][j]?=some ns→lkB ns 8 e=true) ?_ ?_ ?_ ?_
   ·exact⟨_,_,_,_,_,rfl,Same.refl _,fun j e ns hj=>by omega⟩
   ·rintro i σ H' hi ⟨o4,o5,o6,o8,o9,rfl,s',_⟩
    exact⟨SqL.of (s' _ _ hvs2),SqL.of (s' _ _ hpz2)⟩
   ·rintro i x y σ H' p hx hy ⟨o4,o5,o6,o8,o9,rfl,s',hlk⟩ hp
    obtain⟨b,nms,rfl,hb,hns⟩:=hnm i y hy
    have hi:i<4:=by have:=(List.getElem?_eq_some_iff.mp hx).1;omega
    obtain⟨e,he⟩:∃ e,es[i]?=some e:=⟨es[i]'(by omega),by simp[show i<es.length by omega]⟩
    have ht:Told H2 e x:=xX (F:=fun v e=>Told H2 e v) htl2 hx he
    have hem:=List.mem_of_getElem? he
    have np:=Same.new (o:=HO.tup [x,V.ref b]) hp
    have sp:=s'.trans np
    refine⟨p,_,rfl,SqT.of upd_same,rfl,_,_,rfl,_,_,rfl,rfl,?_⟩
    refine⟨_,rfl,_,rfl,e,x,b,nms,8,rfl,ht.same sp,(hnice e hem).1,sp _ _ hb,(hnice e hem).2,fun p2 H3 s3 hp2=>?_⟩
    refine⟨_,rfl,_,rfl,p2,_,_,_,rfl,rfl,SqT.of hp2,at0,_,_,rfl,rfl,?_⟩
    refine⟨_,rfl,p2,_,1,_,rfl,rfl,SqT.of hp2,rfl,_,rfl,?_⟩
    cases hc:lkB nms 8 e with
    |false =>
     refine zP rfl ?_
     refine kb (fun g=>?_) _ (sH2.trans (sp.trans s3))
     have:=(hgood.mp g).1 i e nms he hns
     rw[hc] at this
     cases this
    |true =>
     refine iteN rfl ?_
     refine⟨o4,o5,some (.ref p2),some x,some (.ref b),?_,sp.trans s3,fun j e' ns' hj he' hn'=>?_⟩
     ·have:szs (es.take (i+1))=szs (es.take i)+e.size:=by
       unfold szs
       rw[List.take_add_one,he,List.map_append,List.sum_append]
       simp
      rw[this]
      rfl
     ·by_cases hji:j<i
      ·exact hlk j e' ns' hji he' hn'
      ·have:j=i:=by omega
       subst this
       rw[he] at he'
       rw[hns] at hn'
       cases he'
       cases hn'
       exact hc
   ·rintro σ H' ⟨o4,o5,o6,o8,o9,rfl,s',hlk⟩
    rw[lvs,← les,List.take_length]
    refine⟨_,rfl,_,_,rfl,rfl,_,rfl,ite2 (fun z=>?_) (fun z=>?_)⟩
    ·have z:(60:Int)<(szs es:Int):=of_decide_eq_true z
     refine kb (fun g=>?_) _ (sH2.trans s')
     have:=(hgood.mp g).2
     omega
    ·have z:¬ (60:Int)<(szs es:Int):=fun q=>z (decide_eq_true q)
     refine⟨_,rfl,kg (hgood.mpr ⟨fun i e ns he hn=>hlk i e ns ?_ he hn,by omega⟩) pt vs _ (sH2.trans s') (s' _ _ hvs2) (htl2.mono fun b xs h=>s' _ _ h)⟩
     have:=(List.getElem?_eq_some_iff.mp he).1
     omega
end
end K04

namespace K04
open PySem L2
structure TextOk (x:Str) (rows:List Str):Prop where
 sp:Txt.split x "\n" = rows
 len:x.length≤400000
 cnt:rows.length≤1000
 fit:∀ r∈rows,Fit r
section
variable {P:Program}{w:World}{K:PySem.W.Frag}{mg:Str→Option Value}{base:Heap}{a:Ad}
def YR:Sp:=fun vs H Q _=>∃ (x:Str) (rows:List Str),vs=[.str x]∧TextOk x rows ∧
 (∀ i:Nat,i<4→(∀ j<i,zK rows j≠none)→zK rows i=none→∀ H',Same H H'→Q (.int i) H') ∧
 ((∀ j<4,zK rows j≠none)→4<rows.length→∀ H',Same H H'→Q (.int 4) H') ∧
 (∀ e1 e2 e3 e4,zK rows 0=some e1→zK rows 1=some e2→zK rows 2=some e3→zK rows 3=some e4→rows.length≤4→(vZ e1 e2 e3 e4→∀ p vs H',Same H H'→H' p=some (.lst vs)→ToldL H' vs [e1,e2,e3,e4]→Q (.ref p) H')∧(¬ vZ e1 e2 e3 e4→∀ H',Same H H'→Q (.str "program") H'))
theorem WE (T:Txt w K mg a):FnOk P w K mg base CX0 25 a.f_qu a.d_qu ["_law_text"] YR:=by
 have cx_qm:Callee1 P w K mg base "read_program" a.f_qm a.d_qm ["text"] 24 (Vk K a):=⟨Ux T,T.g_qm,T.F_qm.kp,T.b_qm⟩
 refine T.F_qu.ok sc_qu (fun vs H Q E h=>?_) (fun cdv A outer s H vs Q E hr h=>?_)
 ·obtain⟨x,rows,rfl,_⟩:=h
  rfl
 ·obtain⟨x,rows,rfl,⟨hsp,hln,hct,hft⟩,k1,k2,k3⟩:=h
  have TT:Tolds P w K mg base a 8:=Wh T 8
  refine zM (w_pss_cons (zh (i:=1) sc_qu.nd rfl (Or.inl rfl) ze)
   (zD (Zm (i:=3) rfl rfl sc_qu.nd rfl rfl (Or.inr ⟨_,T.xn_NoText⟩) T.g_NoText (Or.inl T.xc_NoProgram) T.g_NoProgram (ZQ (i:=2) sc_qu.nd rfl (Or.inl rfl) (zbi cx_qm (hr.mono (by omega)) (zf (w_pv 0) za)) (zd (vc (i:=1) rfl sc_qu.nd rfl (Or.inl rfl) (N':=["_law_expr"]) (t:=1) (caps:=[]) ⟨rfl,rfl,rfl⟩ (xP (zo (zg (zn (w_pv 2) rfl) (zg (zn (w_pv 2) rfl) (zg (zn (w_pv 2) rfl) (zg (zn (w_pv 2) rfl) za)))))) (fun _=>(zv (i:=0) (show(["_law_expr"]:List Str).Nodup by decide +kernel) rfl (Or.inl rfl))) (fun _=>ZS) (fun _=>(zt (w_pv 0)))))) (fun _=>(zd (zh (i:=1) sc_qu.nd rfl (Or.inl rfl) (ZV (K:=K) rfl (w_pv 3) rfl)))) (fun _=>(zd (zh (i:=1) sc_qu.nd rfl (Or.inl rfl) ze))))
   (zd (zj (w_pv 1))))) ?_
  refine⟨fun σ' H'=>∃ v o2,σ'=[some (.str x),some v,o2,none]∧Q v H',?_,?_⟩
  ·refine⟨_,rfl,.inl ⟨x,rows,rfl,hsp,hln,hct,hft,fun i hi hj hr d H' sm hd0 hd=>?_,fun hall h4 d H' sm hd0 hd=>?_,fun e1 e2 e3 e4 h1 h2 h3 h4 hl=>?_⟩⟩
   ·refine⟨a.c_NoText,rfl,.inl ⟨rfl,fun ax hax=>?_⟩⟩
    have nd:d≠ax:=ne_of_none hd hax
    have sx:=Same.new (o:=HO.ext (ObX ax a.c_NoText (some d))) hax
    refine⟨_,rfl,ax,_,d,_,_,rfl,upd_same,(upd_ne nd).trans hd,T.xg_NoText,rfl,?_⟩
    exact⟨_,_,rfl,k1 i hi hj hr _ (sm.trans sx)⟩
   ·refine⟨a.c_NoText,rfl,.inl ⟨rfl,fun ax hax=>?_⟩⟩
    have nd:d≠ax:=ne_of_none hd hax
    have sx:=Same.new (o:=HO.ext (ObX ax a.c_NoText (some d))) hax
    refine⟨_,rfl,ax,_,d,_,_,rfl,upd_same,(upd_ne nd).trans hd,T.xg_NoText,rfl,?_⟩
    exact⟨_,_,rfl,k2 hall h4 _ (sm.trans sx)⟩
   ·obtain⟨kg,kb⟩:=k3 e1 e2 e3 e4 h1 h2 h3 h4 hl
    refine⟨fun hG r H1 hP s1=>?_,fun hG H1 s1=>?_⟩
    ·obtain⟨pp,pdx,r1,r2,r3,r4,rfl,hpp,hF⟩:=hP
     obtain⟨⟨m1,_,d1⟩,⟨m2,_,d2⟩,⟨m3,_,d3⟩,⟨m4,_,d4⟩,_⟩:=hF
     refine⟨_,rfl,pp,_,pdx,_,_,rfl,hpp,T.cl_Program,T.na_Program_start,rfl,_,rfl,pp,_,pdx,_,_,rfl,hpp,T.cl_Program,T.na_Program_send,rfl,_,rfl,pp,_,pdx,_,_,rfl,hpp,T.cl_Program,T.na_Program_when,rfl,_,rfl,pp,_,pdx,_,_,rfl,hpp,T.cl_Program,T.na_Program_renew,rfl,(by show 4≤sizeLine;decide),fun lf hlf=>?_⟩
     have sf:=Same.new (o:=HO.lst [r1,r2,r3,r4]) hlf
     refine⟨lf,rfl,⟨_,SqL.of upd_same⟩,fun D hD _=>?_⟩
     have mades:∀ (i:Nat) x,[r1,r2,r3,r4][i]?=some x→∃ e,[e1,e2,e3,e4][i]?=some e∧Made a H1 e x∧e.dep≤8:=fun i x hi=>by
      match i,hi with
      |0,hi=>cases hi;exact⟨e1,rfl,m1,d1⟩
      |1,hi=>cases hi;exact⟨e2,rfl,m2,d2⟩
      |2,hi=>cases hi;exact⟨e3,rfl,m3,d3⟩
      |3,hi=>cases hi;exact⟨e4,rfl,m4,d4⟩
      |_+4,hi=>simp at hi
     refine vS (K:=K) (a:=lf) (xs:=[r1,r2,r3,r4]) (fun i zs τ H'=>∃ o,τ=[o]∧i≤4∧H' D=some (.lst zs)∧Same (upd H1 lf (HO.lst [r1,r2,r3,r4])) H'∧ToldL H' zs ([e1,e2,e3,e4].take i)) ?_ ?_ ?_ ?_
     ·exact⟨none,rfl,Nat.zero_le _,upd_same,Same.new hD,.nil⟩
     ·rintro i zs τ H' ⟨o,_,_,_,sm,_⟩
      exact SqL.of (sm _ _ upd_same)
     ·rintro i x zs τ H' hi ⟨o,rfl,_,hD',sm,hm⟩
      have hi4:i<4:=(List.getElem?_eq_some_iff.mp hi).1
      have lz:zs.length=i:=by rw[hm.length,List.length_take];show min i 4=i;omega
      obtain⟨e,he,me,de⟩:=mades i x hi
      refine zdG ?_
      refine⟨_,rfl,?_⟩
      obtain⟨c0,c1,x1,f1,f2,f3,f4,f5,f6,z1,z2,z3,z4,z5,z6,z7,z8,z9⟩:=TT.call T (A:=A.deeper (PyProof.Rows.envOfC "_law_found" (defScope Zv) s.heap.objs.size a.f_qu cdv)) (hr.mono (by omega)) (me.same (sf.trans sm)) de
      refine⟨c0,c1,x1,f1,f2,f3,f4,f5,f6,z1,z2,z3,z4,z5,z6,z7,z8,z9 _ fun v H7 t7 s7=>?_⟩
      have hD7:=s7 _ _ hD'
      have m8:∀ b xs,H7 b=some (.tup xs)→upd H7 D (HO.lst (zs++[v])) b=some (.tup xs):=fun b xs h=>by
       rw[upd_ne (Xn h hD7 (by intro z;cases z))]
       exact h
      refine⟨hD7,small1000 (by omega),some x,rfl,hi4,upd_same,Same.updF (sm.trans s7) hD,?_⟩
      rw[List.take_add_one,he]
      exact tl_snoc (t7.mono m8) ((hm.mono fun b xs h=>s7 _ _ h).mono m8)
     ·rintro zs τ H7 ⟨o,rfl,_,hD7,sm,hm⟩
      exact⟨_,_,rfl,kg hG D zs _ (s1.trans (sf.trans sm)) hD7 hm⟩
    ·exact⟨a.c_NoProgram,rfl,.inr ⟨T.xu_NoProgram_NoText,.inl T.xc_NoProgram,.inl ⟨rfl,_,_,rfl,kb hG _ s1⟩⟩⟩
  ·rintro σ' H' ⟨v,o2,rfl,q⟩
   exact⟨_,rfl,q⟩
end
end K04

namespace K04
open PySem L2
theorem Rw2.split_ok {x:Str}(h:Rw2 7 13 402 41 x):∀ w∈Txt.split x " ",Asc w∧w.length≤22∧SmW w:=fun w hw=>by
 obtain⟨h1,h2⟩:=YL hw
 have hs:=h.seg.of _ h1 h2
 rw[ye] at hs
 refine⟨⟨X3 fun c hc=>?_,Nat.le_trans hs.1 (by decide)⟩,by omega,zhz hs.2⟩
 have:=h.ch c (h1.subset hc)
 omega
theorem Rw2.split_len {x:Str}(h:Rw2 7 13 402 41 x):(Txt.split x " ").length≤42:=by
 rw[xR,List.length_map,Ze]
 have:=h.cnt
 omega
theorem Rw2.ok {x:Str}(h:Rw2 7 13 402 41 x):RowOk x:=by
 refine⟨by have:=h.len;omega,?_,by have:=h.split_len;omega,h.split_ok⟩
 rw[xR]
 intro z
 exact cutB_ne _ (List.map_eq_nil_iff.mp z)
theorem Rw2.fit {x:Str}(h:Rw2 7 13 402 41 x):Fit x:=⟨by have:=h.len;omega,fun w hw=>(h.split_ok w hw).1,by have:=h.split_len;omega⟩
theorem uW {c B:Nat}{ws:List Str}(h:∀ w∈ws,w.length≤B) (hz:ws.length*B+ws.length≤10000000):JoinOk ⟨#[c]⟩ ws=true:=by
 unfold JoinOk
 rw[StrLaws.joinTotal,Bool.not_eq_true']
 have h2:=Z9 h
 have e:(⟨#[c]⟩:Str).length=1:=rfl
 rw[e]
 unfold Builtin.Str.tooLong
 have e2:sizeLine=16777216:=rfl
 rw[decide_eq_false_iff_not,e2,Nat.mul_one]
 omega
theorem VS {rows:List Str}(ne:rows≠[]) (h:∀ r∈rows,Rw2 7 13 402 41 r) (hn:rows.length≤12):TextOk (Txt.join "\n" rows) rows∧JoinOk "\n" rows=true:=by
 refine⟨⟨?_,?_,by omega,fun r hr=>(h r hr).fit⟩,?_⟩
 ·rw[wX]
  exact wu ne fun w hw z=>by have:=(h w hw).ch _ z;omega
 ·rw[wX]
  have:=uX (c:=10) (B:=402) (fun w hw=>(h w hw).len)
  omega
 ·rw[wX]
  exact uW (B:=402) (fun w hw=>(h w hw).len) (by omega)
abbrev T3:=Int×Int×Int
noncomputable def zpp (c:Int):T3:=(c*(if decide ((10:Int) ^ Int.toNat 18≤c)=true then 1 else 0),c%2147483647,0)
noncomputable def n1 (t:T3):Int:=(t.2.1+7919*(t.2.2+1)+1)*48271%2147483647
noncomputable def n2 (v:Int):Int:=v*(v/1009+69621)%2147483647
noncomputable def n3 (u n:Int):Int:=u*(u/2003+40692)%2147483399%n
noncomputable def dgt (n:Int) (t:T3):Int×T3:=if 0<t.1 then(t.1%n,t.1/n,t.2.1,t.2.2) else(n3 (n2 (n1 t)) n,t.1,t.2.1,t.2.2+1)
def St3 (H:Hp) (l:Addr) (t:T3):Prop:=H l=some (.lst [.int t.1,.int t.2.1,.int t.2.2])
def StX (H:Hp) (l:Addr) (t:T3):Prop:=St3 H l t∨∃ c,H l=some (.lst [.int c])∧t=zpp c
noncomputable def aa (t:T3):Int:=-(t.2.1+1)*786425379-t.2.2-1
noncomputable def dst (t:T3):Nat:=(aa t%2147483647).toNat+1
noncomputable def mu (t:T3):Nat:=t.1.toNat+dst t
theorem zdo {t:T3}(h:(dgt 9 t).1≠0):mu (dgt 9 t).2<mu t:=by
 unfold dgt at h ⊢
 by_cases q:0<t.1
 ·rw[if_pos q]
  unfold mu
  show(t.1/9).toNat+dst t<t.1.toNat+dst t
  omega
 ·rw[if_neg q] at h ⊢
  unfold mu
  show t.1.toNat+dst (t.1,t.2.1,t.2.2+1)<t.1.toNat+dst t
  have ha:aa (t.1,t.2.1,t.2.2+1)=aa t-1:=by unfold aa;show -(t.2.1+1)*786425379-(t.2.2+1)-1=_;omega
  unfold dst
  rw[ha]
  by_cases z:aa t%2147483647=0
  ·exfalso
   apply h
   show n3 (n2 (n1 t)) 9=0
   have:n1 t=0:=by
    unfold n1
    have z2:(t.2.1+7919*(t.2.2+1)+1)%2147483647=0:=by unfold aa at z;omega
    obtain⟨m,hm⟩:=Int.dvd_of_emod_eq_zero z2
    rw[hm]
    omega
   rw[this]
   decide
  ·omega
theorem zdn (t:T3):mu t≤t.1.toNat+2147483648:=by
 unfold mu dst
 omega
theorem uv {n:Int}(hn:0<n) (t:T3):(dgt n t).2.1.toNat≤t.1.toNat:=by
 unfold dgt
 by_cases q:0<t.1
 ·rw[if_pos q]
  show(t.1/n).toNat≤t.1.toNat
  have:=Int.ediv_le_self n (show 0≤t.1 by omega)
  omega
 ·rw[if_neg q]
  exact Nat.le_refl _
theorem yP {n:Int}(hn:0<n) (t:T3):0≤(dgt n t).1∧(dgt n t).1<n:=by
 unfold dgt
 by_cases q:0<t.1
 ·rw[if_pos q]
  exact⟨Int.emod_nonneg _ (Int.ne_of_gt hn),Int.emod_lt_of_pos _ hn⟩
 ·rw[if_neg q]
  exact⟨Int.emod_nonneg _ (Int.ne_of_gt hn),Int.emod_lt_of_pos _ hn⟩
section
variable {P:Program}{w:World}{K:PySem.W.Frag}{mg:Str→Option Value}{base:Heap}{a:Ad}
def Wk:Sp:=fun vs H Q _=>∃ (l:Addr) (n:Int) (t:T3),vs=[.ref l,.int n]∧StX H l t∧0<n∧n.natAbs.log2<9000∧∀ H',St3 H' l (dgt n t).2→Ext l H H'→Q (.int (dgt n t).1) H'
theorem Xl (T:Txt w K mg a):FnOk P w K mg base CX0 1 a.f_qn a.d_qn ["_law_state", "_law_base"] Wk:=by
 refine T.F_qn.ok sc_qn (fun vs H Q E h=>?_) (fun cdv A outer s H vs Q E hr h=>?_)
 ·obtain⟨l,n,t,rfl,_⟩:=h
  rfl
 ·obtain⟨l,n,t,rfl,ok,hn,hlog,k⟩:=h
  refine zM (zD (w_ps_if (w_pt_cmpR yf (w_pe_callB call_len_seq (by rfl) T.n_len zU (zf (w_pv 0) za)) zb (zp _))
    (w_pss_cons (zh (i:=2) sc_qn.nd rfl (Or.inl rfl) (zm zq (w_pv 0) zb (fun _ _=>rfl)))
    (w_pss_cons (yt (zl vy (w_pv 2) (zO X1 (by rfl) T.n_int Zi (zg (zJ op_ge (w_pv 2) (zl Xf zb zb) (zp _)) za))) (yH (w_pv 0) zb yL))
    (zd (zN (zH PySem.F.plainAttrs_list PySem.F.slot_list_extend PySem.F.type_list_extend Xp (w_pv 0) (zg (zo (yp (zl ww (w_pv 2) zb) (zi zb za))) za))))))
    zk)
   (w_pss_cons (w_ps_if (w_pt_cmpR xY (zm zq (w_pv 0) zb (fun _ _=>rfl)) zb (zp _))
    (w_pss_cons (zh (i:=3) sc_qn.nd rfl (Or.inl rfl) (zl ww (zm zq (w_pv 0) zb (fun _ _=>rfl)) (w_pv 1)))
    (w_pss_cons (yt (zl wL (zm zq (w_pv 0) zb (fun _ _=>rfl)) (w_pv 1)) (yH (w_pv 0) zb yL))
    (zd (zj (w_pv 3)))))
    zk)
   (w_pss_cons (yt (zl yd (zm zq (w_pv 0) zb (fun _ _=>rfl)) zb) (yH (w_pv 0) zb yL))
   (w_pss_cons (zh (i:=4) sc_qn.nd rfl (Or.inl rfl) (zl ww (zl vy (zl yd (zl yd (zm zq (w_pv 0) zb (fun _ _=>rfl)) (zl vy zb (zm zq (w_pv 0) zb (fun _ _=>rfl)))) zb) zb) zb))
   (w_pss_cons (zh (i:=4) sc_qn.nd rfl (Or.inl rfl) (zl ww (zl vy (w_pv 4) (zl yd (zl wL (w_pv 4) zb) zb)) zb))
   (zd (zj (zl ww (zl ww (zl vy (w_pv 4) (zl yd (zl wL (w_pv 4) zb) zb)) zb) (w_pv 1))))))))) ?_
  refine⟨fun σ' H'=>∃ (c0:Option V),σ'=[some (.ref l),some (.int n),c0,none,none]∧St3 H' l t∧Ext l H H',?_,?_⟩
  ·rcases ok with hst | ⟨x,hst,et⟩
   ·refine⟨_,rfl,l,_,rfl,.inl (SqL.of hst),rfl,_,rfl,?_⟩
    refine iteN rfl ?_
    exact⟨none,rfl,hst,Ext.refl⟩
   ·refine⟨_,rfl,l,_,rfl,.inl (SqL.of hst),rfl,_,rfl,?_⟩
    refine zP rfl ?_
    refine⟨_,rfl,l,_,0,_,rfl,rfl,SqL.of hst,rfl,_,rfl,_,rfl,_,_,rfl,rfl,⟨by decide,by decide,by decide⟩,_,_,rfl,rfl,.inr ⟨_,rfl,_,_,rfl,rfl,.inr (b01 _),_,rfl,l,_,0,0,rfl,rfl,hst,rfl,?_⟩⟩
    ·refine⟨_,rfl,.inl ⟨rfl,_,SqL.of upd_same⟩,_,rfl,_,_,rfl,rfl,(by show(0:Int)<2147483647;decide),(by show 2≤sizeLine;decide),fun p hp=>?_⟩
     have hpl:p≠l:=by
      intro z
      rw[z,upd_same] at hp
      cases hp
     have hp0:H p=none:=by rw[upd_ne hpl] at hp;exact hp
     refine⟨l,p,[_],[_,_],rfl,rfl,(upd_ne hpl.symm).trans upd_same,upd_same,(by show 1+2≤sizeLine;decide),?_⟩
     refine⟨_,rfl,?_,fun b o e nb=>?_⟩
     ·unfold St3
      rw[upd_same,et]
      rfl
     ·rw[upd_ne nb,upd_ne (ne_of_none e hp0),upd_ne nb]
      exact e
  ·rintro σ' H1 ⟨c0,rfl,hst,hx⟩
   obtain⟨x,y,z⟩:=t
   have hst:H1 l=some (.lst [.int x,.int y,.int z]):=hst
   refine⟨_,rfl,l,_,0,_,rfl,rfl,SqL.of hst,rfl,_,_,rfl,rfl,_,rfl,?_⟩
   refine ite2 (fun q=>?_) (fun q=>?_)
   ·have q:0<x:=of_decide_eq_true q
    have ed:dgt n (x,y,z)=(x%n,x/n,y,z):=if_pos q
    rw[ed] at k
    refine⟨_,rfl,l,_,0,_,rfl,rfl,SqL.of hst,rfl,_,rfl,_,_,rfl,rfl,hn,_,rfl,l,_,0,_,rfl,rfl,SqL.of hst,rfl,_,rfl,_,_,rfl,rfl,⟨hn,hlog⟩,_,rfl,l,_,0,0,rfl,rfl,hst,rfl,_,rfl,?_⟩
    exact k _ upd_same (hx.trans Ext.at)
   ·have q:¬ 0<x:=fun h=>q (decide_eq_true h)
    have ed:dgt n (x,y,z)=(n3 (n2 (n1 (x,y,z))) n,x,y,z+1):=if_neg q
    rw[ed] at k
    unfold n1 n2 n3 at k
    refine⟨_,rfl,l,_,2,_,rfl,rfl,SqL.of hst,rfl,_,_,rfl,rfl,_,rfl,l,_,2,2,rfl,rfl,hst,rfl,?_⟩
    refine⟨_,rfl,l,_,1,_,rfl,rfl,SqL.of upd_same,rfl,_,rfl,l,_,2,_,rfl,rfl,SqL.of upd_same,rfl,_,_,rfl,rfl,.inl ⟨by decide,by decide⟩,_,_,rfl,rfl,_,_,rfl,rfl,_,_,rfl,rfl,.inr ⟨by decide,by decide⟩,_,_,rfl,rfl,(by show(0:Int)<2147483647;decide),?_⟩
    have k:∀ H',St3 H' l (x,y,z+1)→Ext l H H'→Q (.int (((y+7919*(z+1)+1)*48271%2147483647*((y+7919*(z+1)+1)*48271%2147483647/1009+69621)%2147483647)*(((y+7919*(z+1)+1)*48271%2147483647*((y+7919*(z+1)+1)*48271%2147483647/1009+69621)%2147483647)/2003+40692)%2147483399%n)) H':=k
    obtain⟨v,hv⟩:∃ v,(y+7919*(z+1)+1)*48271%2147483647=v:=⟨_,rfl⟩
    have v1:0≤v:=by rw[← hv];exact Int.emod_nonneg _ (by decide)
    have v2:v<2147483647:=by rw[← hv];exact Int.emod_lt_of_pos _ (by decide)
    refine⟨_,rfl,_,rfl,_,_,rfl,rfl,⟨by show(0:Int)<1009;decide,WM⟩,_,_,rfl,rfl,_,_,rfl,rfl,.inl ⟨by rw[hv];omega,by rw[hv];omega⟩,_,_,rfl,rfl,(by show(0:Int)<2147483647;decide),?_⟩
    obtain⟨u,hu⟩:∃ u,(y+7919*(z+1)+1)*48271%2147483647*((y+7919*(z+1)+1)*48271%2147483647/1009+69621)%2147483647=u:=⟨_,rfl⟩
    have u1:0≤u:=by rw[← hu];exact Int.emod_nonneg _ (by decide)
    have u2:u<2147483647:=by rw[← hu];exact Int.emod_lt_of_pos _ (by decide)
    refine⟨_,rfl,_,rfl,_,_,rfl,rfl,⟨by show(0:Int)<2003;decide,WL⟩,_,_,rfl,rfl,_,_,rfl,rfl,.inl ⟨by rw[hu];omega,by rw[hu];omega⟩,_,_,rfl,rfl,(by show(0:Int)<2147483399;decide),_,rfl,_,_,rfl,rfl,hn,?_⟩
    exact k _ upd_same (hx.trans Ext.at)
end
end K04

namespace K04
open PySem L2
theorem zh5 {xs:List V}{d:Int}(h0:0≤d) (h1:d<xs.length):∃ v,atI xs d=some v∧v∈xs:=by
 obtain⟨n,rfl⟩:∃ n:Nat,d=n:=⟨d.toNat,by omega⟩
 have hn:n<xs.length:=by omega
 exact⟨xs[n],zB (by simp[hn]),List.getElem_mem hn⟩
theorem Y6 {ws:List Str}{d:Int}(h0:0≤d) (h1:d<ws.length):∃ x∈ws,atI (ws.map V.str) d=some (.str x):=by
 obtain⟨v,e,hv⟩:=zh5 (xs:=ws.map V.str) h0 (by rw[List.length_map];exact h1)
 obtain⟨x,hx,rfl⟩:=List.mem_map.mp hv
 exact⟨x,hx,e⟩
theorem uV {n:Nat}(h:n≤1000):((n:Nat):Int).natAbs.log2<9000:=Nat.lt_of_le_of_lt (Nat.log2_le_self _) (by show n<9000;omega)
def RwI (H:Hp) (l pn:Addr) (X0:Nat) (m:Nat) (σ:St) (H':Hp):Prop:=∃ (pw:Addr) (ws:List Str) (lack:Int) (t:T3) (o4:Option V),
 σ=[some (.ref l),some (.ref pn),some (.ref pw),some (.int lack),o4,none,none,none]∧H pw=none∧H' pw=some (.lst (ws.map V.str))∧(∀ w∈ws,W6 w)∧ws.length≤26∧(ws=[]→lack=1)∧StX H' l t∧t.1.toNat≤X0∧Ext l H H'∧m=(30-ws.length)*(X0+2147483650)+mu t
theorem wY {l p:Addr}{H H':Hp}(x:Ext l H H') (hl:H' l≠none) (h:H' p=none):H p=none:=by
 cases e:H p with
 |none=>rfl
 |some o =>
  have:p≠l:=fun z=>hl (by rw[← z];exact h)
  rw[x _ _ e this] at h
  cases h
theorem St3.ne {H:Hp}{l:Addr}{t:T3}(h:St3 H l t):H l≠none:=by unfold St3 at h;rw[h];simp
theorem uU {a b M p q:Nat}(h1:b+1≤a) (h2:q<M):b*M+q<a*M+p:=by
 have:(b+1)*M≤a*M:=Nat.mul_le_mul_right _ h1
 rw[Nat.add_mul,Nat.one_mul] at this
 omega
theorem vo {H H2:Hp}{l pn pw:Addr}{X0:Nat}{ws:List Str}{t t2:T3}{w:Str}{lack':Int}{o4:Option V}(hl:H l≠none) (h0:H pw=none) (hpw:H2 pw=some (.lst (ws.map V.str))) (hw:∀ w∈ws,W6 w) (w6:W6 w) (hn:ws.length<24) (st:St3 H2 l t2) (hx:t2.1.toNat≤X0) (x:Ext l H H2) :
  ∃ m',m'<(30-ws.length)*(X0+2147483650)+mu t∧RwI H l pn X0 m' [some (.ref l),some (.ref pn),some (.ref pw),some (.int lack'),o4,none,none,none] (upd H2 pw (.lst (ws.map V.str++[.str w]))):=by
 have nl:l≠pw:=fun z=>hl (by rw[z];exact h0)
 refine⟨_,?_,pw,ws++[w],lack',t2,o4,rfl,h0,by rw[upd_same,List.map_append];rfl,fun v hv=>?_,by simp;omega,fun z=>by simp at z,.inl ?_,hx,fun b o e nb=>?_,rfl⟩
 ·have:=zdn t2
  exact uU (by simp;omega) (by omega)
 ·rcases List.mem_append.mp hv with h | h
  ·exact hw v h
  ·rw[List.mem_singleton.mp h];exact w6
 ·unfold St3
  rw[upd_ne nl]
  exact st
 ·rw[upd_ne (ne_of_none e h0)]
  exact x b o e nb
theorem Xv {i:Int}(h0 : -1000≤i) (h1:i≤1000):i.natAbs.log2<1920:=Nat.lt_of_le_of_lt (Nat.log2_le_self _) (by omega)
theorem Ve {i:Int}(h0 : -10≤i) (h1:i≤9):W6 (Str.ofString (toString i)):=by
 have:∀ n:Nat,n<20→w6B (Str.ofString (toString ((n:Int)-10)))=true:=by decide +kernel
 have:=this (i+10).toNat (by omega)
 rw[show(((i+10).toNat:Nat):Int)-10=i by omega] at this
 exact Zo this
theorem zcJ {xs:List Nat}{d:Int}(h0:0≤d) (h1:d<xs.length):∃ v∈xs,atI xs d=some v:=by
 obtain⟨n,rfl⟩:∃ n:Nat,d=n:=⟨d.toNat,by omega⟩
 have hn:n<xs.length:=by omega
 exact⟨xs[n],List.getElem_mem hn,zB (by simp[hn])⟩
noncomputable abbrev abcS:Str := "abcdefghijklmnopqrstuvwxyz"
theorem ziC:∀ c∈(abcS:Str).cps.toList,97≤c∧c≤122:=by decide +kernel
noncomputable abbrev zij (w:Str):List Str:=["x", "05", "", "less", "mod", "add", "to", "sum", "3",w,w,w]
theorem UA {w:Str}(h:W6 w):∀ v∈zij w,W6 v:=fun v hv=>by
 have h9:∀ v∈(["x", "05", "", "less", "mod", "add", "to", "sum", "3"]:List Str),W6 v:=uE (by decide +kernel)
 simp only[List.mem_cons,List.not_mem_nil,or_false] at hv h9
 rcases hv with hv | hv | hv | hv | hv | hv | hv | hv | hv | hv | hv | hv
 all_goals first | (rw[hv];exact h) | exact h9 v (by simp[hv])
def RwJ (H:Hp) (l pn:Addr) (n:Nat) (σ':St) (H':Hp):Prop:=∃ (pw:Addr) (ws:List Str) (t:T3) (o3 o4 o5 o6 o7:Option V),σ'=[some (.ref l),some (.ref pn),some (.ref pw),o3,o4,o5,o6,o7]∧H pw=none∧H' pw=some (.lst (ws.map V.str))∧(∀ w∈ws,W6 w)∧ws.length≤n∧ws≠[]∧St3 H' l t∧Ext l H H'
abbrev fourL:List Str:=["add", "sub", "min", "max"]
section
variable {P:Program}{w:World}{K:PySem.W.Frag}{mg:Str→Option Value}{base:Heap}{a:Ad}
def znZ:Sp:=fun vs H Q _=>∃ (l pn:Addr) (t:T3) (ns:List Str),vs=[.ref l,.ref pn]∧l≠pn∧StX H l t∧H pn=some (.lst (ns.map V.str))∧(∀ w∈ns,W6 w)∧1≤ns.length∧ns.length≤20 ∧
 ∀ (p:Addr) (ws:List Str) (t':T3) (H':Hp),H p=none→H' p=some (.lst (ws.map V.str))→(∀ w∈ws,W6 w)→ws.length≤30→St3 H' l t'→Ext l H H'→Q (.ref p) H'
theorem zih (T:Txt w K mg a):FnOk P w K mg base CX0 2 a.f_qo a.d_qo ["_law_state", "_law_names"] znZ:=by
 have c_qn:Callee P w K mg base "_law_digit" a.f_qn a.d_qn ["_law_state", "_law_base"] 1 Wk:=⟨Xl T,T.g_qn,T.F_qn.kp,T.b_qn⟩
 refine T.F_qo.ok sc_qo (fun vs H Q E h=>?_) (fun cdv A outer s H vs Q E hr h=>?_)
 ·obtain⟨l,pn,t,ns,rfl,_⟩:=h
  rfl
 ·obtain⟨l,pn,t0,ns,rfl,nlp,hst,hpn,hw,hn1,hn2,k⟩:=h
  refine zM (w_pss_cons (zh (i:=2) sc_qo.nd rfl (Or.inl rfl) (zo za))
   (w_pss_cons (zh (i:=3) sc_qo.nd rfl (Or.inl rfl) zb)
   (zD (Zl PassesOwn.never (X7 (yG (w_pt_cmpR xY (w_pv 3) zb (zp _)) (yz (w_pt_cmpR vz (w_pe_callB call_len_seq (by rfl) T.n_len zU (zf (w_pv 2) za)) zb (zp _)))))
    (w_pss_cons (zh (i:=4) sc_qo.nd rfl (Or.inl rfl) (zr c_qn (hr.mono (by omega)) (zf (w_pv 0) (zi zb za))))
    (zd (w_ps_if (X7 (xN (w_pt_cmpR vz (w_pv 4) zb (zp _)) (yY (w_pt_cmpR xY (w_pe_callB call_len_seq (by rfl) T.n_len zU (zf (w_pv 2) za)) zb (zp _)))))
     (w_pss_cons (zN (zH PySem.F.plainAttrs_list PySem.F.slot_list_append PySem.F.type_list_append zS (w_pv 2) (zg (zm zq (w_pv 1) (zr c_qn (hr.mono (by omega)) (zf (w_pv 0) (zQ (w_pe_callB call_len_seq (by rfl) T.n_len zU (zf (w_pv 1) za)) za))) (fun _ _=>rfl)) za)))
     (zd (zh (i:=3) sc_qo.nd rfl (Or.inl rfl) (zl xB (w_pv 3) zb))))
     (zd (w_ps_if (w_pt_cmpR yf (w_pv 4) zb (zp _))
      (w_pss_cons (zN (zH PySem.F.plainAttrs_list PySem.F.slot_list_append PySem.F.type_list_append zS (w_pv 2) (zQ (zO ym (by rfl) T.n_str wG (yp (zl xB (zr c_qn (hr.mono (by omega)) (zf (w_pv 0) (zi zb za))) zb) za)) za)))
      (zd (zh (i:=3) sc_qo.nd rfl (Or.inl rfl) (zl xB (w_pv 3) zb))))
      (zd (w_ps_if (w_pt_cmpR vz (w_pv 4) zb (zp _))
       (w_pss_cons (zN (zH PySem.F.plainAttrs_list PySem.F.slot_list_append PySem.F.type_list_append zS (w_pv 2) (zg (zm zq (zo (zi ze (zi ze (zi ze (zi ze za))))) (zr c_qn (hr.mono (by omega)) (zf (w_pv 0) (zi zb za))) (fun _ _=>rfl)) za)))
       (zd (zh (i:=3) sc_qo.nd rfl (Or.inl rfl) (zl yd (w_pv 3) zb))))
       (zd (w_ps_if (X7 (yG (w_pt_cmpR yf (w_pv 4) zb (zp _)) (yz (w_pt_cmpR vz (w_pe_callB call_len_seq (by rfl) T.n_len zU (zf (w_pv 2) za)) zb (zp _)))))
        (w_pss_cons (zN (zH PySem.F.plainAttrs_list PySem.F.slot_list_append PySem.F.type_list_append zS (w_pv 2) (zi ze za)))
        (zd (zh (i:=3) sc_qo.nd rfl (Or.inl rfl) (zl yd (w_pv 3) zb))))
        (zd (w_ps_if (w_pt_cmpR yf (w_pv 4) zb (zp _))
         (w_pss_cons (zh (i:=2) sc_qo.nd rfl (Or.inl rfl) (zl yl (w_pv 2) (zo (zi ze (zg (zm zq (w_pv 1) (zr c_qn (hr.mono (by omega)) (zf (w_pv 0) (zQ (w_pe_callB call_len_seq (by rfl) T.n_len zU (zf (w_pv 1) za)) za))) (fun _ _=>rfl)) (zQ (zO ym (by rfl) T.n_str wG (yp (zl yd zb (zr c_qn (hr.mono (by omega)) (zf (w_pv 0) (zi zb za)))) za)) za))))))
         (zd (zh (i:=3) sc_qo.nd rfl (Or.inl rfl) (zl xB (w_pv 3) zb))))
         zk))))))))))))
   (zD (w_ps_if (w_pt_cmpR yf (zr c_qn (hr.mono (by omega)) (zf (w_pv 0) (zi zb za))) zb (zp _))
    (w_pss_cons (zh (i:=5) sc_qo.nd rfl (Or.inl rfl) ze)
    (w_pss_cons (zV PassesOwn.never rfl (xO rfl T.n_range (yp (zl yd zb (zr c_qn (hr.mono (by omega)) (zf (w_pv 0) (zi zb za)))) za)) (zv (i:=6) sc_qo.nd rfl (Or.inl rfl))
     (zd (zh (i:=5) sc_qo.nd rfl (Or.inl rfl) (zl yM (w_pv 5) (zm Xz ze (zr c_qn (hr.mono (by omega)) (zf (w_pv 0) (zi zb za))) (fun _ _=>rfl))))))
    (w_pss_cons (zh (i:=7) sc_qo.nd rfl (Or.inl rfl) (zo (zi ze (zi ze (zi ze (zi ze (zi ze (zi ze (zi ze (zi ze (zi ze (zf (w_pv 5) (zf (w_pv 5) (zf (w_pv 5) za))))))))))))))
    (zd (yt (zm zq (w_pv 7) (zr c_qn (hr.mono (by omega)) (zf (w_pv 0) (zi zb za))) (fun _ _=>rfl)) (yH (w_pv 2) (zr c_qn (hr.mono (by omega)) (zf (w_pv 0) (zQ (w_pe_callB call_len_seq (by rfl) T.n_len zU (zf (w_pv 2) za)) za))) yL))))))
    zk)
   (zD (w_ps_if (w_pt_cmpR yf (zr c_qn (hr.mono (by omega)) (zf (w_pv 0) (zi zb za))) zb (zp _))
    (zd (zh (i:=2) sc_qo.nd rfl (Or.inl rfl) (zl yl (w_pv 2) (zo (zi ze za)))))
    zk)
   (zD (w_ps_if (w_pt_cmpR yf (zr c_qn (hr.mono (by omega)) (zf (w_pv 0) (zi zb za))) zb (zp _))
    (zd (zN (Wd PySem.F.plainAttrs_list PySem.F.slot_list_pop PySem.F.type_list_pop zdp (w_pv 2))))
    zk)
   (zd (zj (w_pv 2))))))))) ?_
  have hl:H l≠none:=by rcases hst with h | ⟨c,h,_⟩<;>(unfold St3 at * ;rw[h];simp)
  have npl:pn≠l:=nlp.symm
  have lgn:=uV (n:=ns.length) (by omega)
  refine⟨(by show 0≤sizeLine;decide),fun pw hpw=>?_⟩
  refine⟨fun σ' H'=>∃ (pw:Addr) (ws:List Str) (t:T3) (o3 o4:Option V),σ'=[some (.ref l),some (.ref pn),some (.ref pw),o3,o4,none,none,none]∧H pw=none∧H' pw=some (.lst (ws.map V.str))∧(∀ w∈ws,W6 w)∧ws.length≤26∧ws≠[]∧StX H' l t∧Ext l H H',?_,?_⟩
  refine⟨RwI H l pn t0.1.toNat,⟨_,pw,[],1,t0,none,rfl,hpw,upd_same,by simp,by simp,fun _=>rfl,?_,Nat.le_refl _,?_,rfl⟩,?_⟩
  ·have nl:l≠pw:=fun z=>hl (by rw[z];exact hpw)
   rcases hst with h | ⟨c,h,e⟩
   ·left;unfold St3;rw[upd_ne nl];exact h
   ·right;exact⟨c,by rw[upd_ne nl];exact h,e⟩
  ·intro b o e nb
   rw[upd_ne (ne_of_none e hpw)]
   exact e
  ·rintro m σ H1 ⟨pw,ws,lack,t,o4,rfl,h0,hws,hw6,hlen,hlack,st,hx,xe,rfl⟩
   have nwl:pw≠l:=fun z=>hl (by rw[← z];exact h0)
   have hpn1:=xe _ _ hpn npl
   refine⟨_,rfl,_,_,rfl,rfl,_,rfl,?_⟩
   have stop:(ws≠[]→Q .non H1)→True:=fun _=>trivial
   by_cases ql:0<lack
   ·refine zP (decide_eq_true ql) ?_
    refine⟨_,rfl,pw,_,rfl,.inl (SqL.of hws),_,_,rfl,rfl,_,rfl,?_⟩
    rw[List.length_map]
    by_cases q24:(ws.length:Int)<24
    ·refine zP (decide_eq_true q24) ?_
     have l24:ws.length<24:=by omega
     refine⟨fun σ' H'=>∃ m',m'<(30-ws.length)*(t0.1.toNat+2147483650)+mu t∧RwI H l pn t0.1.toNat m' σ' H',fun σ' H' h=>h,?_⟩
     refine⟨_,rfl,l,9,t,rfl,st,by decide,by decide,fun H2 st2 x2=>?_⟩
     obtain⟨d0,d9⟩:=yP (n:=9) (by decide) t
     have hx2:(dgt 9 t).2.1.toNat≤t0.1.toNat:=Nat.le_trans (uv (by decide) t) hx
     have hdec:=zdo (t:=t)
     generalize hd:(dgt 9 t).1=d at *
     generalize ht2:(dgt 9 t).2=t2 at *
     have xe2:Ext l H H2:=xe.trans x2
     have hws2:=x2 _ _ hws nwl
     have hpn2:=x2 _ _ hpn1 npl
     refine⟨_,rfl,_,_,rfl,rfl,_,rfl,?_⟩
     by_cases q3:d<3
     ·refine zP (decide_eq_true q3) (wB ?_)
      refine⟨_,rfl,.inl ⟨rfl,_,SqL.of hws2⟩,_,rfl,_,rfl,_,rfl,pn,_,rfl,.inl (SqL.of hpn2),l,_,t2,rfl,.inl st2,(by rw[List.length_map];show(0:Int)<(ns.length:Int);omega),(by rw[List.length_map];exact lgn),fun H3 st3 x3=>?_⟩
      rw[List.length_map] at st3 ⊢
      obtain⟨e0,e1⟩:=yP (n:=(ns.length:Int)) (by omega) t2
      obtain⟨nm,hnm,enm⟩:=Y6 (ws:=ns) e0 e1
      refine⟨pn,_,_,_,rfl,rfl,SqL.of (x3 _ _ hpn2 npl),enm,pw,_,_,rfl,rfl,x3 _ _ hws2 nwl,(by rw[List.length_map];exact small1000 (by omega)),?_⟩
      refine⟨_,rfl,_,_,rfl,rfl,?_⟩
      exact vo hl h0 (x3 _ _ hws2 nwl) hw6 (hw nm hnm) l24 st3 (Nat.le_trans (uv (by omega) t2) hx2) (xe2.trans x3)
     refine iteN (decide_eq_false q3) ?_
     refine⟨_,rfl,pw,_,rfl,.inl (SqL.of hws2),_,_,rfl,rfl,_,rfl,?_⟩
     rw[List.length_map]
     by_cases q8:8<(ws.length:Int)
     ·refine zP (decide_eq_true q8) ?_
      refine⟨_,rfl,.inl ⟨rfl,_,SqL.of hws2⟩,_,rfl,_,rfl,_,rfl,pn,_,rfl,.inl (SqL.of hpn2),l,_,t2,rfl,.inl st2,(by rw[List.length_map];show(0:Int)<(ns.length:Int);omega),(by rw[List.length_map];exact lgn),fun H3 st3 x3=>?_⟩
      rw[List.length_map] at st3 ⊢
      obtain⟨e0,e1⟩:=yP (n:=(ns.length:Int)) (by omega) t2
      obtain⟨nm,hnm,enm⟩:=Y6 (ws:=ns) e0 e1
      refine⟨pn,_,_,_,rfl,rfl,SqL.of (x3 _ _ hpn2 npl),enm,pw,_,_,rfl,rfl,x3 _ _ hws2 nwl,(by rw[List.length_map];exact small1000 (by omega)),?_⟩
      refine⟨_,rfl,_,_,rfl,rfl,?_⟩
      exact vo hl h0 (x3 _ _ hws2 nwl) hw6 (hw nm hnm) l24 st3 (Nat.le_trans (uv (by omega) t2) hx2) (xe2.trans x3)
     refine iteN (decide_eq_false q8) ?_
     refine⟨_,rfl,rfl,_,rfl,?_⟩
     by_cases q33:d=3
     ·refine zP (by rw[q33];rfl) ?_
      refine⟨_,rfl,.inl ⟨rfl,_,SqL.of hws2⟩,_,rfl,l,20,t2,rfl,.inl st2,by decide,by decide,fun H3 st3 x3=>?_⟩
      obtain⟨e0,e1⟩:=yP (n:=20) (by decide) t2
      refine⟨_,_,rfl,rfl,_,rfl,Xv (by omega) (by omega),pw,_,_,rfl,rfl,x3 _ _ hws2 nwl,(by rw[List.length_map];exact small1000 (by omega)),?_⟩
      refine⟨_,rfl,_,_,rfl,rfl,?_⟩
      exact vo hl h0 (x3 _ _ hws2 nwl) hw6 (Ve (by omega) (by omega)) l24 st3 (Nat.le_trans (uv (by decide) t2) hx2) (xe2.trans x3)
     refine iteN (decide_eq_false fun z=>by injection z with z;exact q33 z) ?_
     refine⟨_,rfl,_,_,rfl,rfl,_,rfl,?_⟩
     by_cases q6:d<6
     ·refine zP (decide_eq_true q6) ?_
      refine⟨_,rfl,.inl ⟨rfl,_,SqL.of hws2⟩,(by show 4≤sizeLine;decide),fun p4 hp4=>?_⟩
      have n4:=Same.new (o:=HO.lst (fourL.map V.str)) hp4
      have n4l:p4≠l:=fun z=>by rw[z,st2] at hp4;cases hp4
      have n4w:p4≠pw:=fun z=>by rw[z,hws2] at hp4;cases hp4
      refine⟨_,rfl,l,4,t2,rfl,.inl (n4 _ _ st2),by decide,by decide,fun H3 st3 x3=>?_⟩
      obtain⟨e0,e1⟩:=yP (n:=4) (by decide) t2
      obtain⟨nm,hnm,enm⟩:=Y6 (ws:=fourL) e0 e1
      refine⟨p4,_,_,_,rfl,rfl,SqL.of (x3 _ _ upd_same n4l),enm,pw,_,_,rfl,rfl,x3 _ _ (n4 _ _ hws2) nwl,(by rw[List.length_map];exact small1000 (by omega)),?_⟩
      refine⟨_,rfl,_,_,rfl,rfl,?_⟩
      have xe4:Ext l H (upd H2 p4 (HO.lst (fourL.map V.str))):=fun b o e nb=>n4 _ _ (xe2 b o e nb)
      exact vo hl h0 (x3 _ _ (n4 _ _ hws2) nwl) hw6 (uE (by decide +kernel) nm hnm) l24 st3 (Nat.le_trans (uv (by decide) t2) hx2) (xe4.trans x3)
     refine iteN (decide_eq_false q6) ?_
     refine⟨_,rfl,rfl,_,rfl,?_⟩
     have last:∀ (q7:d≠7),∃ m',m'<(30-ws.length)*(t0.1.toNat+2147483650)+mu t∧RwI H l pn t0.1.toNat m' [some (.ref l),some (.ref pn),some (.ref pw),some (.int lack),some (.int d),none,none,none] H2:=fun q7=>by
      refine⟨_,?_,pw,ws,lack,t2,_,rfl,h0,hws2,hw6,hlen,hlack,.inl st2,hx2,xe2,rfl⟩
      have:=hdec (by omega)
      omega
     have br7:∀ (c:Bool),c=false→True:=fun _ _=>trivial
     by_cases q66:d=6
     ·refine zP (by rw[q66];rfl) ?_
      refine⟨_,rfl,pw,_,rfl,.inl (SqL.of hws2),_,_,rfl,rfl,_,rfl,?_⟩
      rw[List.length_map]
      by_cases ql6:(ws.length:Int)<6
      ·refine zP (decide_eq_true ql6) ?_
       refine⟨_,rfl,.inl ⟨rfl,_,SqL.of hws2⟩,pw,_,_,rfl,rfl,hws2,(by rw[List.length_map];exact small1000 (by omega)),?_⟩
       refine⟨_,rfl,_,_,rfl,rfl,?_⟩
       exact vo hl h0 hws2 hw6 (Zo (by decide +kernel)) l24 st2 hx2 xe2
      ·refine iteN (decide_eq_false ql6) ?_
       refine⟨_,rfl,rfl,_,rfl,iteN (by rw[q66];decide) ?_⟩
       exact last (by omega)
     refine iteN (decide_eq_false fun z=>by injection z with z;exact q66 z) (iteN rfl ?_)
     refine⟨_,rfl,rfl,_,rfl,?_⟩
     by_cases q7:d=7
     ·refine zP (by rw[q7];rfl) ?_
      refine⟨_,rfl,_,rfl,_,rfl,_,rfl,pn,_,rfl,.inl (SqL.of hpn2),l,_,t2,rfl,.inl st2,(by rw[List.length_map];show(0:Int)<(ns.length:Int);omega),(by rw[List.length_map];exact lgn),fun H3 st3 x3=>?_⟩
      rw[List.length_map] at st3 ⊢
      obtain⟨e0,e1⟩:=yP (n:=(ns.length:Int)) (by omega) t2
      obtain⟨nm,hnm,enm⟩:=Y6 (ws:=ns) e0 e1
      have hx3:=Nat.le_trans (uv (n:=(ns.length:Int)) (by omega) t2) hx2
      generalize ht3:(dgt (ns.length:Int) t2).2=t3 at *
      refine⟨pn,_,_,_,rfl,rfl,SqL.of (x3 _ _ hpn2 npl),enm,_,rfl,l,9,t3,rfl,.inl st3,by decide,by decide,fun H4 st4 x4=>?_⟩
      obtain⟨f0,f1⟩:=yP (n:=9) (by decide) t3
      have hx4:=Nat.le_trans (uv (n:=9) (by decide) t3) hx3
      generalize (dgt 9 t3).2=t4 at *
      generalize (dgt 9 t3).1=dd at *
      have x34:=x3.trans x4
      have hws4:=x34 _ _ hws2 nwl
      refine⟨_,_,rfl,rfl,_,rfl,Xv (by omega) (by omega),(by show 3≤sizeLine;decide),fun p5 hp5=>?_⟩
      have n5:=Same.new (o:=HO.lst (List.map V.str ["mod",nm,Str.ofString (toString (1+dd))])) hp5
      refine⟨pw,p5,_,_,rfl,rfl,n5 _ _ hws4,upd_same,(by simp;exact Nat.le_trans (show ws.length+3≤1000 by omega) (by decide)),fun p6 hp6=>?_⟩
      have n6:=n5.trans (Same.new (o:=HO.lst (List.map V.str ws++[V.str "mod",V.str nm,V.str (Str.ofString (toString (1+dd)))])) hp6)
      have xe6:Ext l H _:=fun b o e nb=>n6 _ _ ((xe2.trans x34) b o e nb)
      have hp60:H p6=none:=by
       refine wY (xe2.trans x34) st4.ne ?_
       exact n5.free hp6
      refine⟨_,rfl,_,_,rfl,rfl,?_⟩
      refine⟨_,?_,p6,ws++(["mod",nm,Str.ofString (toString (1+dd))]:List Str),lack-1,t4,_,rfl,hp60,by rw[upd_same,List.map_append];rfl,fun v hv=>?_,by simp;omega,fun z=>by simp at z,.inl (n6 _ _ st4),hx4,xe6,rfl⟩
      ·have:=zdn t4
       exact uU (by simp;omega) (by omega)
      ·rcases List.mem_append.mp hv with h | h
       ·exact hw6 v h
       ·simp only[List.mem_cons,List.not_mem_nil,or_false] at h
        rcases h with rfl | rfl | rfl
        ·exact Zo (by decide +kernel)
        ·exact hw _ hnm
        ·exact Ve (by omega) (by omega)
     ·refine iteN (decide_eq_false fun z=>by injection z with z;exact q7 z) ?_
      exact last q7
    ·refine iteN (decide_eq_false q24) ?_
     exact⟨pw,ws,t,_,_,rfl,h0,hws,hw6,hlen,fun z=>by rw[z] at q24;exact q24 (by decide),st,xe⟩
   ·refine iteN (decide_eq_false ql) (iteN rfl ?_)
    exact⟨pw,ws,t,_,_,rfl,h0,hws,hw6,hlen,fun z=>ql (by rw[hlack z];decide),st,xe⟩
  ·rintro σ H1 ⟨pw,ws,t,o3,o4,rfl,h0,hws,hw6,hlen,hne,st,xe⟩
   have nwl:pw≠l:=fun z=>hl (by rw[← z];exact h0)
   refine⟨RwJ H l pn 26,?_,?_⟩
   ·refine⟨_,rfl,l,12,t,rfl,st,by decide,by decide,fun H2 st2 x2=>⟨rfl,_,rfl,?_⟩⟩
    obtain⟨d0,d12⟩:=yP (n:=12) (by decide) t
    generalize (dgt 12 t).1=d at *
    generalize (dgt 12 t).2=t2 at *
    have xe2:=xe.trans x2
    have hws2:=x2 _ _ hws nwl
    by_cases q:d=0
    ·refine zP (by rw[q];rfl) ?_
     refine⟨_,rfl,l,6,t2,rfl,.inl st2,by decide,by decide,fun H3 st3 x3=>?_⟩
     obtain⟨d0,d6⟩:=yP (n:=6) (by decide) t2
     generalize (dgt 6 t2).1=d6' at *
     generalize (dgt 6 t2).2=t3 at *
     refine⟨_,_,rfl,rfl,_,rfl,by omega,by omega,?_⟩
     refine vQ (lo:=0) (fun i σ H'=>∃ (w:Str) (t:T3) (o6:Option V),σ=[some (.ref l),some (.ref pn),some (.ref pw),o3,o4,some (.str w),o6,none]∧w.length=i∧(∀ c∈w.cps.toList,97≤c∧c≤122)∧St3 H' l t∧Ext l H3 H') ?_ ?_ ?_
     ·exact⟨"",t3,none,rfl,by decide +kernel,by decide +kernel,st3,Ext.refl⟩
     ·rintro i σ H4 hi ⟨w,t4,o6,rfl,lw,cw,st4,x4⟩
      refine⟨_,rfl,_,rfl,l,26,t4,rfl,.inl st4,by decide,by decide,fun H5 st5 x5=>?_⟩
      obtain⟨e0,e26⟩:=yP (n:=26) (by decide) t4
      generalize (dgt 26 t4).1=d26 at *
      generalize (dgt 26 t4).2=t5 at *
      obtain⟨c,hc,ec⟩:=zcJ (xs:=(abcS:Str).cps.toList) e0 (by rw[show(abcS:Str).cps.toList.length=26 by decide +kernel];exact e26)
      have hcr:=ziC c hc
      refine⟨_,_,_,rfl,rfl,by decide +kernel,ec,_,_,rfl,rfl,?_,?_⟩
      ·rw[lw]
       exact Nat.le_trans (show i+1≤100 by omega) (by decide)
      ·refine⟨_,t5,_,rfl,?_,fun c' hc'=>?_,st5,x4.trans x5⟩
       ·rw[← ye,wE,List.length_append,ye,lw]
        rfl
       ·rw[wE] at hc'
        rcases List.mem_append.mp hc' with h | h
        ·exact cw c' h
        ·have:c'=c:=by simpa using h
         rw[this]
         exact hcr
     ·rintro σ H4 ⟨w,t4,o6,rfl,lw,cw,st4,x4⟩
      have w6w:W6 w:=by
       refine⟨fun c hc=>by have:=cw c hc;omega,by omega,?_⟩
       have:nl w.cps.toList=0:=by
        unfold nl
        rw[List.countP_eq_zero]
        intro c hc
        have:=cw c hc
        unfold nlB
        simp
        omega
       omega
      refine⟨_,rfl,_,rfl,_,rfl,(by show 12≤sizeLine;decide),fun p7 hp7=>?_⟩
      have n7:=Same.new (o:=HO.lst (List.map V.str (zij w))) hp7
      have n7l:p7≠l:=fun z=>by rw[z,st4] at hp7;cases hp7
      refine⟨_,rfl,_,rfl,l,12,t4,rfl,.inl (n7 _ _ st4),by decide,by decide,fun H5 st5 x5=>?_⟩
      obtain⟨e0,e12⟩:=yP (n:=12) (by decide) t4
      generalize (dgt 12 t4).1=dd at *
      generalize (dgt 12 t4).2=t5 at *
      obtain⟨ow,how,eow⟩:=Y6 (ws:=zij w) e0 e12
      have hws4:=x4 _ _ (x3 _ _ hws2 nwl) nwl
      have hws5:=x5 _ _ (n7 _ _ hws4) nwl
      refine⟨p7,_,_,_,rfl,rfl,SqL.of (x5 _ _ upd_same n7l),eow,_,rfl,_,rfl,_,rfl,pw,_,rfl,.inl (SqL.of hws5),l,_,t5,rfl,.inl st5,?_,?_,fun H6 st6 x6=>?_⟩
      ·rw[List.length_map]
       have:ws.length≠0:=fun z=>hne (List.length_eq_zero_iff.mp z)
       show(0:Int)<(ws.length:Int)
       omega
      ·rw[List.length_map]
       exact uV (by omega)
      rw[List.length_map] at st6 ⊢
      have lpos:0<ws.length:=Nat.pos_of_ne_zero fun z=>hne (List.length_eq_zero_iff.mp z)
      obtain⟨g0,g1⟩:=yP (n:=(ws.length:Int)) (by omega) t5
      generalize (dgt (ws.length:Int) t5).1=jd at *
      generalize (dgt (ws.length:Int) t5).2=t6 at *
      have hws6:=x6 _ _ hws5 nwl
      obtain⟨j,rfl⟩:∃ j:Nat,jd=j:=⟨jd.toNat,by omega⟩
      have xe6:Ext l H H6:=fun b o e nb=>x6 _ _ (x5 _ _ (n7 _ _ (x4 _ _ (x3 _ _ (xe2 b o e nb) nb) nb)) nb) nb
      refine⟨pw,_,_,j,rfl,rfl,hws6,?_,?_⟩
      ·rw[List.length_map]
       unfold ixN
       simp
       omega
      ·refine⟨pw,ws.set j ow,t6,_,_,_,_,_,rfl,h0,by rw[upd_same,List.map_set],fun v hv=>?_,by rw[List.length_set];omega,fun z=>?_,?_,fun b o e nb=>?_⟩
       ·rcases List.mem_or_eq_of_mem_set hv with h | h
        ·exact hw6 v h
        ·rw[h]
         exact UA w6w ow how
       ·have:=congrArg List.length z
        rw[List.length_set] at this
        exact hne (List.length_eq_zero_iff.mp this)
       ·unfold St3
        rw[upd_ne nwl.symm]
        exact st6
       ·rw[upd_ne (ne_of_none e h0)]
        exact xe6 b o e nb
    ·refine iteN (decide_eq_false fun z=>by injection z with z;exact q z) ?_
     exact⟨pw,ws,t2,_,_,_,_,_,rfl,h0,hws2,hw6,hlen,hne,st2,xe2⟩
   rintro σ' H2 ⟨pw,ws,t2,o3,o4,o5,o6,o7,rfl,h0,hws2,hw6,hlen,hne,st2,xe2⟩
   have nwl:pw≠l:=fun z=>hl (by rw[← z];exact h0)
   refine⟨RwJ H l pn 27,?_,?_⟩
   ·refine⟨_,rfl,l,16,t2,rfl,.inl st2,by decide,by decide,fun H3 st3 x3=>⟨rfl,_,rfl,?_⟩⟩
    generalize (dgt 16 t2).1=d at *
    generalize (dgt 16 t2).2=t3 at *
    have xe3:=xe2.trans x3
    have hws3:=x3 _ _ hws2 nwl
    by_cases q:d=0
    ·refine zP (by rw[q];rfl) ?_
     refine⟨_,rfl,(by show 1≤sizeLine;decide),fun p5 hp5=>?_⟩
     have n5:=Same.new (o:=HO.lst [V.str "1"]) hp5
     refine⟨pw,p5,_,_,rfl,rfl,n5 _ _ hws3,upd_same,(by simp;exact Nat.le_trans (show ws.length+1≤1000 by omega) (by decide)),fun p6 hp6=>?_⟩
     have n6:=n5.trans (Same.new (o:=HO.lst (List.map V.str ws++[V.str "1"])) hp6)
     refine⟨p6,ws++(["1"]:List Str),t3,_,_,_,_,_,rfl,wY xe3 st3.ne (n5.free hp6),by rw[upd_same,List.map_append];rfl,fun v hv=>?_,by simp;omega,by simp,n6 _ _ st3,fun b o e nb=>n6 _ _ (xe3 b o e nb)⟩
     rcases List.mem_append.mp hv with h | h
     ·exact hw6 v h
     ·rw[List.mem_singleton.mp h]
      exact Zo (by decide +kernel)
    ·refine iteN (decide_eq_false fun z=>by injection z with z;exact q z) ?_
     exact⟨pw,ws,t3,_,_,_,_,_,rfl,h0,hws3,hw6,by omega,hne,st3,xe3⟩
   rintro σ' H3 ⟨pw,ws,t3,o3,o4,o5,o6,o7,rfl,h0,hws3,hw6,hlen,hne,st3,xe3⟩
   have nwl:pw≠l:=fun z=>hl (by rw[← z];exact h0)
   refine⟨fun σ' H'=>∃ (pw:Addr) (ws:List Str) (t:T3) (o3 o4 o5 o6 o7:Option V),σ'=[some (.ref l),some (.ref pn),some (.ref pw),o3,o4,o5,o6,o7]∧H pw=none∧H' pw=some (.lst (ws.map V.str))∧(∀ w∈ws,W6 w)∧ws.length≤27∧St3 H' l t∧Ext l H H',?_,?_⟩
   ·refine⟨_,rfl,l,16,t3,rfl,.inl st3,by decide,by decide,fun H4 st4 x4=>⟨rfl,_,rfl,?_⟩⟩
    generalize (dgt 16 t3).1=d at *
    generalize (dgt 16 t3).2=t4 at *
    have xe4:=xe3.trans x4
    have hws4:=x4 _ _ hws3 nwl
    by_cases q:d=0
    ·refine zP (by rw[q];rfl) ?_
     have lpos:0<ws.length:=Nat.pos_of_ne_zero fun z=>hne (List.length_eq_zero_iff.mp z)
     refine⟨_,rfl,.inl ⟨rfl,_,SqL.of hws4⟩,pw,_,_,rfl,rfl,hws4,(by rw[List.length_map,List.getElem?_map,List.getElem?_eq_getElem (by omega)];rfl),?_⟩
     refine⟨pw,ws.dropLast,t4,_,_,_,_,_,rfl,h0,by rw[upd_same,List.map_dropLast],fun v hv=>hw6 v (List.dropLast_subset _ hv),by simp;omega,?_,fun b o e nb=>?_⟩
     ·unfold St3
      rw[upd_ne nwl.symm]
      exact st4
     ·rw[upd_ne (ne_of_none e h0)]
      exact xe4 b o e nb
    ·refine iteN (decide_eq_false fun z=>by injection z with z;exact q z) ?_
     exact⟨pw,ws,t4,_,_,_,_,_,rfl,h0,hws4,hw6,hlen,st4,xe4⟩
   rintro σ' H4 ⟨pw,ws,t4,o3,o4,o5,o6,o7,rfl,h0,hws4,hw6,hlen,st4,xe4⟩
   exact⟨_,rfl,k pw ws t4 H4 h0 hws4 hw6 (by omega) st4 xe4⟩
end
end K04

namespace K04
open PySem L2
theorem XU {xs:List V}(k:Nat):Zd xs none (some (k:Int))=xs.take k:=by
 have h1:HT.sIx xs.length xs.length (some (k:Int))=min k xs.length:=by
  unfold HT.sIx
  simp
  omega
 have h2:HT.sIx xs.length 0 none=0:=rfl
 unfold Zd
 rw[h1,h2]
 simp
noncomputable abbrev signS:Str := " !\"#$&'()*+,-./0123456789:;<=>?@ABCDEFGHIJKLMNOPQRSTUVWXYZ[\\]^_`abcdefghijklmnopqrstuvwxyz{|}~"
theorem zcy:∀ c∈(signS:Str).cps.toList,32≤c∧c<127:=by decide +kernel
section
variable {P:Program}{w:World}{K:PySem.W.Frag}{mg:Str→Option Value}{base:Heap}{a:Ad}
def znY:Sp:=fun vs H Q _=>∃ (l pr:Addr) (t:T3) (rows:List Str),vs=[.ref l,.ref pr]∧l≠pr∧St3 H l t∧H pr=some (.lst (rows.map V.str))∧(∀ x∈rows,Rw2 3 6 400 40 x)∧1≤rows.length∧rows.length≤8 ∧
 ∀ (p:Addr) (rows':List Str) (t':T3) (H':Hp),H' p=some (.lst (rows'.map V.str))→(∀ x∈rows',Rw2 7 13 402 41 x)→rows'.length=rows.length→St3 H' l t'→Ext l H H'→H p=none→Q (.ref p) H'
theorem zig (T:Txt w K mg a):FnOk P w K mg base CX0 2 a.f_qp a.d_qp ["_law_state", "_law_rows"] znY:=by
 have c_qn:Callee P w K mg base "_law_digit" a.f_qn a.d_qn ["_law_state", "_law_base"] 1 Wk:=⟨Xl T,T.g_qn,T.F_qn.kp,T.b_qn⟩
 refine T.F_qp.ok sc_qp (fun vs H Q E h=>?_) (fun cdv A outer s H vs Q E hr h=>?_)
 ·obtain⟨l,pr,t,rows,rfl,_⟩:=h
  rfl
 ·obtain⟨l,pr,t,rows,rfl,nlp,st,hpr,hrw,hn1,hn2,k⟩:=h
  refine zM (w_pss_cons (zh (i:=2) sc_qp.nd rfl (Or.inl rfl) ze)
   (w_pss_cons (zh (i:=3) sc_qp.nd rfl (Or.inl rfl) (zr c_qn (hr.mono (by omega)) (zf (w_pv 0) (zQ (w_pe_callB call_len_seq (by rfl) T.n_len zU (zf (w_pv 1) za)) za))))
   (w_pss_cons (zh (i:=4) sc_qp.nd rfl (Or.inl rfl) (zm zq (w_pv 1) (w_pv 3) (fun _ _=>rfl)))
   (w_pss_cons (zh (i:=5) sc_qp.nd rfl (Or.inl rfl) (zr c_qn (hr.mono (by omega)) (zf (w_pv 0) (yp (zl yd (w_pe_callB vV (by rfl) T.n_len zU (zf (w_pv 4) za)) zb) za))))
   (w_pss_cons (zh (i:=6) sc_qp.nd rfl (Or.inl rfl) (zm Xz (w_pv 2) (zr c_qn (hr.mono (by omega)) (zf (w_pv 0) (zi zb za))) (fun _ _=>rfl)))
   (w_pss_cons (zh (i:=4) sc_qp.nd rfl (Or.inl rfl) (zl yM (zl yM (zy xT (w_pv 4) zF (zE (w_pv 5))) (w_pv 6)) (zy xT (w_pv 4) (zE (zl yd (w_pv 5) (zr c_qn (hr.mono (by omega)) (zf (w_pv 0) (zi zb za))))) zF)))
   (zd (zj (zl yl (zl yl (zy xu (w_pv 1) zF (zE (w_pv 3))) (zo (zf (w_pv 4) za))) (zy xu (w_pv 1) (zE (zl yd (w_pv 3) zb)) zF)))))))))) ?_
  have e2':sizeLine=16777216:=rfl
  have npl:pr≠l:=nlp.symm
  refine⟨_,rfl,_,rfl,pr,_,rfl,.inl (SqL.of hpr),l,_,t,rfl,.inl st,(by rw[List.length_map];show(0:Int)<(rows.length:Int);omega),(by rw[List.length_map];exact uV (by omega)),fun H1 st1 x1=>?_⟩
  rw[List.length_map] at st1 ⊢
  obtain⟨d0,d1⟩:=yP (n:=(rows.length:Int)) (by omega) t
  generalize (dgt (rows.length:Int) t).1=kd at *
  generalize (dgt (rows.length:Int) t).2=t1 at *
  obtain⟨i,rfl⟩:∃ i:Nat,kd=i:=⟨kd.toNat,by omega⟩
  have hi:i<rows.length:=by omega
  obtain⟨x,hx⟩:∃ x,rows[i]?=some x:=⟨rows[i],by simp[hi]⟩
  have rx:=hrw x (List.mem_of_getElem? hx)
  have lx:=rx.len
  have hpr1:=x1 _ _ hpr npl
  refine⟨_,rfl,_,rfl,pr,_,_,_,rfl,rfl,SqL.of hpr1,zB (by rw[List.getElem?_map,hx];rfl),?_⟩
  refine⟨_,rfl,_,rfl,x,rfl,by omega,_,_,rfl,rfl,l,_,t1,rfl,.inl st1,(show(0:Int)<(x.length:Int)+1 by omega),(uV (n:=x.length+1) (by omega)),fun H2 st2 x2=>?_⟩
  obtain⟨a0,a1⟩:=yP (n:=(x.length:Int)+1) (by omega) t1
  generalize (dgt ((x.length:Int)+1) t1).1=ad at *
  generalize (dgt ((x.length:Int)+1) t1).2=t2 at *
  obtain⟨at_,rfl⟩:∃ i:Nat,ad=i:=⟨ad.toNat,by omega⟩
  refine⟨_,rfl,_,rfl,l,94,t2,rfl,.inl st2,by decide,by decide,fun H3 st3 x3=>?_⟩
  obtain⟨s0,s1⟩:=yP (n:=94) (by decide) t2
  generalize (dgt 94 t2).1=sd at *
  generalize (dgt 94 t2).2=t3 at *
  obtain⟨c,hc,ec⟩:=zcJ (xs:=(signS:Str).cps.toList) s0 (by rw[show(signS:Str).cps.toList.length=94 by decide +kernel];exact s1)
  have hcr:=zcy c hc
  refine⟨_,_,c,rfl,rfl,by decide +kernel,ec,?_⟩
  have lt:=Nat.le_trans (Txt.slice_le x none (some (at_:Int))) lx
  refine⟨_,rfl,_,rfl,_,rfl,x,rfl,by omega,_,rfl,_,_,rfl,rfl,Nat.le_trans (Nat.add_le_add lt (Nat.le_refl 1)) (by decide),_,rfl,_,rfl,_,rfl,l,2,t3,rfl,.inl st3,by decide,by decide,fun H4 st4 x4=>?_⟩
  obtain⟨f0,f1⟩:=yP (n:=2) (by decide) t3
  generalize (dgt 2 t3).1=fd at *
  generalize (dgt 2 t3).2=t4 at *
  obtain⟨d,rfl⟩:∃ i:Nat,fd=i:=⟨fd.toNat,by omega⟩
  have lf:=Nat.le_trans (Txt.slice_le x (some ((at_:Int)+(d:Int))) none) lx
  refine⟨_,_,rfl,rfl,_,rfl,x,rfl,by omega,_,_,rfl,rfl,?_,?_⟩
  ·rw[← ye,wE,List.length_append,ye]
   exact Nat.le_trans (Nat.add_le_add (Nat.add_le_add lt (Nat.le_refl 1)) lf) (by decide)
  generalize hy:Txt.slice x none (some (at_:Int))++⟨#[c]⟩++Txt.slice x (some ((at_:Int)+(d:Int))) none=y
  have ry:Rw2 7 13 402 41 y:=by
   refine YX (i:=at_) (d:=d) rx hcr ?_
   rw[← hy,wE,wE,uK,show((at_:Int)+(d:Int))=((at_+d:Nat):Int) by omega,uL,List.append_assoc]
   rfl
  have hpr4:=x4 _ _ (x3 _ _ (x2 _ _ hpr1 npl) npl) npl
  have xe4:=x1.trans (x2.trans (x3.trans x4))
  have c1:Zd (rows.map V.str) none (some ((i:Nat):Int))=(rows.take i).map V.str:=by rw[XU,List.map_take]
  have c3:Zd (rows.map V.str) (some (((i:Nat):Int)+1)) none=(rows.drop (i+1)).map V.str:=by rw[show(((i:Nat):Int)+1)=((i+1:Nat):Int) by omega,Zc,List.map_drop]
  refine⟨_,rfl,_,rfl,_,rfl,pr,_,rfl,SqL.of hpr4,fun p1 hp1=>?_⟩
  rw[c1]
  have y1:=Same.new (o:=HO.lst ((rows.take i).map V.str)) hp1
  refine⟨_,rfl,(by show 1≤sizeLine;decide),fun p2 hp2=>?_⟩
  have y2:=y1.trans (Same.new (o:=HO.lst [V.str y]) hp2)
  refine⟨p1,p2,_,_,rfl,rfl,(Same.new (o:=HO.lst [V.str y]) hp2) _ _ upd_same,upd_same,(by rw[List.length_map];exact Nat.le_trans (show(rows.take i).length+1≤1000 by rw[List.length_take];omega) (by decide)),fun p3 hp3=>?_⟩
  have y3:=y2.trans (Same.new (o:=HO.lst ((rows.take i).map V.str++[V.str y])) hp3)
  refine⟨_,rfl,_,rfl,_,_,rfl,rfl,_,rfl,pr,_,rfl,SqL.of (y3 _ _ hpr4),fun p4 hp4=>?_⟩
  rw[c3]
  have n4:=Same.new (o:=HO.lst ((rows.drop (i+1)).map V.str)) hp4
  have y4:=y3.trans n4
  refine⟨p3,p4,_,_,rfl,rfl,n4 _ _ upd_same,upd_same,(by rw[List.length_append,List.length_map,List.length_map];exact Nat.le_trans (show(rows.take i).length+1+(rows.drop (i+1)).length≤1000 by rw[List.length_take,List.length_drop];omega) (by decide)),fun p5 hp5=>?_⟩
  have es:(rows.take i).map V.str++[V.str y]++(rows.drop (i+1)).map V.str=(rows.set i y).map V.str:=by
   rw[List.set_eq_take_append_cons_drop,if_pos hi]
   simp
  rw[es]
  have y5:=y4.trans (Same.new (o:=HO.lst ((rows.set i y).map V.str)) hp5)
  refine k p5 (rows.set i y) t4 _ upd_same (fun z hz=>?_) (List.length_set) (y5 _ _ st4) (fun b o e nb=>y5 _ _ (xe4 b o e nb)) (wY xe4 st4.ne (y4.free hp5))
  rcases List.mem_or_eq_of_mem_set hz with h | h
  ·exact(hrw z h).weak
  ·rw[h];exact ry
end
end K04

namespace K04
open PySem L2
theorem zcs {K:PySem.W.Frag}{H H':Hp}{b:Addr}{xs:List V}(h:SqL K H b xs) (s:Same H H'):SqL K H' b xs:=by
 rcases h with(h | ⟨o,h⟩) | h
 ·exact .inl (.inl (s _ _ h))
 ·exact .inl (.inr ⟨o,s _ _ h⟩)
 ·exact .inr h
theorem xf {l:Addr}{Hb H H':Hp}(s:Same Hb H) (hl:Hb l=none) (x:Ext l H H'):Same Hb H':=fun b o e=>x b o (s _ _ e) (ne_of_none e hl)
abbrev W0:List Str:=["start", "send", "when", "reckon"]
structure RP (rows:List Str):Prop where
 lo:3≤rows.length
 hi:rows.length≤5
 ok:∀ x∈rows,Rw2 3 6 400 40 x
 one:∃ ws:List Str,rows[1]?=some (Txt.join " " ("send" :: ws))∧(∀ w∈ws,W6 w)∧ws.length≤30
def LwM (Hb:Hp) (sc pe pl:Addr) (c:Int) (Pr:List Str→Prop) (σ:St) (H':Hp):Prop:=∃ (pr:Addr) (rows:List Str) (t:T3) (o5 o6 o7:Option V),σ=[some (.ref sc),some (.ref pe),some (.int c),some (.ref pl),some (.ref pr),o5,o6,o7]∧H' pr=some (.lst (rows.map V.str))∧Pr rows∧Hb pr=none∧pr≠pl∧St3 H' pl t∧Same Hb H'
def Fr (pl pr:Addr) (Hd H':Hp):Prop:=∀ b o,Hd b=some o→b≠pl→b≠pr→H' b=some o
theorem Fr.same {pl pr:Addr}{Hd H H':Hp}(f:Fr pl pr Hd H) (s:Same H H'):Fr pl pr Hd H':=fun b o e n1 n2=>s _ _ (f b o e n1 n2)
theorem Fr.ext {pl pr:Addr}{Hd H H':Hp}(f:Fr pl pr Hd H) (x:Ext pl H H'):Fr pl pr Hd H':=fun b o e n1 n2=>x _ _ (f b o e n1 n2) n1
theorem Fr.upd {pl pr:Addr}{Hd H:Hp}{o:HO}(f:Fr pl pr Hd H):Fr pl pr Hd (L2.upd H pr o):=fun b o e n1 n2=>by rw[upd_ne n2];exact f b o e n1 n2
theorem Fr.sb {pl pr:Addr}{Hb Hd H:Hp}(f:Fr pl pr Hd H) (s:Same Hb Hd) (h1:Hb pl=none) (h2:Hb pr=none):Same Hb H:=fun b o e=>f b o (s _ _ e) (ne_of_none e h1) (ne_of_none e h2)
noncomputable abbrev poolL:List (List Str):=[["me", "lines"],["worth", "to"],["round", "me"],renewNs]
theorem Uh:∀ ns∈poolL,(∀ w∈ns,W6 w)∧1≤ns.length∧ns.length≤20:=fun ns h=>by
 have:poolL.all (fun ns=>ns.all w6B&&decide (1≤ns.length)&&decide (ns.length≤20))=true:=by decide +kernel
 have:=List.all_eq_true.mp this ns h
 rw[Bool.and_eq_true,Bool.and_eq_true] at this
 exact⟨uE this.1.1,of_decide_eq_true this.1.2,of_decide_eq_true this.2⟩
theorem XG:∀ h∈W0,W6 h:=uE (by decide +kernel)
theorem WS {ws:List Str}(h:∀ w∈ws,W6 w) (hl:ws.length≤40):JoinOk " " ws=true:=by
 rw[xt]
 exact uW (B:=6) (fun w hw=>(h w hw).len) (by omega)
def UW (rws:List (List Str)):Prop:=∀ (j:Nat) (tl:List Str),rws[j]?=some tl→∃ h r,W0[j]?=some h∧tl=h::r∧(∀ w∈r,W6 w)∧r.length≤30
theorem zg6 {rws:List (List Str)}(h:UW rws){tl:List Str}(m:tl∈rws):(∀ w∈tl,W6 w)∧tl.length≤40:=by
 obtain⟨j,hj⟩:=List.getElem?_of_mem m
 obtain⟨hd,r,hh,rfl,hw,hl⟩:=h j tl hj
 refine⟨fun w hm=>?_,by simp;omega⟩
 rcases List.mem_cons.mp hm with rfl | hm
 ·exact XG _ (List.mem_of_getElem? hh)
 ·exact hw w hm
theorem V4 {rws:List (List Str)}(lr:rws.length=4) (h:UW rws):RP (rws.map (Txt.join " ")):=by
 refine⟨by rw[List.length_map];omega,by rw[List.length_map];omega,fun x hx=>?_,?_⟩
 ·obtain⟨tl,m,rfl⟩:=List.mem_map.mp hx
  obtain⟨h1,h2⟩:=zg6 h m
  exact YY h1 h2
 ·obtain⟨tl,ht⟩:∃ tl,rws[1]?=some tl:=⟨rws[1],by simp[show 1<rws.length by omega]⟩
  obtain⟨hd,r,hh,rfl,hw,hl⟩:=h 1 tl ht
  cases hh
  exact⟨r,by rw[List.getElem?_map,ht];rfl,hw,hl⟩
def R3 (k m n q:Nat) (rows:List Str):Prop:=3≤rows.length∧rows.length≤5∧∀ x∈rows,Rw2 k m n q x
def R2' (rows:List Str):Prop:=RP rows∧rows.length≤4
theorem YU {ws:List Str}:("sent" : Str)++Txt.slice (Txt.join " " ("send" :: ws)) (some 4) none=Txt.join " " ("sent" :: ws):=by
 apply str_ext
 rw[wE,show(4:Int)=((4:Nat):Int) from rfl,uL,xz,xz,List.map_cons,List.map_cons]
 have e1:("send" : Str).cps.toList=[115,101,110,100]:=by decide +kernel
 have e2:("sent" : Str).cps.toList=[115,101,110,116]:=by decide +kernel
 rw[e1,e2]
 cases ws with
 |nil=>rfl
 |cons v r=>rfl
section
variable {P:Program}{w:World}{K:PySem.W.Frag}{mg:Str→Option Value}{base:Heap}{a:Ad}
def spLaw (K:PySem.W.Frag):Sp:=fun vs H Q _=>∃ (a:Addr) (ns:List Int),vs=[.ref a]∧SqL K H a (ns.map V.int)∧ns.length≤63∧∀ H',Q (.bl true) H'
theorem sp_law_of {K:PySem.W.Frag}{H:Hp}{a:Addr}{ns:List Int}(hl:ns.length≤63) (hO:zdT H) (hS:SqL K H a (ns.map V.int)):spLaw K [.ref a] H (fun v _=>v=.bl true) fun _ _ _=>False:=⟨a,ns,rfl,hS,hl,fun _=>rfl⟩
theorem ok_law (T:Txt w K mg a):FnOk P w K mg base CX0 103 a.f_qv a.d_qv ["_law_script"] (spLaw K):=by
 have c_qn:Callee P w K mg base "_law_digit" a.f_qn a.d_qn ["_law_state", "_law_base"] 1 Wk:=⟨Xl T,T.g_qn,T.F_qn.kp,T.b_qn⟩
 have c_qo:Callee P w K mg base "_law_row" a.f_qo a.d_qo ["_law_state", "_law_names"] 2 znZ:=⟨zih T,T.g_qo,T.F_qo.kp,T.b_qo⟩
 have c_qp:Callee P w K mg base "_law_signed" a.f_qp a.d_qp ["_law_state", "_law_rows"] 2 znY:=⟨zig T,T.g_qp,T.F_qp.kp,T.b_qp⟩
 have c_qu:Callee P w K mg base "_law_found" a.f_qu a.d_qu ["_law_text"] 25 YR:=⟨WE T,T.g_qu,T.F_qu.kp,T.b_qu⟩
 have c_qt:Callee P w K mg base "_law_due" a.f_qt a.d_qt ["_law_rows"] 102 zcv:=⟨zc5 T,T.g_qt,T.F_qt.kp,T.b_qt⟩
 refine T.F_qv.ok sc_qv (fun vs H Q E h=>?_) (fun cdv A outer s H vs Q E hr h=>?_)
 ·obtain⟨x,ns,rfl,_⟩:=h
  rfl
 ·obtain⟨sc,ns,rfl,hS,hlen,k⟩:=h
  refine zM (w_pss_cons (zh (i:=1) sc_qv.nd rfl (Or.inl rfl) (zo (zi ze (zi ze (zi ze (zi ze (zi ze (zi ze (zi ze (zi ze za))))))))))
   (w_pss_cons (zV PassesOwn.never rfl (xP (zy xu (w_pv 0) zF (zE zb))) (zv (i:=2) sc_qv.nd rfl (Or.inl rfl))
    (w_pss_cons (zh (i:=3) sc_qv.nd rfl (Or.inl rfl) (zo (zf (w_pv 2) za)))
    (w_pss_cons (zh (i:=4) sc_qv.nd rfl (Or.inl rfl) (zo za))
    (w_pss_cons (zh (i:=5) sc_qv.nd rfl (Or.inl rfl) (zo (zg (zo (zi ze (zi ze za))) (zg (zo (zi ze (zi ze za))) (zg (zo (zi ze (zi ze za))) (zf (w_pv 1) za))))))
    (w_pss_cons (zV PassesOwn.never rfl (uB rfl T.n_zip (zg (zo (zi ze (zi ze (zi ze (zi ze za))))) (zf (w_pv 5) za))) (yZ rfl (zL (zv (i:=6) sc_qv.nd rfl (Or.inl rfl)) (zL (zv (i:=7) sc_qv.nd rfl (Or.inl rfl)) yA)))
     (zd (zN (zH PySem.F.plainAttrs_list PySem.F.slot_list_append PySem.F.type_list_append zS (w_pv 4) (zQ (zH PySem.F.plainAttrs_str PySem.F.slot_str_join PySem.F.type_str_join Xo ze (yp (zl yl (zo (zf (w_pv 6) za)) (zr c_qo (hr.mono (by omega)) (zf (w_pv 3) (zf (w_pv 7) za)))) za)) za)))))
    (zD (w_ps_if (w_pt_cmpR yf (zr c_qn (hr.mono (by omega)) (zf (w_pv 3) (zi zb za))) zb (zp _))
     (zd (zh (i:=4) sc_qv.nd rfl (Or.inl rfl) (zy xu (w_pv 4) zF (zE zb))))
     zk)
    (zD (w_ps_if (w_pt_cmpR yf (zr c_qn (hr.mono (by omega)) (zf (w_pv 3) (zi zb za))) zb (zp _))
     (zd (zN (zH PySem.F.plainAttrs_list PySem.F.slot_list_append PySem.F.type_list_append zS (w_pv 4) (zg (zm zq (w_pv 4) zb (fun _ _=>rfl)) za))))
     zk)
    (zD (w_ps_if (w_pt_cmpR yf (zr c_qn (hr.mono (by omega)) (zf (w_pv 3) (zi zb za))) zb (zp _))
     (zd (yt (zl yM ze (zy xT (zm zq (w_pv 4) zb (fun _ _=>rfl)) (zE zb) zF)) (yH (w_pv 4) zb yL)))
     zk)
    (zD (w_ps_if (w_pt_cmpR yf (zr c_qn (hr.mono (by omega)) (zf (w_pv 3) (zi zb za))) zb (zp _))
     (zd (zh (i:=4) sc_qv.nd rfl (Or.inl rfl) (zr c_qp (hr.mono (by omega)) (zf (w_pv 3) (zf (w_pv 4) za)))))
     zk)
    (zd (w_ps_if (w_pt_cmpR (Vr Xh Vq) (zr c_qu (hr.mono (by omega)) (zQ (zH PySem.F.plainAttrs_str PySem.F.slot_str_join PySem.F.type_str_join Xo ze (zf (w_pv 4) za)) za)) (zr c_qt (hr.mono (by omega)) (zf (w_pv 4) za)) (zp _))
     (zd (zj yS))
     zk)))))))))))
   (zd (zj yS)))) ?_
  have e2':sizeLine=16777216:=rfl
  refine⟨(by show 8≤sizeLine;decide),fun pe hpe=>?_⟩
  have s1:=Same.new (o:=HO.lst [V.str "worth",V.str "me",V.str "round",V.str "lines",V.str "sum",V.str "least",V.str "most",V.str "count"]) hpe
  have hpe1:(upd H pe (HO.lst [V.str "worth",V.str "me",V.str "round",V.str "lines",V.str "sum",V.str "least",V.str "most",V.str "count"])) pe=some (.lst (renewNs.map V.str)):=upd_same
  refine⟨_,rfl,_,rfl,sc,_,rfl,zcs hS s1,fun pc hpc=>?_⟩
  rw[show(20:Int)=((20:Nat):Int) from rfl,XU,← List.map_take]
  have s2:=Same.new (o:=HO.lst (List.map V.int (ns.take 20))) hpc
  have hpe2:=s2 _ _ hpe1
  refine⟨pc,rfl,⟨_,SqL.of upd_same⟩,?_⟩
  have hpc2:(upd (upd H pe (HO.lst [V.str "worth",V.str "me",V.str "round",V.str "lines",V.str "sum",V.str "least",V.str "most",V.str "count"])) pc (HO.lst (List.map V.int (ns.take 20)))) pc=some (.lst (List.map V.int (ns.take 20))):=upd_same
  obtain⟨Hb,hHb⟩:∃ Hb,(upd (upd H pe (HO.lst [V.str "worth",V.str "me",V.str "round",V.str "lines",V.str "sum",V.str "least",V.str "most",V.str "count"])) pc (HO.lst (List.map V.int (ns.take 20))))=Hb:=⟨_,rfl⟩
  rw[hHb] at hpe2 hpc2
  have h0:∃ (o2 o3 o4 o5 o6 o7:Option V),(([some (V.ref sc),some (V.ref pe),none,none,none,none,none,none]:St)=[some (.ref sc),some (.ref pe),o2,o3,o4,o5,o6,o7]∧Same Hb (upd (upd H pe (HO.lst [V.str "worth",V.str "me",V.str "round",V.str "lines",V.str "sum",V.str "least",V.str "most",V.str "count"])) pc (HO.lst (List.map V.int (ns.take 20))))):=⟨_,_,_,_,_,_,rfl,by rw[hHb];exact Same.refl _⟩
  refine u6 (xs:=List.map V.int (ns.take 20)) (fun i σ H'=>∃ (o2 o3 o4 o5 o6 o7:Option V),σ=[some (.ref sc),some (.ref pe),o2,o3,o4,o5,o6,o7]∧Same Hb H') h0 ?_ ?_ ?_
  ·rintro i σ H' hi ⟨o2,o3,o4,o5,o6,o7,rfl,s'⟩
   exact SqL.of (s' _ _ hpc2)
  ·rintro i x σ H1 hx ⟨o2,o3,o4,o5,o6,o7,rfl,sb⟩
   obtain⟨c,_,rfl⟩:=List.mem_map.mp (List.mem_of_getElem? hx)
   refine⟨_,rfl,(by show 1≤sizeLine;decide),fun pl hpl=>?_⟩
   have s3:=Same.new (o:=HO.lst [V.int c]) hpl
   have hpl0:Hb pl=none:=sb.free hpl
   refine⟨(by show 0≤sizeLine;decide),fun pr hpr=>?_⟩
   have s4:=Same.new (o:=HO.lst []) hpr
   have hpr0:Hb pr=none:=(sb.trans s3).free hpr
   have hprl:pr≠pl:=fun z=>by rw[z,upd_same] at hpr;cases hpr
   refine⟨(by show 2≤sizeLine;decide),fun p1 hp1=>⟨(by show 2≤sizeLine;decide),fun p2 hp2=>⟨(by show 2≤sizeLine;decide),fun p3 hp3=>⟨_,rfl,(by show 4≤sizeLine;decide),fun pp hpp=>?_⟩⟩⟩⟩
   have n1:=Same.new (o:=HO.lst [V.str "me",V.str "lines"]) hp1
   have n2:=Same.new (o:=HO.lst [V.str "worth",V.str "to"]) hp2
   have n3:=Same.new (o:=HO.lst [V.str "round",V.str "me"]) hp3
   have n4:=Same.new (o:=HO.lst [V.ref p1,V.ref p2,V.ref p3,V.ref pe]) hpp
   have hpl1:=(s4.trans (n1.trans (n2.trans (n3.trans n4)))) _ _ (upd_same (H:=H1) (a:=pl) (o:=HO.lst [V.int c]))
   have hpr1:=(n1.trans (n2.trans (n3.trans n4))) _ _ (upd_same (H:=upd H1 pl (HO.lst [V.int c])) (a:=pr) (o:=HO.lst []))
   have hp11:=(n2.trans (n3.trans n4)) _ _ (upd_same (H:=upd (upd H1 pl (HO.lst [V.int c])) pr (HO.lst [])) (a:=p1) (o:=HO.lst [V.str "me",V.str "lines"]))
   have hp21:=(n3.trans n4) _ _ (upd_same (H:=upd (upd (upd H1 pl (HO.lst [V.int c])) pr (HO.lst [])) p1 (HO.lst [V.str "me",V.str "lines"])) (a:=p2) (o:=HO.lst [V.str "worth",V.str "to"]))
   have hp31:=n4 _ _ (upd_same (H:=upd (upd (upd (upd H1 pl (HO.lst [V.int c])) pr (HO.lst [])) p1 (HO.lst [V.str "me",V.str "lines"])) p2 (HO.lst [V.str "worth",V.str "to"])) (a:=p3) (o:=HO.lst [V.str "round",V.str "me"]))
   have hpp1:(upd (upd (upd (upd (upd (upd H1 pl (HO.lst [V.int c])) pr (HO.lst [])) p1 (HO.lst [V.str "me",V.str "lines"])) p2 (HO.lst [V.str "worth",V.str "to"])) p3 (HO.lst [V.str "round",V.str "me"])) pp (HO.lst [V.ref p1,V.ref p2,V.ref p3,V.ref pe])) pp=some (.lst [V.ref p1,V.ref p2,V.ref p3,V.ref pe]):=upd_same
   have sbc:=sb.trans (s3.trans (s4.trans (n1.trans (n2.trans (n3.trans n4)))))
   generalize (upd (upd (upd (upd (upd (upd H1 pl (HO.lst [V.int c])) pr (HO.lst [])) p1 (HO.lst [V.str "me",V.str "lines"])) p2 (HO.lst [V.str "worth",V.str "to"])) p3 (HO.lst [V.str "round",V.str "me"])) pp (HO.lst [V.ref p1,V.ref p2,V.ref p3,V.ref pe]))=Hc at *
   have hpe1:=sbc _ _ hpe2
   refine⟨(by show 4≤sizeLine;decide),fun ph hph=>?_⟩
   have n5:=Same.new (o:=HO.lst [V.str "start",V.str "send",V.str "when",V.str "reckon"]) hph
   have hph1:(upd Hc ph (HO.lst [V.str "start",V.str "send",V.str "when",V.str "reckon"])) ph=some (.lst [V.str "start",V.str "send",V.str "when",V.str "reckon"]):=upd_same
   have hpl2:=n5 _ _ hpl1
   have hpr2:=n5 _ _ hpr1
   have hp12:=n5 _ _ hp11
   have hp22:=n5 _ _ hp21
   have hp32:=n5 _ _ hp31
   have hpp2:=n5 _ _ hpp1
   have hpe3:=n5 _ _ hpe1
   have sbd:=sbc.trans n5
   generalize (upd Hc ph (HO.lst [V.str "start",V.str "send",V.str "when",V.str "reckon"]))=Hd at *
   have nel:∀ {b:Addr}{vs:List Str},Hd b=some (.lst (vs.map V.str))→vs≠[]→b≠pl∧b≠pr:=by
    intro b vs h hv
    constructor
    ·intro z
     rw[z,hpl2] at h
     cases vs with
     |nil=>exact hv rfl
     |cons v r=>cases h
    ·intro z
     rw[z,hpr2] at h
     cases vs with
     |nil=>exact hv rfl
     |cons v r=>cases h
   have nph:ph≠pl∧ph≠pr:=nel (vs:=W0) hph1 (by simp)
   have npp:pp≠pl∧pp≠pr:=⟨(fun z=>by rw[z,hpl2] at hpp2;cases hpp2),(fun z=>by rw[z,hpr2] at hpp2;cases hpp2)⟩
   have hpool:∀ (i:Nat) (y:V),[V.ref p1,V.ref p2,V.ref p3,V.ref pe][i]?=some y→∃ b ns,y=.ref b∧Hd b=some (.lst (List.map V.str ns))∧poolL[i]?=some ns∧b≠pl∧b≠pr:=fun i y h=>by
    match i,h with
    |0,h=>cases h;exact⟨p1,["me", "lines"],rfl,hp12,rfl,nel (vs:=["me", "lines"]) hp12 (by simp)⟩
    |1,h=>cases h;exact⟨p2,["worth", "to"],rfl,hp22,rfl,nel (vs:=["worth", "to"]) hp22 (by simp)⟩
    |2,h=>cases h;exact⟨p3,["round", "me"],rfl,hp32,rfl,nel (vs:=["round", "me"]) hp32 (by simp)⟩
    |3,h=>cases h;exact⟨pe,renewNs,rfl,hpe3,rfl,nel (vs:=renewNs) hpe3 (by simp)⟩
    |_+4,h=>simp at h
   refine⟨_,rfl,.l,.l,ph,pp,_,_,rfl,SqL.of hph1,SqL.of hpp2,?_⟩
   refine XJ (k1:=.l) (k2:=.l) (xs:=[V.str "start",V.str "send",V.str "when",V.str "reckon"]) (ys:=[V.ref p1,V.ref p2,V.ref p3,V.ref pe]) rfl (fun i σ H'=>∃ (rws:List (List Str)) (t:T3) (o6 o7:Option V),σ=[some (.ref sc),some (.ref pe),some (.int c),some (.ref pl),some (.ref pr),some (.ref pp),o6,o7]∧rws.length=i∧H' pr=some (.lst ((rws.map (Txt.join " ")).map V.str))∧UW rws∧StX H' pl t∧(i≠0→St3 H' pl t)∧Fr pl pr Hd H') ?_ ?_ ?_ ?_
   ·exact⟨[],zpp c,_,_,rfl,rfl,hpr2,fun j tl h=>by simp at h,.inr ⟨c,hpl2,rfl⟩,fun z=>absurd rfl z,fun b o e _ _=>e⟩
   ·rintro i σ H' hi ⟨rws,t,o6,o7,rfl,_,_,_,_,_,f⟩
    exact⟨SqL.of (f _ _ hph1 nph.1 nph.2),SqL.of (f _ _ hpp2 npp.1 npp.2)⟩
   ·rintro i x y σ H' p hx hy ⟨rws,t,o6,o7,rfl,lr,hr',rok,st,_,f⟩ hp
    obtain⟨b,nms,rfl,hb,hnp,nb1,nb2⟩:=hpool i y hy
    have hi4:i<4:=(List.getElem?_eq_some_iff.mp hx).1
    obtain⟨h,hh,rfl⟩:∃ h,W0[i]?=some h∧x=.str h:=by
     match i,hx with
     |0,hx=>cases hx;exact⟨_,rfl,rfl⟩
     |1,hx=>cases hx;exact⟨_,rfl,rfl⟩
     |2,hx=>cases hx;exact⟨_,rfl,rfl⟩
     |3,hx=>cases hx;exact⟨_,rfl,rfl⟩
     |_+4,hx=>simp at hx
    have hh6:=XG h (List.mem_of_getElem? hh)
    obtain⟨pw6,pl1,pl20⟩:=Uh nms (List.mem_of_getElem? hnp)
    have m1:=Same.new (o:=HO.tup [V.str h,V.ref b]) hp
    refine⟨p,_,rfl,SqT.of upd_same,rfl,_,_,rfl,_,_,rfl,rfl,?_⟩
    refine⟨_,rfl,.inl ⟨rfl,_,SqL.of (m1 _ _ hr')⟩,rfl,_,rfl,(by show 1≤sizeLine;decide),fun q1 hq1=>?_⟩
    have m2:=Same.new (o:=HO.lst [V.str h]) hq1
    have m12:=m1.trans m2
    have st2:StX (upd (upd H' p (HO.tup [V.str h,V.ref b])) q1 (HO.lst [V.str h])) pl t:=by
     rcases st with st | ⟨c',hc',e'⟩
     ·exact .inl (m12 _ _ st)
     ·exact .inr ⟨c',m12 _ _ hc',e'⟩
    refine⟨_,rfl,_,rfl,pl,b,t,nms,rfl,nb1.symm,st2,m12 _ _ (f _ _ hb nb1 nb2),pw6,pl1,pl20,fun pq ws t' H2 hq0 hq hw6 hl st' x'=>?_⟩
    have nq1:q1≠pl:=fun z=>by
     rw[z] at hq1
     rcases st with st | ⟨c',hc',_⟩
     ·rw[m1 _ _ st] at hq1;cases hq1
     ·rw[m1 _ _ hc'] at hq1;cases hq1
    refine⟨q1,pq,_,_,rfl,rfl,x' _ _ upd_same nq1,hq,(by rw[List.length_map];exact Nat.le_trans (show 1+ws.length≤1000 by omega) (by decide)),fun q2 hq2=>?_⟩
    have m3:=Same.new (o:=HO.lst ([V.str h]++ws.map V.str)) hq2
    have hall:∀ w∈h::ws,W6 w:=fun w hw=>(List.mem_cons.mp hw).elim (fun e=>by rw[e];exact hh6) (hw6 w)
    have f3:=((f.same m12).ext x').same m3
    have hr3:=m3 _ _ (x' _ _ (m12 _ _ hr') hprl)
    refine⟨_,q2,h::ws,rfl,rfl,SqL.of upd_same,WS hall (by simp;omega),pr,_,_,rfl,rfl,hr3,(by rw[List.length_map,List.length_map,lr];omega),?_⟩
    refine⟨rws++[h::ws],t',_,_,rfl,by simp[lr],by rw[upd_same,List.map_append,List.map_append];rfl,fun j tl hj=>?_,.inl ?_,fun _=>?_,f3.upd⟩
    ·by_cases hji:j<i
     ·rw[List.getElem?_append_left (by omega)] at hj
      exact rok j tl hj
     ·rw[List.getElem?_append_right (by omega)] at hj
      have:j=i:=by
       have:=(List.getElem?_eq_some_iff.mp hj).1
       simp at this
       omega
      subst this
      rw[lr,Nat.sub_self] at hj
      cases hj
      exact⟨h,ws,hh,rfl,hw6,hl⟩
    ·unfold St3
     rw[upd_ne hprl.symm]
     exact m3 _ _ st'
    ·unfold St3
     rw[upd_ne hprl.symm]
     exact m3 _ _ st'
   ·rintro σ H2 ⟨rws,t,o6,o7,rfl,lr,hr',rok,_,st,f⟩
    have lr:rws.length=4:=lr
    have st:=st (by decide)
    have sb2:=f.sb sbd hpl0 hpr0
    have rp0:RP (rws.map (Txt.join " ")):=V4 lr rok
    have lrows:(rws.map (Txt.join " ")).length=4:=by rw[List.length_map];exact lr
    generalize rws.map (Txt.join " ")=rows at *
    have r20:R2' rows:=⟨rp0,by rw[lrows];decide⟩
    refine⟨LwM Hb sc pe pl c R2',?_,?_⟩
    ·refine⟨_,rfl,pl,12,t,rfl,.inl st,by decide,by decide,fun H3 st3 x3=>⟨rfl,_,rfl,?_⟩⟩
     generalize (dgt 12 t).1=d at *
     generalize (dgt 12 t).2=t3 at *
     have sb3:=xf sb2 hpl0 x3
     have hr3:=x3 _ _ hr' hprl
     by_cases q:d=0
     ·refine zP (by rw[q];rfl) ?_
      refine⟨_,rfl,_,rfl,pr,_,rfl,SqL.of hr3,fun p hp=>?_⟩
      rw[show(3:Int)=((3:Nat):Int) from rfl,XU,← List.map_take]
      have m1:=Same.new (o:=HO.lst (List.map V.str (rows.take 3))) hp
      refine⟨p,rows.take 3,t3,_,_,_,rfl,upd_same,⟨⟨by rw[List.length_take,lrows];decide,by rw[List.length_take];omega,fun x hx=>rp0.ok x (List.mem_of_mem_take hx),?_⟩,by rw[List.length_take];omega⟩,sb3.free hp,(fun z=>by rw[z,st3] at hp;cases hp),m1 _ _ st3,sb3.trans m1⟩
      obtain⟨ws,h1,h2⟩:=rp0.one
      exact⟨ws,by rw[List.getElem?_take_of_lt (by decide)];exact h1,h2⟩
     ·refine iteN (decide_eq_false fun z=>by injection z with z;exact q z) ?_
      exact⟨pr,rows,t3,_,_,_,rfl,hr3,r20,hpr0,hprl,st3,sb3⟩
    rintro σ' H3 ⟨pr,rows,t3,o5,o6,o7,rfl,hr3,⟨rp,l4⟩,hpr0,hprl,st3,sb3⟩
    refine⟨LwM Hb sc pe pl c RP,?_,?_⟩
    ·refine⟨_,rfl,pl,12,t3,rfl,.inl st3,by decide,by decide,fun H4 st4 x4=>⟨rfl,_,rfl,?_⟩⟩
     generalize (dgt 12 t3).1=d at *
     generalize (dgt 12 t3).2=t4 at *
     have sb4:=xf sb3 hpl0 x4
     have hr4:=x4 _ _ hr3 hprl
     by_cases q:d=0
     ·refine zP (by rw[q];rfl) ?_
      have lo:=rp.lo
      obtain⟨x0,hx0⟩:∃ x,rows[0]?=some x:=⟨rows[0],by simp[show 0<rows.length by omega]⟩
      refine⟨_,rfl,.inl ⟨rfl,_,SqL.of hr4⟩,_,rfl,pr,_,_,_,rfl,rfl,SqL.of hr4,zB (j:=0) (by rw[List.getElem?_map,hx0];rfl),pr,_,_,rfl,rfl,hr4,(by rw[List.length_map];omega),?_⟩
      refine⟨pr,rows++[x0],t4,_,_,_,rfl,by rw[upd_same,List.map_append];rfl,⟨by simp;omega,by simp;omega,fun x hx=>?_,?_⟩,hpr0,hprl,?_,fun b o e=>?_⟩
      ·rcases List.mem_append.mp hx with h | h
       ·exact rp.ok x h
       ·rw[List.mem_singleton.mp h]
        exact rp.ok x0 (List.mem_of_getElem? hx0)
      ·obtain⟨ws,h1,h2⟩:=rp.one
       exact⟨ws,by rw[List.getElem?_append_left (by omega)];exact h1,h2⟩
      ·unfold St3
       rw[upd_ne hprl.symm]
       exact st4
      ·rw[upd_ne (ne_of_none e hpr0)]
       exact sb4 b o e
     ·refine iteN (decide_eq_false fun z=>by injection z with z;exact q z) ?_
      exact⟨pr,rows,t4,_,_,_,rfl,hr4,rp,hpr0,hprl,st4,sb4⟩
    rintro σ' H4 ⟨pr,rows,t4,o5,o6,o7,rfl,hr4,rp,hpr0,hprl,st4,sb4⟩
    refine⟨LwM Hb sc pe pl c (R3 3 6 400 40),?_,?_⟩
    ·refine⟨_,rfl,pl,12,t4,rfl,.inl st4,by decide,by decide,fun H5 st5 x5=>⟨rfl,_,rfl,?_⟩⟩
     generalize (dgt 12 t4).1=d at *
     generalize (dgt 12 t4).2=t5 at *
     have sb5:=xf sb4 hpl0 x5
     have hr5:=x5 _ _ hr4 hprl
     by_cases q:d=0
     ·refine zP (by rw[q];rfl) ?_
      have lo:=rp.lo
      obtain⟨ws,h1,h2,h3⟩:=rp.one
      have rx:=rp.ok _ (List.mem_of_getElem? h1)
      have lx:=rx.len
      have ls:=Nat.le_trans (Txt.slice_le (Txt.join " " ("send" :: ws)) (some 4) none) lx
      refine⟨_,rfl,pr,_,_,_,rfl,rfl,SqL.of hr5,zB (j:=1) (by rw[List.getElem?_map,h1];rfl),_,rfl,_,rfl,by omega,_,_,rfl,rfl,Nat.le_trans (Nat.add_le_add (show("sent" : Str).length≤10 by decide +kernel) ls) (by decide),_,rfl,pr,_,1,1,rfl,rfl,hr5,?_,?_⟩
      ·rw[List.length_map]
       unfold ixN
       rw[if_pos (by decide),if_pos (by omega)]
       rfl
      ·rw[YU]
       have hall:∀ w∈(("sent" : Str)::ws),W6 w:=fun w hw=>(List.mem_cons.mp hw).elim (fun e=>by rw[e];exact Zo (by decide +kernel)) (h2 w)
       refine⟨pr,rows.set 1 (Txt.join " " ("sent" :: ws)),t5,_,_,_,rfl,by rw[upd_same,List.map_set],⟨by rw[List.length_set];exact lo,by rw[List.length_set];exact rp.hi,fun x hx=>?_⟩,hpr0,hprl,?_,fun b o e=>?_⟩
       ·rcases List.mem_or_eq_of_mem_set hx with h | h
        ·exact rp.ok x h
        ·rw[h]
         exact YY hall (by simp;omega)
       ·unfold St3
        rw[upd_ne hprl.symm]
        exact st5
       ·rw[upd_ne (ne_of_none e hpr0)]
        exact sb5 b o e
     ·refine iteN (decide_eq_false fun z=>by injection z with z;exact q z) ?_
      exact⟨pr,rows,t5,_,_,_,rfl,hr5,⟨rp.lo,rp.hi,rp.ok⟩,hpr0,hprl,st5,sb5⟩
    rintro σ' H5 ⟨pr,rows,t5,o5,o6,o7,rfl,hr5,⟨lo,hi,rok⟩,hpr0,hprl,st5,sb5⟩
    refine⟨LwM Hb sc pe pl c (R3 7 13 402 41),?_,?_⟩
    ·refine⟨_,rfl,pl,3,t5,rfl,.inl st5,by decide,by decide,fun H6 st6 x6=>⟨rfl,_,rfl,?_⟩⟩
     generalize (dgt 3 t5).1=d at *
     generalize (dgt 3 t5).2=t6 at *
     have sb6:=xf sb5 hpl0 x6
     have hr6:=x6 _ _ hr5 hprl
     by_cases q:d=0
     ·refine zP (by rw[q];rfl) ?_
      refine⟨_,rfl,_,rfl,pl,pr,t6,rows,rfl,hprl.symm,st6,hr6,rok,by omega,by omega,fun p rows' t' H7 hp hok hl st' x' hp0=>?_⟩
      refine⟨p,rows',t',_,_,_,rfl,hp,⟨by omega,by omega,hok⟩,sb6.free hp0,(fun z=>by rw[z,st6] at hp0;cases hp0),st',xf sb6 hpl0 x'⟩
     ·refine iteN (decide_eq_false fun z=>by injection z with z;exact q z) ?_
      exact⟨pr,rows,t6,_,_,_,rfl,hr6,⟨lo,hi,fun x hx=>(rok x hx).weak⟩,hpr0,hprl,st6,sb6⟩
    rintro σ' H6 ⟨pr,rows,t6,o5,o6,o7,rfl,hr6,⟨lo,hi,rok⟩,hpr0,hprl,st6,sb6⟩
    have ne:rows≠[]:=fun z=>by rw[z] at lo;simp at lo
    obtain⟨tx,jo⟩:=VS ne rok (by omega)
    have hok:∀ r∈rows,RowOk r:=fun r hr=>(rok r hr).ok
    have un:∀ n,n≤20→(A.deeper (PyProof.Rows.envOfC "law" (defScope Zu) s.heap.objs.size a.f_qv cdv)).units+n+2<cLine:=fun n hn=>by
     have:=hr.units
     omega
    refine⟨rfl,_,rfl,_,pr,rows,rfl,rfl,SqL.of hr6,jo,_,rows,rfl,tx,fun i hi4 hj hn H7 s7=>?_,fun hall h4 H7 s7=>?_,fun e1 e2 e3 e4 a1 a2 a3 a4 hl=>⟨fun hg p vs H7 s7 hp ht=>?_,fun hg H7 s7=>?_⟩⟩
    ·refine⟨_,rfl,pr,rows,rfl,s7 _ _ hr6,hok,fun i' hi4' hj' hn' H8 s8=>?_,fun hall _=>absurd hn (hall i hi4),fun e1 e2 e3 e4 a1 a2 a3 a4 _=>?_⟩
     ·have:i=i':=by
       rcases Nat.lt_trichotomy i i' with z | z | z
       ·exact absurd hn (hj' i z)
       ·exact z
       ·exact absurd hn' (hj i' z)
      subst this
      refine .inl ⟨rfl,_,rfl,iteN (by simp) ?_⟩
      exact⟨_,_,_,_,_,_,rfl,sb6.trans (s7.trans s8)⟩
     ·exfalso
      match i,hi4,hn with
      |0,_,hn=>rw[a1] at hn;cases hn
      |1,_,hn=>rw[a2] at hn;cases hn
      |2,_,hn=>rw[a3] at hn;cases hn
      |3,_,hn=>rw[a4] at hn;cases hn
    ·refine⟨_,rfl,pr,rows,rfl,s7 _ _ hr6,hok,fun i' hi4' hj' hn'=>absurd hn' (hall i' hi4'),fun _ _ H8 s8=>?_,fun e1 e2 e3 e4 _ _ _ _ z=>by omega⟩
     refine .inl ⟨rfl,_,rfl,iteN (by simp) ?_⟩
     exact⟨_,_,_,_,_,_,rfl,sb6.trans (s7.trans s8)⟩
    ·refine⟨_,rfl,pr,rows,rfl,s7 _ _ hr6,hok,fun i' hi4' hj' hn'=>?_,fun _ _=>by omega,fun f1 f2 f3 f4 b1 b2 b3 b4 _=>?_⟩
     ·exfalso
      match i',hi4',hn' with
      |0,_,hn=>rw[a1] at hn;cases hn
      |1,_,hn=>rw[a2] at hn;cases hn
      |2,_,hn=>rw[a3] at hn;cases hn
      |3,_,hn=>rw[a4] at hn;cases hn
     ·rw[a1] at b1
      rw[a2] at b2
      rw[a3] at b3
      rw[a4] at b4
      cases b1
      cases b2
      cases b3
      cases b4
      refine⟨fun _ q us H8 s8 hq hu=>?_,fun z=>absurd hg z⟩
      have ht8:ToldL H8 vs [e1,e2,e3,e4]:=ht.mono fun b xs h=>s8 _ _ h
      refine .inr ⟨p,q,vs,us,fun _=>true,8,rfl,rfl,.inl ⟨SqL.of (s8 _ _ hp),SqL.of hq⟩,ht8.length.trans hu.length.symm,un 8 (by decide),fun j u v eu ev=>?_,_,rfl,iteN (by simp) ?_⟩
      ·have lj:j<4:=by have:=(List.getElem?_eq_some_iff.mp eu).1;rw[ht8.length] at this;exact this
       obtain⟨e,he⟩:∃ e,[e1,e2,e3,e4][j]?=some e:=⟨[e1,e2,e3,e4][j]'lj,by simp⟩
       have t1:Told H8 e u:=xX (F:=fun v e=>Told H8 e v) ht8 eu he
       have t2:Told H8 e v:=xX (F:=fun v e=>Told H8 e v) hu ev he
       have hd:e.dep≤8:=by
        obtain⟨g1,g2,g3,g4,_⟩:=hg
        match j,lj,he with
        |0,_,he=>cases he;exact g1.2
        |1,_,he=>cases he;exact g2.2
        |2,_,he=>cases he;exact g3.2
        |3,_,he=>cases he;exact g4.2
       exact(t1.eqD t2).mono hd
      ·exact⟨_,_,_,_,_,_,rfl,sb6.trans (s7.trans s8)⟩
    ·refine⟨_,rfl,pr,rows,rfl,s7 _ _ hr6,hok,fun i' hi4' hj' hn'=>?_,fun _ _=>by omega,fun f1 f2 f3 f4 b1 b2 b3 b4 _=>?_⟩
     ·exfalso
      match i',hi4',hn' with
      |0,_,hn=>rw[a1] at hn;cases hn
      |1,_,hn=>rw[a2] at hn;cases hn
      |2,_,hn=>rw[a3] at hn;cases hn
      |3,_,hn=>rw[a4] at hn;cases hn
     ·rw[a1] at b1
      rw[a2] at b2
      rw[a3] at b3
      rw[a4] at b4
      cases b1
      cases b2
      cases b3
      cases b4
      refine⟨fun z=>absurd z hg,fun _ H8 s8=>?_⟩
      refine .inl ⟨rfl,_,rfl,iteN (by simp) ?_⟩
      exact⟨_,_,_,_,_,_,rfl,sb6.trans (s7.trans s8)⟩
  ·rintro σ H' ⟨o2,o3,o4,o5,o6,o7,rfl,s'⟩
   exact k _
end
end K04

noncomputable section
namespace Hd
open PySem PySem.W PySem.Calls PyProof.Rows
variable (P:Params)
noncomputable def tt {α:Type}(_:α):Bool:=true
noncomputable def S (i:Nat):Stmt:=PySem.Challenge.pw_beatless_k12_whole_texts_read.main.body.getD i (.Pass ⟨0,0,0,0⟩)
noncomputable def en (P:Params) (x:Str) (t:Tok) (v:Value):DictEntry:=⟨PyData.keyHash P x,.str x t,v⟩
noncomputable def fd (n q:Str) (s:Stmt) (g:Addr) (cl:List (Str×Addr)) (d k c m:Value) (an:Option Addr) (cd ct:Value) (b:Addr):FuncData :=
 ⟨n,q,L2.defArgs s,.stmts (L2.defBody s),L2.defScope s,g,cl,d,k,c,m,an,cd,ct,b⟩
noncomputable abbrev an:Option Value:=(Option.some (.ref 6))
noncomputable def env:Env:={ scope:=PySem.Challenge.pw_beatless_k12_whole_texts_read.main.scope,locals:=mainNs,globals:=mainNs,cells:=[],code:=(.ref 13),frame:=some 14 }
noncomputable abbrev bE:List Stmt:=behindTheImports PySem.Challenge.pw_beatless_k12_whole_texts_read
noncomputable abbrev cE:Code:=.body bE env
abbrev qE:Pos:=(Pos.mk 0 0 0 0)
noncomputable abbrev B:List Frame:=[topFrame qE]
def s0 (w:World) (os:OsState):Shared:=⟨boot_heap w.params,⟨[]⟩,boot_drawn,boot_toks,os⟩
noncomputable def tO (l:Array Value):Obj:=Obj.mk (.type "tuple") .none (Data.seq l 0) #[]
noncomputable def vO (l:Array Value):Obj:=Obj.mk .none .none (Data.fields l) #[]
noncomputable def cO (n q:Str) (a b c:Tok) (l m:Int) (k:Int) (r1 r2 r3 r4 r5:Addr) (x:Int) (y:Tok):Obj:=Obj.mk (.type "code") .none (Data.fields #[(.str n a),(.str q b),(.str "/claim/cut.py" c),(.int l 0),(.int m 0),(.int 0 0),(.int 0 0),(.int k 0),(.ref r1),(.bool true),(.int 181 0),(.ref r2),.none,(.ref r3),(.ref r4),(.ref r5),(.int x 0),(.int l 0),(.str "/claim/cut.py" y)]) #[]
noncomputable def uO (n q:Str) (s:Stmt) (m:Str) (t:Tok) (r:Addr):Obj:=Obj.mk (.type "function") .none (Data.func (fd n q s 3 [] .none .none .none (.str m t) .none (.ref r) .none 0)) #[]
noncomputable def gO (n q:Str) (s:Stmt):Obj:=Obj.mk .none .none (Data.func (fd n q s 0 [] .none .none .none .none .none .none .none 0)) #[]
noncomputable def o0 (P:Params):=tO #[]
noncomputable def o1 (P:Params):=vO #[]
noncomputable def o2 (P:Params):=Obj.mk (.type "code") .none (Data.fields #[(.str "<module>" 182),(.str "<module>" 183),(.str "/claim/cut.py" 184),(.int 1 0),(.int 0 0),(.int 0 0),(.int 0 0),(.int 0 0),(.ref 11),(.bool false),(.int 181 0),(.ref 12),.none,.none,.none,.none,(.int 185 0),(.int 1 0),(.str "/claim/cut.py" 186)]) #[]
noncomputable def o3 (P:Params):=Obj.mk (.type "frame") .none Data.plain #[(Option.some (.ref 13)),(Option.some (.ref 3)),(Option.some (.ref 3)),.none,(Option.some (.str "__main__" 164)),.none,(Option.some (.ref 0))]
def t14:=BT.node (boot_o_0 P) (BT.node (boot_o_1 P) (BT.node (boot_o_3 P) (BT.node (boot_o_7 P) .nil .nil) (BT.node (o0 P) .nil .nil)) (BT.node (boot_o_5 P) (BT.node (boot_o_9 P) .nil .nil) (BT.node (o2 P) .nil .nil))) (BT.node (boot_o_2 P) (BT.node (boot_o_4 P) (BT.node (boot_o_8 P) .nil .nil) (BT.node (o1 P) .nil .nil)) (BT.node (boot_o_6 P) (BT.node (boot_o_10 P) .nil .nil) (BT.node (o3 P) .nil .nil)))
def sa (w:World) (os:OsState):SharedT:=⟨(t14 w.params),15,(Life.mk [] [] [] 0 [] [] false #[] [] 0 false false false 0 [2000,10,10] false 0 true [] [] 0 false),⟨[]⟩,(Drawn.mk 0 0 0 0),187,os⟩
def La (w:World) (os:OsState):Option (Shared×Thread):=topGo treeTable PySem.Challenge.pw_beatless_k12_whole_texts_read w 11 an 12 (s0 w os) (topStub PySem.Challenge.pw_beatless_k12_whole_texts_read)
def Ra (w:World) (os:OsState):Option (Shared×Thread):=some ((sa w os).abs,⟨denote treeTable cE,cE,(Pos.mk 0 0 0 0),B⟩)
theorem qa:tt (Hd.La,Hd.Ra)=true:=by k_qdec
theorem ra:∀ w,Fast.tw11367235000924431832 w=Fast.tw15912052731592885781 w:=fun w=>by kernel_rfl
theorem ea (w:World) (os:OsState):Hd.La w os=Hd.Ra w os :=
 (congrFun (congrFun Fast.te11367235000924431832 w) os).trans ((congrFun (ra w) os).trans (congrFun (congrFun Fast.te15912052731592885781 w) os).symm)
def sb0 (w:World) (os:OsState):SharedT:=⟨(t14 w.params),15,(Life.mk [] [] [] 0 [] [] false #[] [] 0 false false false 0 [2000,10,10] false 0 true [] [] 0 false),⟨[]⟩,(Drawn.mk 0 0 0 0),187,os⟩
def Lb (w:World) (os:OsState):Option (Flow×SharedT×Code×Pos):=segRunT treeTable PySem.Challenge.pw_beatless_k12_whole_texts_read w 11 an 1 1 (sa w os) (blockOf bE env cE (Pos.mk 0 0 0 0) B)
def Rb (w:World) (os:OsState):Option (Flow×SharedT×Code×Pos):=some (.next,sb0 w os,cE,(Pos.mk 0 0 0 0))
theorem qb:tt (Hd.Lb,Hd.Rb)=true:=by k_qdec
theorem rb:∀ w,Fast.tw16430817790641568776 w=Fast.tw15716482383535360375 w:=fun w=>by kernel_rfl
theorem eb (w:World) (os:OsState):Hd.Lb w os=Hd.Rb w os :=
 (congrFun (congrFun Fast.te16430817790641568776 w) os).trans ((congrFun (rb w) os).trans (congrFun (congrFun Fast.te15716482383535360375 w) os).symm)
noncomputable def znX:List Stmt:=[S 0,S 1,S 2,S 3]
noncomputable def o4:=Obj.mk (.type "dict") .none (Data.dict #[en P "__name__" 165 (.str "beatless.errors" 194),en P "__doc__" 166 .none,en P "__package__" 167 .none,en P "__loader__" 168 (.builtin "__main__.__loader__#opaque"),en P "__spec__" 169 .none,en P "__annotations__" 170 (.ref 6),en P "__builtins__" 171 (.ref 4),en P "__file__" 173 (.str "/claim/cut.py" 172),en P "__cached__" 174 .none,en P "_wall" 193 (.ref 21),en P "BeatlessError" 213 (.ref 31),en P "NoProgram" 229 (.ref 44)] 12) #[]
noncomputable def o5 (P:Params):=vO #[(.int 1 0),(.int 0 0),(.ref 20),(.int 5 0),(.int 0 0),(.ref 27),(.int 7 0),(.int 0 0),(.ref 40)]
def o6 (P:Params):=tO #[]
def o7 (P:Params):=vO #[]
noncomputable def o8 (P:Params):=tO #[(.str "k" 190)]
def o9 (P:Params):=tO #[]
noncomputable def o10 (P:Params):=gO "_wall" "_wall" (S 0)
noncomputable def o11 (P:Params):=cO "_wall" "_wall" 187 188 189 1 1 3 15 16 17 18 19 191 192
noncomputable def o12 (P:Params):=uO "_wall" "_wall" (S 0) "__main__" 164 20
noncomputable def o13 (P:Params):=tO #[(.type "ValueError")]
noncomputable def o14 (P:Params):=Obj.mk (.type "builtin_function_or_method") .none (Data.fields #[(.builtin "type.__prepare__"),(.type "type")]) #[]
noncomputable def o15:=Obj.mk (.type "dict") .none (Data.dict #[en P "__module__" 203 (.str "beatless.errors" 194),en P "__qualname__" 205 (.str "BeatlessError" 204),en P "__firstlineno__" 207 (.int 5 206),en P "__static_attributes__" 208 (.ref 29)] 4) #[]
def o16 (P:Params):=tO #[]
def o17 (P:Params):=vO #[]
noncomputable def o18 (P:Params):=Obj.mk (.type "code") .none (Data.fields #[(.str "BeatlessError" 198),(.str "BeatlessError" 199),(.str "/claim/cut.py" 200),(.int 5 0),(.int 0 0),(.int 0 0),(.int 0 0),(.int 0 0),(.ref 25),(.bool false),(.int 181 0),(.ref 26),.none,.none,.none,.none,(.int 201 0),(.int 5 0),(.str "/claim/cut.py" 202)]) #[]
noncomputable def o19 (P:Params):=Obj.mk (.type "frame") .none Data.plain #[(Option.some (.ref 27)),(Option.some (.ref 3)),(Option.some (.ref 24)),.none,(Option.some (.str "beatless.errors" 194)),.none,(Option.some (.ref 0))]
def o20 (P:Params):=tO #[]
noncomputable def o21:=Obj.mk (.type "dict") .none (Data.dict #[en P "__module__" 203 (.str "beatless.errors" 194),en P "__firstlineno__" 207 (.int 5 206),en P "__static_attributes__" 208 (.ref 29),en P "__weakref__" 210 (.ref 32),en P "__doc__" 211 .none] 3) #[]
noncomputable def o22 (P:Params):=Obj.mk (.type "type") .none (Data.cls (ClassData.mk "BeatlessError" [(.type "ValueError")] [(.ref 31),(.type "ValueError"),(.type "Exception"),(.type "BaseException"),(.type "object")] 30 "BeatlessError" true [] [(.ref 44)] false .none false)) #[(Option.some (.ref 22)),.none,(Option.some (.str "BeatlessError" 196)),(Option.some (.str "BeatlessError" 204)),(Option.some (.builtin "ValueError.__new__")),(Option.some (.bool true))]
noncomputable def o23 (P:Params):=Obj.mk (.type "getset_descriptor") .none (Data.fields #[(.str "__weakref__" 209),(.ref 31),(.builtin "ExceptionGroup.__weakref__"),.none]) #[]
noncomputable def o24 (P:Params):=Obj.mk (.type "super") .none (Data.fields #[(.ref 31),(.ref 31),(.ref 31)]) #[]
noncomputable def o25 (P:Params):=Obj.mk (.type "builtin_function_or_method") .none (Data.fields #[(.builtin "object.__init_subclass__"),(.ref 31)]) #[]
noncomputable def o26 (P:Params):=tO #[(.ref 31)]
noncomputable def o27 (P:Params):=Obj.mk (.type "builtin_function_or_method") .none (Data.fields #[(.builtin "type.__prepare__"),(.type "type")]) #[]
noncomputable def o28:=Obj.mk (.type "dict") .none (Data.dict #[en P "__module__" 221 (.str "beatless.errors" 194),en P "__qualname__" 223 (.str "NoProgram" 222),en P "__firstlineno__" 225 (.int 7 224),en P "__static_attributes__" 226 (.ref 42)] 4) #[]
def o29 (P:Params):=tO #[]
def o30 (P:Params):=vO #[]
noncomputable def o31 (P:Params):=Obj.mk (.type "code") .none (Data.fields #[(.str "NoProgram" 216),(.str "NoProgram" 217),(.str "/claim/cut.py" 218),(.int 7 0),(.int 0 0),(.int 0 0),(.int 0 0),(.int 0 0),(.ref 38),(.bool false),(.int 181 0),(.ref 39),.none,.none,.none,.none,(.int 219 0),(.int 7 0),(.str "/claim/cut.py" 220)]) #[]
noncomputable def o32 (P:Params):=Obj.mk (.type "frame") .none Data.plain #[(Option.some (.ref 40)),(Option.some (.ref 3)),(Option.some (.ref 37)),.none,(Option.some (.str "beatless.errors" 194)),.none,(Option.some (.ref 0))]
def o33 (P:Params):=tO #[]
noncomputable def o34:=Obj.mk (.type "dict") .none (Data.dict #[en P "__module__" 221 (.str "beatless.errors" 194),en P "__firstlineno__" 225 (.int 7 224),en P "__static_attributes__" 226 (.ref 42),en P "__doc__" 227 .none] 2) #[]
noncomputable def o35 (P:Params):=Obj.mk (.type "type") .none (Data.cls (ClassData.mk "NoProgram" [(.ref 31)] [(.ref 44),(.ref 31),(.type "ValueError"),(.type "Exception"),(.type "BaseException"),(.type "object")] 43 "NoProgram" true [] [] false .none false)) #[(Option.some (.ref 35)),.none,(Option.some (.str "NoProgram" 214)),(Option.some (.str "NoProgram" 222)),(Option.some (.builtin "ValueError.__new__")),(Option.some (.bool true))]
noncomputable def o36 (P:Params):=Obj.mk (.type "super") .none (Data.fields #[(.ref 44),(.ref 44),(.ref 44)]) #[]
noncomputable def o37 (P:Params):=Obj.mk (.type "builtin_function_or_method") .none (Data.fields #[(.builtin "object.__init_subclass__"),(.ref 44)]) #[]
def t60:=BT.node (boot_o_2 P) (BT.node (boot_o_4 P) (BT.node (boot_o_8 P) (BT.node (o7 P) (BT.node (o23 P) .nil .nil) .nil) (BT.node (o15 P) (BT.node (o31 P) .nil .nil) .nil)) (BT.node (o5 P) (BT.node (o11 P) (BT.node (o27 P) .nil .nil) .nil) (BT.node (o19 P) (BT.node (o35 P) .nil .nil) .nil))) (BT.node (boot_o_6 P) (BT.node (boot_o_10 P) (BT.node (o9 P) (BT.node (o25 P) .nil .nil) .nil) (BT.node (o17 P) (BT.node (o33 P) .nil .nil) .nil)) (BT.node (o3 P) (BT.node (o13 P) (BT.node (o29 P) .nil .nil) .nil) (BT.node (o21 P) (BT.node (o37 P) .nil .nil) .nil)))
def t61:=BT.node (boot_o_0 P) (BT.node (boot_o_1 P) (BT.node (o4 P) (BT.node (boot_o_7 P) (BT.node (o6 P) (BT.node (o22 P) .nil .nil) .nil) (BT.node (o14 P) (BT.node (o30 P) .nil .nil) .nil)) (BT.node (o0 P) (BT.node (o10 P) (BT.node (o26 P) .nil .nil) .nil) (BT.node (o18 P) (BT.node (o34 P) .nil .nil) .nil))) (BT.node (boot_o_5 P) (BT.node (boot_o_9 P) (BT.node (o8 P) (BT.node (o24 P) .nil .nil) .nil) (BT.node (o16 P) (BT.node (o32 P) .nil .nil) .nil)) (BT.node (o2 P) (BT.node (o12 P) (BT.node (o28 P) .nil .nil) .nil) (BT.node (o20 P) (BT.node (o36 P) .nil .nil) .nil)))) (t60 P)
def sb1 (w:World) (os:OsState):SharedT:=⟨(t61 w.params),47,(Life.mk [] [] [] 0 [] [] false #[] [] 0 false false false 0 [2000,10,10] false 0 true [] [] 0 false),⟨[]⟩,(Drawn.mk 0 0 0 0),230,os⟩
def L0 (w:World) (os:OsState):Option (Flow×SharedT×Code×Pos):=segRunT treeTable PySem.Challenge.pw_beatless_k12_whole_texts_read w 11 an 1 438 (sb0 w os) (piecesOf znX env cE (Pos.mk 0 0 0 0) B)
def R0 (w:World) (os:OsState):Option (Flow×SharedT×Code×Pos):=some (.next,sb1 w os,cE,(Pos.mk 7 0 8 8))
theorem q0:tt (Hd.L0,Hd.R0)=true:=by k_qdec
theorem r0:∀ w,Fast.tw4453942571644881324 w=Fast.tw13470614248104656481 w:=fun w=>by kernel_rfl
theorem e0 (w:World) (os:OsState):Hd.L0 w os=Hd.R0 w os :=
 (congrFun (congrFun Fast.te4453942571644881324 w) os).trans ((congrFun (r0 w) os).trans (congrFun (congrFun Fast.te13470614248104656481 w) os).symm)
noncomputable def znW:List Stmt:=[S 4,S 5,S 6]
noncomputable def o38:=Obj.mk (.type "dict") .none (Data.dict #[en P "__name__" 165 (.str "beatless.exprs" 255),en P "__doc__" 166 .none,en P "__package__" 167 .none,en P "__loader__" 168 (.builtin "__main__.__loader__#opaque"),en P "__spec__" 169 .none,en P "__annotations__" 170 (.ref 6),en P "__builtins__" 171 (.ref 4),en P "__file__" 173 (.str "/claim/cut.py" 172),en P "__cached__" 174 .none,en P "_wall" 193 (.ref 21),en P "BeatlessError" 213 (.ref 31),en P "NoProgram" 229 (.ref 44),en P "NoText" 254 (.ref 63),en P "Expr" 276 (.ref 75)] 14) #[]
noncomputable def o39 (P:Params):=vO #[(.int 1 0),(.int 0 0),(.ref 20),(.int 5 0),(.int 0 0),(.ref 27),(.int 7 0),(.int 0 0),(.ref 40),(.int 9 0),(.int 0 0),(.ref 52),(.int 14 0),(.int 0 0),(.ref 71)]
noncomputable def o40 (P:Params):=Obj.mk (.type "type") .none (Data.cls (ClassData.mk "BeatlessError" [(.type "ValueError")] [(.ref 31),(.type "ValueError"),(.type "Exception"),(.type "BaseException"),(.type "object")] 30 "BeatlessError" true [] [(.ref 44),(.ref 63)] false .none false)) #[(Option.some (.ref 22)),.none,(Option.some (.str "BeatlessError" 196)),(Option.some (.str "BeatlessError" 204)),(Option.some (.builtin "ValueError.__new__")),(Option.some (.bool true))]
noncomputable def o41 (P:Params):=tO #[(.ref 31)]
noncomputable def o42 (P:Params):=Obj.mk (.type "builtin_function_or_method") .none (Data.fields #[(.builtin "type.__prepare__"),(.type "type")]) #[]
noncomputable def o43:=Obj.mk (.type "dict") .none (Data.dict #[en P "__module__" 237 (.str "beatless.errors" 194),en P "__qualname__" 239 (.str "NoText" 238),en P "__firstlineno__" 241 (.int 9 240),en P "__init__" 249 (.ref 60),en P "__static_attributes__" 251 (.ref 61)] 5) #[]
def o44 (P:Params):=tO #[]
noncomputable def o45 (P:Params):=vO #[(.int 11 0),(.int 4 0),(.ref 59)]
noncomputable def o46 (P:Params):=Obj.mk (.type "code") .none (Data.fields #[(.str "NoText" 232),(.str "NoText" 233),(.str "/claim/cut.py" 234),(.int 9 0),(.int 0 0),(.int 0 0),(.int 0 0),(.int 0 0),(.ref 50),(.bool false),(.int 181 0),(.ref 51),.none,.none,.none,.none,(.int 235 0),(.int 9 0),(.str "/claim/cut.py" 236)]) #[]
noncomputable def o47 (P:Params):=Obj.mk (.type "frame") .none Data.plain #[(Option.some (.ref 52)),(Option.some (.ref 3)),(Option.some (.ref 49)),.none,(Option.some (.str "beatless.errors" 194)),.none,(Option.some (.ref 0))]
def o48 (P:Params):=tO #[]
def o49 (P:Params):=vO #[]
noncomputable def o50 (P:Params):=tO #[(.str "self" 245),(.str "row" 246)]
def o51 (P:Params):=tO #[]
noncomputable def o52 (P:Params):=gO "__init__" "NoText.__init__" (L2.inClass (S 4) 0)
noncomputable def o53 (P:Params):=cO "__init__" "NoText.__init__" 242 243 244 11 2 3 54 55 56 57 58 247 248
noncomputable def o54 (P:Params):=uO "__init__" "NoText.__init__" (L2.inClass (S 4) 0) "beatless.errors" 194 59
noncomputable def o55 (P:Params):=tO #[(.str "row" 250)]
noncomputable def o56:=Obj.mk (.type "dict") .none (Data.dict #[en P "__module__" 237 (.str "beatless.errors" 194),en P "__firstlineno__" 241 (.int 9 240),en P "__init__" 249 (.ref 60),en P "__static_attributes__" 251 (.ref 61),en P "__doc__" 252 .none] 2) #[]
noncomputable def o57 (P:Params):=Obj.mk (.type "type") .none (Data.cls (ClassData.mk "NoText" [(.ref 31)] [(.ref 63),(.ref 31),(.type "ValueError"),(.type "Exception"),(.type "BaseException"),(.type "object")] 62 "NoText" true [] [] false .none false)) #[(Option.some (.ref 47)),.none,(Option.some (.str "NoText" 230)),(Option.some (.str "NoText" 238)),(Option.some (.builtin "ValueError.__new__")),(Option.some (.bool true))]
noncomputable def o58 (P:Params):=Obj.mk (.type "super") .none (Data.fields #[(.ref 63),(.ref 63),(.ref 63)]) #[]
noncomputable def o59 (P:Params):=Obj.mk (.type "builtin_function_or_method") .none (Data.fields #[(.builtin "object.__init_subclass__"),(.ref 63)]) #[]
def o60 (P:Params):=tO #[]
noncomputable def o61 (P:Params):=Obj.mk (.type "builtin_function_or_method") .none (Data.fields #[(.builtin "type.__prepare__"),(.type "type")]) #[]
noncomputable def o62:=Obj.mk (.type "dict") .none (Data.dict #[en P "__module__" 264 (.str "beatless.exprs" 255),en P "__qualname__" 266 (.str "Expr" 265),en P "__firstlineno__" 268 (.int 14 267),en P "__static_attributes__" 269 (.ref 73)] 4) #[]
def o63 (P:Params):=tO #[]
def o64 (P:Params):=vO #[]
noncomputable def o65 (P:Params):=Obj.mk (.type "code") .none (Data.fields #[(.str "Expr" 259),(.str "Expr" 260),(.str "/claim/cut.py" 261),(.int 14 0),(.int 0 0),(.int 0 0),(.int 0 0),(.int 0 0),(.ref 69),(.bool false),(.int 181 0),(.ref 70),.none,.none,.none,.none,(.int 262 0),(.int 14 0),(.str "/claim/cut.py" 263)]) #[]
noncomputable def o66 (P:Params):=Obj.mk (.type "frame") .none Data.plain #[(Option.some (.ref 71)),(Option.some (.ref 3)),(Option.some (.ref 68)),.none,(Option.some (.str "beatless.exprs" 255)),.none,(Option.some (.ref 0))]
def o67 (P:Params):=tO #[]
noncomputable def o68:=Obj.mk (.type "dict") .none (Data.dict #[en P "__module__" 264 (.str "beatless.exprs" 255),en P "__firstlineno__" 268 (.int 14 267),en P "__static_attributes__" 269 (.ref 73),en P "__dict__" 271 (.ref 76),en P "__weakref__" 273 (.ref 77),en P "__doc__" 274 .none] 4) #[]
noncomputable def o69 (P:Params):=Obj.mk (.type "type") .none (Data.cls (ClassData.mk "Expr" [(.type "object")] [(.ref 75),(.type "object")] 74 "Expr" true [] [] false .none false)) #[.none,.none,(Option.some (.str "Expr" 257)),(Option.some (.str "Expr" 265)),(Option.some (.builtin "object.__new__")),(Option.some (.bool true))]
noncomputable def o70 (P:Params):=Obj.mk (.type "getset_descriptor") .none (Data.fields #[(.str "__dict__" 270),(.ref 75),(.builtin "function.__dict__"),(.builtin "function.__dict__#set")]) #[]
noncomputable def o71 (P:Params):=Obj.mk (.type "getset_descriptor") .none (Data.fields #[(.str "__weakref__" 272),(.ref 75),(.builtin "ExceptionGroup.__weakref__"),.none]) #[]
noncomputable def o72 (P:Params):=Obj.mk (.type "super") .none (Data.fields #[(.ref 75),(.ref 75),(.ref 75)]) #[]
noncomputable def o73 (P:Params):=Obj.mk (.type "builtin_function_or_method") .none (Data.fields #[(.builtin "object.__init_subclass__"),(.ref 75)]) #[]
noncomputable def t62:=BT.node (o57 P) .nil .nil
noncomputable def t64:=BT.node (o73 P) .nil .nil
noncomputable def t67:=BT.node (o65 P) .nil .nil
noncomputable def t72:=BT.node (o61 P) .nil .nil
noncomputable def t82:=BT.node (o59 P) .nil .nil
noncomputable def t86:=BT.node (o67 P) .nil .nil
noncomputable def t91:=BT.node (o63 P) .nil .nil
noncomputable def t95:=BT.node (o71 P) .nil .nil
def zp2:=BT.node (boot_o_5 P) (BT.node (boot_o_9 P) (BT.node (o8 P) (BT.node (o24 P) (t82 P) .nil) (BT.node (o43 P) .nil .nil)) (BT.node (o16 P) (BT.node (o32 P) (t86 P) .nil) (BT.node (o51 P) .nil .nil))) (BT.node (o2 P) (BT.node (o12 P) (BT.node (o28 P) (t91 P) .nil) (BT.node (o47 P) .nil .nil)) (BT.node (o20 P) (BT.node (o36 P) (t95 P) .nil) (BT.node (o55 P) .nil .nil)))
noncomputable def znN:=BT.node (o58 P) .nil .nil
noncomputable def znM:=BT.node (o66 P) .nil .nil
def znL:=BT.node (o62 P) .nil .nil
noncomputable def znK:=BT.node (o70 P) .nil .nil
noncomputable def znJ:=BT.node (o60 P) .nil .nil
def znI:=BT.node (o68 P) .nil .nil
noncomputable def znH:=BT.node (o64 P) .nil .nil
noncomputable def znG:=BT.node (o72 P) .nil .nil
def zp1:=BT.node (boot_o_6 P) (BT.node (boot_o_10 P) (BT.node (o9 P) (BT.node (o25 P) (znJ P) .nil) (BT.node (o44 P) .nil .nil)) (BT.node (o17 P) (BT.node (o33 P) (znI P) .nil) (BT.node (o52 P) .nil .nil))) (BT.node (o3 P) (BT.node (o13 P) (BT.node (o29 P) (znH P) .nil) (BT.node (o48 P) .nil .nil)) (BT.node (o21 P) (BT.node (o37 P) (znG P) .nil) (BT.node (o56 P) .nil .nil)))
def zp0:=BT.node (boot_o_2 P) (BT.node (boot_o_4 P) (BT.node (boot_o_8 P) (BT.node (o7 P) (BT.node (o23 P) (znN P) .nil) (BT.node (o42 P) .nil .nil)) (BT.node (o15 P) (BT.node (o31 P) (znM P) .nil) (BT.node (o50 P) .nil .nil))) (BT.node (o39 P) (BT.node (o11 P) (BT.node (o27 P) (znL P) .nil) (BT.node (o46 P) .nil .nil)) (BT.node (o19 P) (BT.node (o35 P) (znK P) .nil) (BT.node (o54 P) .nil .nil)))) (zp1 P)
def zpZ:=BT.node (boot_o_0 P) (BT.node (boot_o_1 P) (BT.node (o38 P) (BT.node (boot_o_7 P) (BT.node (o6 P) (BT.node (o40 P) (t62 P) .nil) (BT.node (o41 P) (t64 P) .nil)) (BT.node (o14 P) (BT.node (o30 P) (t67 P) .nil) (BT.node (o49 P) .nil .nil))) (BT.node (o0 P) (BT.node (o10 P) (BT.node (o26 P) (t72 P) .nil) (BT.node (o45 P) .nil .nil)) (BT.node (o18 P) (BT.node (o34 P) (BT.node (o69 P) .nil .nil) .nil) (BT.node (o53 P) .nil .nil)))) (zp2 P)) (zp0 P)
def sb2 (w:World) (os:OsState):SharedT:=⟨(zpZ w.params),80,(Life.mk [] [] [] 0 [] [] false #[] [] 0 false false false 0 [2000,10,10] false 0 true [] [] 0 false),⟨[]⟩,(Drawn.mk 0 0 0 0),277,os⟩
def L1 (w:World) (os:OsState):Option (Flow×SharedT×Code×Pos):=segRunT treeTable PySem.Challenge.pw_beatless_k12_whole_texts_read w 11 an 1 445 (sb1 w os) (piecesOf znW env cE (Pos.mk 7 0 8 8) B)
def R1 (w:World) (os:OsState):Option (Flow×SharedT×Code×Pos):=some (.next,sb2 w os,cE,(Pos.mk 14 0 15 8))
theorem q1:tt (Hd.L1,Hd.R1)=true:=by k_qdec
theorem r1:∀ w,Fast.tw6387051279210280424 w=Fast.tw17943070361625844382 w:=fun w=>by kernel_rfl
theorem e1 (w:World) (os:OsState):Hd.L1 w os=Hd.R1 w os :=
 (congrFun (congrFun Fast.te6387051279210280424 w) os).trans ((congrFun (r1 w) os).trans (congrFun (congrFun Fast.te17943070361625844382 w) os).symm)
noncomputable def znV:List Stmt:=[S 7]
noncomputable def o74:=Obj.mk (.type "dict") .none (Data.dict #[en P "__name__" 165 (.str "beatless.exprs" 255),en P "__doc__" 166 .none,en P "__package__" 167 .none,en P "__loader__" 168 (.builtin "__main__.__loader__#opaque"),en P "__spec__" 169 .none,en P "__annotations__" 170 (.ref 6),en P "__builtins__" 171 (.ref 4),en P "__file__" 173 (.str "/claim/cut.py" 172),en P "__cached__" 174 .none,en P "_wall" 193 (.ref 21),en P "BeatlessError" 213 (.ref 31),en P "NoProgram" 229 (.ref 44),en P "NoText" 254 (.ref 63),en P "Expr" 276 (.ref 75),en P "Num" 323 (.ref 117)] 15) #[]
noncomputable def o75 (P:Params):=vO #[(.int 1 0),(.int 0 0),(.ref 20),(.int 5 0),(.int 0 0),(.ref 27),(.int 7 0),(.int 0 0),(.ref 40),(.int 9 0),(.int 0 0),(.ref 52),(.int 14 0),(.int 0 0),(.ref 71),(.int 16 0),(.int 0 0),(.ref 85)]
noncomputable def o76 (P:Params):=Obj.mk (.type "type") .none (Data.cls (ClassData.mk "Expr" [(.type "object")] [(.ref 75),(.type "object")] 74 "Expr" true [] [(.ref 117)] false .none false)) #[.none,.none,(Option.some (.str "Expr" 257)),(Option.some (.str "Expr" 265)),(Option.some (.builtin "object.__new__")),(Option.some (.bool true))]
noncomputable def o77 (P:Params):=tO #[(.ref 75)]
noncomputable def o78 (P:Params):=Obj.mk (.type "builtin_function_or_method") .none (Data.fields #[(.builtin "type.__prepare__"),(.type "type")]) #[]
noncomputable def o79:=Obj.mk (.type "dict") .none (Data.dict #[en P "__module__" 284 (.str "beatless.exprs" 255),en P "__qualname__" 286 (.str "Num" 285),en P "__firstlineno__" 288 (.int 16 287),en P "__init__" 296 (.ref 93),en P "reckon" 304 (.ref 100),en P "told" 311 (.ref 107),en P "words" 318 (.ref 114),en P "__static_attributes__" 320 (.ref 115)] 8) #[]
def o80 (P:Params):=tO #[]
noncomputable def o81 (P:Params):=vO #[(.int 18 0),(.int 4 0),(.ref 92),(.int 21 0),(.int 4 0),(.ref 99),(.int 24 0),(.int 4 0),(.ref 106),(.int 27 0),(.int 4 0),(.ref 113)]
noncomputable def o82 (P:Params):=Obj.mk (.type "code") .none (Data.fields #[(.str "Num" 279),(.str "Num" 280),(.str "/claim/cut.py" 281),(.int 16 0),(.int 0 0),(.int 0 0),(.int 0 0),(.int 0 0),(.ref 83),(.bool false),(.int 181 0),(.ref 84),.none,.none,.none,.none,(.int 282 0),(.int 16 0),(.str "/claim/cut.py" 283)]) #[]
noncomputable def o83 (P:Params):=Obj.mk (.type "frame") .none Data.plain #[(Option.some (.ref 85)),(Option.some (.ref 3)),(Option.some (.ref 82)),.none,(Option.some (.str "beatless.exprs" 255)),.none,(Option.some (.ref 0))]
def o84 (P:Params):=tO #[]
def o85 (P:Params):=vO #[]
noncomputable def o86 (P:Params):=tO #[(.str "self" 292),(.str "value" 293)]
def o87 (P:Params):=tO #[]
noncomputable def o88 (P:Params):=gO "__init__" "Num.__init__" (L2.inClass (S 7) 0)
noncomputable def o89 (P:Params):=cO "__init__" "Num.__init__" 289 290 291 18 2 3 87 88 89 90 91 294 295
noncomputable def o90 (P:Params):=uO "__init__" "Num.__init__" (L2.inClass (S 7) 0) "beatless.exprs" 255 92
def o91 (P:Params):=tO #[]
def o92 (P:Params):=vO #[]
noncomputable def o93 (P:Params):=tO #[(.str "self" 300),(.str "worths" 301)]
def o94 (P:Params):=tO #[]
noncomputable def o95 (P:Params):=gO "reckon" "Num.reckon" (L2.inClass (S 7) 1)
noncomputable def o96 (P:Params):=cO "reckon" "Num.reckon" 297 298 299 21 2 3 94 95 96 97 98 302 303
noncomputable def o97 (P:Params):=uO "reckon" "Num.reckon" (L2.inClass (S 7) 1) "beatless.exprs" 255 99
def o98 (P:Params):=tO #[]
def o99 (P:Params):=vO #[]
noncomputable def VG (P:Params):=tO #[(.str "self" 308)]
def VF (P:Params):=tO #[]
noncomputable def zbf (P:Params):=gO "told" "Num.told" (L2.inClass (S 7) 2)
noncomputable def VE (P:Params):=cO "told" "Num.told" 305 306 307 24 1 3 101 102 103 104 105 309 310
noncomputable def VD (P:Params):=uO "told" "Num.told" (L2.inClass (S 7) 2) "beatless.exprs" 255 106
def VC (P:Params):=tO #[]
def zbe (P:Params):=vO #[]
noncomputable def VB (P:Params):=tO #[(.str "self" 315)]
def VA (P:Params):=tO #[]
noncomputable def zbd (P:Params):=gO "words" "Num.words" (L2.inClass (S 7) 3)
noncomputable def Vz (P:Params):=cO "words" "Num.words" 312 313 314 27 1 3 108 109 110 111 112 316 317
noncomputable def Vy (P:Params):=uO "words" "Num.words" (L2.inClass (S 7) 3) "beatless.exprs" 255 113
noncomputable def Vx (P:Params):=tO #[(.str "value" 319)]
noncomputable def Vw:=Obj.mk (.type "dict") .none (Data.dict #[en P "__module__" 284 (.str "beatless.exprs" 255),en P "__firstlineno__" 288 (.int 16 287),en P "__init__" 296 (.ref 93),en P "reckon" 304 (.ref 100),en P "told" 311 (.ref 107),en P "words" 318 (.ref 114),en P "__static_attributes__" 320 (.ref 115),en P "__doc__" 321 .none] 2) #[]
noncomputable def Vv (P:Params):=Obj.mk (.type "type") .none (Data.cls (ClassData.mk "Num" [(.ref 75)] [(.ref 117),(.ref 75),(.type "object")] 116 "Num" true [] [] false .none false)) #[(Option.some (.ref 80)),.none,(Option.some (.str "Num" 277)),(Option.some (.str "Num" 285)),(Option.some (.builtin "object.__new__")),(Option.some (.bool true))]
noncomputable def zbc (P:Params):=Obj.mk (.type "super") .none (Data.fields #[(.ref 117),(.ref 117),(.ref 117)]) #[]
noncomputable def zbb (P:Params):=Obj.mk (.type "builtin_function_or_method") .none (Data.fields #[(.builtin "object.__init_subclass__"),(.ref 117)]) #[]
noncomputable def znF:=BT.node (VA P) .nil .nil
noncomputable def znE:=BT.node (VG P) .nil .nil
noncomputable def znD:=BT.node (zbb P) .nil .nil
noncomputable def znC:=BT.node (o96 P) .nil .nil
noncomputable def znB:=BT.node (Vx P) .nil .nil
noncomputable def znA:=BT.node (VD P) .nil .nil
noncomputable def znz:=BT.node (o94 P) .nil .nil
noncomputable def zny:=BT.node (Vz P) .nil .nil
noncomputable def znx:=BT.node (zbf P) .nil .nil
noncomputable def znw:=BT.node (o98 P) .nil .nil
noncomputable def znv:=BT.node (Vv P) .nil .nil
noncomputable def znu:=BT.node (zbe P) .nil .nil
def zpY:=BT.node (boot_o_5 P) (BT.node (boot_o_9 P) (BT.node (o8 P) (BT.node (o24 P) (t82 P) (znz P)) (BT.node (o43 P) (BT.node (o78 P) .nil .nil) (zny P))) (BT.node (o16 P) (BT.node (o32 P) (t86 P) (znx P)) (BT.node (o51 P) (BT.node (o86 P) .nil .nil) .nil))) (BT.node (o2 P) (BT.node (o12 P) (BT.node (o28 P) (t91 P) (znw P)) (BT.node (o47 P) (BT.node (o82 P) .nil .nil) (znv P))) (BT.node (o20 P) (BT.node (o36 P) (t95 P) (znu P)) (BT.node (o55 P) (BT.node (o90 P) .nil .nil) .nil)))
noncomputable def znt:=BT.node (o93 P) .nil .nil
noncomputable def zns:=BT.node (zbd P) .nil .nil
noncomputable def znr:=BT.node (VF P) .nil .nil
noncomputable def znq:=BT.node (o97 P) .nil .nil
def znp:=BT.node (Vw P) .nil .nil
noncomputable def zno:=BT.node (VC P) .nil .nil
noncomputable def znn:=BT.node (o95 P) .nil .nil
noncomputable def znm:=BT.node (Vy P) .nil .nil
noncomputable def znl:=BT.node (VE P) .nil .nil
noncomputable def znk:=BT.node (o99 P) .nil .nil
noncomputable def znj:=BT.node (zbc P) .nil .nil
noncomputable def zni:=BT.node (VB P) .nil .nil
def zpX:=BT.node (boot_o_6 P) (BT.node (boot_o_10 P) (BT.node (o9 P) (BT.node (o25 P) (znJ P) (znn P)) (BT.node (o44 P) (BT.node (o79 P) .nil .nil) (znm P))) (BT.node (o17 P) (BT.node (o33 P) (znI P) (znl P)) (BT.node (o52 P) (BT.node (o87 P) .nil .nil) .nil))) (BT.node (o3 P) (BT.node (o13 P) (BT.node (o29 P) (znH P) (znk P)) (BT.node (o48 P) (BT.node (o83 P) .nil .nil) (znj P))) (BT.node (o21 P) (BT.node (o37 P) (znG P) (zni P)) (BT.node (o56 P) (BT.node (o91 P) .nil .nil) .nil)))
def zpW:=BT.node (boot_o_2 P) (BT.node (boot_o_4 P) (BT.node (boot_o_8 P) (BT.node (o7 P) (BT.node (o23 P) (znN P) (znt P)) (BT.node (o42 P) (BT.node (o77 P) .nil .nil) (zns P))) (BT.node (o15 P) (BT.node (o31 P) (znM P) (znr P)) (BT.node (o50 P) (BT.node (o85 P) .nil .nil) .nil))) (BT.node (o75 P) (BT.node (o11 P) (BT.node (o27 P) (znL P) (znq P)) (BT.node (o46 P) (BT.node (o81 P) .nil .nil) (znp P))) (BT.node (o19 P) (BT.node (o35 P) (znK P) (zno P)) (BT.node (o54 P) (BT.node (o89 P) .nil .nil) .nil)))) (zpX P)
def zpV:=BT.node (boot_o_0 P) (BT.node (boot_o_1 P) (BT.node (o74 P) (BT.node (boot_o_7 P) (BT.node (o6 P) (BT.node (o40 P) (t62 P) (BT.node (o92 P) .nil .nil)) (BT.node (o41 P) (t64 P) (znF P))) (BT.node (o14 P) (BT.node (o30 P) (t67 P) (znE P)) (BT.node (o49 P) (BT.node (o84 P) .nil .nil) (znD P)))) (BT.node (o0 P) (BT.node (o10 P) (BT.node (o26 P) (t72 P) (znC P)) (BT.node (o45 P) (BT.node (o80 P) .nil .nil) (znB P))) (BT.node (o18 P) (BT.node (o34 P) (BT.node (o76 P) .nil .nil) (znA P)) (BT.node (o53 P) (BT.node (o88 P) .nil .nil) .nil)))) (zpY P)) (zpW P)
def sb3 (w:World) (os:OsState):SharedT:=⟨(zpV w.params),120,(Life.mk [] [] [] 0 [] [] false #[] [] 0 false false false 0 [2000,10,10] false 0 true [] [] 0 false),⟨[]⟩,(Drawn.mk 0 0 0 0),324,os⟩
def L2 (w:World) (os:OsState):Option (Flow×SharedT×Code×Pos):=segRunT treeTable PySem.Challenge.pw_beatless_k12_whole_texts_read w 11 an 1 340 (sb2 w os) (piecesOf znV env cE (Pos.mk 14 0 15 8) B)
def R2 (w:World) (os:OsState):Option (Flow×SharedT×Code×Pos):=some (.next,sb3 w os,cE,(Pos.mk 16 0 28 32))
theorem q2:tt (Hd.L2,Hd.R2)=true:=by k_qdec
theorem r2:∀ w,Fast.tw9171306275460833034 w=Fast.tw12913952840628719863 w:=fun w=>by kernel_rfl
theorem e2 (w:World) (os:OsState):Hd.L2 w os=Hd.R2 w os :=
 (congrFun (congrFun Fast.te9171306275460833034 w) os).trans ((congrFun (r2 w) os).trans (congrFun (congrFun Fast.te12913952840628719863 w) os).symm)
noncomputable def znU:List Stmt:=[S 8]
noncomputable def zqz:=Obj.mk (.type "dict") .none (Data.dict #[en P "__name__" 165 (.str "beatless.exprs" 255),en P "__doc__" 166 .none,en P "__package__" 167 .none,en P "__loader__" 168 (.builtin "__main__.__loader__#opaque"),en P "__spec__" 169 .none,en P "__annotations__" 170 (.ref 6),en P "__builtins__" 171 (.ref 4),en P "__file__" 173 (.str "/claim/cut.py" 172),en P "__cached__" 174 .none,en P "_wall" 193 (.ref 21),en P "BeatlessError" 213 (.ref 31),en P "NoProgram" 229 (.ref 44),en P "NoText" 254 (.ref 63),en P "Expr" 276 (.ref 75),en P "Num" 323 (.ref 117),en P "Name" 370 (.ref 157)] 16) #[]
noncomputable def zqy (P:Params):=vO #[(.int 1 0),(.int 0 0),(.ref 20),(.int 5 0),(.int 0 0),(.ref 27),(.int 7 0),(.int 0 0),(.ref 40),(.int 9 0),(.int 0 0),(.ref 52),(.int 14 0),(.int 0 0),(.ref 71),(.int 16 0),(.int 0 0),(.ref 85),(.int 29 0),(.int 0 0),(.ref 125)]
noncomputable def zqx (P:Params):=Obj.mk (.type "type") .none (Data.cls (ClassData.mk "Expr" [(.type "object")] [(.ref 75),(.type "object")] 74 "Expr" true [] [(.ref 117),(.ref 157)] false .none false)) #[.none,.none,(Option.some (.str "Expr" 257)),(Option.some (.str "Expr" 265)),(Option.some (.builtin "object.__new__")),(Option.some (.bool true))]
noncomputable def Vu (P:Params):=tO #[(.ref 75)]
noncomputable def zba (P:Params):=Obj.mk (.type "builtin_function_or_method") .none (Data.fields #[(.builtin "type.__prepare__"),(.type "type")]) #[]
noncomputable def za9:=Obj.mk (.type "dict") .none (Data.dict #[en P "__module__" 331 (.str "beatless.exprs" 255),en P "__qualname__" 333 (.str "Name" 332),en P "__firstlineno__" 335 (.int 29 334),en P "__init__" 343 (.ref 133),en P "reckon" 351 (.ref 140),en P "told" 358 (.ref 147),en P "words" 365 (.ref 154),en P "__static_attributes__" 367 (.ref 155)] 8) #[]
noncomputable def za8 (P:Params):=tO #[]
noncomputable def za7 (P:Params):=vO #[(.int 31 0),(.int 4 0),(.ref 132),(.int 34 0),(.int 4 0),(.ref 139),(.int 37 0),(.int 4 0),(.ref 146),(.int 40 0),(.int 4 0),(.ref 153)]
noncomputable def za6 (P:Params):=Obj.mk (.type "code") .none (Data.fields #[(.str "Name" 326),(.str "Name" 327),(.str "/claim/cut.py" 328),(.int 29 0),(.int 0 0),(.int 0 0),(.int 0 0),(.int 0 0),(.ref 123),(.bool false),(.int 181 0),(.ref 124),.none,.none,.none,.none,(.int 329 0),(.int 29 0),(.str "/claim/cut.py" 330)]) #[]
noncomputable def za5 (P:Params):=Obj.mk (.type "frame") .none Data.plain #[(Option.some (.ref 125)),(Option.some (.ref 3)),(Option.some (.ref 122)),.none,(Option.some (.str "beatless.exprs" 255)),.none,(Option.some (.ref 0))]
def za4 (P:Params):=tO #[]
def zg3 (P:Params):=vO #[]
noncomputable def za3 (P:Params):=tO #[(.str "self" 339),(.str "word" 340)]
def za2 (P:Params):=tO #[]
noncomputable def zg2 (P:Params):=gO "__init__" "Name.__init__" (L2.inClass (S 8) 0)
noncomputable def za1 (P:Params):=cO "__init__" "Name.__init__" 336 337 338 31 2 3 127 128 129 130 131 341 342
noncomputable def za0 (P:Params):=uO "__init__" "Name.__init__" (L2.inClass (S 8) 0) "beatless.exprs" 255 132
def zaZ (P:Params):=tO #[]
def zg1 (P:Params):=vO #[]
noncomputable def zaY (P:Params):=tO #[(.str "self" 347),(.str "worths" 348)]
def zaX (P:Params):=tO #[]
noncomputable def zg0 (P:Params):=gO "reckon" "Name.reckon" (L2.inClass (S 8) 1)
noncomputable def zaW (P:Params):=cO "reckon" "Name.reckon" 344 345 346 34 2 3 134 135 136 137 138 349 350
noncomputable def zaV (P:Params):=uO "reckon" "Name.reckon" (L2.inClass (S 8) 1) "beatless.exprs" 255 139
def zaU (P:Params):=tO #[]
def zgZ (P:Params):=vO #[]
noncomputable def zaT (P:Params):=tO #[(.str "self" 355)]
def zaS (P:Params):=tO #[]
noncomputable def zgY (P:Params):=gO "told" "Name.told" (L2.inClass (S 8) 2)
noncomputable def zaR (P:Params):=cO "told" "Name.told" 352 353 354 37 1 3 141 142 143 144 145 356 357
noncomputable def zaQ (P:Params):=uO "told" "Name.told" (L2.inClass (S 8) 2) "beatless.exprs" 255 146
def zaP (P:Params):=tO #[]
def zgX (P:Params):=vO #[]
noncomputable def zaO (P:Params):=tO #[(.str "self" 362)]
def zaN (P:Params):=tO #[]
noncomputable def zgW (P:Params):=gO "words" "Name.words" (L2.inClass (S 8) 3)
noncomputable def zaM (P:Params):=cO "words" "Name.words" 359 360 361 40 1 3 148 149 150 151 152 363 364
noncomputable def zaL (P:Params):=uO "words" "Name.words" (L2.inClass (S 8) 3) "beatless.exprs" 255 153
noncomputable def zaK (P:Params):=tO #[(.str "word" 366)]
noncomputable def zaJ:=Obj.mk (.type "dict") .none (Data.dict #[en P "__module__" 331 (.str "beatless.exprs" 255),en P "__firstlineno__" 335 (.int 29 334),en P "__init__" 343 (.ref 133),en P "reckon" 351 (.ref 140),en P "told" 358 (.ref 147),en P "words" 365 (.ref 154),en P "__static_attributes__" 367 (.ref 155),en P "__doc__" 368 .none] 2) #[]
noncomputable def zaI (P:Params):=Obj.mk (.type "type") .none (Data.cls (ClassData.mk "Name" [(.ref 75)] [(.ref 157),(.ref 75),(.type "object")] 156 "Name" true [] [] false .none false)) #[(Option.some (.ref 120)),.none,(Option.some (.str "Name" 324)),(Option.some (.str "Name" 332)),(Option.some (.builtin "object.__new__")),(Option.some (.bool true))]
noncomputable def zgV (P:Params):=Obj.mk (.type "super") .none (Data.fields #[(.ref 157),(.ref 157),(.ref 157)]) #[]
noncomputable def zgU (P:Params):=Obj.mk (.type "builtin_function_or_method") .none (Data.fields #[(.builtin "object.__init_subclass__"),(.ref 157)]) #[]
noncomputable def znh:=BT.node (za4 P) .nil .nil
noncomputable def zng:=BT.node (zgU P) .nil .nil
noncomputable def znf:=BT.node (o92 P) (zng P) .nil
noncomputable def zne:=BT.node (zaT P) .nil .nil
noncomputable def znd:=BT.node (o73 P) (zne P) .nil
noncomputable def znc:=BT.node (zg1 P) .nil .nil
noncomputable def znb:=BT.node (zaN P) .nil .nil
noncomputable def zna:=BT.node (o84 P) (znb P) .nil
noncomputable def zm9:=BT.node (zg2 P) .nil .nil
noncomputable def zm8:=BT.node (zaQ P) .nil .nil
noncomputable def zm7:=BT.node (o80 P) (zm8 P) .nil
noncomputable def zhb:=BT.node (zaW P) .nil .nil
noncomputable def zm6:=BT.node (zaK P) .nil .nil
noncomputable def zm5:=BT.node (o88 P) (zm6 P) .nil
noncomputable def zm4:=BT.node (za3 P) .nil .nil
noncomputable def zm3:=BT.node (zgY P) .nil .nil
noncomputable def zm2:=BT.node (o78 P) (zm3 P) .nil
noncomputable def zm1:=BT.node (zaX P) .nil .nil
noncomputable def zm0:=BT.node (o67 P) (zm1 P) .nil
noncomputable def zmZ:=BT.node (zaM P) .nil .nil
noncomputable def zmY:=BT.node (o86 P) (zmZ P) .nil
noncomputable def zmX:=BT.node (za0 P) .nil .nil
noncomputable def zmW:=BT.node (zgX P) .nil .nil
noncomputable def zmV:=BT.node (o82 P) (zmW P) .nil
noncomputable def zmU:=BT.node (zaU P) .nil .nil
noncomputable def zmT:=BT.node (o71 P) (zmU P) .nil
noncomputable def zmS:=BT.node (zaI P) .nil .nil
noncomputable def zmR:=BT.node (o90 P) (zmS P) .nil
def zpU:=BT.node (boot_o_5 P) (BT.node (boot_o_9 P) (BT.node (o8 P) (BT.node (o24 P) (BT.node (o59 P) (zm4 P) .nil) (znz P)) (BT.node (o43 P) (zm2 P) (zny P))) (BT.node (o16 P) (BT.node (o32 P) (zm0 P) (znx P)) (BT.node (o51 P) (zmY P) (BT.node (zba P) .nil .nil)))) (BT.node (o2 P) (BT.node (o12 P) (BT.node (o28 P) (BT.node (o63 P) (zmX P) .nil) (znw P)) (BT.node (o47 P) (zmV P) (znv P))) (BT.node (o20 P) (BT.node (o36 P) (zmT P) (znu P)) (BT.node (o55 P) (zmR P) (BT.node (za6 P) .nil .nil))))
noncomputable def zmQ:=BT.node (zg3 P) .nil .nil
noncomputable def zmP:=BT.node (zaS P) .nil .nil
noncomputable def zmO:=BT.node (o77 P) (zmP P) .nil
noncomputable def zmN:=BT.node (zaY P) .nil .nil
noncomputable def zmM:=BT.node (o66 P) (zmN P) .nil
noncomputable def zmL:=BT.node (zgW P) .nil .nil
noncomputable def zmK:=BT.node (o85 P) (zmL P) .nil
noncomputable def zmJ:=BT.node (za1 P) .nil .nil
noncomputable def zmI:=BT.node (zaP P) .nil .nil
noncomputable def zmH:=BT.node (o81 P) (zmI P) .nil
noncomputable def zmG:=BT.node (zaV P) .nil .nil
noncomputable def zmF:=BT.node (o70 P) (zmG P) .nil
def zmE:=BT.node (zaJ P) .nil .nil
def zmD:=BT.node (o89 P) (zmE P) .nil
noncomputable def zmC:=BT.node (za2 P) .nil .nil
noncomputable def zmB:=BT.node (zaR P) .nil .nil
def zmA:=BT.node (o79 P) (zmB P) .nil
noncomputable def zmz:=BT.node (zg0 P) .nil .nil
def zmy:=BT.node (o68 P) (zmz P) .nil
noncomputable def zmx:=BT.node (zaL P) .nil .nil
noncomputable def zmw:=BT.node (o87 P) (zmx P) .nil
noncomputable def zmv:=BT.node (zaZ P) .nil .nil
noncomputable def zmu:=BT.node (zaO P) .nil .nil
noncomputable def zmt:=BT.node (o83 P) (zmu P) .nil
noncomputable def zms:=BT.node (zgZ P) .nil .nil
noncomputable def zmr:=BT.node (o72 P) (zms P) .nil
noncomputable def zmq:=BT.node (zgV P) .nil .nil
noncomputable def zmp:=BT.node (o91 P) (zmq P) .nil
def zpT:=BT.node (boot_o_6 P) (BT.node (boot_o_10 P) (BT.node (o9 P) (BT.node (o25 P) (BT.node (o60 P) (zmC P) .nil) (znn P)) (BT.node (o44 P) (zmA P) (znm P))) (BT.node (o17 P) (BT.node (o33 P) (zmy P) (znl P)) (BT.node (o52 P) (zmw P) (BT.node (za9 P) .nil .nil)))) (BT.node (o3 P) (BT.node (o13 P) (BT.node (o29 P) (BT.node (o64 P) (zmv P) .nil) (znk P)) (BT.node (o48 P) (zmt P) (znj P))) (BT.node (o21 P) (BT.node (o37 P) (zmr P) (zni P)) (BT.node (o56 P) (zmp P) (BT.node (za5 P) .nil .nil))))
def zpS:=BT.node (boot_o_2 P) (BT.node (boot_o_4 P) (BT.node (boot_o_8 P) (BT.node (o7 P) (BT.node (o23 P) (BT.node (o58 P) (zmQ P) .nil) (znt P)) (BT.node (o42 P) (zmO P) (zns P))) (BT.node (o15 P) (BT.node (o31 P) (zmM P) (znr P)) (BT.node (o50 P) (zmK P) (BT.node (Vu P) .nil .nil)))) (BT.node (zqy P) (BT.node (o11 P) (BT.node (o27 P) (BT.node (o62 P) (zmJ P) .nil) (znq P)) (BT.node (o46 P) (zmH P) (znp P))) (BT.node (o19 P) (BT.node (o35 P) (zmF P) (zno P)) (BT.node (o54 P) (zmD P) (BT.node (za7 P) .nil .nil))))) (zpT P)
def zpR:=BT.node (boot_o_0 P) (BT.node (boot_o_1 P) (BT.node (zqz P) (BT.node (boot_o_7 P) (BT.node (o6 P) (BT.node (o40 P) (BT.node (o57 P) (znh P) .nil) (znf P)) (BT.node (o41 P) (znd P) (znF P))) (BT.node (o14 P) (BT.node (o30 P) (BT.node (o65 P) (znc P) .nil) (znE P)) (BT.node (o49 P) (zna P) (znD P)))) (BT.node (o0 P) (BT.node (o10 P) (BT.node (o26 P) (BT.node (o61 P) (zm9 P) .nil) (znC P)) (BT.node (o45 P) (zm7 P) (znB P))) (BT.node (o18 P) (BT.node (o34 P) (BT.node (zqx P) (zhb P) .nil) (znA P)) (BT.node (o53 P) (zm5 P) (BT.node (za8 P) .nil .nil))))) (zpU P)) (zpS P)
def sb4 (w:World) (os:OsState):SharedT:=⟨(zpR w.params),160,(Life.mk [] [] [] 0 [] [] false #[] [] 0 false false false 0 [2000,10,10] false 0 true [] [] 0 false),⟨[]⟩,(Drawn.mk 0 0 0 0),371,os⟩
def L3 (w:World) (os:OsState):Option (Flow×SharedT×Code×Pos):=segRunT treeTable PySem.Challenge.pw_beatless_k12_whole_texts_read w 11 an 1 340 (sb3 w os) (piecesOf znU env cE (Pos.mk 16 0 28 32) B)
def R3 (w:World) (os:OsState):Option (Flow×SharedT×Code×Pos):=some (.next,sb4 w os,cE,(Pos.mk 29 0 41 26))
theorem q3:tt (Hd.L3,Hd.R3)=true:=by k_qdec
theorem r3:∀ w,Fast.tw6196771281854559479 w=Fast.tw4539841377621278456 w:=fun w=>by kernel_rfl
theorem e3 (w:World) (os:OsState):Hd.L3 w os=Hd.R3 w os :=
 (congrFun (congrFun Fast.te6196771281854559479 w) os).trans ((congrFun (r3 w) os).trans (congrFun (congrFun Fast.te4539841377621278456 w) os).symm)
noncomputable def znT:List Stmt:=[S 9]
noncomputable def zqw:=Obj.mk (.type "dict") .none (Data.dict #[en P "__name__" 165 (.str "beatless.exprs" 255),en P "__doc__" 166 .none,en P "__package__" 167 .none,en P "__loader__" 168 (.builtin "__main__.__loader__#opaque"),en P "__spec__" 169 .none,en P "__annotations__" 170 (.ref 6),en P "__builtins__" 171 (.ref 4),en P "__file__" 173 (.str "/claim/cut.py" 172),en P "__cached__" 174 .none,en P "_wall" 193 (.ref 21),en P "BeatlessError" 213 (.ref 31),en P "NoProgram" 229 (.ref 44),en P "NoText" 254 (.ref 63),en P "Expr" 276 (.ref 75),en P "Num" 323 (.ref 117),en P "Name" 370 (.ref 157),en P "Two" 423 (.ref 197)] 17) #[]
noncomputable def zqv (P:Params):=vO #[(.int 1 0),(.int 0 0),(.ref 20),(.int 5 0),(.int 0 0),(.ref 27),(.int 7 0),(.int 0 0),(.ref 40),(.int 9 0),(.int 0 0),(.ref 52),(.int 14 0),(.int 0 0),(.ref 71),(.int 16 0),(.int 0 0),(.ref 85),(.int 29 0),(.int 0 0),(.ref 125),(.int 42 0),(.int 0 0),(.ref 165)]
noncomputable def zqu (P:Params):=Obj.mk (.type "type") .none (Data.cls (ClassData.mk "Expr" [(.type "object")] [(.ref 75),(.type "object")] 74 "Expr" true [] [(.ref 117),(.ref 157),(.ref 197)] false .none false)) #[.none,.none,(Option.some (.str "Expr" 257)),(Option.some (.str "Expr" 265)),(Option.some (.builtin "object.__new__")),(Option.some (.bool true))]
noncomputable def zaH (P:Params):=tO #[(.ref 75)]
noncomputable def zgT (P:Params):=Obj.mk (.type "builtin_function_or_method") .none (Data.fields #[(.builtin "type.__prepare__"),(.type "type")]) #[]
noncomputable def zgS:=Obj.mk (.type "dict") .none (Data.dict #[en P "__module__" 378 (.str "beatless.exprs" 255),en P "__qualname__" 380 (.str "Two" 379),en P "__firstlineno__" 382 (.int 42 381),en P "__init__" 392 (.ref 173),en P "reckon" 402 (.ref 180),en P "told" 409 (.ref 187),en P "words" 416 (.ref 194),en P "__static_attributes__" 420 (.ref 195)] 8) #[]
def zgR (P:Params):=tO #[]
noncomputable def zgQ (P:Params):=vO #[(.int 44 0),(.int 4 0),(.ref 172),(.int 49 0),(.int 4 0),(.ref 179),(.int 60 0),(.int 4 0),(.ref 186),(.int 63 0),(.int 4 0),(.ref 193)]
noncomputable def zgP (P:Params):=Obj.mk (.type "code") .none (Data.fields #[(.str "Two" 373),(.str "Two" 374),(.str "/claim/cut.py" 375),(.int 42 0),(.int 0 0),(.int 0 0),(.int 0 0),(.int 0 0),(.ref 163),(.bool false),(.int 181 0),(.ref 164),.none,.none,.none,.none,(.int 376 0),(.int 42 0),(.str "/claim/cut.py" 377)]) #[]
noncomputable def zgO (P:Params):=Obj.mk (.type "frame") .none Data.plain #[(Option.some (.ref 165)),(Option.some (.ref 3)),(Option.some (.ref 162)),.none,(Option.some (.str "beatless.exprs" 255)),.none,(Option.some (.ref 0))]
def zaG (P:Params):=tO #[]
def zgN (P:Params):=vO #[]
noncomputable def zaF (P:Params):=tO #[(.str "self" 386),(.str "word" 387),(.str "one" 388),(.str "other" 389)]
def zaE (P:Params):=tO #[]
noncomputable def zgM (P:Params):=gO "__init__" "Two.__init__" (L2.inClass (S 9) 0)
noncomputable def zaD (P:Params):=cO "__init__" "Two.__init__" 383 384 385 44 4 3 167 168 169 170 171 390 391
noncomputable def zaC (P:Params):=uO "__init__" "Two.__init__" (L2.inClass (S 9) 0) "beatless.exprs" 255 172
def zaB (P:Params):=tO #[]
def zgL (P:Params):=vO #[]
noncomputable def zaA (P:Params):=tO #[(.str "self" 396),(.str "worths" 397),(.str "one" 398),(.str "other" 399)]
def zaz (P:Params):=tO #[]
noncomputable def zgK (P:Params):=gO "reckon" "Two.reckon" (L2.inClass (S 9) 1)
noncomputable def zay (P:Params):=cO "reckon" "Two.reckon" 393 394 395 49 2 3 174 175 176 177 178 400 401
noncomputable def zax (P:Params):=uO "reckon" "Two.reckon" (L2.inClass (S 9) 1) "beatless.exprs" 255 179
def zaw (P:Params):=tO #[]
def zgJ (P:Params):=vO #[]
noncomputable def zav (P:Params):=tO #[(.str "self" 406)]
def zau (P:Params):=tO #[]
noncomputable def zgI (P:Params):=gO "told" "Two.told" (L2.inClass (S 9) 2)
noncomputable def zat (P:Params):=cO "told" "Two.told" 403 404 405 60 1 3 181 182 183 184 185 407 408
noncomputable def zas (P:Params):=uO "told" "Two.told" (L2.inClass (S 9) 2) "beatless.exprs" 255 186
def zar (P:Params):=tO #[]
def zgH (P:Params):=vO #[]
noncomputable def zaq (P:Params):=tO #[(.str "self" 413)]
def zap (P:Params):=tO #[]
noncomputable def zgG (P:Params):=gO "words" "Two.words" (L2.inClass (S 9) 3)
noncomputable def zao (P:Params):=cO "words" "Two.words" 410 411 412 63 1 3 188 189 190 191 192 414 415
noncomputable def zan (P:Params):=uO "words" "Two.words" (L2.inClass (S 9) 3) "beatless.exprs" 255 193
noncomputable def zam (P:Params):=tO #[(.str "one" 417),(.str "other" 418),(.str "word" 419)]
noncomputable def zal:=Obj.mk (.type "dict") .none (Data.dict #[en P "__module__" 378 (.str "beatless.exprs" 255),en P "__firstlineno__" 382 (.int 42 381),en P "__init__" 392 (.ref 173),en P "reckon" 402 (.ref 180),en P "told" 409 (.ref 187),en P "words" 416 (.ref 194),en P "__static_attributes__" 420 (.ref 195),en P "__doc__" 421 .none] 2) #[]
noncomputable def zak (P:Params):=Obj.mk (.type "type") .none (Data.cls (ClassData.mk "Two" [(.ref 75)] [(.ref 197),(.ref 75),(.type "object")] 196 "Two" true [] [] false .none false)) #[(Option.some (.ref 160)),.none,(Option.some (.str "Two" 371)),(Option.some (.str "Two" 379)),(Option.some (.builtin "object.__new__")),(Option.some (.bool true))]
noncomputable def zgF (P:Params):=Obj.mk (.type "super") .none (Data.fields #[(.ref 197),(.ref 197),(.ref 197)]) #[]
noncomputable def zgE (P:Params):=Obj.mk (.type "builtin_function_or_method") .none (Data.fields #[(.builtin "object.__init_subclass__"),(.ref 197)]) #[]
noncomputable def zmo:=BT.node (zap P) .nil .nil
noncomputable def zmn:=BT.node (o57 P) (znh P) (zmo P)
noncomputable def zmm:=BT.node (zgL P) .nil .nil
noncomputable def zml:=BT.node (zgE P) .nil .nil
noncomputable def zmk:=BT.node (o65 P) (znc P) (zml P)
noncomputable def zmj:=BT.node (zaG P) .nil .nil
noncomputable def zmi:=BT.node (zav P) .nil .nil
noncomputable def zmh:=BT.node (zbb P) (zmi P) .nil
noncomputable def zmg:=BT.node (zam P) .nil .nil
noncomputable def zmf:=BT.node (o61 P) (zm9 P) (zmg P)
noncomputable def zme:=BT.node (zgR P) .nil .nil
noncomputable def zmd:=BT.node (zay P) .nil .nil
noncomputable def zmc:=BT.node (Vx P) (zmd P) .nil
noncomputable def zmb:=BT.node (zgM P) .nil .nil
noncomputable def zma:=BT.node (zas P) .nil .nil
noncomputable def zl9:=BT.node (za8 P) (zma P) .nil
noncomputable def zl8:=BT.node (zao P) .nil .nil
noncomputable def zl7:=BT.node (o59 P) (zm4 P) (zl8 P)
noncomputable def zl6:=BT.node (zgT P) .nil .nil
noncomputable def zl5:=BT.node (zaz P) .nil .nil
noncomputable def zl4:=BT.node (Vz P) (zl5 P) .nil
noncomputable def zl3:=BT.node (zaF P) .nil .nil
noncomputable def zl2:=BT.node (zgI P) .nil .nil
noncomputable def zl1:=BT.node (zba P) (zl2 P) .nil
noncomputable def zl0:=BT.node (zak P) .nil .nil
noncomputable def zlZ:=BT.node (o63 P) (zmX P) (zl0 P)
noncomputable def zlY:=BT.node (zgP P) .nil .nil
noncomputable def zlX:=BT.node (zaw P) .nil .nil
noncomputable def zlW:=BT.node (Vv P) (zlX P) .nil
noncomputable def zlV:=BT.node (zaC P) .nil .nil
noncomputable def zlU:=BT.node (zgH P) .nil .nil
noncomputable def zlT:=BT.node (za6 P) (zlU P) .nil
def zpQ:=BT.node (boot_o_5 P) (BT.node (boot_o_9 P) (BT.node (o8 P) (BT.node (o24 P) (zl7 P) (BT.node (o94 P) (zl6 P) .nil)) (BT.node (o43 P) (zm2 P) (zl4 P))) (BT.node (o16 P) (BT.node (o32 P) (zm0 P) (BT.node (zbf P) (zl3 P) .nil)) (BT.node (o51 P) (zmY P) (zl1 P)))) (BT.node (o2 P) (BT.node (o12 P) (BT.node (o28 P) (zlZ P) (BT.node (o98 P) (zlY P) .nil)) (BT.node (o47 P) (zmV P) (zlW P))) (BT.node (o20 P) (BT.node (o36 P) (zmT P) (BT.node (zbe P) (zlV P) .nil)) (BT.node (o55 P) (zmR P) (zlT P))))
noncomputable def zlS:=BT.node (zgG P) .nil .nil
noncomputable def zlR:=BT.node (o58 P) (zmQ P) (zlS P)
noncomputable def zlQ:=BT.node (zaH P) .nil .nil
noncomputable def zlP:=BT.node (zaA P) .nil .nil
noncomputable def zlO:=BT.node (zbd P) (zlP P) .nil
noncomputable def zlN:=BT.node (zgN P) .nil .nil
noncomputable def zlM:=BT.node (zau P) .nil .nil
noncomputable def zlL:=BT.node (Vu P) (zlM P) .nil
def zlK:=BT.node (zal P) .nil .nil
def zlJ:=BT.node (o62 P) (zmJ P) (zlK P)
noncomputable def zlI:=BT.node (zgQ P) .nil .nil
noncomputable def zlH:=BT.node (zax P) .nil .nil
def zlG:=BT.node (Vw P) (zlH P) .nil
noncomputable def zlF:=BT.node (zaD P) .nil .nil
noncomputable def zlE:=BT.node (zar P) .nil .nil
noncomputable def zlD:=BT.node (za7 P) (zlE P) .nil
noncomputable def zlC:=BT.node (zan P) .nil .nil
noncomputable def zlB:=BT.node (o60 P) (zmC P) (zlC P)
def zlA:=BT.node (zgS P) .nil .nil
noncomputable def zlz:=BT.node (zgK P) .nil .nil
noncomputable def zly:=BT.node (Vy P) (zlz P) .nil
noncomputable def zlx:=BT.node (zaE P) .nil .nil
noncomputable def zlw:=BT.node (zat P) .nil .nil
def zlv:=BT.node (za9 P) (zlw P) .nil
noncomputable def zlu:=BT.node (zgF P) .nil .nil
noncomputable def zls:=BT.node (o64 P) (zmv P) (zlu P)
noncomputable def zlr:=BT.node (zgO P) .nil .nil
noncomputable def zlq:=BT.node (zgJ P) .nil .nil
noncomputable def zlp:=BT.node (zbc P) (zlq P) .nil
noncomputable def zlo:=BT.node (zaB P) .nil .nil
noncomputable def zln:=BT.node (zaq P) .nil .nil
noncomputable def zlm:=BT.node (za5 P) (zln P) .nil
def zpP:=BT.node (boot_o_6 P) (BT.node (boot_o_10 P) (BT.node (o9 P) (BT.node (o25 P) (zlB P) (BT.node (o95 P) (zlA P) .nil)) (BT.node (o44 P) (zmA P) (zly P))) (BT.node (o17 P) (BT.node (o33 P) (zmy P) (BT.node (VE P) (zlx P) .nil)) (BT.node (o52 P) (zmw P) (zlv P)))) (BT.node (o3 P) (BT.node (o13 P) (BT.node (o29 P) (zls P) (BT.node (o99 P) (zlr P) .nil)) (BT.node (o48 P) (zmt P) (zlp P))) (BT.node (o21 P) (BT.node (o37 P) (zmr P) (BT.node (VB P) (zlo P) .nil)) (BT.node (o56 P) (zmp P) (zlm P))))
def zpO:=BT.node (boot_o_2 P) (BT.node (boot_o_4 P) (BT.node (boot_o_8 P) (BT.node (o7 P) (BT.node (o23 P) (zlR P) (BT.node (o93 P) (zlQ P) .nil)) (BT.node (o42 P) (zmO P) (zlO P))) (BT.node (o15 P) (BT.node (o31 P) (zmM P) (BT.node (VF P) (zlN P) .nil)) (BT.node (o50 P) (zmK P) (zlL P)))) (BT.node (zqv P) (BT.node (o11 P) (BT.node (o27 P) (zlJ P) (BT.node (o97 P) (zlI P) .nil)) (BT.node (o46 P) (zmH P) (zlG P))) (BT.node (o19 P) (BT.node (o35 P) (zmF P) (BT.node (VC P) (zlF P) .nil)) (BT.node (o54 P) (zmD P) (zlD P))))) (zpP P)
def zpN:=BT.node (boot_o_0 P) (BT.node (boot_o_1 P) (BT.node (zqw P) (BT.node (boot_o_7 P) (BT.node (o6 P) (BT.node (o40 P) (zmn P) (znf P)) (BT.node (o41 P) (znd P) (BT.node (VA P) (zmm P) .nil))) (BT.node (o14 P) (BT.node (o30 P) (zmk P) (BT.node (VG P) (zmj P) .nil)) (BT.node (o49 P) (zna P) (zmh P)))) (BT.node (o0 P) (BT.node (o10 P) (BT.node (o26 P) (zmf P) (BT.node (o96 P) (zme P) .nil)) (BT.node (o45 P) (zm7 P) (zmc P))) (BT.node (o18 P) (BT.node (o34 P) (BT.node (zqu P) (zhb P) .nil) (BT.node (VD P) (zmb P) .nil)) (BT.node (o53 P) (zm5 P) (zl9 P))))) (zpQ P)) (zpO P)
def sb5 (w:World) (os:OsState):SharedT:=⟨(zpN w.params),200,(Life.mk [] [] [] 0 [] [] false #[] [] 0 false false false 0 [2000,10,10] false 0 true [] [] 0 false),⟨[]⟩,(Drawn.mk 0 0 0 0),424,os⟩
def L4 (w:World) (os:OsState):Option (Flow×SharedT×Code×Pos):=segRunT treeTable PySem.Challenge.pw_beatless_k12_whole_texts_read w 11 an 1 346 (sb4 w os) (piecesOf znT env cE (Pos.mk 29 0 41 26) B)
def R4 (w:World) (os:OsState):Option (Flow×SharedT×Code×Pos):=some (.next,sb5 w os,cE,(Pos.mk 42 0 64 66))
theorem q4:tt (Hd.L4,Hd.R4)=true:=by k_qdec
theorem r4:∀ w,Fast.tw18063231807419426806 w=Fast.tw9930642381628883879 w:=fun w=>by kernel_rfl
theorem e4 (w:World) (os:OsState):Hd.L4 w os=Hd.R4 w os :=
 (congrFun (congrFun Fast.te18063231807419426806 w) os).trans ((congrFun (r4 w) os).trans (congrFun (congrFun Fast.te9930642381628883879 w) os).symm)
noncomputable def znS:List Stmt:=[S 10]
noncomputable def zqt:=Obj.mk (.type "dict") .none (Data.dict #[en P "__name__" 165 (.str "beatless.exprs" 255),en P "__doc__" 166 .none,en P "__package__" 167 .none,en P "__loader__" 168 (.builtin "__main__.__loader__#opaque"),en P "__spec__" 169 .none,en P "__annotations__" 170 (.ref 6),en P "__builtins__" 171 (.ref 4),en P "__file__" 173 (.str "/claim/cut.py" 172),en P "__cached__" 174 .none,en P "_wall" 193 (.ref 21),en P "BeatlessError" 213 (.ref 31),en P "NoProgram" 229 (.ref 44),en P "NoText" 254 (.ref 63),en P "Expr" 276 (.ref 75),en P "Num" 323 (.ref 117),en P "Name" 370 (.ref 157),en P "Two" 423 (.ref 197),en P "Mod" 472 (.ref 237)] 18) #[]
noncomputable def zqs (P:Params):=vO #[(.int 1 0),(.int 0 0),(.ref 20),(.int 5 0),(.int 0 0),(.ref 27),(.int 7 0),(.int 0 0),(.ref 40),(.int 9 0),(.int 0 0),(.ref 52),(.int 14 0),(.int 0 0),(.ref 71),(.int 16 0),(.int 0 0),(.ref 85),(.int 29 0),(.int 0 0),(.ref 125),(.int 42 0),(.int 0 0),(.ref 165),(.int 65 0),(.int 0 0),(.ref 205)]
noncomputable def zqr (P:Params):=Obj.mk (.type "type") .none (Data.cls (ClassData.mk "Expr" [(.type "object")] [(.ref 75),(.type "object")] 74 "Expr" true [] [(.ref 117),(.ref 157),(.ref 197),(.ref 237)] false .none false)) #[.none,.none,(Option.some (.str "Expr" 257)),(Option.some (.str "Expr" 265)),(Option.some (.builtin "object.__new__")),(Option.some (.bool true))]
noncomputable def zaj (P:Params):=tO #[(.ref 75)]
noncomputable def zgD (P:Params):=Obj.mk (.type "builtin_function_or_method") .none (Data.fields #[(.builtin "type.__prepare__"),(.type "type")]) #[]
noncomputable def zgC:=Obj.mk (.type "dict") .none (Data.dict #[en P "__module__" 431 (.str "beatless.exprs" 255),en P "__qualname__" 433 (.str "Mod" 432),en P "__firstlineno__" 435 (.int 65 434),en P "__init__" 444 (.ref 213),en P "reckon" 452 (.ref 220),en P "told" 459 (.ref 227),en P "words" 466 (.ref 234),en P "__static_attributes__" 469 (.ref 235)] 8) #[]
def zgB (P:Params):=tO #[]
noncomputable def zgA (P:Params):=vO #[(.int 67 0),(.int 4 0),(.ref 212),(.int 71 0),(.int 4 0),(.ref 219),(.int 74 0),(.int 4 0),(.ref 226),(.int 77 0),(.int 4 0),(.ref 233)]
noncomputable def zgz (P:Params):=Obj.mk (.type "code") .none (Data.fields #[(.str "Mod" 426),(.str "Mod" 427),(.str "/claim/cut.py" 428),(.int 65 0),(.int 0 0),(.int 0 0),(.int 0 0),(.int 0 0),(.ref 203),(.bool false),(.int 181 0),(.ref 204),.none,.none,.none,.none,(.int 429 0),(.int 65 0),(.str "/claim/cut.py" 430)]) #[]
noncomputable def zgy (P:Params):=Obj.mk (.type "frame") .none Data.plain #[(Option.some (.ref 205)),(Option.some (.ref 3)),(Option.some (.ref 202)),.none,(Option.some (.str "beatless.exprs" 255)),.none,(Option.some (.ref 0))]
def zai (P:Params):=tO #[]
def zgx (P:Params):=vO #[]
noncomputable def zah (P:Params):=tO #[(.str "self" 439),(.str "inner" 440),(.str "number" 441)]
def zag (P:Params):=tO #[]
noncomputable def zgw (P:Params):=gO "__init__" "Mod.__init__" (L2.inClass (S 10) 0)
noncomputable def zaf (P:Params):=cO "__init__" "Mod.__init__" 436 437 438 67 3 3 207 208 209 210 211 442 443
noncomputable def zae (P:Params):=uO "__init__" "Mod.__init__" (L2.inClass (S 10) 0) "beatless.exprs" 255 212
noncomputable def zad (P:Params):=tO #[]
def zgv (P:Params):=vO #[]
noncomputable def zac (P:Params):=tO #[(.str "self" 448),(.str "worths" 449)]
def zab (P:Params):=tO #[]
noncomputable def zgu (P:Params):=gO "reckon" "Mod.reckon" (L2.inClass (S 10) 1)
noncomputable def zaa (P:Params):=cO "reckon" "Mod.reckon" 445 446 447 71 2 3 214 215 216 217 218 450 451
noncomputable def U9 (P:Params):=uO "reckon" "Mod.reckon" (L2.inClass (S 10) 1) "beatless.exprs" 255 219
def U8 (P:Params):=tO #[]
def zgt (P:Params):=vO #[]
noncomputable def U7 (P:Params):=tO #[(.str "self" 456)]
def U6 (P:Params):=tO #[]
noncomputable def zgs (P:Params):=gO "told" "Mod.told" (L2.inClass (S 10) 2)
noncomputable def U5 (P:Params):=cO "told" "Mod.told" 453 454 455 74 1 3 221 222 223 224 225 457 458
noncomputable def U4 (P:Params):=uO "told" "Mod.told" (L2.inClass (S 10) 2) "beatless.exprs" 255 226
def zdl (P:Params):=tO #[]
def ziw (P:Params):=vO #[]
noncomputable def zdk (P:Params):=tO #[(.str "self" 463)]
def zdj (P:Params):=tO #[]
noncomputable def ziv (P:Params):=gO "words" "Mod.words" (L2.inClass (S 10) 3)
noncomputable def zdi (P:Params):=cO "words" "Mod.words" 460 461 462 77 1 3 228 229 230 231 232 464 465
noncomputable def zdh (P:Params):=uO "words" "Mod.words" (L2.inClass (S 10) 3) "beatless.exprs" 255 233
noncomputable def zdg (P:Params):=tO #[(.str "inner" 467),(.str "number" 468)]
noncomputable def zdf:=Obj.mk (.type "dict") .none (Data.dict #[en P "__module__" 431 (.str "beatless.exprs" 255),en P "__firstlineno__" 435 (.int 65 434),en P "__init__" 444 (.ref 213),en P "reckon" 452 (.ref 220),en P "told" 459 (.ref 227),en P "words" 466 (.ref 234),en P "__static_attributes__" 469 (.ref 235),en P "__doc__" 470 .none] 2) #[]
noncomputable def zde (P:Params):=Obj.mk (.type "type") .none (Data.cls (ClassData.mk "Mod" [(.ref 75)] [(.ref 237),(.ref 75),(.type "object")] 236 "Mod" true [] [] false .none false)) #[(Option.some (.ref 200)),.none,(Option.some (.str "Mod" 424)),(Option.some (.str "Mod" 432)),(Option.some (.builtin "object.__new__")),(Option.some (.bool true))]
noncomputable def ziu (P:Params):=Obj.mk (.type "super") .none (Data.fields #[(.ref 237),(.ref 237),(.ref 237)]) #[]
noncomputable def zit (P:Params):=Obj.mk (.type "builtin_function_or_method") .none (Data.fields #[(.builtin "object.__init_subclass__"),(.ref 237)]) #[]
noncomputable def zll:=BT.node (U7 P) .nil .nil
noncomputable def zlk:=BT.node (zai P) .nil .nil
noncomputable def zlj:=BT.node (VA P) (zmm P) (BT.node (zit P) .nil .nil)
noncomputable def zli:=BT.node (VG P) (zmj P) (BT.node (zdj P) .nil .nil)
noncomputable def zlh:=BT.node (zgv P) .nil .nil
noncomputable def zlg:=BT.node (U4 P) .nil .nil
noncomputable def zlf:=BT.node (zgw P) .nil .nil
noncomputable def zle:=BT.node (zgB P) .nil .nil
noncomputable def zld:=BT.node (VD P) (zmb P) (BT.node (zdg P) .nil .nil)
noncomputable def zlc:=BT.node (zaa P) .nil .nil
noncomputable def zlb:=BT.node (zgs P) .nil .nil
noncomputable def zla:=BT.node (zah P) .nil .nil
noncomputable def zk9:=BT.node (zgD P) .nil .nil
noncomputable def zk8:=BT.node (zbf P) (zl3 P) (BT.node (zdi P) .nil .nil)
noncomputable def zk7:=BT.node (zab P) .nil .nil
noncomputable def zk6:=BT.node (ziw P) .nil .nil
noncomputable def zk5:=BT.node (o98 P) (zlY P) (zk6 P)
noncomputable def zk4:=BT.node (zae P) .nil .nil
noncomputable def zk3:=BT.node (zgz P) .nil .nil
noncomputable def zk2:=BT.node (zbe P) (zlV P) (BT.node (zde P) .nil .nil)
noncomputable def zk1:=BT.node (U8 P) .nil .nil
def zpM:=BT.node (boot_o_5 P) (BT.node (boot_o_9 P) (BT.node (o8 P) (BT.node (o24 P) (zl7 P) (BT.node (o94 P) (zl6 P) (zlb P))) (BT.node (o43 P) (BT.node (o78 P) (zm3 P) (zla P)) (zl4 P))) (BT.node (o16 P) (BT.node (o32 P) (BT.node (o67 P) (zm1 P) (zk9 P)) (zk8 P)) (BT.node (o51 P) (BT.node (o86 P) (zmZ P) (zk7 P)) (zl1 P)))) (BT.node (o2 P) (BT.node (o12 P) (BT.node (o28 P) (zlZ P) (zk5 P)) (BT.node (o47 P) (BT.node (o82 P) (zmW P) (zk4 P)) (zlW P))) (BT.node (o20 P) (BT.node (o36 P) (BT.node (o71 P) (zmU P) (zk3 P)) (zk2 P)) (BT.node (o55 P) (BT.node (o90 P) (zmS P) (zk1 P)) (zlT P))))
noncomputable def zk0:=BT.node (U6 P) .nil .nil
noncomputable def zkZ:=BT.node (zgx P) .nil .nil
noncomputable def zkY:=BT.node (zaj P) .nil .nil
noncomputable def zkX:=BT.node (VF P) (zlN P) (BT.node (ziv P) .nil .nil)
noncomputable def zkW:=BT.node (zac P) .nil .nil
noncomputable def zkV:=BT.node (zdl P) .nil .nil
noncomputable def zkU:=BT.node (zaf P) .nil .nil
noncomputable def zkT:=BT.node (zgA P) .nil .nil
noncomputable def zkS:=BT.node (VC P) (zlF P) (BT.node (zdf P) .nil .nil)
noncomputable def zkR:=BT.node (U9 P) .nil .nil
noncomputable def zkQ:=BT.node (U5 P) .nil .nil
noncomputable def zkP:=BT.node (zag P) .nil .nil
def zkO:=BT.node (zgC P) .nil .nil
noncomputable def zkN:=BT.node (VE P) (zlx P) (BT.node (zdh P) .nil .nil)
noncomputable def zkM:=BT.node (zgu P) .nil .nil
noncomputable def zkL:=BT.node (o99 P) (zlr P) (BT.node (zdk P) .nil .nil)
noncomputable def zkK:=BT.node (zad P) .nil .nil
noncomputable def zkJ:=BT.node (zgy P) .nil .nil
noncomputable def zkI:=BT.node (VB P) (zlo P) (BT.node (ziu P) .nil .nil)
noncomputable def zkH:=BT.node (zgt P) .nil .nil
def zpL:=BT.node (boot_o_6 P) (BT.node (boot_o_10 P) (BT.node (o9 P) (BT.node (o25 P) (zlB P) (BT.node (o95 P) (zlA P) (zkQ P))) (BT.node (o44 P) (BT.node (o79 P) (zmB P) (zkP P)) (zly P))) (BT.node (o17 P) (BT.node (o33 P) (BT.node (o68 P) (zmz P) (zkO P)) (zkN P)) (BT.node (o52 P) (BT.node (o87 P) (zmx P) (zkM P)) (zlv P)))) (BT.node (o3 P) (BT.node (o13 P) (BT.node (o29 P) (zls P) (zkL P)) (BT.node (o48 P) (BT.node (o83 P) (zmu P) (zkK P)) (zlp P))) (BT.node (o21 P) (BT.node (o37 P) (BT.node (o72 P) (zms P) (zkJ P)) (zkI P)) (BT.node (o56 P) (BT.node (o91 P) (zmq P) (zkH P)) (zlm P))))
def zpK:=BT.node (boot_o_2 P) (BT.node (boot_o_4 P) (BT.node (boot_o_8 P) (BT.node (o7 P) (BT.node (o23 P) (zlR P) (BT.node (o93 P) (zlQ P) (zk0 P))) (BT.node (o42 P) (BT.node (o77 P) (zmP P) (zkZ P)) (zlO P))) (BT.node (o15 P) (BT.node (o31 P) (BT.node (o66 P) (zmN P) (zkY P)) (zkX P)) (BT.node (o50 P) (BT.node (o85 P) (zmL P) (zkW P)) (zlL P)))) (BT.node (zqs P) (BT.node (o11 P) (BT.node (o27 P) (zlJ P) (BT.node (o97 P) (zlI P) (zkV P))) (BT.node (o46 P) (BT.node (o81 P) (zmI P) (zkU P)) (zlG P))) (BT.node (o19 P) (BT.node (o35 P) (BT.node (o70 P) (zmG P) (zkT P)) (zkS P)) (BT.node (o54 P) (BT.node (o89 P) (zmE P) (zkR P)) (zlD P))))) (zpL P)
def zpJ:=BT.node (boot_o_0 P) (BT.node (boot_o_1 P) (BT.node (zqt P) (BT.node (boot_o_7 P) (BT.node (o6 P) (BT.node (o40 P) (zmn P) (BT.node (o92 P) (zng P) (zll P))) (BT.node (o41 P) (BT.node (o73 P) (zne P) (zlk P)) (zlj P))) (BT.node (o14 P) (BT.node (o30 P) (zmk P) (zli P)) (BT.node (o49 P) (BT.node (o84 P) (znb P) (zlh P)) (zmh P)))) (BT.node (o0 P) (BT.node (o10 P) (BT.node (o26 P) (zmf P) (BT.node (o96 P) (zme P) (zlg P))) (BT.node (o45 P) (BT.node (o80 P) (zm8 P) (zlf P)) (zmc P))) (BT.node (o18 P) (BT.node (o34 P) (BT.node (zqr P) (zhb P) (zle P)) (zld P)) (BT.node (o53 P) (BT.node (o88 P) (zm6 P) (zlc P)) (zl9 P))))) (zpM P)) (zpK P)
def sb6 (w:World) (os:OsState):SharedT:=⟨(zpJ w.params),240,(Life.mk [] [] [] 0 [] [] false #[] [] 0 false false false 0 [2000,10,10] false 0 true [] [] 0 false),⟨[]⟩,(Drawn.mk 0 0 0 0),473,os⟩
def L5 (w:World) (os:OsState):Option (Flow×SharedT×Code×Pos):=segRunT treeTable PySem.Challenge.pw_beatless_k12_whole_texts_read w 11 an 1 342 (sb5 w os) (piecesOf znS env cE (Pos.mk 42 0 64 66) B)
def R5 (w:World) (os:OsState):Option (Flow×SharedT×Code×Pos):=some (.next,sb6 w os,cE,(Pos.mk 65 0 78 64))
theorem q5:tt (Hd.L5,Hd.R5)=true:=by k_qdec
theorem r5:∀ w,Fast.tw7289443652863241282 w=Fast.tw2540258914238199871 w:=fun w=>by kernel_rfl
theorem e5 (w:World) (os:OsState):Hd.L5 w os=Hd.R5 w os :=
 (congrFun (congrFun Fast.te7289443652863241282 w) os).trans ((congrFun (r5 w) os).trans (congrFun (congrFun Fast.te2540258914238199871 w) os).symm)
noncomputable def znR:List Stmt:=[S 11,S 12,S 13,S 14,S 15,S 16,S 17,S 18,S 19,S 20]
noncomputable def zqq:=Obj.mk (.type "dict") .none (Data.dict #[en P "__name__" 165 (.str "beatless.programs" 535),en P "__doc__" 166 .none,en P "__package__" 167 .none,en P "__loader__" 168 (.builtin "__main__.__loader__#opaque"),en P "__spec__" 169 .none,en P "__annotations__" 170 (.ref 6),en P "__builtins__" 171 (.ref 4),en P "__file__" 173 (.str "/claim/cut.py" 172),en P "__cached__" 174 .none,en P "_wall" 193 (.ref 21),en P "BeatlessError" 213 (.ref 31),en P "NoProgram" 229 (.ref 44),en P "NoText" 254 (.ref 63),en P "Expr" 276 (.ref 75),en P "Num" 323 (.ref 117),en P "Name" 370 (.ref 157),en P "Two" 423 (.ref 197),en P "Mod" 472 (.ref 237),en P "Less" 525 (.ref 277),en P "is_whole" 534 (.ref 286),en P "START_NAMES" 539 (.ref 287),en P "SEND_NAMES" 545 (.ref 288),en P "RENEW_NAMES" 554 (.ref 289),en P "ALL_NAMES" 564 (.ref 290),en P "TWO_WORDS" 569 (.ref 291),en P "ROW_WORDS" 574 (.ref 292)] 26) #[]
noncomputable def zqp (P:Params):=vO #[(.int 1 0),(.int 0 0),(.ref 20),(.int 5 0),(.int 0 0),(.ref 27),(.int 7 0),(.int 0 0),(.ref 40),(.int 9 0),(.int 0 0),(.ref 52),(.int 14 0),(.int 0 0),(.ref 71),(.int 16 0),(.int 0 0),(.ref 85),(.int 29 0),(.int 0 0),(.ref 125),(.int 42 0),(.int 0 0),(.ref 165),(.int 65 0),(.int 0 0),(.ref 205),(.int 79 0),(.int 0 0),(.ref 245),(.int 98 0),(.int 0 0),(.ref 285)]
noncomputable def U3 (P:Params):=Obj.mk (.type "type") .none (Data.cls (ClassData.mk "Expr" [(.type "object")] [(.ref 75),(.type "object")] 74 "Expr" true [] [(.ref 117),(.ref 157),(.ref 197),(.ref 237),(.ref 277)] false .none false)) #[.none,.none,(Option.some (.str "Expr" 257)),(Option.some (.str "Expr" 265)),(Option.some (.builtin "object.__new__")),(Option.some (.bool true))]
noncomputable def zdd (P:Params):=tO #[(.ref 75)]
noncomputable def zis (P:Params):=Obj.mk (.type "builtin_function_or_method") .none (Data.fields #[(.builtin "type.__prepare__"),(.type "type")]) #[]
noncomputable def zir:=Obj.mk (.type "dict") .none (Data.dict #[en P "__module__" 480 (.str "beatless.exprs" 255),en P "__qualname__" 482 (.str "Less" 481),en P "__firstlineno__" 484 (.int 79 483),en P "__init__" 495 (.ref 253),en P "reckon" 503 (.ref 260),en P "told" 510 (.ref 267),en P "words" 517 (.ref 274),en P "__static_attributes__" 522 (.ref 275)] 8) #[]
def ziq (P:Params):=tO #[]
noncomputable def zio (P:Params):=vO #[(.int 81 0),(.int 4 0),(.ref 252),(.int 87 0),(.int 4 0),(.ref 259),(.int 92 0),(.int 4 0),(.ref 266),(.int 95 0),(.int 4 0),(.ref 273)]
noncomputable def zin (P:Params):=Obj.mk (.type "code") .none (Data.fields #[(.str "Less" 475),(.str "Less" 476),(.str "/claim/cut.py" 477),(.int 79 0),(.int 0 0),(.int 0 0),(.int 0 0),(.int 0 0),(.ref 243),(.bool false),(.int 181 0),(.ref 244),.none,.none,.none,.none,(.int 478 0),(.int 79 0),(.str "/claim/cut.py" 479)]) #[]
noncomputable def zim (P:Params):=Obj.mk (.type "frame") .none Data.plain #[(Option.some (.ref 245)),(Option.some (.ref 3)),(Option.some (.ref 242)),.none,(Option.some (.str "beatless.exprs" 255)),.none,(Option.some (.ref 0))]
def zdc (P:Params):=tO #[]
def zil (P:Params):=vO #[]
noncomputable def zdb (P:Params):=tO #[(.str "self" 488),(.str "one" 489),(.str "other" 490),(.str "third" 491),(.str "fourth" 492)]
def zda (P:Params):=tO #[]
noncomputable def zik (P:Params):=gO "__init__" "Less.__init__" (L2.inClass (S 11) 0)
noncomputable def zc9 (P:Params):=cO "__init__" "Less.__init__" 485 486 487 81 5 3 247 248 249 250 251 493 494
noncomputable def zc8 (P:Params):=uO "__init__" "Less.__init__" (L2.inClass (S 11) 0) "beatless.exprs" 255 252
def zc7 (P:Params):=tO #[]
def zpo (P:Params):=vO #[]
noncomputable def zgr (P:Params):=tO #[(.str "self" 499),(.str "worths" 500)]
def zgq (P:Params):=tO #[]
noncomputable def zpn (P:Params):=gO "reckon" "Less.reckon" (L2.inClass (S 11) 1)
noncomputable def zgp (P:Params):=cO "reckon" "Less.reckon" 496 497 498 87 2 3 254 255 256 257 258 501 502
noncomputable def zgo (P:Params):=uO "reckon" "Less.reckon" (L2.inClass (S 11) 1) "beatless.exprs" 255 259
noncomputable def zgn (P:Params):=tO #[]
def zpm (P:Params):=vO #[]
noncomputable def zgm (P:Params):=tO #[(.str "self" 507)]
def zgl (P:Params):=tO #[]
noncomputable def zpl (P:Params):=gO "told" "Less.told" (L2.inClass (S 11) 2)
noncomputable def zgk (P:Params):=cO "told" "Less.told" 504 505 506 92 1 3 261 262 263 264 265 508 509
noncomputable def zgj (P:Params):=uO "told" "Less.told" (L2.inClass (S 11) 2) "beatless.exprs" 255 266
def zgi (P:Params):=tO #[]
def zpk (P:Params):=vO #[]
noncomputable def zgh (P:Params):=tO #[(.str "self" 514)]
def zgg (P:Params):=tO #[]
noncomputable def zpj (P:Params):=gO "words" "Less.words" (L2.inClass (S 11) 3)
noncomputable def zgf (P:Params):=cO "words" "Less.words" 511 512 513 95 1 3 268 269 270 271 272 515 516
noncomputable def zge (P:Params):=uO "words" "Less.words" (L2.inClass (S 11) 3) "beatless.exprs" 255 273
noncomputable def zgd (P:Params):=tO #[(.str "fourth" 518),(.str "one" 519),(.str "other" 520),(.str "third" 521)]
noncomputable def zgc:=Obj.mk (.type "dict") .none (Data.dict #[en P "__module__" 480 (.str "beatless.exprs" 255),en P "__firstlineno__" 484 (.int 79 483),en P "__init__" 495 (.ref 253),en P "reckon" 503 (.ref 260),en P "told" 510 (.ref 267),en P "words" 517 (.ref 274),en P "__static_attributes__" 522 (.ref 275),en P "__doc__" 523 .none] 2) #[]
noncomputable def zgb (P:Params):=Obj.mk (.type "type") .none (Data.cls (ClassData.mk "Less" [(.ref 75)] [(.ref 277),(.ref 75),(.type "object")] 276 "Less" true [] [] false .none false)) #[(Option.some (.ref 240)),.none,(Option.some (.str "Less" 473)),(Option.some (.str "Less" 481)),(Option.some (.builtin "object.__new__")),(Option.some (.bool true))]
noncomputable def zpi (P:Params):=Obj.mk (.type "super") .none (Data.fields #[(.ref 277),(.ref 277),(.ref 277)]) #[]
noncomputable def zph (P:Params):=Obj.mk (.type "builtin_function_or_method") .none (Data.fields #[(.builtin "object.__init_subclass__"),(.ref 277)]) #[]
def zga (P:Params):=tO #[]
def zpg (P:Params):=vO #[]
noncomputable def zf9 (P:Params):=tO #[(.str "value" 531)]
def zf8 (P:Params):=tO #[]
noncomputable def zpf (P:Params):=gO "is_whole" "is_whole" (S 13)
noncomputable def zf7 (P:Params):=cO "is_whole" "is_whole" 528 529 530 98 1 3 280 281 282 283 284 532 533
noncomputable def zf6 (P:Params):=uO "is_whole" "is_whole" (S 13) "beatless.wholes" 526 285
noncomputable def zf5 (P:Params):=tO #[(.str "me" 537),(.str "lines" 538)]
noncomputable def zf4 (P:Params):=tO #[(.str "worth" 540),(.str "me" 541),(.str "round" 542),(.str "lines" 543),(.str "to" 544)]
noncomputable def zf3 (P:Params):=tO #[(.str "worth" 546),(.str "me" 547),(.str "round" 548),(.str "lines" 549),(.str "sum" 550),(.str "least" 551),(.str "most" 552),(.str "count" 553)]
noncomputable def zf2 (P:Params):=tO #[(.str "worth" 555),(.str "me" 556),(.str "round" 557),(.str "lines" 558),(.str "to" 559),(.str "sum" 560),(.str "least" 561),(.str "most" 562),(.str "count" 563)]
noncomputable def zf1 (P:Params):=tO #[(.str "add" 565),(.str "sub" 566),(.str "min" 567),(.str "max" 568)]
noncomputable def zf0 (P:Params):=tO #[(.str "start" 570),(.str "send" 571),(.str "when" 572),(.str "reckon" 573)]
noncomputable def zkG:=BT.node (zpo P) .nil .nil
noncomputable def zkF:=BT.node (zf5 P) .nil .nil
noncomputable def zkE:=BT.node (zgU P) (zkF P) .nil
noncomputable def zkD:=BT.node (zgg P) .nil .nil
noncomputable def zkC:=BT.node (zaT P) (zkD P) .nil
noncomputable def zkB:=BT.node (zgm P) .nil .nil
noncomputable def zkA:=BT.node (zg1 P) (zkB P) .nil
noncomputable def zkz:=BT.node (zph P) .nil .nil
noncomputable def zky:=BT.node (zaN P) (zkz P) .nil
def zkx:=BT.node (boot_o_7 P) (BT.node (o6 P) (BT.node (o40 P) (BT.node (o57 P) (BT.node (za4 P) (zkG P) .nil) (zmo P)) (BT.node (o92 P) (zkE P) (zll P))) (BT.node (o41 P) (BT.node (o73 P) (zkC P) (zlk P)) (zlj P))) (BT.node (o14 P) (BT.node (o30 P) (BT.node (o65 P) (zkA P) (zml P)) (zli P)) (BT.node (o49 P) (BT.node (o84 P) (zky P) (zlh P)) (BT.node (zbb P) (zmi P) (BT.node (zdc P) .nil .nil))))
noncomputable def zkw:=BT.node (zgp P) .nil .nil
noncomputable def zkv:=BT.node (zf1 P) .nil .nil
noncomputable def zku:=BT.node (zgR P) (zkv P) .nil
noncomputable def zkt:=BT.node (zgd P) .nil .nil
noncomputable def zks:=BT.node (zaQ P) (zkt P) .nil
noncomputable def zkr:=BT.node (zgj P) .nil .nil
noncomputable def zkq:=BT.node (zaW P) (zkr P) .nil
noncomputable def zkp:=BT.node (zf8 P) .nil .nil
noncomputable def zko:=BT.node (zaK P) (zkp P) .nil
noncomputable def zkn:=BT.node (o0 P) (BT.node (o10 P) (BT.node (o26 P) (BT.node (o61 P) (BT.node (zg2 P) (zkw P) .nil) (zmg P)) (BT.node (o96 P) (zku P) (zlg P))) (BT.node (o45 P) (BT.node (o80 P) (zks P) (zlf P)) (BT.node (Vx P) (zmd P) (BT.node (ziq P) .nil .nil)))) (BT.node (o18 P) (BT.node (o34 P) (BT.node (U3 P) (zkq P) (zle P)) (zld P)) (BT.node (o53 P) (BT.node (o88 P) (zko P) (zlc P)) (BT.node (za8 P) (zma P) (BT.node (zik P) .nil .nil))))
noncomputable def zkm:=BT.node (zgq P) .nil .nil
noncomputable def zkl:=BT.node (zf3 P) .nil .nil
noncomputable def zkk:=BT.node (zgT P) (zkl P) .nil
noncomputable def zkj:=BT.node (zgf P) .nil .nil
noncomputable def zki:=BT.node (zgY P) (zkj P) .nil
noncomputable def zkh:=BT.node (zpl P) .nil .nil
noncomputable def zkg:=BT.node (zaX P) (zkh P) .nil
noncomputable def zkf:=BT.node (zpg P) .nil .nil
noncomputable def zke:=BT.node (zaM P) (zkf P) .nil
def zkd:=BT.node (boot_o_9 P) (BT.node (o8 P) (BT.node (o24 P) (BT.node (o59 P) (BT.node (za3 P) (zkm P) .nil) (zl8 P)) (BT.node (o94 P) (zkk P) (zlb P))) (BT.node (o43 P) (BT.node (o78 P) (zki P) (zla P)) (BT.node (Vz P) (zl5 P) (BT.node (zis P) .nil .nil)))) (BT.node (o16 P) (BT.node (o32 P) (BT.node (o67 P) (zkg P) (zk9 P)) (zk8 P)) (BT.node (o51 P) (BT.node (o86 P) (zke P) (zk7 P)) (BT.node (zba P) (zl2 P) (BT.node (zdb P) .nil .nil))))
noncomputable def zkc:=BT.node (zgn P) .nil .nil
noncomputable def zkb:=BT.node (o63 P) (BT.node (za0 P) (zkc P) .nil) (zl0 P)
noncomputable def zka:=BT.node (zgb P) .nil .nil
noncomputable def zj9:=BT.node (zgX P) (zka P) .nil
noncomputable def zj8:=BT.node (o47 P) (BT.node (o82 P) (zj9 P) (zk4 P)) (BT.node (Vv P) (zlX P) (BT.node (zin P) .nil .nil))
noncomputable def zj7:=BT.node (zpk P) .nil .nil
noncomputable def zj6:=BT.node (zaU P) (zj7 P) .nil
noncomputable def zj5:=BT.node (zf7 P) .nil .nil
noncomputable def zj4:=BT.node (zaI P) (zj5 P) .nil
noncomputable def zj3:=BT.node (o20 P) (BT.node (o36 P) (BT.node (o71 P) (zj6 P) (zk3 P)) (zk2 P)) (BT.node (o55 P) (BT.node (o90 P) (zj4 P) (zk1 P)) (BT.node (za6 P) (zlU P) (BT.node (zc8 P) .nil .nil)))
noncomputable def zj2:=BT.node (zgr P) .nil .nil
noncomputable def zj1:=BT.node (zf4 P) .nil .nil
noncomputable def zj0:=BT.node (zaH P) (zj1 P) .nil
noncomputable def zjZ:=BT.node (zpj P) .nil .nil
noncomputable def zjY:=BT.node (zaS P) (zjZ P) .nil
noncomputable def zjX:=BT.node (zgl P) .nil .nil
noncomputable def zjW:=BT.node (zaY P) (zjX P) .nil
noncomputable def zjV:=BT.node (zga P) .nil .nil
noncomputable def zjU:=BT.node (zgW P) (zjV P) .nil
noncomputable def zjT:=BT.node (zgo P) .nil .nil
noncomputable def zjS:=BT.node (zf0 P) .nil .nil
noncomputable def zjR:=BT.node (zgQ P) (zjS P) .nil
def zjQ:=BT.node (zgc P) .nil .nil
def zjP:=BT.node (zaP P) (zjQ P) .nil
noncomputable def zjO:=BT.node (zgi P) .nil .nil
noncomputable def zjN:=BT.node (zaV P) (zjO P) .nil
noncomputable def zjM:=BT.node (zpf P) .nil .nil
def zjL:=BT.node (zaJ P) (zjM P) .nil
noncomputable def zpI:=BT.node (zqp P) (BT.node (o11 P) (BT.node (o27 P) (BT.node (o62 P) (BT.node (za1 P) (zjT P) .nil) (zlK P)) (BT.node (o97 P) (zjR P) (zkV P))) (BT.node (o46 P) (BT.node (o81 P) (zjP P) (zkU P)) (BT.node (Vw P) (zlH P) (BT.node (zio P) .nil .nil)))) (BT.node (o19 P) (BT.node (o35 P) (BT.node (o70 P) (zjN P) (zkT P)) (zkS P)) (BT.node (o54 P) (BT.node (o89 P) (zjL P) (zkR P)) (BT.node (za7 P) (zlE P) (BT.node (zc9 P) .nil .nil))))
noncomputable def zjK:=BT.node (zpn P) .nil .nil
noncomputable def zjJ:=BT.node (zf2 P) .nil .nil
def zjI:=BT.node (zgS P) (zjJ P) .nil
noncomputable def zjH:=BT.node (zge P) .nil .nil
noncomputable def zjG:=BT.node (zaR P) (zjH P) .nil
noncomputable def zjF:=BT.node (zgk P) .nil .nil
noncomputable def zjE:=BT.node (zg0 P) (zjF P) .nil
noncomputable def zjD:=BT.node (zf9 P) .nil .nil
noncomputable def zjC:=BT.node (zaL P) (zjD P) .nil
noncomputable def zjB:=BT.node (zpm P) .nil .nil
noncomputable def zjA:=BT.node (zaZ P) (zjB P) .nil
noncomputable def zjz:=BT.node (zpi P) .nil .nil
noncomputable def zjy:=BT.node (zaO P) (zjz P) .nil
noncomputable def zjx:=BT.node (zgh P) .nil .nil
noncomputable def zjw:=BT.node (zgZ P) (zjx P) .nil
noncomputable def zjv:=BT.node (zf6 P) .nil .nil
noncomputable def zju:=BT.node (zgV P) (zjv P) .nil
noncomputable def zpH:=BT.node (o3 P) (BT.node (o13 P) (BT.node (o29 P) (BT.node (o64 P) (zjA P) (zlu P)) (zkL P)) (BT.node (o48 P) (BT.node (o83 P) (zjy P) (zkK P)) (BT.node (zbc P) (zlq P) (BT.node (zim P) .nil .nil)))) (BT.node (o21 P) (BT.node (o37 P) (BT.node (o72 P) (zjw P) (zkJ P)) (zkI P)) (BT.node (o56 P) (BT.node (o91 P) (zju P) (zkH P)) (BT.node (za5 P) (zln P) (BT.node (zc7 P) .nil .nil))))
def zpG:=BT.node (boot_o_6 P) (BT.node (boot_o_10 P) (BT.node (o9 P) (BT.node (o25 P) (BT.node (o60 P) (BT.node (za2 P) (zjK P) .nil) (zlC P)) (BT.node (o95 P) (zjI P) (zkQ P))) (BT.node (o44 P) (BT.node (o79 P) (zjG P) (zkP P)) (BT.node (Vy P) (zlz P) (BT.node (zir P) .nil .nil)))) (BT.node (o17 P) (BT.node (o33 P) (BT.node (o68 P) (zjE P) (zkO P)) (zkN P)) (BT.node (o52 P) (BT.node (o87 P) (zjC P) (zkM P)) (BT.node (za9 P) (zlw P) (BT.node (zda P) .nil .nil))))) (zpH P)
def zjt:=BT.node (boot_o_2 P) (BT.node (boot_o_4 P) (BT.node (boot_o_8 P) (BT.node (o7 P) (BT.node (o23 P) (BT.node (o58 P) (BT.node (zg3 P) (zj2 P) .nil) (zlS P)) (BT.node (o93 P) (zj0 P) (zk0 P))) (BT.node (o42 P) (BT.node (o77 P) (zjY P) (zkZ P)) (BT.node (zbd P) (zlP P) (BT.node (zdd P) .nil .nil)))) (BT.node (o15 P) (BT.node (o31 P) (BT.node (o66 P) (zjW P) (zkY P)) (zkX P)) (BT.node (o50 P) (BT.node (o85 P) (zjU P) (zkW P)) (BT.node (Vu P) (zlM P) (BT.node (zil P) .nil .nil))))) (zpI P)) (zpG P)
def zpF:=BT.node (boot_o_0 P) (BT.node (boot_o_1 P) (BT.node (zqq P) (zkx P) (zkn P)) (BT.node (boot_o_5 P) (zkd P) (BT.node (o2 P) (BT.node (o12 P) (BT.node (o28 P) (zkb P) (zk5 P)) (zj8 P)) (zj3 P)))) (zjt P)
def sb7 (w:World) (os:OsState):SharedT:=⟨(zpF w.params),293,(Life.mk [] [] [] 0 [] [] false #[] [] 0 false false false 0 [2000,10,10] false 0 true [] [] 0 false),⟨[]⟩,(Drawn.mk 0 0 0 0),575,os⟩
def L6 (w:World) (os:OsState):Option (Flow×SharedT×Code×Pos):=segRunT treeTable PySem.Challenge.pw_beatless_k12_whole_texts_read w 11 an 1 485 (sb6 w os) (piecesOf znR env cE (Pos.mk 65 0 78 64) B)
def R6 (w:World) (os:OsState):Option (Flow×SharedT×Code×Pos):=some (.next,sb7 w os,cE,(Pos.mk 106 0 106 9))
theorem q6:tt (Hd.L6,Hd.R6)=true:=by k_qdec
theorem r6:∀ w,Fast.tw11518265509499319272 w=Fast.tw3345738777826418175 w:=fun w=>by kernel_rfl
theorem e6 (w:World) (os:OsState):Hd.L6 w os=Hd.R6 w os :=
 (congrFun (congrFun Fast.te11518265509499319272 w) os).trans ((congrFun (r6 w) os).trans (congrFun (congrFun Fast.te3345738777826418175 w) os).symm)
noncomputable def znQ:List Stmt:=[S 21]
noncomputable def zqo:=Obj.mk (.type "dict") .none (Data.dict #[en P "__name__" 165 (.str "beatless.programs" 535),en P "__doc__" 166 .none,en P "__package__" 167 .none,en P "__loader__" 168 (.builtin "__main__.__loader__#opaque"),en P "__spec__" 169 .none,en P "__annotations__" 170 (.ref 6),en P "__builtins__" 171 (.ref 4),en P "__file__" 173 (.str "/claim/cut.py" 172),en P "__cached__" 174 .none,en P "_wall" 193 (.ref 21),en P "BeatlessError" 213 (.ref 31),en P "NoProgram" 229 (.ref 44),en P "NoText" 254 (.ref 63),en P "Expr" 276 (.ref 75),en P "Num" 323 (.ref 117),en P "Name" 370 (.ref 157),en P "Two" 423 (.ref 197),en P "Mod" 472 (.ref 237),en P "Less" 525 (.ref 277),en P "is_whole" 534 (.ref 286),en P "START_NAMES" 539 (.ref 287),en P "SEND_NAMES" 545 (.ref 288),en P "RENEW_NAMES" 554 (.ref 289),en P "ALL_NAMES" 564 (.ref 290),en P "TWO_WORDS" 569 (.ref 291),en P "ROW_WORDS" 574 (.ref 292),en P "PARTS" 593 (.ref 293)] 27) #[]
noncomputable def zfZ:=Obj.mk (.type "dict") .none (Data.dict #[en P "add" 575 (.int 2 576),en P "sub" 577 (.int 2 578),en P "min" 579 (.int 2 580),en P "max" 581 (.int 2 582),en P "mod" 583 (.int 2 584),en P "less" 585 (.int 4 586)] 6) #[]
def zjs:=BT.node (zfZ P) .nil .nil
def zjr:=BT.node (zgP P) (zjs P) .nil
def zpE:=BT.node (boot_o_0 P) (BT.node (boot_o_1 P) (BT.node (zqo P) (zkx P) (zkn P)) (BT.node (boot_o_5 P) (zkd P) (BT.node (o2 P) (BT.node (o12 P) (BT.node (o28 P) (zkb P) (BT.node (o98 P) (zjr P) (zk6 P))) (zj8 P)) (zj3 P)))) (zjt P)
def sb8 (w:World) (os:OsState):SharedT:=⟨(zpE w.params),294,(Life.mk [] [] [] 0 [] [] false #[] [] 0 false false false 0 [2000,10,10] false 0 true [] [] 0 false),⟨[]⟩,(Drawn.mk 0 0 0 0),594,os⟩
def L7 (w:World) (os:OsState):Option (Flow×SharedT×Code×Pos):=segRunT treeTable PySem.Challenge.pw_beatless_k12_whole_texts_read w 11 an 1 101 (sb7 w os) (piecesOf znQ env cE (Pos.mk 106 0 106 9) B)
def R7 (w:World) (os:OsState):Option (Flow×SharedT×Code×Pos):=some (.next,sb8 w os,cE,(Pos.mk 107 0 107 5))
theorem q7:tt (Hd.L7,Hd.R7)=true:=by k_qdec
theorem r7:∀ w,Fast.tw9490284035958612641 w=Fast.tw15626045330170987150 w:=PySem.W.byRow2 (P:=fun w=>Fast.tw9490284035958612641 w=Fast.tw15626045330170987150 w) "special-get-raises" (fun w=>by kernel_rfl) (fun w=>by kernel_rfl)
theorem e7 (w:World) (os:OsState):Hd.L7 w os=Hd.R7 w os :=
 (congrFun (congrFun Fast.te9490284035958612641 w) os).trans ((congrFun (r7 w) os).trans (congrFun (congrFun Fast.te15626045330170987150 w) os).symm)
noncomputable def znP:List Stmt:=[S 22,S 23,S 24,S 25,S 26,S 27,S 28,S 29,S 30,S 31,S 32,S 33]
noncomputable def zqn:=Obj.mk (.type "dict") .none (Data.dict #[en P "__name__" 165 (.str "beatless.programs" 535),en P "__doc__" 166 .none,en P "__package__" 167 .none,en P "__loader__" 168 (.builtin "__main__.__loader__#opaque"),en P "__spec__" 169 .none,en P "__annotations__" 170 (.ref 6),en P "__builtins__" 171 (.ref 4),en P "__file__" 173 (.str "/claim/cut.py" 172),en P "__cached__" 174 .none,en P "_wall" 193 (.ref 21),en P "BeatlessError" 213 (.ref 31),en P "NoProgram" 229 (.ref 44),en P "NoText" 254 (.ref 63),en P "Expr" 276 (.ref 75),en P "Num" 323 (.ref 117),en P "Name" 370 (.ref 157),en P "Two" 423 (.ref 197),en P "Mod" 472 (.ref 237),en P "Less" 525 (.ref 277),en P "is_whole" 534 (.ref 286),en P "START_NAMES" 539 (.ref 287),en P "SEND_NAMES" 545 (.ref 288),en P "RENEW_NAMES" 554 (.ref 289),en P "ALL_NAMES" 564 (.ref 290),en P "TWO_WORDS" 569 (.ref 291),en P "ROW_WORDS" 574 (.ref 292),en P "PARTS" 593 (.ref 293),en P "FIGURES" 595 (.str "0123456789" 594),en P "MOST_WORDS" 597 (.int 60 596),en P "MOST_DEEP" 599 (.int 8 598),en P "is_short_number" 606 (.ref 300),en P "is_word_of" 614 (.ref 307),en P "is_divisor" 621 (.ref 314),en P "are_sound" 631 (.ref 321),en P "is_sound" 640 (.ref 328),en P "count_words" 646 (.ref 333),en P "Program" 714 (.ref 371),en P "is_number_word" 723 (.ref 382),en P "number_of" 730 (.ref 389)] 39) #[]
noncomputable def zqm (P:Params):=vO #[(.int 1 0),(.int 0 0),(.ref 20),(.int 5 0),(.int 0 0),(.ref 27),(.int 7 0),(.int 0 0),(.ref 40),(.int 9 0),(.int 0 0),(.ref 52),(.int 14 0),(.int 0 0),(.ref 71),(.int 16 0),(.int 0 0),(.ref 85),(.int 29 0),(.int 0 0),(.ref 125),(.int 42 0),(.int 0 0),(.ref 165),(.int 65 0),(.int 0 0),(.ref 205),(.int 79 0),(.int 0 0),(.ref 245),(.int 98 0),(.int 0 0),(.ref 285),(.int 111 0),(.int 0 0),(.ref 299),(.int 113 0),(.int 0 0),(.ref 306),(.int 115 0),(.int 0 0),(.ref 313),(.int 117 0),(.int 0 0),(.ref 320),(.int 122 0),(.int 0 0),(.ref 327),(.int 136 0),(.int 0 0),(.ref 332),(.int 138 0),(.int 0 0),(.ref 339),(.int 162 0),(.int 0 0),(.ref 381),(.int 168 0),(.int 0 0),(.ref 388)]
def zfY (P:Params):=tO #[]
def zpe (P:Params):=vO #[]
noncomputable def zfX (P:Params):=tO #[(.str "value" 603)]
def zfW (P:Params):=tO #[]
noncomputable def zpd (P:Params):=gO "is_short_number" "is_short_number" (S 25)
noncomputable def zfV (P:Params):=cO "is_short_number" "is_short_number" 600 601 602 111 1 3 294 295 296 297 298 604 605
noncomputable def zfU (P:Params):=uO "is_short_number" "is_short_number" (S 25) "beatless.programs" 535 299
def zfT (P:Params):=tO #[]
def zpc (P:Params):=vO #[]
noncomputable def zfS (P:Params):=tO #[(.str "word" 610),(.str "words" 611)]
def zfR (P:Params):=tO #[]
noncomputable def zpb (P:Params):=gO "is_word_of" "is_word_of" (S 26)
noncomputable def zfQ (P:Params):=cO "is_word_of" "is_word_of" 607 608 609 113 2 3 301 302 303 304 305 612 613
noncomputable def zfP (P:Params):=uO "is_word_of" "is_word_of" (S 26) "beatless.programs" 535 306
def zfO (P:Params):=tO #[]
def zpa (P:Params):=vO #[]
noncomputable def zfN (P:Params):=tO #[(.str "number" 618)]
def zfM (P:Params):=tO #[]
noncomputable def zo9 (P:Params):=gO "is_divisor" "is_divisor" (S 27)
noncomputable def zfL (P:Params):=cO "is_divisor" "is_divisor" 615 616 617 115 1 3 308 309 310 311 312 619 620
noncomputable def zfK (P:Params):=uO "is_divisor" "is_divisor" (S 27) "beatless.programs" 535 313
def zfJ (P:Params):=tO #[]
def zo8 (P:Params):=vO #[]
noncomputable def zfI (P:Params):=tO #[(.str "parts" 625),(.str "names" 626),(.str "deep" 627),(.str "part" 628)]
def zfH (P:Params):=tO #[]
noncomputable def zo7 (P:Params):=gO "are_sound" "are_sound" (S 28)
noncomputable def zfG (P:Params):=cO "are_sound" "are_sound" 622 623 624 117 3 3 315 316 317 318 319 629 630
noncomputable def zfF (P:Params):=uO "are_sound" "are_sound" (S 28) "beatless.programs" 535 320
def zfE (P:Params):=tO #[]
def zo6 (P:Params):=vO #[]
noncomputable def zfD (P:Params):=tO #[(.str "expr" 635),(.str "names" 636),(.str "deep" 637)]
def zfC (P:Params):=tO #[]
noncomputable def zo5 (P:Params):=gO "is_sound" "is_sound" (S 29)
noncomputable def zfB (P:Params):=cO "is_sound" "is_sound" 632 633 634 122 3 3 322 323 324 325 326 638 639
noncomputable def zfA (P:Params):=uO "is_sound" "is_sound" (S 29) "beatless.programs" 535 327
def zfz (P:Params):=tO #[]
def zo4 (P:Params):=vO #[]
noncomputable def zo3 (P:Params):=gO "count_words" "count_words" (S 30)
noncomputable def zfy (P:Params):=Obj.mk (.type "code") .none (Data.fields #[(.str "count_words" 641),(.str "count_words" 642),(.str "/claim/cut.py" 643),(.int 136 0),(.int 1 0),(.int 0 0),(.int 0 0),(.int 3 0),(.ref 329),(.bool true),(.int 181 0),(.ref 330),.none,.none,.none,(.ref 331),(.int 644 0),(.int 136 0),(.str "/claim/cut.py" 645)]) #[]
noncomputable def zfx (P:Params):=uO "count_words" "count_words" (S 30) "beatless.programs" 535 332
def zo2 (P:Params):=tO #[]
noncomputable def zo1 (P:Params):=Obj.mk (.type "builtin_function_or_method") .none (Data.fields #[(.builtin "type.__prepare__"),(.type "type")]) #[]
noncomputable def zo0:=Obj.mk (.type "dict") .none (Data.dict #[en P "__module__" 654 (.str "beatless.programs" 535),en P "__qualname__" 656 (.str "Program" 655),en P "__firstlineno__" 658 (.int 138 657),en P "__init__" 669 (.ref 347),en P "first_worth" 678 (.ref 354),en P "word_to" 690 (.ref 361),en P "next_worth" 702 (.ref 368),en P "__static_attributes__" 707 (.ref 369)] 8) #[]
def zoZ (P:Params):=tO #[]
noncomputable def zoY (P:Params):=vO #[(.int 140 0),(.int 4 0),(.ref 346),(.int 154 0),(.int 4 0),(.ref 353),(.int 157 0),(.int 4 0),(.ref 360),(.int 160 0),(.int 4 0),(.ref 367)]
noncomputable def zoX (P:Params):=Obj.mk (.type "code") .none (Data.fields #[(.str "Program" 649),(.str "Program" 650),(.str "/claim/cut.py" 651),(.int 138 0),(.int 0 0),(.int 0 0),(.int 0 0),(.int 0 0),(.ref 337),(.bool false),(.int 181 0),(.ref 338),.none,.none,.none,.none,(.int 652 0),(.int 138 0),(.str "/claim/cut.py" 653)]) #[]
noncomputable def zoW (P:Params):=Obj.mk (.type "frame") .none Data.plain #[(Option.some (.ref 339)),(Option.some (.ref 3)),(Option.some (.ref 336)),.none,(Option.some (.str "beatless.programs" 535)),.none,(Option.some (.ref 0))]
def zfw (P:Params):=tO #[]
def zoV (P:Params):=vO #[]
noncomputable def zfv (P:Params):=tO #[(.str "self" 662),(.str "start" 663),(.str "send" 664),(.str "when" 665),(.str "renew" 666)]
def zfu (P:Params):=tO #[]
noncomputable def zoU (P:Params):=gO "__init__" "Program.__init__" (L2.inClass (S 31) 0)
noncomputable def zft (P:Params):=cO "__init__" "Program.__init__" 659 660 661 140 5 3 341 342 343 344 345 667 668
noncomputable def zfs (P:Params):=uO "__init__" "Program.__init__" (L2.inClass (S 31) 0) "beatless.programs" 535 346
def zfr (P:Params):=tO #[]
def zoT (P:Params):=vO #[]
noncomputable def zfq (P:Params):=tO #[(.str "self" 673),(.str "hand" 674),(.str "lines" 675)]
def zfp (P:Params):=tO #[]
noncomputable def zoS (P:Params):=gO "first_worth" "Program.first_worth" (L2.inClass (S 31) 1)
noncomputable def zfo (P:Params):=cO "first_worth" "Program.first_worth" 670 671 672 154 3 3 348 349 350 351 352 676 677
noncomputable def zfn (P:Params):=uO "first_worth" "Program.first_worth" (L2.inClass (S 31) 1) "beatless.programs" 535 353
def zfm (P:Params):=tO #[]
def zoR (P:Params):=vO #[]
noncomputable def zfl (P:Params):=tO #[(.str "self" 682),(.str "worth" 683),(.str "hand" 684),(.str "turn" 685),(.str "lines" 686),(.str "other" 687)]
def zfk (P:Params):=tO #[]
noncomputable def zoQ (P:Params):=gO "word_to" "Program.word_to" (L2.inClass (S 31) 2)
noncomputable def zfj (P:Params):=cO "word_to" "Program.word_to" 679 680 681 157 6 3 355 356 357 358 359 688 689
noncomputable def zfi (P:Params):=uO "word_to" "Program.word_to" (L2.inClass (S 31) 2) "beatless.programs" 535 360
def zfh (P:Params):=tO #[]
def zoP (P:Params):=vO #[]
noncomputable def zfg (P:Params):=tO #[(.str "self" 694),(.str "worth" 695),(.str "hand" 696),(.str "turn" 697),(.str "lines" 698),(.str "heard" 699)]
noncomputable def zff (P:Params):=tO #[]
noncomputable def zoO (P:Params):=gO "next_worth" "Program.next_worth" (L2.inClass (S 31) 3)
noncomputable def zfe (P:Params):=cO "next_worth" "Program.next_worth" 691 692 693 160 6 3 362 363 364 365 366 700 701
noncomputable def zfd (P:Params):=uO "next_worth" "Program.next_worth" (L2.inClass (S 31) 3) "beatless.programs" 535 367
noncomputable def zfc (P:Params):=tO #[(.str "renew" 703),(.str "send" 704),(.str "start" 705),(.str "when" 706)]
noncomputable def zfb:=Obj.mk (.type "dict") .none (Data.dict #[en P "__module__" 654 (.str "beatless.programs" 535),en P "__firstlineno__" 658 (.int 138 657),en P "__init__" 669 (.ref 347),en P "first_worth" 678 (.ref 354),en P "word_to" 690 (.ref 361),en P "next_worth" 702 (.ref 368),en P "__static_attributes__" 707 (.ref 369),en P "__dict__" 709 (.ref 372),en P "__weakref__" 711 (.ref 373),en P "__doc__" 712 .none] 4) #[]
noncomputable def zfa (P:Params):=Obj.mk (.type "type") .none (Data.cls (ClassData.mk "Program" [(.type "object")] [(.ref 371),(.type "object")] 370 "Program" true [] [] false .none false)) #[.none,.none,(Option.some (.str "Program" 647)),(Option.some (.str "Program" 655)),(Option.some (.builtin "object.__new__")),(Option.some (.bool true))]
noncomputable def ze9 (P:Params):=Obj.mk (.type "getset_descriptor") .none (Data.fields #[(.str "__dict__" 708),(.ref 371),(.builtin "function.__dict__"),(.builtin "function.__dict__#set")]) #[]
noncomputable def ze8 (P:Params):=Obj.mk (.type "getset_descriptor") .none (Data.fields #[(.str "__weakref__" 710),(.ref 371),(.builtin "ExceptionGroup.__weakref__"),.none]) #[]
noncomputable def zoN (P:Params):=Obj.mk (.type "super") .none (Data.fields #[(.ref 371),(.ref 371),(.ref 371)]) #[]
noncomputable def zoM (P:Params):=Obj.mk (.type "builtin_function_or_method") .none (Data.fields #[(.builtin "object.__init_subclass__"),(.ref 371)]) #[]
def ze7 (P:Params):=tO #[]
def zoL (P:Params):=vO #[]
noncomputable def ze6 (P:Params):=tO #[(.str "word" 718),(.str "figures" 719),(.str "figure" 720)]
def ze5 (P:Params):=tO #[]
noncomputable def zoK (P:Params):=gO "is_number_word" "is_number_word" (S 32)
noncomputable def ze4 (P:Params):=cO "is_number_word" "is_number_word" 715 716 717 162 1 3 376 377 378 379 380 721 722
noncomputable def ze3 (P:Params):=uO "is_number_word" "is_number_word" (S 32) "beatless.programs" 535 381
def ze2 (P:Params):=tO #[]
def zoJ (P:Params):=vO #[]
noncomputable def ze1 (P:Params):=tO #[(.str "word" 727)]
def ze0 (P:Params):=tO #[]
noncomputable def zoI (P:Params):=gO "number_of" "number_of" (S 33)
noncomputable def zeZ (P:Params):=cO "number_of" "number_of" 724 725 726 168 1 3 383 384 385 386 387 728 729
noncomputable def zeY (P:Params):=uO "number_of" "number_of" (S 33) "beatless.programs" 535 388
noncomputable def zjq:=BT.node (za4 P) (zkG P) (BT.node (ze2 P) .nil .nil)
noncomputable def zjp:=BT.node (zo7 P) .nil .nil
noncomputable def zjo:=BT.node (zfp P) .nil .nil
noncomputable def zjn:=BT.node (zo1 P) .nil .nil
noncomputable def zjm:=BT.node (zfS P) .nil .nil
noncomputable def zjl:=BT.node (zit P) (BT.node (zfe P) .nil .nil) .nil
noncomputable def zjk:=BT.node (zfB P) .nil .nil
noncomputable def zjj:=BT.node (zpe P) .nil .nil
noncomputable def zji:=BT.node (zdj P) (BT.node (zoQ P) .nil .nil) .nil
noncomputable def zjh:=BT.node (zfv P) .nil .nil
noncomputable def zjg:=BT.node (zfM P) .nil .nil
noncomputable def zjf:=BT.node (zdc P) (BT.node (zoM P) .nil .nil) .nil
noncomputable def zje:=BT.node (zg2 P) (zkw P) (BT.node (zoI P) .nil .nil)
noncomputable def zjd:=BT.node (zo6 P) .nil .nil
noncomputable def zjc:=BT.node (zfm P) .nil .nil
noncomputable def zjb:=BT.node (zoX P) .nil .nil
noncomputable def zja:=BT.node (zfP P) .nil .nil
noncomputable def zi9:=BT.node (ziq P) (BT.node (zfa P) .nil .nil) .nil
noncomputable def zi8:=BT.node (zo3 P) .nil .nil
noncomputable def zi7:=BT.node (zfV P) .nil .nil
noncomputable def zi6:=BT.node (zdg P) (BT.node (zoP P) .nil .nil) .nil
noncomputable def zi5:=BT.node (zfs P) .nil .nil
noncomputable def zi4:=BT.node (zfJ P) .nil .nil
noncomputable def zi3:=BT.node (zik P) (BT.node (ze5 P) .nil .nil) .nil
noncomputable def zpD:=BT.node (o0 P) (BT.node (o10 P) (BT.node (o26 P) (BT.node (o61 P) (zje P) (BT.node (zam P) (zjd P) .nil)) (BT.node (o96 P) (zku P) (BT.node (U4 P) (zjc P) .nil))) (BT.node (o45 P) (BT.node (o80 P) (zks P) (BT.node (zgw P) (zjb P) .nil)) (BT.node (Vx P) (BT.node (zay P) (zja P) .nil) (zi9 P)))) (BT.node (o18 P) (BT.node (o34 P) (BT.node (U3 P) (zkq P) (BT.node (zgB P) (zi8 P) .nil)) (BT.node (VD P) (BT.node (zgM P) (zi7 P) .nil) (zi6 P))) (BT.node (o53 P) (BT.node (o88 P) (zko P) (BT.node (zaa P) (zi5 P) .nil)) (BT.node (za8 P) (BT.node (zas P) (zi4 P) .nil) (zi3 P))))
def zpC:=BT.node (zqn P) (BT.node (boot_o_7 P) (BT.node (o6 P) (BT.node (o40 P) (BT.node (o57 P) (zjq P) (BT.node (zap P) (zjp P) .nil)) (BT.node (o92 P) (zkE P) (BT.node (U7 P) (zjo P) .nil))) (BT.node (o41 P) (BT.node (o73 P) (zkC P) (BT.node (zai P) (zjn P) .nil)) (BT.node (VA P) (BT.node (zgL P) (zjm P) .nil) (zjl P)))) (BT.node (o14 P) (BT.node (o30 P) (BT.node (o65 P) (zkA P) (BT.node (zgE P) (zjk P) .nil)) (BT.node (VG P) (BT.node (zaG P) (zjj P) .nil) (zji P))) (BT.node (o49 P) (BT.node (o84 P) (zky P) (BT.node (zgv P) (zjh P) .nil)) (BT.node (zbb P) (BT.node (zav P) (zjg P) .nil) (zjf P))))) (zpD P)
noncomputable def zi2:=BT.node (za3 P) (zkm P) (BT.node (ze1 P) .nil .nil)
noncomputable def zi1:=BT.node (zfF P) .nil .nil
noncomputable def zi0:=BT.node (zfo P) .nil .nil
noncomputable def ziZ:=BT.node (zoZ P) .nil .nil
noncomputable def ziY:=BT.node (zpb P) .nil .nil
noncomputable def ziX:=BT.node (zis P) (BT.node (zfc P) .nil .nil) .nil
noncomputable def ziW:=BT.node (zfz P) .nil .nil
noncomputable def ziV:=BT.node (zfW P) .nil .nil
noncomputable def ziU:=BT.node (zdi P) (BT.node (zfi P) .nil .nil) .nil
noncomputable def ziT:=BT.node (zoU P) .nil .nil
noncomputable def ziS:=BT.node (zfL P) .nil .nil
noncomputable def ziR:=BT.node (zdb P) (BT.node (zoL P) .nil .nil) .nil
noncomputable def zcr:=BT.node (za0 P) (zkc P) (BT.node (zeY P) .nil .nil)
noncomputable def zcq:=BT.node (zfC P) .nil .nil
noncomputable def zcp:=BT.node (ziw P) (BT.node (zfl P) .nil .nil) .nil
noncomputable def zco:=BT.node (zfw P) .nil .nil
noncomputable def zcn:=BT.node (zpa P) .nil .nil
noncomputable def zcm:=BT.node (zin P) (BT.node (ze8 P) .nil .nil) .nil
noncomputable def zcl:=BT.node (zfx P) .nil .nil
noncomputable def zck:=BT.node (zfT P) .nil .nil
noncomputable def zcj:=BT.node (zde P) (BT.node (zff P) .nil .nil) .nil
noncomputable def zci:=BT.node (zoT P) .nil .nil
noncomputable def zch:=BT.node (zfI P) .nil .nil
noncomputable def zcg:=BT.node (zc8 P) (BT.node (ze4 P) .nil .nil) .nil
noncomputable def zhy:=BT.node (o2 P) (BT.node (o12 P) (BT.node (o28 P) (BT.node (o63 P) (zcr P) (BT.node (zak P) (zcq P) .nil)) (BT.node (o98 P) (zjr P) (zcp P))) (BT.node (o47 P) (BT.node (o82 P) (zj9 P) (BT.node (zae P) (zco P) .nil)) (BT.node (Vv P) (BT.node (zaw P) (zcn P) .nil) (zcm P)))) (BT.node (o20 P) (BT.node (o36 P) (BT.node (o71 P) (zj6 P) (BT.node (zgz P) (zcl P) .nil)) (BT.node (zbe P) (BT.node (zaC P) (zck P) .nil) (zcj P))) (BT.node (o55 P) (BT.node (o90 P) (zj4 P) (BT.node (U8 P) (zci P) .nil)) (BT.node (za6 P) (BT.node (zgH P) (zch P) .nil) (zcg P))))
def zhx:=BT.node (boot_o_5 P) (BT.node (boot_o_9 P) (BT.node (o8 P) (BT.node (o24 P) (BT.node (o59 P) (zi2 P) (BT.node (zao P) (zi1 P) .nil)) (BT.node (o94 P) (zkk P) (BT.node (zgs P) (zi0 P) .nil))) (BT.node (o43 P) (BT.node (o78 P) (zki P) (BT.node (zah P) (ziZ P) .nil)) (BT.node (Vz P) (BT.node (zaz P) (ziY P) .nil) (ziX P)))) (BT.node (o16 P) (BT.node (o32 P) (BT.node (o67 P) (zkg P) (BT.node (zgD P) (ziW P) .nil)) (BT.node (zbf P) (BT.node (zaF P) (ziV P) .nil) (ziU P))) (BT.node (o51 P) (BT.node (o86 P) (zke P) (BT.node (zab P) (ziT P) .nil)) (BT.node (zba P) (BT.node (zgI P) (ziS P) .nil) (ziR P))))) (zhy P)
noncomputable def zcf:=BT.node (zg3 P) (zj2 P) (BT.node (zoJ P) .nil .nil)
noncomputable def zce:=BT.node (zfG P) .nil .nil
noncomputable def zcd:=BT.node (zoS P) .nil .nil
def zcc:=BT.node (zo0 P) .nil .nil
noncomputable def zcb:=BT.node (zfR P) .nil .nil
noncomputable def zca:=BT.node (zdd P) (BT.node (zfd P) .nil .nil) .nil
noncomputable def zb9:=BT.node (zfA P) .nil .nil
noncomputable def zb8:=BT.node (zfX P) .nil .nil
noncomputable def zb7:=BT.node (ziv P) (BT.node (zfj P) .nil .nil) .nil
noncomputable def zb6:=BT.node (zfu P) .nil .nil
noncomputable def zb5:=BT.node (zo9 P) .nil .nil
noncomputable def zb4:=BT.node (zil P) (BT.node (ze7 P) .nil .nil) .nil
noncomputable def zb3:=BT.node (za1 P) (zjT P) (BT.node (zeZ P) .nil .nil)
noncomputable def zb2:=BT.node (zfD P) .nil .nil
noncomputable def zb1:=BT.node (zdl P) (BT.node (zoR P) .nil .nil) .nil
noncomputable def zb0:=BT.node (zoW P) .nil .nil
noncomputable def zbZ:=BT.node (zfO P) .nil .nil
noncomputable def zbY:=BT.node (zio P) (BT.node (ze9 P) .nil .nil) .nil
noncomputable def zbX:=BT.node (zfy P) .nil .nil
noncomputable def zbW:=BT.node (zfU P) .nil .nil
noncomputable def zbV:=BT.node (zdf P) (BT.node (zfg P) .nil .nil) .nil
noncomputable def zbU:=BT.node (zfr P) .nil .nil
noncomputable def zbT:=BT.node (zo8 P) .nil .nil
noncomputable def zbS:=BT.node (zc9 P) (BT.node (zoK P) .nil .nil) .nil
noncomputable def zhw:=BT.node (zqm P) (BT.node (o11 P) (BT.node (o27 P) (BT.node (o62 P) (zb3 P) (BT.node (zal P) (zb2 P) .nil)) (BT.node (o97 P) (zjR P) (zb1 P))) (BT.node (o46 P) (BT.node (o81 P) (zjP P) (BT.node (zaf P) (zb0 P) .nil)) (BT.node (Vw P) (BT.node (zax P) (zbZ P) .nil) (zbY P)))) (BT.node (o19 P) (BT.node (o35 P) (BT.node (o70 P) (zjN P) (BT.node (zgA P) (zbX P) .nil)) (BT.node (VC P) (BT.node (zaD P) (zbW P) .nil) (zbV P))) (BT.node (o54 P) (BT.node (o89 P) (zjL P) (BT.node (U9 P) (zbU P) .nil)) (BT.node (za7 P) (BT.node (zar P) (zbT P) .nil) (zbS P))))
def zhv:=BT.node (boot_o_4 P) (BT.node (boot_o_8 P) (BT.node (o7 P) (BT.node (o23 P) (BT.node (o58 P) (zcf P) (BT.node (zgG P) (zce P) .nil)) (BT.node (o93 P) (zj0 P) (BT.node (U6 P) (zcd P) .nil))) (BT.node (o42 P) (BT.node (o77 P) (zjY P) (BT.node (zgx P) (zcc P) .nil)) (BT.node (zbd P) (BT.node (zaA P) (zcb P) .nil) (zca P)))) (BT.node (o15 P) (BT.node (o31 P) (BT.node (o66 P) (zjW P) (BT.node (zaj P) (zb9 P) .nil)) (BT.node (VF P) (BT.node (zgN P) (zb8 P) .nil) (zb7 P))) (BT.node (o50 P) (BT.node (o85 P) (zjU P) (BT.node (zac P) (zb6 P) .nil)) (BT.node (Vu P) (BT.node (zau P) (zb5 P) .nil) (zb4 P))))) (zhw P)
noncomputable def zbR:=BT.node (za2 P) (zjK P) (BT.node (ze0 P) .nil .nil)
noncomputable def zbQ:=BT.node (zfE P) .nil .nil
noncomputable def zbP:=BT.node (zfn P) .nil .nil
noncomputable def zbO:=BT.node (zoY P) .nil .nil
noncomputable def zbN:=BT.node (zfQ P) .nil .nil
noncomputable def zbM:=BT.node (zir P) (BT.node (zfb P) .nil .nil) .nil
noncomputable def zbL:=BT.node (zo4 P) .nil .nil
noncomputable def zbK:=BT.node (zpd P) .nil .nil
noncomputable def zbJ:=BT.node (zdh P) (BT.node (zfh P) .nil .nil) .nil
noncomputable def zbI:=BT.node (zft P) .nil .nil
noncomputable def zbH:=BT.node (zfK P) .nil .nil
noncomputable def zbG:=BT.node (zda P) (BT.node (ze6 P) .nil .nil) .nil
noncomputable def zbF:=BT.node (zo5 P) .nil .nil
noncomputable def zbE:=BT.node (zfY P) .nil .nil
noncomputable def zbD:=BT.node (zdk P) (BT.node (zfk P) .nil .nil) .nil
noncomputable def zbC:=BT.node (zoV P) .nil .nil
noncomputable def zbB:=BT.node (zfN P) .nil .nil
noncomputable def zbA:=BT.node (zim P) (BT.node (zoN P) .nil .nil) .nil
noncomputable def zbz:=BT.node (zo2 P) .nil .nil
noncomputable def zby:=BT.node (zpc P) .nil .nil
noncomputable def zbx:=BT.node (ziu P) (BT.node (zoO P) .nil .nil) .nil
noncomputable def zbw:=BT.node (zfq P) .nil .nil
noncomputable def zbv:=BT.node (zfH P) .nil .nil
noncomputable def zbu:=BT.node (zc7 P) (BT.node (ze3 P) .nil .nil) .nil
noncomputable def zhu:=BT.node (o3 P) (BT.node (o13 P) (BT.node (o29 P) (BT.node (o64 P) (zjA P) (BT.node (zgF P) (zbF P) .nil)) (BT.node (o99 P) (BT.node (zgO P) (zbE P) .nil) (zbD P))) (BT.node (o48 P) (BT.node (o83 P) (zjy P) (BT.node (zad P) (zbC P) .nil)) (BT.node (zbc P) (BT.node (zgJ P) (zbB P) .nil) (zbA P)))) (BT.node (o21 P) (BT.node (o37 P) (BT.node (o72 P) (zjw P) (BT.node (zgy P) (zbz P) .nil)) (BT.node (VB P) (BT.node (zaB P) (zby P) .nil) (zbx P))) (BT.node (o56 P) (BT.node (o91 P) (zju P) (BT.node (zgt P) (zbw P) .nil)) (BT.node (za5 P) (BT.node (zaq P) (zbv P) .nil) (zbu P))))
def zht:=BT.node (boot_o_6 P) (BT.node (boot_o_10 P) (BT.node (o9 P) (BT.node (o25 P) (BT.node (o60 P) (zbR P) (BT.node (zan P) (zbQ P) .nil)) (BT.node (o95 P) (zjI P) (BT.node (U5 P) (zbP P) .nil))) (BT.node (o44 P) (BT.node (o79 P) (zjG P) (BT.node (zag P) (zbO P) .nil)) (BT.node (Vy P) (BT.node (zgK P) (zbN P) .nil) (zbM P)))) (BT.node (o17 P) (BT.node (o33 P) (BT.node (o68 P) (zjE P) (BT.node (zgC P) (zbL P) .nil)) (BT.node (VE P) (BT.node (zaE P) (zbK P) .nil) (zbJ P))) (BT.node (o52 P) (BT.node (o87 P) (zjC P) (BT.node (zgu P) (zbI P) .nil)) (BT.node (za9 P) (BT.node (zat P) (zbH P) .nil) (zbG P))))) (zhu P)
def zhs:=BT.node (boot_o_0 P) (BT.node (boot_o_1 P) (zpC P) (zhx P)) (BT.node (boot_o_2 P) (zhv P) (zht P))
def sb9 (w:World) (os:OsState):SharedT:=⟨(zhs w.params),390,(Life.mk [] [] [] 0 [] [] false #[] [] 0 false false false 0 [2000,10,10] false 0 true [] [] 0 false),⟨[]⟩,(Drawn.mk 0 0 0 0),731,os⟩
def L8 (w:World) (os:OsState):Option (Flow×SharedT×Code×Pos):=segRunT treeTable PySem.Challenge.pw_beatless_k12_whole_texts_read w 11 an 1 598 (sb8 w os) (piecesOf znP env cE (Pos.mk 107 0 107 5) B)
def R8 (w:World) (os:OsState):Option (Flow×SharedT×Code×Pos):=some (.next,sb9 w os,cE,(Pos.mk 168 0 169 25))
theorem q8:tt (Hd.L8,Hd.R8)=true:=by k_qdec
theorem r8:∀ w,Fast.tw7116466485190837356 w=Fast.tw7334724712773792873 w:=fun w=>by kernel_rfl
theorem e8 (w:World) (os:OsState):Hd.L8 w os=Hd.R8 w os :=
 (congrFun (congrFun Fast.te7116466485190837356 w) os).trans ((congrFun (r8 w) os).trans (congrFun (congrFun Fast.te7334724712773792873 w) os).symm)
noncomputable def znO:List Stmt:=[S 34,S 35,S 36,S 37,S 38,S 39,S 40,S 41,S 42,S 43,S 44,S 45,S 46,S 47,S 48]
noncomputable def zeX:=Obj.mk (.type "dict") .none (Data.dict #[en P "__name__" 165 (.str "law_beatless_k12_whole_texts_read" 770),en P "__doc__" 166 .none,en P "__package__" 167 .none,en P "__loader__" 168 (.builtin "__main__.__loader__#opaque"),en P "__spec__" 169 .none,en P "__annotations__" 170 (.ref 6),en P "__builtins__" 171 (.ref 4),en P "__file__" 173 (.str "/claim/cut.py" 172),en P "__cached__" 174 .none,en P "_wall" 193 (.ref 21),en P "BeatlessError" 213 (.ref 31),en P "NoProgram" 229 (.ref 44),en P "NoText" 254 (.ref 63),en P "Expr" 276 (.ref 75),en P "Num" 323 (.ref 117),en P "Name" 370 (.ref 157),en P "Two" 423 (.ref 197),en P "Mod" 472 (.ref 237),en P "Less" 525 (.ref 277),en P "is_whole" 534 (.ref 286),en P "START_NAMES" 539 (.ref 287),en P "SEND_NAMES" 545 (.ref 288),en P "RENEW_NAMES" 554 (.ref 289),en P "ALL_NAMES" 564 (.ref 290),en P "TWO_WORDS" 569 (.ref 291),en P "ROW_WORDS" 574 (.ref 292),en P "PARTS" 593 (.ref 293),en P "FIGURES" 595 (.str "0123456789" 594),en P "MOST_WORDS" 597 (.int 60 596),en P "MOST_DEEP" 599 (.int 8 598),en P "is_short_number" 606 (.ref 300),en P "is_word_of" 614 (.ref 307),en P "is_divisor" 621 (.ref 314),en P "are_sound" 631 (.ref 321),en P "is_sound" 640 (.ref 328),en P "count_words" 646 (.ref 333),en P "Program" 714 (.ref 371),en P "is_number_word" 723 (.ref 382),en P "number_of" 730 (.ref 389),en P "read_part" 738 (.ref 396),en P "read_words" 748 (.ref 403),en P "read_row" 757 (.ref 410),en P "read_program" 769 (.ref 417),en P "_law_cell_at" 779 (.ref 424),en P "_law_digit" 790 (.ref 431),en P "_law_row" 804 (.ref 438),en P "_law_signed" 817 (.ref 445),en P "_law_number" 823 (.ref 450),en P "_law_parsed" 837 (.ref 457),en P "_law_look" 850 (.ref 464),en P "_law_due" 866 (.ref 471),en P "_law_found" 872 (.ref 476),en P "law" 886 (.ref 483)] 53) #[]
noncomputable def zoH (P:Params):=vO #[(.int 1 0),(.int 0 0),(.ref 20),(.int 5 0),(.int 0 0),(.ref 27),(.int 7 0),(.int 0 0),(.ref 40),(.int 9 0),(.int 0 0),(.ref 52),(.int 14 0),(.int 0 0),(.ref 71),(.int 16 0),(.int 0 0),(.ref 85),(.int 29 0),(.int 0 0),(.ref 125),(.int 42 0),(.int 0 0),(.ref 165),(.int 65 0),(.int 0 0),(.ref 205),(.int 79 0),(.int 0 0),(.ref 245),(.int 98 0),(.int 0 0),(.ref 285),(.int 111 0),(.int 0 0),(.ref 299),(.int 113 0),(.int 0 0),(.ref 306),(.int 115 0),(.int 0 0),(.ref 313),(.int 117 0),(.int 0 0),(.ref 320),(.int 122 0),(.int 0 0),(.ref 327),(.int 136 0),(.int 0 0),(.ref 332),(.int 138 0),(.int 0 0),(.ref 339),(.int 162 0),(.int 0 0),(.ref 381),(.int 168 0),(.int 0 0),(.ref 388),(.int 170 0),(.int 0 0),(.ref 395),(.int 182 0),(.int 0 0),(.ref 402),(.int 190 0),(.int 0 0),(.ref 409),(.int 193 0),(.int 0 0),(.ref 416),(.int 207 0),(.int 0 0),(.ref 423),(.int 211 0),(.int 0 0),(.ref 430),(.int 224 0),(.int 0 0),(.ref 437),(.int 255 0),(.int 0 0),(.ref 444),(.int 263 0),(.int 0 0),(.ref 449),(.int 272 0),(.int 0 0),(.ref 456),(.int 294 0),(.int 0 0),(.ref 463),(.int 310 0),(.int 0 0),(.ref 470),(.int 332 0),(.int 0 0),(.ref 475),(.int 342 0),(.int 0 0),(.ref 482)]
def zeW (P:Params):=tO #[]
def zoG (P:Params):=vO #[]
noncomputable def zeV (P:Params):=tO #[(.str "word" 734),(.str "parts" 735)]
def zeU (P:Params):=tO #[]
noncomputable def zoF (P:Params):=gO "read_part" "read_part" (S 34)
noncomputable def zeT (P:Params):=cO "read_part" "read_part" 731 732 733 170 2 3 390 391 392 393 394 736 737
noncomputable def zeS (P:Params):=uO "read_part" "read_part" (S 34) "beatless.programs" 535 395
def zeR (P:Params):=tO #[]
def zoE (P:Params):=vO #[]
noncomputable def zeQ (P:Params):=tO #[(.str "words" 742),(.str "parts" 743),(.str "word" 744),(.str "part" 745)]
def zeP (P:Params):=tO #[]
noncomputable def zoD (P:Params):=gO "read_words" "read_words" (S 35)
noncomputable def zeO (P:Params):=cO "read_words" "read_words" 739 740 741 182 1 3 397 398 399 400 401 746 747
noncomputable def zeN (P:Params):=uO "read_words" "read_words" (S 35) "beatless.programs" 535 402
def zeM (P:Params):=tO #[]
def zoC (P:Params):=vO #[]
noncomputable def zeL (P:Params):=tO #[(.str "row" 752),(.str "first" 753),(.str "words" 754)]
def zeK (P:Params):=tO #[]
noncomputable def zoB (P:Params):=gO "read_row" "read_row" (S 36)
noncomputable def zeJ (P:Params):=cO "read_row" "read_row" 749 750 751 190 2 3 404 405 406 407 408 755 756
noncomputable def zeI (P:Params):=uO "read_row" "read_row" (S 36) "beatless.programs" 535 409
def zeH (P:Params):=tO #[]
def zoA (P:Params):=vO #[]
noncomputable def zeG (P:Params):=tO #[(.str "text" 761),(.str "rows" 762),(.str "exprs" 763),(.str "at" 764),(.str "first" 765),(.str "expr" 766)]
def zeF (P:Params):=tO #[]
noncomputable def zoz (P:Params):=gO "read_program" "read_program" (S 37)
noncomputable def zeE (P:Params):=cO "read_program" "read_program" 758 759 760 193 1 3 411 412 413 414 415 767 768
noncomputable def zeD (P:Params):=uO "read_program" "read_program" (S 37) "beatless.programs" 535 416
def zoy (P:Params):=tO #[]
def zox (P:Params):=vO #[]
noncomputable def zow (P:Params):=tO #[(.str "_law_script" 775),(.str "_law_k" 776)]
def zov (P:Params):=tO #[]
noncomputable def zou (P:Params):=gO "_law_cell_at" "_law_cell_at" (S 39)
noncomputable def zot (P:Params):=cO "_law_cell_at" "_law_cell_at" 772 773 774 207 2 3 418 419 420 421 422 777 778
noncomputable def zos (P:Params):=uO "_law_cell_at" "_law_cell_at" (S 39) "law_beatless_k12_whole_texts_read" 770 423
def zeC (P:Params):=tO #[]
def zor (P:Params):=vO #[]
noncomputable def zeB (P:Params):=tO #[(.str "_law_state" 783),(.str "_law_base" 784),(.str "_law_cell" 785),(.str "_law_found_here" 786),(.str "_law_number_here" 787)]
def zeA (P:Params):=tO #[]
noncomputable def zoq (P:Params):=gO "_law_digit" "_law_digit" (S 40)
noncomputable def zez (P:Params):=cO "_law_digit" "_law_digit" 780 781 782 211 2 3 425 426 427 428 429 788 789
noncomputable def zey (P:Params):=uO "_law_digit" "_law_digit" (S 40) "law_beatless_k12_whole_texts_read" 770 430
def zex (P:Params):=tO #[]
def zop (P:Params):=vO #[]
noncomputable def zew (P:Params):=tO #[(.str "_law_state" 794),(.str "_law_names" 795),(.str "_law_words" 796),(.str "_law_lacking" 797),(.str "_law_kind" 798),(.str "_law_word" 799),(.str "_law_k" 800),(.str "_law_odd" 801)]
def zev (P:Params):=tO #[]
noncomputable def zoo (P:Params):=gO "_law_row" "_law_row" (S 41)
noncomputable def zeu (P:Params):=cO "_law_row" "_law_row" 791 792 793 224 2 3 432 433 434 435 436 802 803
noncomputable def zet (P:Params):=uO "_law_row" "_law_row" (S 41) "law_beatless_k12_whole_texts_read" 770 437
def zes (P:Params):=tO #[]
def zon (P:Params):=vO #[]
noncomputable def zer (P:Params):=tO #[(.str "_law_state" 808),(.str "_law_rows" 809),(.str "_law_signs" 810),(.str "_law_k" 811),(.str "_law_row_here" 812),(.str "_law_at" 813),(.str "_law_sign" 814)]
def zeq (P:Params):=tO #[]
noncomputable def zom (P:Params):=gO "_law_signed" "_law_signed" (S 42)
noncomputable def zep (P:Params):=cO "_law_signed" "_law_signed" 805 806 807 255 2 3 439 440 441 442 443 815 816
noncomputable def zeo (P:Params):=uO "_law_signed" "_law_signed" (S 42) "law_beatless_k12_whole_texts_read" 770 444
def zen (P:Params):=tO #[]
def zol (P:Params):=vO #[]
noncomputable def zok (P:Params):=gO "_law_number" "_law_number" (S 43)
noncomputable def zem (P:Params):=Obj.mk (.type "code") .none (Data.fields #[(.str "_law_number" 818),(.str "_law_number" 819),(.str "/claim/cut.py" 820),(.int 263 0),(.int 1 0),(.int 0 0),(.int 0 0),(.int 3 0),(.ref 446),(.bool true),(.int 181 0),(.ref 447),.none,.none,.none,(.ref 448),(.int 821 0),(.int 263 0),(.str "/claim/cut.py" 822)]) #[]
noncomputable def zel (P:Params):=uO "_law_number" "_law_number" (S 43) "law_beatless_k12_whole_texts_read" 770 449
def zek (P:Params):=tO #[]
def zoj (P:Params):=vO #[]
noncomputable def zej (P:Params):=tO #[(.str "_law_words" 827),(.str "_law_at" 828),(.str "_law_names" 829),(.str "_law_many" 830),(.str "_law_word" 831),(.str "_law_parts" 832),(.str "_law_k" 833),(.str "_law_part" 834)]
def zei (P:Params):=tO #[]
noncomputable def zoi (P:Params):=gO "_law_parsed" "_law_parsed" (S 44)
noncomputable def zeh (P:Params):=cO "_law_parsed" "_law_parsed" 824 825 826 272 2 3 451 452 453 454 455 835 836
noncomputable def zeg (P:Params):=uO "_law_parsed" "_law_parsed" (S 44) "law_beatless_k12_whole_texts_read" 770 456
def zef (P:Params):=tO #[]
def zoh (P:Params):=vO #[]
noncomputable def zee (P:Params):=tO #[(.str "_law_told" 841),(.str "_law_names" 842),(.str "_law_deep" 843),(.str "_law_words" 844),(.str "_law_good" 845),(.str "_law_part" 846),(.str "_law_found_here" 847)]
def zed (P:Params):=tO #[]
noncomputable def zog (P:Params):=gO "_law_look" "_law_look" (S 45)
noncomputable def zec (P:Params):=cO "_law_look" "_law_look" 838 839 840 294 3 3 458 459 460 461 462 848 849
noncomputable def zeb (P:Params):=uO "_law_look" "_law_look" (S 45) "law_beatless_k12_whole_texts_read" 770 463
def zea (P:Params):=tO #[]
def zof (P:Params):=vO #[]
noncomputable def zd9 (P:Params):=tO #[(.str "_law_rows" 854),(.str "_law_at_send" 855),(.str "_law_at_end" 856),(.str "_law_told" 857),(.str "_law_k" 858),(.str "_law_head" 859),(.str "_law_found_here" 860),(.str "_law_words" 861),(.str "_law_one" 862),(.str "_law_names" 863)]
def zd8 (P:Params):=tO #[]
noncomputable def zoe (P:Params):=gO "_law_due" "_law_due" (S 46)
noncomputable def zd7 (P:Params):=cO "_law_due" "_law_due" 851 852 853 310 1 3 465 466 467 468 469 864 865
noncomputable def zd6 (P:Params):=uO "_law_due" "_law_due" (S 46) "law_beatless_k12_whole_texts_read" 770 470
def zd5 (P:Params):=tO #[]
def zod (P:Params):=vO #[]
noncomputable def zoc (P:Params):=gO "_law_found" "_law_found" (S 47)
noncomputable def zd4 (P:Params):=Obj.mk (.type "code") .none (Data.fields #[(.str "_law_found" 867),(.str "_law_found" 868),(.str "/claim/cut.py" 869),(.int 332 0),(.int 1 0),(.int 0 0),(.int 0 0),(.int 3 0),(.ref 472),(.bool true),(.int 181 0),(.ref 473),.none,.none,.none,(.ref 474),(.int 870 0),(.int 332 0),(.str "/claim/cut.py" 871)]) #[]
noncomputable def zd3 (P:Params):=uO "_law_found" "_law_found" (S 47) "law_beatless_k12_whole_texts_read" 770 475
noncomputable def zd2 (P:Params):=tO #[]
def zob (P:Params):=vO #[]
noncomputable def zd1 (P:Params):=tO #[(.str "_law_script" 876),(.str "_law_at_end" 877),(.str "_law_cell" 878),(.str "_law_state" 879),(.str "_law_rows" 880),(.str "_law_pools" 881),(.str "_law_head" 882),(.str "_law_names" 883)]
def zd0 (P:Params):=tO #[]
noncomputable def zoa (P:Params):=gO "law" "law" (S 48)
noncomputable def zdZ (P:Params):=cO "law" "law" 873 874 875 342 1 3 477 478 479 480 481 884 885
noncomputable def zdY (P:Params):=uO "law" "law" (S 48) "law_beatless_k12_whole_texts_read" 770 482
noncomputable def zhr:=BT.node (o14 P) (BT.node (o30 P) (BT.node (o65 P) (BT.node (zg1 P) (zkB P) (BT.node (zoG P) .nil .nil)) (BT.node (zgE P) (zjk P) (BT.node (zoi P) .nil .nil))) (BT.node (VG P) (BT.node (zaG P) (zjj P) (BT.node (zot P) .nil .nil)) (zji P))) (BT.node (o49 P) (BT.node (o84 P) (BT.node (zaN P) (zkz P) (BT.node (zeK P) .nil .nil)) (BT.node (zgv P) (zjh P) (BT.node (zd6 P) .nil .nil))) (BT.node (zbb P) (BT.node (zav P) (zjg P) (BT.node (zes P) .nil .nil)) (zjf P)))
noncomputable def zhq:=BT.node (o18 P) (BT.node (o34 P) (BT.node (U3 P) (BT.node (zaW P) (zkr P) (BT.node (zeT P) .nil .nil)) (BT.node (zgB P) (zi8 P) (BT.node (zoh P) .nil .nil))) (BT.node (VD P) (BT.node (zgM P) (zi7 P) (BT.node (zeB P) .nil .nil)) (zi6 P))) (BT.node (o53 P) (BT.node (o88 P) (BT.node (zaK P) (zkp P) (BT.node (zeH P) .nil .nil)) (BT.node (zaa P) (zi5 P) (BT.node (zd4 P) .nil .nil))) (BT.node (za8 P) (BT.node (zas P) (zi4 P) (BT.node (zom P) .nil .nil)) (zi3 P)))
noncomputable def zhp:=BT.node (o0 P) (BT.node (o10 P) (BT.node (o26 P) (BT.node (o61 P) (zje P) (BT.node (zam P) (zjd P) (BT.node (zek P) .nil .nil))) (BT.node (o96 P) (BT.node (zgR P) (zkv P) (BT.node (zox P) .nil .nil)) (BT.node (U4 P) (zjc P) (BT.node (zdY P) .nil .nil)))) (BT.node (o45 P) (BT.node (o80 P) (BT.node (zaQ P) (zkt P) (BT.node (zeN P) .nil .nil)) (BT.node (zgw P) (zjb P) (BT.node (zd9 P) .nil .nil))) (BT.node (Vx P) (BT.node (zay P) (zja P) (BT.node (zev P) .nil .nil)) (zi9 P)))) (zhq P)
noncomputable def zho:=BT.node (o16 P) (BT.node (o32 P) (BT.node (o67 P) (BT.node (zaX P) (zkh P) (BT.node (zeU P) .nil .nil)) (BT.node (zgD P) (ziW P) (BT.node (zeg P) .nil .nil))) (BT.node (zbf P) (BT.node (zaF P) (ziV P) (BT.node (zeC P) .nil .nil)) (ziU P))) (BT.node (o51 P) (BT.node (o86 P) (BT.node (zaM P) (zkf P) (BT.node (zeJ P) .nil .nil)) (BT.node (zab P) (ziT P) (BT.node (zod P) .nil .nil))) (BT.node (zba P) (BT.node (zgI P) (ziS P) (BT.node (zer P) .nil .nil)) (ziR P)))
noncomputable def zhn:=BT.node (o20 P) (BT.node (o36 P) (BT.node (o71 P) (BT.node (zaU P) (zj7 P) (BT.node (zeR P) .nil .nil)) (BT.node (zgz P) (zcl P) (BT.node (zed P) .nil .nil))) (BT.node (zbe P) (BT.node (zaC P) (zck P) (BT.node (zoq P) .nil .nil)) (zcj P))) (BT.node (o55 P) (BT.node (o90 P) (BT.node (zaI P) (zj5 P) (BT.node (zeG P) .nil .nil)) (BT.node (U8 P) (zci P) (BT.node (zd2 P) .nil .nil))) (BT.node (za6 P) (BT.node (zgH P) (zch P) (BT.node (zeo P) .nil .nil)) (zcg P)))
noncomputable def zhm:=BT.node (o2 P) (BT.node (o12 P) (BT.node (o28 P) (BT.node (o63 P) (zcr P) (BT.node (zak P) (zcq P) (BT.node (zej P) .nil .nil))) (BT.node (o98 P) (BT.node (zgP P) (zjs P) (BT.node (zov P) .nil .nil)) (zcp P))) (BT.node (o47 P) (BT.node (o82 P) (BT.node (zgX P) (zka P) (BT.node (zoC P) .nil .nil)) (BT.node (zae P) (zco P) (BT.node (zoe P) .nil .nil))) (BT.node (Vv P) (BT.node (zaw P) (zcn P) (BT.node (zeu P) .nil .nil)) (zcm P)))) (zhn P)
def zhl:=BT.node (boot_o_5 P) (BT.node (boot_o_9 P) (BT.node (o8 P) (BT.node (o24 P) (BT.node (o59 P) (zi2 P) (BT.node (zao P) (zi1 P) (BT.node (zem P) .nil .nil))) (BT.node (o94 P) (BT.node (zgT P) (zkl P) (BT.node (zeD P) .nil .nil)) (BT.node (zgs P) (zi0 P) (BT.node (zoa P) .nil .nil)))) (BT.node (o43 P) (BT.node (o78 P) (BT.node (zgY P) (zkj P) (BT.node (zoD P) .nil .nil)) (BT.node (zah P) (ziZ P) (BT.node (zea P) .nil .nil))) (BT.node (Vz P) (BT.node (zaz P) (ziY P) (BT.node (zop P) .nil .nil)) (ziX P)))) (zho P)) (zhm P)
noncomputable def zhk:=BT.node (o15 P) (BT.node (o31 P) (BT.node (o66 P) (BT.node (zaY P) (zjX P) (BT.node (zeV P) .nil .nil)) (BT.node (zaj P) (zb9 P) (BT.node (zeh P) .nil .nil))) (BT.node (VF P) (BT.node (zgN P) (zb8 P) (BT.node (zos P) .nil .nil)) (zb7 P))) (BT.node (o50 P) (BT.node (o85 P) (BT.node (zgW P) (zjV P) (BT.node (zoB P) .nil .nil)) (BT.node (zac P) (zb6 P) (BT.node (zd5 P) .nil .nil))) (BT.node (Vu P) (BT.node (zau P) (zb5 P) (BT.node (zon P) .nil .nil)) (zb4 P)))
noncomputable def zhj:=BT.node (o19 P) (BT.node (o35 P) (BT.node (o70 P) (BT.node (zaV P) (zjO P) (BT.node (zeS P) .nil .nil)) (BT.node (zgA P) (zbX P) (BT.node (zee P) .nil .nil))) (BT.node (VC P) (BT.node (zaD P) (zbW P) (BT.node (zeA P) .nil .nil)) (zbV P))) (BT.node (o54 P) (BT.node (o89 P) (BT.node (zaJ P) (zjM P) (BT.node (zoA P) .nil .nil)) (BT.node (U9 P) (zbU P) (BT.node (zd3 P) .nil .nil))) (BT.node (za7 P) (BT.node (zar P) (zbT P) (BT.node (zep P) .nil .nil)) (zbS P)))
noncomputable def zhi:=BT.node (zoH P) (BT.node (o11 P) (BT.node (o27 P) (BT.node (o62 P) (zb3 P) (BT.node (zal P) (zb2 P) (BT.node (zoj P) .nil .nil))) (BT.node (o97 P) (BT.node (zgQ P) (zjS P) (BT.node (zow P) .nil .nil)) (zb1 P))) (BT.node (o46 P) (BT.node (o81 P) (BT.node (zaP P) (zjQ P) (BT.node (zeM P) .nil .nil)) (BT.node (zaf P) (zb0 P) (BT.node (zd8 P) .nil .nil))) (BT.node (Vw P) (BT.node (zax P) (zbZ P) (BT.node (zoo P) .nil .nil)) (zbY P)))) (zhj P)
noncomputable def zhh:=BT.node (o17 P) (BT.node (o33 P) (BT.node (o68 P) (BT.node (zg0 P) (zjF P) (BT.node (zoF P) .nil .nil)) (BT.node (zgC P) (zbL P) (BT.node (zef P) .nil .nil))) (BT.node (VE P) (BT.node (zaE P) (zbK P) (BT.node (zor P) .nil .nil)) (zbJ P))) (BT.node (o52 P) (BT.node (o87 P) (BT.node (zaL P) (zjD P) (BT.node (zeI P) .nil .nil)) (BT.node (zgu P) (zbI P) (BT.node (zoc P) .nil .nil))) (BT.node (za9 P) (BT.node (zat P) (zbH P) (BT.node (zeq P) .nil .nil)) (zbG P)))
noncomputable def zhg:=BT.node (o21 P) (BT.node (o37 P) (BT.node (o72 P) (BT.node (zgZ P) (zjx P) (BT.node (zoE P) .nil .nil)) (BT.node (zgy P) (zbz P) (BT.node (zog P) .nil .nil))) (BT.node (VB P) (BT.node (zaB P) (zby P) (BT.node (zez P) .nil .nil)) (zbx P))) (BT.node (o56 P) (BT.node (o91 P) (BT.node (zgV P) (zjv P) (BT.node (zeF P) .nil .nil)) (BT.node (zgt P) (zbw P) (BT.node (zob P) .nil .nil))) (BT.node (za5 P) (BT.node (zaq P) (zbv P) (BT.node (zen P) .nil .nil)) (zbu P)))
noncomputable def zhf:=BT.node (o3 P) (BT.node (o13 P) (BT.node (o29 P) (BT.node (o64 P) (BT.node (zaZ P) (zjB P) (BT.node (zeW P) .nil .nil)) (BT.node (zgF P) (zbF P) (BT.node (zei P) .nil .nil))) (BT.node (o99 P) (BT.node (zgO P) (zbE P) (BT.node (zou P) .nil .nil)) (zbD P))) (BT.node (o48 P) (BT.node (o83 P) (BT.node (zaO P) (zjz P) (BT.node (zeL P) .nil .nil)) (BT.node (zad P) (zbC P) (BT.node (zd7 P) .nil .nil))) (BT.node (zbc P) (BT.node (zgJ P) (zbB P) (BT.node (zet P) .nil .nil)) (zbA P)))) (zhg P)
def zhe:=BT.node (boot_o_6 P) (BT.node (boot_o_10 P) (BT.node (o9 P) (BT.node (o25 P) (BT.node (o60 P) (zbR P) (BT.node (zan P) (zbQ P) (BT.node (zel P) .nil .nil))) (BT.node (o95 P) (BT.node (zgS P) (zjJ P) (BT.node (zoy P) .nil .nil)) (BT.node (U5 P) (zbP P) (BT.node (zdZ P) .nil .nil)))) (BT.node (o44 P) (BT.node (o79 P) (BT.node (zaR P) (zjH P) (BT.node (zeO P) .nil .nil)) (BT.node (zag P) (zbO P) (BT.node (zof P) .nil .nil))) (BT.node (Vy P) (BT.node (zgK P) (zbN P) (BT.node (zew P) .nil .nil)) (zbM P)))) (zhh P)) (zhf P)
def zhd:=BT.node (boot_o_2 P) (BT.node (boot_o_4 P) (BT.node (boot_o_8 P) (BT.node (o7 P) (BT.node (o23 P) (BT.node (o58 P) (zcf P) (BT.node (zgG P) (zce P) (BT.node (zok P) .nil .nil))) (BT.node (o93 P) (BT.node (zaH P) (zj1 P) (BT.node (zeE P) .nil .nil)) (BT.node (U6 P) (zcd P) (BT.node (zd0 P) .nil .nil)))) (BT.node (o42 P) (BT.node (o77 P) (BT.node (zaS P) (zjZ P) (BT.node (zeP P) .nil .nil)) (BT.node (zgx P) (zcc P) (BT.node (zeb P) .nil .nil))) (BT.node (zbd P) (BT.node (zaA P) (zcb P) (BT.node (zex P) .nil .nil)) (zca P)))) (zhk P)) (zhi P)) (zhe P)
def zhc:=BT.node (boot_o_0 P) (BT.node (boot_o_1 P) (BT.node (zeX P) (BT.node (boot_o_7 P) (BT.node (o6 P) (BT.node (o40 P) (BT.node (o57 P) (zjq P) (BT.node (zap P) (zjp P) (BT.node (zol P) .nil .nil))) (BT.node (o92 P) (BT.node (zgU P) (zkF P) (BT.node (zoz P) .nil .nil)) (BT.node (U7 P) (zjo P) (BT.node (zd1 P) .nil .nil)))) (BT.node (o41 P) (BT.node (o73 P) (BT.node (zaT P) (zkD P) (BT.node (zeQ P) .nil .nil)) (BT.node (zai P) (zjn P) (BT.node (zec P) .nil .nil))) (BT.node (VA P) (BT.node (zgL P) (zjm P) (BT.node (zey P) .nil .nil)) (zjl P)))) (zhr P)) (zhp P)) (zhl P)) (zhd P)
def zn4 (w:World) (os:OsState):SharedT:=⟨(zhc w.params),484,(Life.mk [] [] [] 0 [] [] false #[] [] 0 false false false 0 [2000,10,10] false 0 true [] [] 0 false),⟨[]⟩,(Drawn.mk 0 0 0 0),887,os⟩
def L9 (w:World) (os:OsState):Option (Flow×SharedT×Code×Pos):=segRunT treeTable PySem.Challenge.pw_beatless_k12_whole_texts_read w 11 an 1 468 (sb9 w os) (piecesOf znO env cE (Pos.mk 168 0 169 25) B)
def R9 (w:World) (os:OsState):Option (Flow×SharedT×Code×Pos):=some (.next,zn4 w os,cE,(Pos.mk 342 0 360 15))
theorem q9:tt (Hd.L9,Hd.R9)=true:=by k_qdec
theorem r9:∀ w,Fast.tw16134767483146388640 w=Fast.tw11929225935839250262 w:=fun w=>by kernel_rfl
theorem e9 (w:World) (os:OsState):Hd.L9 w os=Hd.R9 w os :=
 (congrFun (congrFun Fast.te16134767483146388640 w) os).trans ((congrFun (r9 w) os).trans (congrFun (congrFun Fast.te11929225935839250262 w) os).symm)
noncomputable def h40:List Obj:=zd0 P::zoa P::zdZ P::zdY P::[]
noncomputable def h39:List Obj:=zd8 P::zoe P::zd7 P::zd6 P::zd5 P::zod P::zoc P::zd4 P::zd3 P::zd2 P::zob P::zd1 P::h40 P
noncomputable def h38:List Obj:=zeh P::zeg P::zef P::zoh P::zee P::zed P::zog P::zec P::zeb P::zea P::zof P::zd9 P::h39 P
noncomputable def h37:List Obj:=zep P::zeo P::zen P::zol P::zok P::zem P::zel P::zek P::zoj P::zej P::zei P::zoi P::h38 P
noncomputable def h36:List Obj:=zex P::zop P::zew P::zev P::zoo P::zeu P::zet P::zes P::zon P::zer P::zeq P::zom P::h37 P
noncomputable def h35:List Obj:=zow P::zov P::zou P::zot P::zos P::zeC P::zor P::zeB P::zeA P::zoq P::zez P::zey P::h36 P
noncomputable def h34:List Obj:=zoB P::zeJ P::zeI P::zeH P::zoA P::zeG P::zeF P::zoz P::zeE P::zeD P::zoy P::zox P::h35 P
noncomputable def h33:List Obj:=zeS P::zeR P::zoE P::zeQ P::zeP P::zoD P::zeO P::zeN P::zeM P::zoC P::zeL P::zeK P::h34 P
noncomputable def h32:List Obj:=zoJ P::ze1 P::ze0 P::zoI P::zeZ P::zeY P::zeW P::zoG P::zeV P::zeU P::zoF P::zeT P::h33 P
noncomputable def h31:List Obj:=ze9 P::ze8 P::zoN P::zoM P::ze7 P::zoL P::ze6 P::ze5 P::zoK P::ze4 P::ze3 P::ze2 P::h32 P
noncomputable def h30:List Obj:=zfj P::zfi P::zfh P::zoP P::zfg P::zff P::zoO P::zfe P::zfd P::zfc P::zfb P::zfa P::h31 P
noncomputable def h29:List Obj:=zfr P::zoT P::zfq P::zfp P::zoS P::zfo P::zfn P::zfm P::zoR P::zfl P::zfk P::zoQ P::h30 P
noncomputable def h28:List Obj:=zo0 P::zoZ P::zoY P::zoX P::zoW P::zfw P::zoV P::zfv P::zfu P::zoU P::zft P::zfs P::h29 P
noncomputable def h27:List Obj:=zfD P::zfC P::zo5 P::zfB P::zfA P::zfz P::zo4 P::zo3 P::zfy P::zfx P::zo2 P::zo1 P::h28 P
noncomputable def h26:List Obj:=zo9 P::zfL P::zfK P::zfJ P::zo8 P::zfI P::zfH P::zo7 P::zfG P::zfF P::zfE P::zo6 P::h27 P
noncomputable def h25:List Obj:=zfU P::zfT P::zpc P::zfS P::zfR P::zpb P::zfQ P::zfP P::zfO P::zpa P::zfN P::zfM P::h26 P
noncomputable def h24:List Obj:=zf4 P::zf3 P::zf2 P::zf1 P::zf0 P::zfZ P::zfY P::zpe P::zfX P::zfW P::zpd P::zfV P::h25 P
noncomputable def h23:List Obj:=zgc P::zgb P::zpi P::zph P::zga P::zpg P::zf9 P::zf8 P::zpf P::zf7 P::zf6 P::zf5 P::h24 P
noncomputable def h22:List Obj:=zgl P::zpl P::zgk P::zgj P::zgi P::zpk P::zgh P::zgg P::zpj P::zgf P::zge P::zgd P::h23 P
noncomputable def h21:List Obj:=zc9 P::zc8 P::zc7 P::zpo P::zgr P::zgq P::zpn P::zgp P::zgo P::zgn P::zpm P::zgm P::h22 P
noncomputable def h20:List Obj:=zdd P::zis P::zir P::ziq P::zio P::zin P::zim P::zdc P::zil P::zdb P::zda P::zik P::h21 P
noncomputable def h19:List Obj:=zdl P::ziw P::zdk P::zdj P::ziv P::zdi P::zdh P::zdg P::zdf P::zde P::ziu P::zit P::h20 P
noncomputable def h18:List Obj:=zac P::zab P::zgu P::zaa P::U9 P::U8 P::zgt P::U7 P::U6 P::zgs P::U5 P::U4 P::h19 P
noncomputable def h17:List Obj:=zgA P::zgz P::zgy P::zai P::zgx P::zah P::zag P::zgw P::zaf P::zae P::zad P::zgv P::h18 P
noncomputable def h16:List Obj:=zgG P::zao P::zan P::zam P::zal P::zak P::zgF P::zgE P::zaj P::zgD P::zgC P::zgB P::h17 P
noncomputable def h15:List Obj:=zax P::zaw P::zgJ P::zav P::zau P::zgI P::zat P::zas P::zar P::zgH P::zaq P::zap P::h16 P
noncomputable def h14:List Obj:=zgN P::zaF P::zaE P::zgM P::zaD P::zaC P::zaB P::zgL P::zaA P::zaz P::zgK P::zay P::h15 P
noncomputable def h13:List Obj:=zaJ P::zaI P::zgV P::zgU P::zaH P::zgT P::zgS P::zgR P::zgQ P::zgP P::zgO P::zaG P::h14 P
noncomputable def h12:List Obj:=zaS P::zgY P::zaR P::zaQ P::zaP P::zgX P::zaO P::zaN P::zgW P::zaM P::zaL P::zaK P::h13 P
noncomputable def h11:List Obj:=za1 P::za0 P::zaZ P::zg1 P::zaY P::zaX P::zg0 P::zaW P::zaV P::zaU P::zgZ P::zaT P::h12 P
noncomputable def h10:List Obj:=Vu P::zba P::za9 P::za8 P::za7 P::za6 P::za5 P::za4 P::zg3 P::za3 P::za2 P::zg2 P::h11 P
noncomputable def h9:List Obj:=VC P::zbe P::VB P::VA P::zbd P::Vz P::Vy P::Vx P::Vw P::Vv P::zbc P::zbb P::h10 P
noncomputable def h8:List Obj:=o93 P::o94 P::o95 P::o96 P::o97 P::o98 P::o99 P::VG P::VF P::zbf P::VE P::VD P::h9 P
noncomputable def h7:List Obj:=o81 P::o82 P::o83 P::o84 P::o85 P::o86 P::o87 P::o88 P::o89 P::o90 P::o91 P::o92 P::h8 P
noncomputable def h6:List Obj:=o66 P::o67 P::o68 P::U3 P::o70 P::o71 P::o72 P::o73 P::o77 P::o78 P::o79 P::o80 P::h7 P
noncomputable def h5:List Obj:=o54 P::o55 P::o56 P::o57 P::o58 P::o59 P::o60 P::o61 P::o62 P::o63 P::o64 P::o65 P::h6 P
noncomputable def h4:List Obj:=o42 P::o43 P::o44 P::o45 P::o46 P::o47 P::o48 P::o49 P::o50 P::o51 P::o52 P::o53 P::h5 P
noncomputable def h3:List Obj:=o27 P::o28 P::o29 P::o30 P::o31 P::o32 P::o33 P::o34 P::o35 P::o36 P::o37 P::o41 P::h4 P
noncomputable def h2:List Obj:=o15 P::o16 P::o17 P::o18 P::o19 P::o20 P::o21 P::o40 P::o23 P::o24 P::o25 P::o26 P::h3 P
noncomputable def h1:List Obj:=zoH P::o2 P::o3 P::o6 P::o7 P::o8 P::o9 P::o10 P::o11 P::o12 P::o13 P::o14 P::h2 P
def h0:List Obj:=boot_o_0 P::boot_o_1 P::boot_o_2 P::zeX P::boot_o_4 P::boot_o_5 P::boot_o_6 P::boot_o_7 P::boot_o_8 P::boot_o_9 P::boot_o_10 P::o0 P::h1 P
def H1:Heap:=⟨⟨h0 P⟩,(Life.mk [] [] [] 0 [] [] false #[] [] 0 false false false 0 [2000,10,10] false 0 true [] [] 0 false)⟩
def sf (w:World) (os:OsState):Shared:=⟨H1 w.params,⟨[]⟩,(Drawn.mk 0 0 0 0),887,os⟩
def Lf (w:World) (os:OsState):Option Shared:=topRun treeTable PySem.Challenge.pw_beatless_k12_whole_texts_read w 11 an 2 (zn4 w os).abs ⟨doneF .next,cE,(Pos.mk 342 0 360 15),B⟩
def Rf (w:World) (os:OsState):Option Shared:=some (sf w os)
theorem qf:tt (Hd.Lf,Hd.Rf)=true:=by k_qdec
theorem rf:∀ w,Fast.tw2640074843757178226 w=Fast.tw15533242664859900563 w:=fun w=>by kernel_rfl
theorem ef (w:World) (os:OsState):Hd.Lf w os=Hd.Rf w os :=
 (congrFun (congrFun Fast.te2640074843757178226 w) os).trans ((congrFun (rf w) os).trans (congrFun (congrFun Fast.te15533242664859900563 w) os).symm)
theorem cut:bE=znX++(znW++(znV++(znU++(znT++(znS++(znR++(znQ++(znP++(znO++([])))))))))):=by kernel_rfl
theorem run (w:World) (os:OsState):topRun treeTable PySem.Challenge.pw_beatless_k12_whole_texts_read w 11 an (12+(1+(438+(445+(340+(340+(346+(342+(485+(101+(598+(468+2)))))))))))) (s0 w os) (topStub PySem.Challenge.pw_beatless_k12_whole_texts_read)=some (sf w os):=by
 refine go_top (ea w os) (piece_block (q:=qE) (env:=env) (b:=bE) (segRun_of (eb w os)) ?_)
 rw[show restOf bE env cE (Pos.mk 0 0 0 0) [topFrame qE]=restOf _ env cE _ [topFrame qE] from congrArg (fun l=>restOf l env cE (Pos.mk 0 0 0 0) [topFrame qE]) cut]
 refine piece_app (segRun_of (e0 w os)) ?_
 refine piece_app (segRun_of (e1 w os)) ?_
 refine piece_app (segRun_of (e2 w os)) ?_
 refine piece_app (segRun_of (e3 w os)) ?_
 refine piece_app (segRun_of (e4 w os)) ?_
 refine piece_app (segRun_of (e5 w os)) ?_
 refine piece_app (segRun_of (e6 w os)) ?_
 refine piece_app (segRun_of (e7 w os)) ?_
 refine piece_app (segRun_of (e8 w os)) ?_
 refine piece_app (segRun_of (e9 w os)) ?_
 exact ef w os
def M:Nat:=12+(1+(438+(445+(340+(340+(346+(342+(485+(101+(598+(468+2)))))))))))
noncomputable abbrev rW:RowW:=(PySem.Challenge.rw_beatless_k12_whole_texts_read.row).toRowW
noncomputable def Q:Program:={ PySem.Challenge.pw_beatless_k12_whole_texts_read with main:={ PySem.Challenge.pw_beatless_k12_whole_texts_read.main with body:=[S 0,S 2,S 3,S 4,S 6,S 7,S 8,S 9,S 10,S 11,S 13,S 15,S 16,S 17,S 18,S 19,S 20,S 21,S 22,S 23,S 24,S 25,S 26,S 27,S 28,S 29,S 30,S 31,S 32,S 33,S 34,S 35,S 36,S 37,S 39,S 40,S 41,S 42,S 43,S 44,S 45,S 46,S 47,S 48] } }
noncomputable def Xt (s:Shared):Bool:=xlAt Q [] s&&recOk (RowW.records rW) s
def K:Frag:=(nat_lit 2,boot_o_2 P)::(nat_lit 3,zeX P)::(nat_lit 15,o6 P)::(nat_lit 17,o8 P)::(nat_lit 18,o9 P)::(nat_lit 20,o11 P)::(nat_lit 21,o12 P)::(nat_lit 22,o13 P)::(nat_lit 29,o20 P)::(nat_lit 30,o21 P)::(nat_lit 31,o40 P)::(nat_lit 32,o23 P)::(nat_lit 35,o26 P)::(nat_lit 42,o33 P)::(nat_lit 43,o34 P)::(nat_lit 44,o35 P)::(nat_lit 47,o41 P)::(nat_lit 54,o48 P)::(nat_lit 56,o50 P)::(nat_lit 57,o51 P)::(nat_lit 59,o53 P)::(nat_lit 60,o54 P)::(nat_lit 61,o55 P)::(nat_lit 62,o56 P)::(nat_lit 63,o57 P)::(nat_lit 73,o67 P)::(nat_lit 74,o68 P)::(nat_lit 75,U3 P)::(nat_lit 76,o70 P)::(nat_lit 77,o71 P)::(nat_lit 80,o77 P)::(nat_lit 87,o84 P)::(nat_lit 89,o86 P)::(nat_lit 90,o87 P)::(nat_lit 92,o89 P)::(nat_lit 93,o90 P)::(nat_lit 94,o91 P)::(nat_lit 96,o93 P)::(nat_lit 97,o94 P)::(nat_lit 99,o96 P)::(nat_lit 100,o97 P)::(nat_lit 101,o98 P)::(nat_lit 103,VG P)::(nat_lit 104,VF P)::(nat_lit 106,VE P)::(nat_lit 107,VD P)::(nat_lit 108,VC P)::(nat_lit 110,VB P)::(nat_lit 111,VA P)::(nat_lit 113,Vz P)::(nat_lit 114,Vy P)::(nat_lit 115,Vx P)::(nat_lit 116,Vw P)::(nat_lit 117,Vv P)::(nat_lit 120,Vu P)::(nat_lit 127,za4 P)::(nat_lit 129,za3 P)::(nat_lit 130,za2 P)::(nat_lit 132,za1 P)::(nat_lit 133,za0 P)::(nat_lit 134,zaZ P)::(nat_lit 136,zaY P)::(nat_lit 137,zaX P)::(nat_lit 139,zaW P)::(nat_lit 140,zaV P)::(nat_lit 141,zaU P)::(nat_lit 143,zaT P)::(nat_lit 144,zaS P)::(nat_lit 146,zaR P)::(nat_lit 147,zaQ P)::(nat_lit 148,zaP P)::(nat_lit 150,zaO P)::(nat_lit 151,zaN P)::(nat_lit 153,zaM P)::(nat_lit 154,zaL P)::(nat_lit 155,zaK P)::(nat_lit 156,zaJ P)::(nat_lit 157,zaI P)::(nat_lit 160,zaH P)::(nat_lit 167,zaG P)::(nat_lit 169,zaF P)::(nat_lit 170,zaE P)::(nat_lit 172,zaD P)::(nat_lit 173,zaC P)::(nat_lit 174,zaB P)::(nat_lit 176,zaA P)::(nat_lit 177,zaz P)::(nat_lit 179,zay P)::(nat_lit 180,zax P)::(nat_lit 181,zaw P)::(nat_lit 183,zav P)::(nat_lit 184,zau P)::(nat_lit 186,zat P)::(nat_lit 187,zas P)::(nat_lit 188,zar P)::(nat_lit 190,zaq P)::(nat_lit 191,zap P)::(nat_lit 193,zao P)::(nat_lit 194,zan P)::(nat_lit 195,zam P)::(nat_lit 196,zal P)::(nat_lit 197,zak P)::(nat_lit 200,zaj P)::(nat_lit 207,zai P)::(nat_lit 209,zah P)::(nat_lit 210,zag P)::(nat_lit 212,zaf P)::(nat_lit 213,zae P)::(nat_lit 214,zad P)::(nat_lit 216,zac P)::(nat_lit 217,zab P)::(nat_lit 219,zaa P)::(nat_lit 220,U9 P)::(nat_lit 221,U8 P)::(nat_lit 223,U7 P)::(nat_lit 224,U6 P)::(nat_lit 226,U5 P)::(nat_lit 227,U4 P)::(nat_lit 228,zdl P)::(nat_lit 230,zdk P)::(nat_lit 231,zdj P)::(nat_lit 233,zdi P)::(nat_lit 234,zdh P)::(nat_lit 235,zdg P)::(nat_lit 236,zdf P)::(nat_lit 237,zde P)::(nat_lit 240,zdd P)::(nat_lit 247,zdc P)::(nat_lit 249,zdb P)::(nat_lit 250,zda P)::(nat_lit 252,zc9 P)::(nat_lit 253,zc8 P)::(nat_lit 254,zc7 P)::(nat_lit 256,zgr P)::(nat_lit 257,zgq P)::(nat_lit 259,zgp P)::(nat_lit 260,zgo P)::(nat_lit 261,zgn P)::(nat_lit 263,zgm P)::(nat_lit 264,zgl P)::(nat_lit 266,zgk P)::(nat_lit 267,zgj P)::(nat_lit 268,zgi P)::(nat_lit 270,zgh P)::(nat_lit 271,zgg P)::(nat_lit 273,zgf P)::(nat_lit 274,zge P)::(nat_lit 275,zgd P)::(nat_lit 276,zgc P)::(nat_lit 277,zgb P)::(nat_lit 280,zga P)::(nat_lit 282,zf9 P)::(nat_lit 283,zf8 P)::(nat_lit 285,zf7 P)::(nat_lit 286,zf6 P)::(nat_lit 287,zf5 P)::(nat_lit 288,zf4 P)::(nat_lit 289,zf3 P)::(nat_lit 290,zf2 P)::(nat_lit 291,zf1 P)::(nat_lit 292,zf0 P)::(nat_lit 293,zfZ P)::(nat_lit 294,zfY P)::(nat_lit 296,zfX P)::(nat_lit 297,zfW P)::(nat_lit 299,zfV P)::(nat_lit 300,zfU P)::(nat_lit 301,zfT P)::(nat_lit 303,zfS P)::(nat_lit 304,zfR P)::(nat_lit 306,zfQ P)::(nat_lit 307,zfP P)::(nat_lit 308,zfO P)::(nat_lit 310,zfN P)::(nat_lit 311,zfM P)::(nat_lit 313,zfL P)::(nat_lit 314,zfK P)::(nat_lit 315,zfJ P)::(nat_lit 317,zfI P)::(nat_lit 318,zfH P)::(nat_lit 320,zfG P)::(nat_lit 321,zfF P)::(nat_lit 322,zfE P)::(nat_lit 324,zfD P)::(nat_lit 325,zfC P)::(nat_lit 327,zfB P)::(nat_lit 328,zfA P)::(nat_lit 329,zfz P)::(nat_lit 332,zfy P)::(nat_lit 333,zfx P)::(nat_lit 341,zfw P)::(nat_lit 343,zfv P)::(nat_lit 344,zfu P)::(nat_lit 346,zft P)::(nat_lit 347,zfs P)::(nat_lit 348,zfr P)::(nat_lit 350,zfq P)::(nat_lit 351,zfp P)::(nat_lit 353,zfo P)::(nat_lit 354,zfn P)::(nat_lit 355,zfm P)::(nat_lit 357,zfl P)::(nat_lit 358,zfk P)::(nat_lit 360,zfj P)::(nat_lit 361,zfi P)::(nat_lit 362,zfh P)::(nat_lit 364,zfg P)::(nat_lit 365,zff P)::(nat_lit 367,zfe P)::(nat_lit 368,zfd P)::(nat_lit 369,zfc P)::(nat_lit 370,zfb P)::(nat_lit 371,zfa P)::(nat_lit 372,ze9 P)::(nat_lit 373,ze8 P)::(nat_lit 376,ze7 P)::(nat_lit 378,ze6 P)::(nat_lit 379,ze5 P)::(nat_lit 381,ze4 P)::(nat_lit 382,ze3 P)::(nat_lit 383,ze2 P)::(nat_lit 385,ze1 P)::(nat_lit 386,ze0 P)::(nat_lit 388,zeZ P)::(nat_lit 389,zeY P)::(nat_lit 390,zeW P)::(nat_lit 392,zeV P)::(nat_lit 393,zeU P)::(nat_lit 395,zeT P)::(nat_lit 396,zeS P)::(nat_lit 397,zeR P)::(nat_lit 399,zeQ P)::(nat_lit 400,zeP P)::(nat_lit 402,zeO P)::(nat_lit 403,zeN P)::(nat_lit 404,zeM P)::(nat_lit 406,zeL P)::(nat_lit 407,zeK P)::(nat_lit 409,zeJ P)::(nat_lit 410,zeI P)::(nat_lit 411,zeH P)::(nat_lit 413,zeG P)::(nat_lit 414,zeF P)::(nat_lit 416,zeE P)::(nat_lit 417,zeD P)::(nat_lit 425,zeC P)::(nat_lit 427,zeB P)::(nat_lit 428,zeA P)::(nat_lit 430,zez P)::(nat_lit 431,zey P)::(nat_lit 432,zex P)::(nat_lit 434,zew P)::(nat_lit 435,zev P)::(nat_lit 437,zeu P)::(nat_lit 438,zet P)::(nat_lit 439,zes P)::(nat_lit 441,zer P)::(nat_lit 442,zeq P)::(nat_lit 444,zep P)::(nat_lit 445,zeo P)::(nat_lit 446,zen P)::(nat_lit 449,zem P)::(nat_lit 450,zel P)::(nat_lit 451,zek P)::(nat_lit 453,zej P)::(nat_lit 454,zei P)::(nat_lit 456,zeh P)::(nat_lit 457,zeg P)::(nat_lit 458,zef P)::(nat_lit 460,zee P)::(nat_lit 461,zed P)::(nat_lit 463,zec P)::(nat_lit 464,zeb P)::(nat_lit 465,zea P)::(nat_lit 467,zd9 P)::(nat_lit 468,zd8 P)::(nat_lit 470,zd7 P)::(nat_lit 471,zd6 P)::(nat_lit 472,zd5 P)::(nat_lit 475,zd4 P)::(nat_lit 476,zd3 P)::(nat_lit 477,zd2 P)::(nat_lit 479,zd1 P)::(nat_lit 480,zd0 P)::(nat_lit 482,zdZ P)::(nat_lit 483,zdY P)::[]
noncomputable def as:List Addr:=[2,3,15,17,18,20,21,22,29,30,31,32,35,42,43,44,47,54,56,57,59,60,61,62,63,73,74,75,76,77,80,87,89,90,92,93,94,96,97,99,100,101,103,104,106,107,108,110,111,113,114,115,116,117,120,127,129,130,132,133,134,136,137,139,140,141,143,144,146,147,148,150,151,153,154,155,156,157,160,167,169,170,172,173,174,176,177,179,180,181,183,184,186,187,188,190,191,193,194,195,196,197,200,207,209,210,212,213,214,216,217,219,220,221,223,224,226,227,228,230,231,233,234,235,236,237,240,247,249,250,252,253,254,256,257,259,260,261,263,264,266,267,268,270,271,273,274,275,276,277,280,282,283,285,286,287,288,289,290,291,292,293,294,296,297,299,300,301,303,304,306,307,308,310,311,313,314,315,317,318,320,321,322,324,325,327,328,329,332,333,341,343,344,346,347,348,350,351,353,354,355,357,358,360,361,362,364,365,367,368,369,370,371,372,373,376,378,379,381,382,383,385,386,388,389,390,392,393,395,396,397,399,400,402,403,404,406,407,409,410,411,413,414,416,417,425,427,428,430,431,432,434,435,437,438,439,441,442,444,445,446,449,450,451,453,454,456,457,458,460,461,463,464,465,467,468,470,471,472,475,476,477,479,480,482,483]
noncomputable def y23:List (Option Obj):=some (zd7 P)::some (zd6 P)::some (zd5 P)::some (zd4 P)::some (zd3 P)::some (zd2 P)::some (zd1 P)::some (zd0 P)::some (zdZ P)::some (zdY P)::[]
noncomputable def y22:List (Option Obj):=some (zej P)::some (zei P)::some (zeh P)::some (zeg P)::some (zef P)::some (zee P)::some (zed P)::some (zec P)::some (zeb P)::some (zea P)::some (zd9 P)::some (zd8 P)::y23 P
noncomputable def y21:List (Option Obj):=some (zev P)::some (zeu P)::some (zet P)::some (zes P)::some (zer P)::some (zeq P)::some (zep P)::some (zeo P)::some (zen P)::some (zem P)::some (zel P)::some (zek P)::y22 P
noncomputable def y20:List (Option Obj):=some (zeH P)::some (zeG P)::some (zeF P)::some (zeE P)::some (zeD P)::some (zeC P)::some (zeB P)::some (zeA P)::some (zez P)::some (zey P)::some (zex P)::some (zew P)::y21 P
noncomputable def y19:List (Option Obj):=some (zeT P)::some (zeS P)::some (zeR P)::some (zeQ P)::some (zeP P)::some (zeO P)::some (zeN P)::some (zeM P)::some (zeL P)::some (zeK P)::some (zeJ P)::some (zeI P)::y20 P
noncomputable def y18:List (Option Obj):=some (ze6 P)::some (ze5 P)::some (ze4 P)::some (ze3 P)::some (ze2 P)::some (ze1 P)::some (ze0 P)::some (zeZ P)::some (zeY P)::some (zeW P)::some (zeV P)::some (zeU P)::y19 P
noncomputable def y17:List (Option Obj):=some (zfi P)::some (zfh P)::some (zfg P)::some (zff P)::some (zfe P)::some (zfd P)::some (zfc P)::some (zfb P)::some (zfa P)::some (ze9 P)::some (ze8 P)::some (ze7 P)::y18 P
noncomputable def y16:List (Option Obj):=some (zfu P)::some (zft P)::some (zfs P)::some (zfr P)::some (zfq P)::some (zfp P)::some (zfo P)::some (zfn P)::some (zfm P)::some (zfl P)::some (zfk P)::some (zfj P)::y17 P
noncomputable def y15:List (Option Obj):=some (zfG P)::some (zfF P)::some (zfE P)::some (zfD P)::some (zfC P)::some (zfB P)::some (zfA P)::some (zfz P)::some (zfy P)::some (zfx P)::some (zfw P)::some (zfv P)::y16 P
noncomputable def y14:List (Option Obj):=some (zfS P)::some (zfR P)::some (zfQ P)::some (zfP P)::some (zfO P)::some (zfN P)::some (zfM P)::some (zfL P)::some (zfK P)::some (zfJ P)::some (zfI P)::some (zfH P)::y15 P
noncomputable def y13:List (Option Obj):=some (zf4 P)::some (zf3 P)::some (zf2 P)::some (zf1 P)::some (zf0 P)::some (zfZ P)::some (zfY P)::some (zfX P)::some (zfW P)::some (zfV P)::some (zfU P)::some (zfT P)::y14 P
noncomputable def y12:List (Option Obj):=some (zgg P)::some (zgf P)::some (zge P)::some (zgd P)::some (zgc P)::some (zgb P)::some (zga P)::some (zf9 P)::some (zf8 P)::some (zf7 P)::some (zf6 P)::some (zf5 P)::y13 P
noncomputable def y11:List (Option Obj):=some (zc7 P)::some (zgr P)::some (zgq P)::some (zgp P)::some (zgo P)::some (zgn P)::some (zgm P)::some (zgl P)::some (zgk P)::some (zgj P)::some (zgi P)::some (zgh P)::y12 P
noncomputable def y10:List (Option Obj):=some (zdj P)::some (zdi P)::some (zdh P)::some (zdg P)::some (zdf P)::some (zde P)::some (zdd P)::some (zdc P)::some (zdb P)::some (zda P)::some (zc9 P)::some (zc8 P)::y11 P
noncomputable def y9:List (Option Obj):=some (zad P)::some (zac P)::some (zab P)::some (zaa P)::some (U9 P)::some (U8 P)::some (U7 P)::some (U6 P)::some (U5 P)::some (U4 P)::some (zdl P)::some (zdk P)::y10 P
noncomputable def y8:List (Option Obj):=some (zap P)::some (zao P)::some (zan P)::some (zam P)::some (zal P)::some (zak P)::some (zaj P)::some (zai P)::some (zah P)::some (zag P)::some (zaf P)::some (zae P)::y9 P
noncomputable def y7:List (Option Obj):=some (zaB P)::some (zaA P)::some (zaz P)::some (zay P)::some (zax P)::some (zaw P)::some (zav P)::some (zau P)::some (zat P)::some (zas P)::some (zar P)::some (zaq P)::y8 P
noncomputable def y6:List (Option Obj):=some (zaN P)::some (zaM P)::some (zaL P)::some (zaK P)::some (zaJ P)::some (zaI P)::some (zaH P)::some (zaG P)::some (zaF P)::some (zaE P)::some (zaD P)::some (zaC P)::y7 P
noncomputable def y5:List (Option Obj):=some (zaZ P)::some (zaY P)::some (zaX P)::some (zaW P)::some (zaV P)::some (zaU P)::some (zaT P)::some (zaS P)::some (zaR P)::some (zaQ P)::some (zaP P)::some (zaO P)::y6 P
noncomputable def y4:List (Option Obj):=some (VA P)::some (Vz P)::some (Vy P)::some (Vx P)::some (Vw P)::some (Vv P)::some (Vu P)::some (za4 P)::some (za3 P)::some (za2 P)::some (za1 P)::some (za0 P)::y5 P
noncomputable def y3:List (Option Obj):=some (o91 P)::some (o93 P)::some (o94 P)::some (o96 P)::some (o97 P)::some (o98 P)::some (VG P)::some (VF P)::some (VE P)::some (VD P)::some (VC P)::some (VB P)::y4 P
noncomputable def y2:List (Option Obj):=some (o57 P)::some (o67 P)::some (o68 P)::some (U3 P)::some (o70 P)::some (o71 P)::some (o77 P)::some (o84 P)::some (o86 P)::some (o87 P)::some (o89 P)::some (o90 P)::y3 P
noncomputable def y1:List (Option Obj):=some (o26 P)::some (o33 P)::some (o34 P)::some (o35 P)::some (o41 P)::some (o48 P)::some (o50 P)::some (o51 P)::some (o53 P)::some (o54 P)::some (o55 P)::some (o56 P)::y2 P
def y0:List (Option Obj):=some (boot_o_2 P)::some (zeX P)::some (o6 P)::some (o8 P)::some (o9 P)::some (o11 P)::some (o12 P)::some (o13 P)::some (o20 P)::some (o21 P)::some (o40 P)::some (o23 P)::y1 P
theorem asK (P:Params):as=(K P).map (·.1):=by kernel_rfl
theorem yK (P:Params):(K P).map (fun p=>some p.2)=y0 P:=by kernel_rfl
def Ly (w:World) (os:OsState):List (Option Obj):=as.map (sf w os).heap.get?
def Ry (w:World) (_:OsState):List (Option Obj):=y0 w.params
theorem qy:tt (Hd.Ly,Hd.Ry)=true:=by k_qdec
theorem ry:∀ w,Fast.tw691215026958702249 w=Fast.tw5434166109932796141 w:=fun w=>by kernel_rfl
theorem ey (w:World) (os:OsState):Hd.Ly w os=Hd.Ry w os :=
 (congrFun (congrFun Fast.te691215026958702249 w) os).trans ((congrFun (ry w) os).trans (congrFun (congrFun Fast.te5434166109932796141 w) os).symm)
abbrev hk:Hook:=kHook K as asK
abbrev zpq:List Str:=importedModules PySem.Challenge.pw_beatless_k12_whole_texts_read.main.body
def A (w:World) (os:OsState):=openSeen Q ["PARTS"] zpq Xt true (sf w os)
noncomputable def G (_:World) (_:OsState):=openGood Q ["PARTS"]
def A0 (w:World) (os:OsState):=(A w os).1
noncomputable def G0 (w:World) (os:OsState):=(G w os).1
theorem qA0:tt (Hd.A0,Hd.G0)=true:=by k_qdec
theorem rA0:∀ w,Fast.tw6131166808449026830 w=Fast.tw11727352099349840545 w:=fun w=>by kernel_rfl
theorem eA0 (w:World) (os:OsState):Hd.A0 w os=Hd.G0 w os :=
 (congrFun (congrFun Fast.te6131166808449026830 w) os).trans ((congrFun (rA0 w) os).trans (congrFun (congrFun Fast.te11727352099349840545 w) os).symm)
def A1 (w:World) (os:OsState):=(A w os).2.1
noncomputable def G1 (w:World) (os:OsState):=(G w os).2.1
theorem qA1:tt (Hd.A1,Hd.G1)=true:=by k_qdec
theorem rA1:∀ w,Fast.tw7581016493306269660 w=Fast.tw14656944741971684193 w:=fun w=>by kernel_rfl
theorem eA1 (w:World) (os:OsState):Hd.A1 w os=Hd.G1 w os :=
 (congrFun (congrFun Fast.te7581016493306269660 w) os).trans ((congrFun (rA1 w) os).trans (congrFun (congrFun Fast.te14656944741971684193 w) os).symm)
def A2 (w:World) (os:OsState):=(A w os).2.2.1
noncomputable def G2 (w:World) (os:OsState):=(G w os).2.2.1
theorem qA2:tt (Hd.A2,Hd.G2)=true:=by k_qdec
theorem rA2:∀ w,Fast.tw2900191123710467766 w=Fast.tw10880070632800087129 w:=fun w=>by kernel_rfl
theorem eA2 (w:World) (os:OsState):Hd.A2 w os=Hd.G2 w os :=
 (congrFun (congrFun Fast.te2900191123710467766 w) os).trans ((congrFun (rA2 w) os).trans (congrFun (congrFun Fast.te10880070632800087129 w) os).symm)
def A3 (w:World) (os:OsState):=(A w os).2.2.2.1
noncomputable def G3 (w:World) (os:OsState):=(G w os).2.2.2.1
theorem qA3:tt (Hd.A3,Hd.G3)=true:=by k_qdec
theorem rA3:∀ w,Fast.tw447134267514248570 w=Fast.tw4145583888436359099 w:=fun w=>by kernel_rfl
theorem eA3 (w:World) (os:OsState):Hd.A3 w os=Hd.G3 w os :=
 (congrFun (congrFun Fast.te447134267514248570 w) os).trans ((congrFun (rA3 w) os).trans (congrFun (congrFun Fast.te4145583888436359099 w) os).symm)
def A4 (w:World) (os:OsState):=(A w os).2.2.2.2.1
noncomputable def G4 (w:World) (os:OsState):=(G w os).2.2.2.2.1
theorem qA4:tt (Hd.A4,Hd.G4)=true:=by k_qdec
theorem rA4:∀ w,Fast.tw14409291123802741499 w=Fast.tw6531939937263253831 w:=fun w=>by kernel_rfl
theorem eA4 (w:World) (os:OsState):Hd.A4 w os=Hd.G4 w os :=
 (congrFun (congrFun Fast.te14409291123802741499 w) os).trans ((congrFun (rA4 w) os).trans (congrFun (congrFun Fast.te6531939937263253831 w) os).symm)
def A5 (w:World) (os:OsState):=(A w os).2.2.2.2.2.1
noncomputable def G5 (w:World) (os:OsState):=(G w os).2.2.2.2.2.1
theorem qA5:tt (Hd.A5,Hd.G5)=true:=by k_qdec
theorem rA5:∀ w,Fast.tw7163156141784225904 w=Fast.tw5989712690265804088 w:=fun w=>by kernel_rfl
theorem eA5 (w:World) (os:OsState):Hd.A5 w os=Hd.G5 w os :=
 (congrFun (congrFun Fast.te7163156141784225904 w) os).trans ((congrFun (rA5 w) os).trans (congrFun (congrFun Fast.te5989712690265804088 w) os).symm)
def A6 (w:World) (os:OsState):=(A w os).2.2.2.2.2.2.1
noncomputable def G6 (w:World) (os:OsState):=(G w os).2.2.2.2.2.2.1
theorem qA6:tt (Hd.A6,Hd.G6)=true:=by k_qdec
theorem rA6:∀ w,Fast.tw148487786646926683 w=Fast.tw12956129408465502666 w:=fun w=>by kernel_rfl
theorem eA6 (w:World) (os:OsState):Hd.A6 w os=Hd.G6 w os :=
 (congrFun (congrFun Fast.te148487786646926683 w) os).trans ((congrFun (rA6 w) os).trans (congrFun (congrFun Fast.te12956129408465502666 w) os).symm)
def A7 (w:World) (os:OsState):=(A w os).2.2.2.2.2.2.2.1
noncomputable def G7 (w:World) (os:OsState):=(G w os).2.2.2.2.2.2.2.1
theorem qA7:tt (Hd.A7,Hd.G7)=true:=by k_qdec
theorem rA7:∀ w,Fast.tw17782257788342479682 w=Fast.tw9566738594451217396 w:=fun w=>by kernel_rfl
theorem eA7 (w:World) (os:OsState):Hd.A7 w os=Hd.G7 w os :=
 (congrFun (congrFun Fast.te17782257788342479682 w) os).trans ((congrFun (rA7 w) os).trans (congrFun (congrFun Fast.te9566738594451217396 w) os).symm)
def A8 (w:World) (os:OsState):=(A w os).2.2.2.2.2.2.2.2
noncomputable def G8 (w:World) (os:OsState):=(G w os).2.2.2.2.2.2.2.2
theorem qA8:tt (Hd.A8,Hd.G8)=true:=by k_qdec
theorem rA8:∀ w,Fast.tw8885869309975874061 w=Fast.tw17952483438457428275 w:=fun w=>by kernel_rfl
theorem eA8 (w:World) (os:OsState):Hd.A8 w os=Hd.G8 w os :=
 (congrFun (congrFun Fast.te8885869309975874061 w) os).trans ((congrFun (rA8 w) os).trans (congrFun (congrFun Fast.te17952483438457428275 w) os).symm)
def Ls (w:World) (os:OsState):Bool:=staticsOk zpq (boot_heap w.params) (H1 w.params)&&namesBound PySem.Challenge.pw_beatless_k12_whole_texts_read (H1 w.params)&&gensDone (sf w os)&&laidKept (boot_heap w.params) (H1 w.params)
noncomputable def Rs (_:World) (_:OsState):Bool:=true
def Lz (w:World) (_:OsState):=((boot_heap w.params).isNs mainGlobals&&(⟨[]⟩:Array GenState).size == 0,(boot_heap w.params).objs.size,(boot_heap w.params).nsMap mainGlobals "__annotations__")
noncomputable def Rz (_:World) (_:OsState):Bool×Nat×Option Value:=(true,11,an)
theorem qs:tt Hd.Ls=true:=by k_qdec
theorem rs:∀ w,Fast.tw4959303863618478765 w=Hd.Rs w:=fun w=>by kernel_rfl
theorem es (w:World) (os:OsState):Hd.Ls w os=Hd.Rs w os:=(congrFun (congrFun Fast.te4959303863618478765 w) os).trans (congrFun (rs w) os)
theorem qz:tt Hd.Lz=true:=by k_qdec
theorem rz:∀ w,Fast.tw17831390912981975158 w=Hd.Rz w:=fun w=>by kernel_rfl
theorem ez (w:World) (os:OsState):Hd.Lz w os=Hd.Rz w os:=(congrFun (congrFun Fast.te17831390912981975158 w) os).trans (congrFun (rz w) os)
theorem op:opening PySem.Challenge.pw_beatless_k12_whole_texts_read=plainProg PySem.Challenge.pw_beatless_k12_whole_texts_read.main.scope.names:=by kernel_rfl
theorem fe (s:Shared):fenceModules? PySem.Challenge.pw_beatless_k12_whole_texts_read s=some s:=by kernel_rfl
theorem left:LeftO PySem.Challenge.pw_beatless_k12_whole_texts_read Q ["PARTS"] Xt hk.obs hk.val 7912 :=
 LeftO.of_pieces (M:=M) (m₀:=11) (ann:=an) (H₀:=boot_heap) (H₁:=H1) (boot_open op (by kernel_rfl) fe) (fun w=>ez w (start PySem.Challenge.pw_beatless_k12_whole_texts_read).1.os) run (by kernel_rfl) (fun w=>funext fun os=>looks_pair (es w os) (looks_pair
  (Prod.ext (eA0 w os) (Prod.ext (eA1 w os) (Prod.ext (eA2 w os) (Prod.ext (eA3 w os) (Prod.ext (eA4 w os) (Prod.ext (eA5 w os) (Prod.ext (eA6 w os) (Prod.ext (eA7 w os) (eA8 w os)))))))))
  ((ey w os).trans (yK w.params).symm)))
theorem both {a b:Bool}(z:(a&&b)=true):a=true∧b=true:=Bool.and_eq_true_iff.mp z
end Hd
end

namespace K04
open PySem L2
noncomputable abbrev fS (n q:Str) (s:Stmt) (k d p:Value) (a:Option Addr) (c t:Value):FuncData:=PySem.W.fnOf n q (defArgs s) (defBody s) (defScope s) .none k d p a c t
open PySem.W (nsIn findIn isFn codeIn keepIn plainGet hasDictIn plainOver makesIn mroIn specialIn takesIn kitOne mg_of mg_none_of excIn)
theorem txt_mk {w:World}{K:PySem.W.Frag}{h:Heap}{mg:Str→Option Value}(X:K.In h) (G:h.Ns mainGlobals mg)
  {f_qa:Addr}{od0 an0:Option Addr}{sl0:Array (Option Value)}{oc0 kV0 dc0 pm0 cd0 ct0:Value}{f_qb:Addr}{od1 an1:Option Addr}{sl1:Array (Option Value)}{oc1 kV1 dc1 pm1 cd1 ct1:Value}{f_qc:Addr}{od2 an2:Option Addr}{sl2:Array (Option Value)}{oc2 kV2 dc2 pm2 cd2 ct2:Value}{f_qd:Addr}{od3 an3:Option Addr}{sl3:Array (Option Value)}{oc3 kV3 dc3 pm3 cd3 ct3:Value}{f_qe:Addr}{od4 an4:Option Addr}{sl4:Array (Option Value)}{oc4 kV4 dc4 pm4 cd4 ct4:Value}{f_qf:Addr}{od5 an5:Option Addr}{sl5:Array (Option Value)}{oc5 kV5 dc5 pm5 cd5 ct5:Value}{f_qg:Addr}{od6 an6:Option Addr}{sl6:Array (Option Value)}{oc6 kV6 dc6 pm6 cd6 ct6:Value}{f_qh:Addr}{od7 an7:Option Addr}{sl7:Array (Option Value)}{oc7 kV7 dc7 pm7 cd7 ct7:Value}{f_qi:Addr}{od8 an8:Option Addr}{sl8:Array (Option Value)}{oc8 kV8 dc8 pm8 cd8 ct8:Value}{f_qj:Addr}{od9 an9:Option Addr}{sl9:Array (Option Value)}{oc9 kV9 dc9 pm9 cd9 ct9:Value}{f_qk:Addr}{od10 an10:Option Addr}{sl10:Array (Option Value)}{oc10 kV10 dc10 pm10 cd10 ct10:Value}{f_ql:Addr}{od11 an11:Option Addr}{sl11:Array (Option Value)}{oc11 kV11 dc11 pm11 cd11 ct11:Value}{f_qm:Addr}{od12 an12:Option Addr}{sl12:Array (Option Value)}{oc12 kV12 dc12 pm12 cd12 ct12:Value}{f_qn:Addr}{od13 an13:Option Addr}{sl13:Array (Option Value)}{oc13 kV13 dc13 pm13 cd13 ct13:Value}{f_qo:Addr}{od14 an14:Option Addr}{sl14:Array (Option Value)}{oc14 kV14 dc14 pm14 cd14 ct14:Value}{f_qp:Addr}{od15 an15:Option Addr}{sl15:Array (Option Value)}{oc15 kV15 dc15 pm15 cd15 ct15:Value}{f_qq:Addr}{od16 an16:Option Addr}{sl16:Array (Option Value)}{oc16 kV16 dc16 pm16 cd16 ct16:Value}{f_qr:Addr}{od17 an17:Option Addr}{sl17:Array (Option Value)}{oc17 kV17 dc17 pm17 cd17 ct17:Value}{f_qs:Addr}{od18 an18:Option Addr}{sl18:Array (Option Value)}{oc18 kV18 dc18 pm18 cd18 ct18:Value}{f_qt:Addr}{od19 an19:Option Addr}{sl19:Array (Option Value)}{oc19 kV19 dc19 pm19 cd19 ct19:Value}{f_qu:Addr}{od20 an20:Option Addr}{sl20:Array (Option Value)}{oc20 kV20 dc20 pm20 cd20 ct20:Value}{f_qv:Addr}{od21 an21:Option Addr}{sl21:Array (Option Value)}{oc21 kV21 dc21 pm21 cd21 ct21:Value}{f_qw:Addr}{od22 an22:Option Addr}{sl22:Array (Option Value)}{oc22 kV22 dc22 pm22 cd22 ct22:Value}{f_qx:Addr}{od23 an23:Option Addr}{sl23:Array (Option Value)}{oc23 kV23 dc23 pm23 cd23 ct23:Value}{f_qy:Addr}{od24 an24:Option Addr}{sl24:Array (Option Value)}{oc24 kV24 dc24 pm24 cd24 ct24:Value}{f_qz:Addr}{od25 an25:Option Addr}{sl25:Array (Option Value)}{oc25 kV25 dc25 pm25 cd25 ct25:Value}{f_qA:Addr}{od26 an26:Option Addr}{sl26:Array (Option Value)}{oc26 kV26 dc26 pm26 cd26 ct26:Value}{f_qB:Addr}{od27 an27:Option Addr}{sl27:Array (Option Value)}{oc27 kV27 dc27 pm27 cd27 ct27:Value}{f_qC:Addr}{od28 an28:Option Addr}{sl28:Array (Option Value)}{oc28 kV28 dc28 pm28 cd28 ct28:Value}{f_qD:Addr}{od29 an29:Option Addr}{sl29:Array (Option Value)}{oc29 kV29 dc29 pm29 cd29 ct29:Value}{f_qE:Addr}{od30 an30:Option Addr}{sl30:Array (Option Value)}{oc30 kV30 dc30 pm30 cd30 ct30:Value}{f_qF:Addr}{od31 an31:Option Addr}{sl31:Array (Option Value)}{oc31 kV31 dc31 pm31 cd31 ct31:Value}{f_qG:Addr}{od32 an32:Option Addr}{sl32:Array (Option Value)}{oc32 kV32 dc32 pm32 cd32 ct32:Value}{f_qH:Addr}{od33 an33:Option Addr}{sl33:Array (Option Value)}{oc33 kV33 dc33 pm33 cd33 ct33:Value}{f_qI:Addr}{od34 an34:Option Addr}{sl34:Array (Option Value)}{oc34 kV34 dc34 pm34 cd34 ct34:Value}{f_qJ:Addr}{od35 an35:Option Addr}{sl35:Array (Option Value)}{oc35 kV35 dc35 pm35 cd35 ct35:Value}{f_qK:Addr}{od36 an36:Option Addr}{sl36:Array (Option Value)}{oc36 kV36 dc36 pm36 cd36 ct36:Value}{f_qL:Addr}{od37 an37:Option Addr}{sl37:Array (Option Value)}{oc37 kV37 dc37 pm37 cd37 ct37:Value}{f_qM:Addr}{od38 an38:Option Addr}{sl38:Array (Option Value)}{oc38 kV38 dc38 pm38 cd38 ct38:Value}{c_Num:Addr}{c_Name:Addr}{c_Two:Addr}{c_Mod:Addr}{c_Less:Addr}{c_Program:Addr}{c_NoProgram:Addr}{c_NoText:Addr}{t_START_NAMES:Addr}{od_START_NAMES:Option Addr}{n_START_NAMES:Nat}{sl_START_NAMES:Array (Option Value)}{u_START_NAMES0 u_START_NAMES1:Tok}{t_SEND_NAMES:Addr}{od_SEND_NAMES:Option Addr}{n_SEND_NAMES:Nat}{sl_SEND_NAMES:Array (Option Value)}{u_SEND_NAMES0 u_SEND_NAMES1 u_SEND_NAMES2 u_SEND_NAMES3 u_SEND_NAMES4:Tok}{t_RENEW_NAMES:Addr}{od_RENEW_NAMES:Option Addr}{n_RENEW_NAMES:Nat}{sl_RENEW_NAMES:Array (Option Value)}{u_RENEW_NAMES0 u_RENEW_NAMES1 u_RENEW_NAMES2 u_RENEW_NAMES3 u_RENEW_NAMES4 u_RENEW_NAMES5 u_RENEW_NAMES6 u_RENEW_NAMES7:Tok}{t_TWO_WORDS:Addr}{od_TWO_WORDS:Option Addr}{n_TWO_WORDS:Nat}{sl_TWO_WORDS:Array (Option Value)}{u_TWO_WORDS0 u_TWO_WORDS1 u_TWO_WORDS2 u_TWO_WORDS3:Tok}{t_MOST_WORDS:Tok}{t_MOST_DEEP:Tok}{t_ALL_NAMES:Addr}{od_ALL_NAMES:Option Addr}{n_ALL_NAMES:Nat}{sl_ALL_NAMES:Array (Option Value)}{u_ALL_NAMES0 u_ALL_NAMES1 u_ALL_NAMES2 u_ALL_NAMES3 u_ALL_NAMES4 u_ALL_NAMES5 u_ALL_NAMES6 u_ALL_NAMES7 u_ALL_NAMES8:Tok}{t_ROW_WORDS:Addr}{od_ROW_WORDS:Option Addr}{n_ROW_WORDS:Nat}{sl_ROW_WORDS:Array (Option Value)}{u_ROW_WORDS0 u_ROW_WORDS1 u_ROW_WORDS2 u_ROW_WORDS3:Tok}{t_PARTS:Addr}{n_PARTS:Nat}{u_PARTS0 v_PARTS0 u_PARTS1 v_PARTS1 u_PARTS2 v_PARTS2 u_PARTS3 v_PARTS3 u_PARTS4 v_PARTS4 u_PARTS5 v_PARTS5:Tok}{t_FIGURES:Tok}
  (z_len:nsIn K mainGlobals "len" = some none)
  (z_int:nsIn K mainGlobals "int" = some none)
  (z_min:nsIn K mainGlobals "min" = some none)
  (z_max:nsIn K mainGlobals "max" = some none)
  (z_range:nsIn K mainGlobals "range" = some none)
  (z_isinstance:nsIn K mainGlobals "isinstance" = some none)
  (z_zip:nsIn K mainGlobals "zip" = some none)
  (z_abs:nsIn K mainGlobals "abs" = some none)
  (z_str:nsIn K mainGlobals "str" = some none)
  (z_sum:nsIn K mainGlobals "sum" = some none)
  (z_bool:nsIn K mainGlobals "bool" = some none)
  (z_tuple:nsIn K mainGlobals "tuple" = some none)
  (z_enumerate:nsIn K mainGlobals "enumerate" = some none)
  (z_reversed:nsIn K mainGlobals "reversed" = some none)
  (z_ValueError:nsIn K mainGlobals "ValueError" = some none)
  (A_Num:nsIn K mainGlobals "Num" = some (some (.ref c_Num)))
  (A_Name:nsIn K mainGlobals "Name" = some (some (.ref c_Name)))
  (A_Two:nsIn K mainGlobals "Two" = some (some (.ref c_Two)))
  (A_Mod:nsIn K mainGlobals "Mod" = some (some (.ref c_Mod)))
  (A_Less:nsIn K mainGlobals "Less" = some (some (.ref c_Less)))
  (A_Program:nsIn K mainGlobals "Program" = some (some (.ref c_Program)))
  (A_NoText:nsIn K mainGlobals "NoText" = some (some (.ref c_NoText)))
  (a_0:nsIn K mainGlobals "is_whole" = some (some (.ref f_qa)))
  (l_0:K.lookup f_qa=some ⟨oc0,od0,.func (fS "is_whole" "is_whole" Yx kV0 dc0 pm0 an0 cd0 ct0),sl0⟩)
  (cc_0:codeIn K cd0 "is_whole" = true)
  (kk_0:keepIn K (.ref f_qa)=true)
  (a_1:nsIn K mainGlobals "is_short_number" = some (some (.ref f_qb)))
  (l_1:K.lookup f_qb=some ⟨oc1,od1,.func (fS "is_short_number" "is_short_number" Yw kV1 dc1 pm1 an1 cd1 ct1),sl1⟩)
  (cc_1:codeIn K cd1 "is_short_number" = true)
  (kk_1:keepIn K (.ref f_qb)=true)
  (a_2:nsIn K mainGlobals "is_word_of" = some (some (.ref f_qc)))
  (l_2:K.lookup f_qc=some ⟨oc2,od2,.func (fS "is_word_of" "is_word_of" Yv kV2 dc2 pm2 an2 cd2 ct2),sl2⟩)
  (cc_2:codeIn K cd2 "is_word_of" = true)
  (kk_2:keepIn K (.ref f_qc)=true)
  (a_3:nsIn K mainGlobals "is_divisor" = some (some (.ref f_qd)))
  (l_3:K.lookup f_qd=some ⟨oc3,od3,.func (fS "is_divisor" "is_divisor" Yu kV3 dc3 pm3 an3 cd3 ct3),sl3⟩)
  (cc_3:codeIn K cd3 "is_divisor" = true)
  (kk_3:keepIn K (.ref f_qd)=true)
  (a_4:nsIn K mainGlobals "are_sound" = some (some (.ref f_qe)))
  (l_4:K.lookup f_qe=some ⟨oc4,od4,.func (fS "are_sound" "are_sound" Yt kV4 dc4 pm4 an4 cd4 ct4),sl4⟩)
  (cc_4:codeIn K cd4 "are_sound" = true)
  (kk_4:keepIn K (.ref f_qe)=true)
  (a_5:nsIn K mainGlobals "is_sound" = some (some (.ref f_qf)))
  (l_5:K.lookup f_qf=some ⟨oc5,od5,.func (fS "is_sound" "is_sound" Ys kV5 dc5 pm5 an5 cd5 ct5),sl5⟩)
  (cc_5:codeIn K cd5 "is_sound" = true)
  (kk_5:keepIn K (.ref f_qf)=true)
  (a_6:nsIn K mainGlobals "count_words" = some (some (.ref f_qg)))
  (l_6:K.lookup f_qg=some ⟨oc6,od6,.func (fS "count_words" "count_words" Zw kV6 dc6 pm6 an6 cd6 ct6),sl6⟩)
  (cc_6:codeIn K cd6 "count_words" = true)
  (kk_6:keepIn K (.ref f_qg)=true)
  (a_7:nsIn K mainGlobals "is_number_word" = some (some (.ref f_qh)))
  (l_7:K.lookup f_qh=some ⟨oc7,od7,.func (fS "is_number_word" "is_number_word" Yr kV7 dc7 pm7 an7 cd7 ct7),sl7⟩)
  (cc_7:codeIn K cd7 "is_number_word" = true)
  (kk_7:keepIn K (.ref f_qh)=true)
  (a_8:nsIn K mainGlobals "number_of" = some (some (.ref f_qi)))
  (l_8:K.lookup f_qi=some ⟨oc8,od8,.func (fS "number_of" "number_of" Yq kV8 dc8 pm8 an8 cd8 ct8),sl8⟩)
  (cc_8:codeIn K cd8 "number_of" = true)
  (kk_8:keepIn K (.ref f_qi)=true)
  (a_9:nsIn K mainGlobals "read_part" = some (some (.ref f_qj)))
  (l_9:K.lookup f_qj=some ⟨oc9,od9,.func (fS "read_part" "read_part" Yp kV9 dc9 pm9 an9 cd9 ct9),sl9⟩)
  (cc_9:codeIn K cd9 "read_part" = true)
  (kk_9:keepIn K (.ref f_qj)=true)
  (a_10:nsIn K mainGlobals "read_words" = some (some (.ref f_qk)))
  (l_10:K.lookup f_qk=some ⟨oc10,od10,.func (fS "read_words" "read_words" Yo kV10 dc10 pm10 an10 cd10 ct10),sl10⟩)
  (cc_10:codeIn K cd10 "read_words" = true)
  (kk_10:keepIn K (.ref f_qk)=true)
  (a_11:nsIn K mainGlobals "read_row" = some (some (.ref f_ql)))
  (l_11:K.lookup f_ql=some ⟨oc11,od11,.func (fS "read_row" "read_row" Yn kV11 dc11 pm11 an11 cd11 ct11),sl11⟩)
  (cc_11:codeIn K cd11 "read_row" = true)
  (kk_11:keepIn K (.ref f_ql)=true)
  (a_12:nsIn K mainGlobals "read_program" = some (some (.ref f_qm)))
  (l_12:K.lookup f_qm=some ⟨oc12,od12,.func (fS "read_program" "read_program" Ym kV12 dc12 pm12 an12 cd12 ct12),sl12⟩)
  (cc_12:codeIn K cd12 "read_program" = true)
  (kk_12:keepIn K (.ref f_qm)=true)
  (a_13:nsIn K mainGlobals "_law_digit" = some (some (.ref f_qn)))
  (l_13:K.lookup f_qn=some ⟨oc13,od13,.func (fS "_law_digit" "_law_digit" Yl kV13 dc13 pm13 an13 cd13 ct13),sl13⟩)
  (cc_13:codeIn K cd13 "_law_digit" = true)
  (kk_13:keepIn K (.ref f_qn)=true)
  (a_14:nsIn K mainGlobals "_law_row" = some (some (.ref f_qo)))
  (l_14:K.lookup f_qo=some ⟨oc14,od14,.func (fS "_law_row" "_law_row" Yk kV14 dc14 pm14 an14 cd14 ct14),sl14⟩)
  (cc_14:codeIn K cd14 "_law_row" = true)
  (kk_14:keepIn K (.ref f_qo)=true)
  (a_15:nsIn K mainGlobals "_law_signed" = some (some (.ref f_qp)))
  (l_15:K.lookup f_qp=some ⟨oc15,od15,.func (fS "_law_signed" "_law_signed" Yj kV15 dc15 pm15 an15 cd15 ct15),sl15⟩)
  (cc_15:codeIn K cd15 "_law_signed" = true)
  (kk_15:keepIn K (.ref f_qp)=true)
  (a_16:nsIn K mainGlobals "_law_number" = some (some (.ref f_qq)))
  (l_16:K.lookup f_qq=some ⟨oc16,od16,.func (fS "_law_number" "_law_number" Yi kV16 dc16 pm16 an16 cd16 ct16),sl16⟩)
  (cc_16:codeIn K cd16 "_law_number" = true)
  (kk_16:keepIn K (.ref f_qq)=true)
  (a_17:nsIn K mainGlobals "_law_parsed" = some (some (.ref f_qr)))
  (l_17:K.lookup f_qr=some ⟨oc17,od17,.func (fS "_law_parsed" "_law_parsed" Yh kV17 dc17 pm17 an17 cd17 ct17),sl17⟩)
  (cc_17:codeIn K cd17 "_law_parsed" = true)
  (kk_17:keepIn K (.ref f_qr)=true)
  (a_18:nsIn K mainGlobals "_law_look" = some (some (.ref f_qs)))
  (l_18:K.lookup f_qs=some ⟨oc18,od18,.func (fS "_law_look" "_law_look" Yg kV18 dc18 pm18 an18 cd18 ct18),sl18⟩)
  (cc_18:codeIn K cd18 "_law_look" = true)
  (kk_18:keepIn K (.ref f_qs)=true)
  (a_19:nsIn K mainGlobals "_law_due" = some (some (.ref f_qt)))
  (l_19:K.lookup f_qt=some ⟨oc19,od19,.func (fS "_law_due" "_law_due" Yf kV19 dc19 pm19 an19 cd19 ct19),sl19⟩)
  (cc_19:codeIn K cd19 "_law_due" = true)
  (kk_19:keepIn K (.ref f_qt)=true)
  (a_20:nsIn K mainGlobals "_law_found" = some (some (.ref f_qu)))
  (l_20:K.lookup f_qu=some ⟨oc20,od20,.func (fS "_law_found" "_law_found" Zv kV20 dc20 pm20 an20 cd20 ct20),sl20⟩)
  (cc_20:codeIn K cd20 "_law_found" = true)
  (kk_20:keepIn K (.ref f_qu)=true)
  (a_21:nsIn K mainGlobals "law" = some (some (.ref f_qv)))
  (l_21:K.lookup f_qv=some ⟨oc21,od21,.func (fS "law" "law" Zu kV21 dc21 pm21 an21 cd21 ct21),sl21⟩)
  (cc_21:codeIn K cd21 "law" = true)
  (kk_21:keepIn K (.ref f_qv)=true)
  (a_22:findIn K (.ref c_Num) "__init__" = some (some (.ref f_qw)))
  (i_22:isFn K (.ref f_qw)=true)
  (l_22:K.lookup f_qw=some ⟨oc22,od22,.func (fS "__init__" "Num.__init__" Ye kV22 dc22 pm22 an22 cd22 ct22),sl22⟩)
  (cc_22:codeIn K cd22 "Num.__init__" = true)
  (kk_22:keepIn K (.ref f_qw)=true)
  (a_23:findIn K (.ref c_Num) "told" = some (some (.ref f_qx)))
  (i_23:isFn K (.ref f_qx)=true)
  (l_23:K.lookup f_qx=some ⟨oc23,od23,.func (fS "told" "Num.told" Yd kV23 dc23 pm23 an23 cd23 ct23),sl23⟩)
  (cc_23:codeIn K cd23 "Num.told" = true)
  (kk_23:keepIn K (.ref f_qx)=true)
  (a_24:findIn K (.ref c_Num) "words" = some (some (.ref f_qy)))
  (i_24:isFn K (.ref f_qy)=true)
  (l_24:K.lookup f_qy=some ⟨oc24,od24,.func (fS "words" "Num.words" Yc kV24 dc24 pm24 an24 cd24 ct24),sl24⟩)
  (cc_24:codeIn K cd24 "Num.words" = true)
  (kk_24:keepIn K (.ref f_qy)=true)
  (a_25:findIn K (.ref c_Name) "__init__" = some (some (.ref f_qz)))
  (i_25:isFn K (.ref f_qz)=true)
  (l_25:K.lookup f_qz=some ⟨oc25,od25,.func (fS "__init__" "Name.__init__" Yb kV25 dc25 pm25 an25 cd25 ct25),sl25⟩)
  (cc_25:codeIn K cd25 "Name.__init__" = true)
  (kk_25:keepIn K (.ref f_qz)=true)
  (a_26:findIn K (.ref c_Name) "told" = some (some (.ref f_qA)))
  (i_26:isFn K (.ref f_qA)=true)
  (l_26:K.lookup f_qA=some ⟨oc26,od26,.func (fS "told" "Name.told" YK kV26 dc26 pm26 an26 cd26 ct26),sl26⟩)
  (cc_26:codeIn K cd26 "Name.told" = true)
  (kk_26:keepIn K (.ref f_qA)=true)
  (a_27:findIn K (.ref c_Name) "words" = some (some (.ref f_qB)))
  (i_27:isFn K (.ref f_qB)=true)
  (l_27:K.lookup f_qB=some ⟨oc27,od27,.func (fS "words" "Name.words" YJ kV27 dc27 pm27 an27 cd27 ct27),sl27⟩)
  (cc_27:codeIn K cd27 "Name.words" = true)
  (kk_27:keepIn K (.ref f_qB)=true)
  (a_28:findIn K (.ref c_Two) "__init__" = some (some (.ref f_qC)))
  (i_28:isFn K (.ref f_qC)=true)
  (l_28:K.lookup f_qC=some ⟨oc28,od28,.func (fS "__init__" "Two.__init__" YI kV28 dc28 pm28 an28 cd28 ct28),sl28⟩)
  (cc_28:codeIn K cd28 "Two.__init__" = true)
  (kk_28:keepIn K (.ref f_qC)=true)
  (a_29:findIn K (.ref c_Two) "told" = some (some (.ref f_qD)))
  (i_29:isFn K (.ref f_qD)=true)
  (l_29:K.lookup f_qD=some ⟨oc29,od29,.func (fS "told" "Two.told" YH kV29 dc29 pm29 an29 cd29 ct29),sl29⟩)
  (cc_29:codeIn K cd29 "Two.told" = true)
  (kk_29:keepIn K (.ref f_qD)=true)
  (a_30:findIn K (.ref c_Two) "words" = some (some (.ref f_qE)))
  (i_30:isFn K (.ref f_qE)=true)
  (l_30:K.lookup f_qE=some ⟨oc30,od30,.func (fS "words" "Two.words" YG kV30 dc30 pm30 an30 cd30 ct30),sl30⟩)
  (cc_30:codeIn K cd30 "Two.words" = true)
  (kk_30:keepIn K (.ref f_qE)=true)
  (a_31:findIn K (.ref c_Mod) "__init__" = some (some (.ref f_qF)))
  (i_31:isFn K (.ref f_qF)=true)
  (l_31:K.lookup f_qF=some ⟨oc31,od31,.func (fS "__init__" "Mod.__init__" YF kV31 dc31 pm31 an31 cd31 ct31),sl31⟩)
  (cc_31:codeIn K cd31 "Mod.__init__" = true)
  (kk_31:keepIn K (.ref f_qF)=true)
  (a_32:findIn K (.ref c_Mod) "told" = some (some (.ref f_qG)))
  (i_32:isFn K (.ref f_qG)=true)
  (l_32:K.lookup f_qG=some ⟨oc32,od32,.func (fS "told" "Mod.told" YE kV32 dc32 pm32 an32 cd32 ct32),sl32⟩)
  (cc_32:codeIn K cd32 "Mod.told" = true)
  (kk_32:keepIn K (.ref f_qG)=true)
  (a_33:findIn K (.ref c_Mod) "words" = some (some (.ref f_qH)))
  (i_33:isFn K (.ref f_qH)=true)
  (l_33:K.lookup f_qH=some ⟨oc33,od33,.func (fS "words" "Mod.words" YD kV33 dc33 pm33 an33 cd33 ct33),sl33⟩)
  (cc_33:codeIn K cd33 "Mod.words" = true)
  (kk_33:keepIn K (.ref f_qH)=true)
  (a_34:findIn K (.ref c_Less) "__init__" = some (some (.ref f_qI)))
  (i_34:isFn K (.ref f_qI)=true)
  (l_34:K.lookup f_qI=some ⟨oc34,od34,.func (fS "__init__" "Less.__init__" YC kV34 dc34 pm34 an34 cd34 ct34),sl34⟩)
  (cc_34:codeIn K cd34 "Less.__init__" = true)
  (kk_34:keepIn K (.ref f_qI)=true)
  (a_35:findIn K (.ref c_Less) "told" = some (some (.ref f_qJ)))
  (i_35:isFn K (.ref f_qJ)=true)
  (l_35:K.lookup f_qJ=some ⟨oc35,od35,.func (fS "told" "Less.told" YB kV35 dc35 pm35 an35 cd35 ct35),sl35⟩)
  (cc_35:codeIn K cd35 "Less.told" = true)
  (kk_35:keepIn K (.ref f_qJ)=true)
  (a_36:findIn K (.ref c_Less) "words" = some (some (.ref f_qK)))
  (i_36:isFn K (.ref f_qK)=true)
  (l_36:K.lookup f_qK=some ⟨oc36,od36,.func (fS "words" "Less.words" YA kV36 dc36 pm36 an36 cd36 ct36),sl36⟩)
  (cc_36:codeIn K cd36 "Less.words" = true)
  (kk_36:keepIn K (.ref f_qK)=true)
  (a_37:findIn K (.ref c_Program) "__init__" = some (some (.ref f_qL)))
  (i_37:isFn K (.ref f_qL)=true)
  (l_37:K.lookup f_qL=some ⟨oc37,od37,.func (fS "__init__" "Program.__init__" Yz kV37 dc37 pm37 an37 cd37 ct37),sl37⟩)
  (cc_37:codeIn K cd37 "Program.__init__" = true)
  (kk_37:keepIn K (.ref f_qL)=true)
  (a_38:findIn K (.ref c_NoText) "__init__" = some (some (.ref f_qM)))
  (i_38:isFn K (.ref f_qM)=true)
  (l_38:K.lookup f_qM=some ⟨oc38,od38,.func (fS "__init__" "NoText.__init__" Yy kV38 dc38 pm38 an38 cd38 ct38),sl38⟩)
  (cc_38:codeIn K cd38 "NoText.__init__" = true)
  (kk_38:keepIn K (.ref f_qM)=true)
  (pg_Num:plainGet K c_Num Str.empty=true)
  (hd_Num:hasDictIn K c_Num=true)
  (po_Num:plainOver K c_Num=true)
  (sa_Num:findIn K (.ref c_Num) "__setattr__" = some (some (.builtin "object.__setattr__")))
  (mk_Num:makesIn K c_Num=true)
  (kc_Num:keepIn K (.ref c_Num)=true)
  (ha_Num:findIn K (.ref c_Num) "__class__" = some (some (.builtin "object.__class__")))
  (hm_Num:mroIn K c_Num (.type "object")=some true)
  (na_Num_value:findIn K (.ref c_Num) "value" = some none)
  (pg_Name:plainGet K c_Name Str.empty=true)
  (hd_Name:hasDictIn K c_Name=true)
  (po_Name:plainOver K c_Name=true)
  (sa_Name:findIn K (.ref c_Name) "__setattr__" = some (some (.builtin "object.__setattr__")))
  (mk_Name:makesIn K c_Name=true)
  (kc_Name:keepIn K (.ref c_Name)=true)
  (ha_Name:findIn K (.ref c_Name) "__class__" = some (some (.builtin "object.__class__")))
  (hm_Name:mroIn K c_Name (.type "object")=some true)
  (na_Name_word:findIn K (.ref c_Name) "word" = some none)
  (pg_Two:plainGet K c_Two Str.empty=true)
  (hd_Two:hasDictIn K c_Two=true)
  (po_Two:plainOver K c_Two=true)
  (sa_Two:findIn K (.ref c_Two) "__setattr__" = some (some (.builtin "object.__setattr__")))
  (mk_Two:makesIn K c_Two=true)
  (kc_Two:keepIn K (.ref c_Two)=true)
  (ha_Two:findIn K (.ref c_Two) "__class__" = some (some (.builtin "object.__class__")))
  (hm_Two:mroIn K c_Two (.type "object")=some true)
  (na_Two_word:findIn K (.ref c_Two) "word" = some none)
  (na_Two_one:findIn K (.ref c_Two) "one" = some none)
  (na_Two_other:findIn K (.ref c_Two) "other" = some none)
  (pg_Mod:plainGet K c_Mod Str.empty=true)
  (hd_Mod:hasDictIn K c_Mod=true)
  (po_Mod:plainOver K c_Mod=true)
  (sa_Mod:findIn K (.ref c_Mod) "__setattr__" = some (some (.builtin "object.__setattr__")))
  (mk_Mod:makesIn K c_Mod=true)
  (kc_Mod:keepIn K (.ref c_Mod)=true)
  (ha_Mod:findIn K (.ref c_Mod) "__class__" = some (some (.builtin "object.__class__")))
  (hm_Mod:mroIn K c_Mod (.type "object")=some true)
  (na_Mod_inner:findIn K (.ref c_Mod) "inner" = some none)
  (na_Mod_number:findIn K (.ref c_Mod) "number" = some none)
  (pg_Less:plainGet K c_Less Str.empty=true)
  (hd_Less:hasDictIn K c_Less=true)
  (po_Less:plainOver K c_Less=true)
  (sa_Less:findIn K (.ref c_Less) "__setattr__" = some (some (.builtin "object.__setattr__")))
  (mk_Less:makesIn K c_Less=true)
  (kc_Less:keepIn K (.ref c_Less)=true)
  (ha_Less:findIn K (.ref c_Less) "__class__" = some (some (.builtin "object.__class__")))
  (hm_Less:mroIn K c_Less (.type "object")=some true)
  (na_Less_one:findIn K (.ref c_Less) "one" = some none)
  (na_Less_other:findIn K (.ref c_Less) "other" = some none)
  (na_Less_third:findIn K (.ref c_Less) "third" = some none)
  (na_Less_fourth:findIn K (.ref c_Less) "fourth" = some none)
  (pg_Program:plainGet K c_Program Str.empty=true)
  (hd_Program:hasDictIn K c_Program=true)
  (po_Program:plainOver K c_Program=true)
  (sa_Program:findIn K (.ref c_Program) "__setattr__" = some (some (.builtin "object.__setattr__")))
  (mk_Program:makesIn K c_Program=true)
  (kc_Program:keepIn K (.ref c_Program)=true)
  (ha_Program:findIn K (.ref c_Program) "__class__" = some (some (.builtin "object.__class__")))
  (hm_Program:mroIn K c_Program (.type "object")=some true)
  (na_Program_start:findIn K (.ref c_Program) "start" = some none)
  (na_Program_send:findIn K (.ref c_Program) "send" = some none)
  (na_Program_when:findIn K (.ref c_Program) "when" = some none)
  (na_Program_renew:findIn K (.ref c_Program) "renew" = some none)
  (hn:specialIn K (.builtin "object.__class__") "__get__" = some (some (.builtin "getset_descriptor.__get__")))
  (htk:takesIn K (.builtin "object.__class__")=some true)
  (A_NoProgram:nsIn K mainGlobals "NoProgram" = some (some (.ref c_NoProgram)))
  (X_NoProgram:excIn K c_NoProgram ux "ValueError.__new__" = true)
  (Y1_NoText:Zk K c_NoText f_qM=true)
  (Y2_NoText:(K.lookup f_qM).any (fun o=>o.cls == .type "function")=true)
  (y3_NoText:keepIn K (.ref c_NoText)=true)
  (y4_NoText:findIn K (.ref c_NoText) "__setattr__" = some (some (.builtin "object.__setattr__")))
  (y5_NoText:mroIn K c_NoText (.type "object")=some true)
  (Y6_NoText:(PySem.W.clsIn K c_NoText).any (fun cd=>wb cd.mro)=true)
  (y7_NoText:hasDictIn K c_NoText=true)
  (y8_NoText:findIn K (.ref c_NoText) "row" = some none)
  (y9_NoText:findIn K (.ref c_NoText) "__getattribute__" = some (some (.builtin "BaseException.__getattribute__")))
  (yA_NoText:findIn K (.ref c_NoText) "__getattr__" = some none)
  (yB_NoText:mroIn K c_NoText (.type "BaseException")=some true)
  (Y_NoProgram_NoText:UZ K c_NoProgram c_NoText=some false)
  (k_Num_Num:kitOne K (.ref c_Num) (.ref c_Num)=some true)
  (k_Name_Num:kitOne K (.ref c_Name) (.ref c_Num)=some false)
  (k_Name_Name:kitOne K (.ref c_Name) (.ref c_Name)=some true)
  (k_Two_Num:kitOne K (.ref c_Two) (.ref c_Num)=some false)
  (k_Two_Name:kitOne K (.ref c_Two) (.ref c_Name)=some false)
  (k_Two_Two:kitOne K (.ref c_Two) (.ref c_Two)=some true)
  (k_Mod_Num:kitOne K (.ref c_Mod) (.ref c_Num)=some false)
  (k_Mod_Name:kitOne K (.ref c_Mod) (.ref c_Name)=some false)
  (k_Mod_Two:kitOne K (.ref c_Mod) (.ref c_Two)=some false)
  (k_Mod_Mod:kitOne K (.ref c_Mod) (.ref c_Mod)=some true)
  (k_Less_Num:kitOne K (.ref c_Less) (.ref c_Num)=some false)
  (k_Less_Name:kitOne K (.ref c_Less) (.ref c_Name)=some false)
  (k_Less_Two:kitOne K (.ref c_Less) (.ref c_Two)=some false)
  (k_Less_Mod:kitOne K (.ref c_Less) (.ref c_Mod)=some false)
  (k_Less_Less:kitOne K (.ref c_Less) (.ref c_Less)=some true)
  (k_tint_tint:kitOne K (.type "int") (.type "int")=some true)
  (k_tint_tbool:kitOne K (.type "int") (.type "bool")=some false)
  (k_tstr_tstr:kitOne K (.type "str") (.type "str")=some true)
  (k_ttuple_ttuple:kitOne K (.type "tuple") (.type "tuple")=some true)
  (k_tint_ttuple:kitOne K (.type "int") (.type "tuple")=some false)
  (k_tstr_ttuple:kitOne K (.type "str") (.type "tuple")=some false)
  (k_tint_tstr:kitOne K (.type "int") (.type "str")=some false)
  (k_tstr_tint:kitOne K (.type "str") (.type "int")=some false)
  (k_tstr_tbool:kitOne K (.type "str") (.type "bool")=some false)
  (k_Program_Program:kitOne K (.ref c_Program) (.ref c_Program)=some true)
  (G_START_NAMES:nsIn K mainGlobals "START_NAMES" = some (some (.ref t_START_NAMES)))
  (L_START_NAMES:K.lookup t_START_NAMES=some ⟨.type "tuple",od_START_NAMES,.seq #[.str "me" u_START_NAMES0,.str "lines" u_START_NAMES1] n_START_NAMES,sl_START_NAMES⟩)
  (G_SEND_NAMES:nsIn K mainGlobals "SEND_NAMES" = some (some (.ref t_SEND_NAMES)))
  (L_SEND_NAMES:K.lookup t_SEND_NAMES=some ⟨.type "tuple",od_SEND_NAMES,.seq #[.str "worth" u_SEND_NAMES0,.str "me" u_SEND_NAMES1,.str "round" u_SEND_NAMES2,.str "lines" u_SEND_NAMES3,.str "to" u_SEND_NAMES4] n_SEND_NAMES,sl_SEND_NAMES⟩)
  (G_RENEW_NAMES:nsIn K mainGlobals "RENEW_NAMES" = some (some (.ref t_RENEW_NAMES)))
  (L_RENEW_NAMES:K.lookup t_RENEW_NAMES=some ⟨.type "tuple",od_RENEW_NAMES,.seq #[.str "worth" u_RENEW_NAMES0,.str "me" u_RENEW_NAMES1,.str "round" u_RENEW_NAMES2,.str "lines" u_RENEW_NAMES3,.str "sum" u_RENEW_NAMES4,.str "least" u_RENEW_NAMES5,.str "most" u_RENEW_NAMES6,.str "count" u_RENEW_NAMES7] n_RENEW_NAMES,sl_RENEW_NAMES⟩)
  (G_TWO_WORDS:nsIn K mainGlobals "TWO_WORDS" = some (some (.ref t_TWO_WORDS)))
  (L_TWO_WORDS:K.lookup t_TWO_WORDS=some ⟨.type "tuple",od_TWO_WORDS,.seq #[.str "add" u_TWO_WORDS0,.str "sub" u_TWO_WORDS1,.str "min" u_TWO_WORDS2,.str "max" u_TWO_WORDS3] n_TWO_WORDS,sl_TWO_WORDS⟩)
  (G_MOST_WORDS:nsIn K mainGlobals "MOST_WORDS" = some (some (.int 60 t_MOST_WORDS)))
  (G_MOST_DEEP:nsIn K mainGlobals "MOST_DEEP" = some (some (.int 8 t_MOST_DEEP)))
  (G_ALL_NAMES:nsIn K mainGlobals "ALL_NAMES" = some (some (.ref t_ALL_NAMES)))
  (L_ALL_NAMES:K.lookup t_ALL_NAMES=some ⟨.type "tuple",od_ALL_NAMES,.seq #[.str "worth" u_ALL_NAMES0,.str "me" u_ALL_NAMES1,.str "round" u_ALL_NAMES2,.str "lines" u_ALL_NAMES3,.str "to" u_ALL_NAMES4,.str "sum" u_ALL_NAMES5,.str "least" u_ALL_NAMES6,.str "most" u_ALL_NAMES7,.str "count" u_ALL_NAMES8] n_ALL_NAMES,sl_ALL_NAMES⟩)
  (G_ROW_WORDS:nsIn K mainGlobals "ROW_WORDS" = some (some (.ref t_ROW_WORDS)))
  (L_ROW_WORDS:K.lookup t_ROW_WORDS=some ⟨.type "tuple",od_ROW_WORDS,.seq #[.str "start" u_ROW_WORDS0,.str "send" u_ROW_WORDS1,.str "when" u_ROW_WORDS2,.str "reckon" u_ROW_WORDS3] n_ROW_WORDS,sl_ROW_WORDS⟩)
  (G_PARTS:nsIn K mainGlobals "PARTS" = some (some (.ref t_PARTS)))
  (L_PARTS:K.lookup t_PARTS=some ⟨.type "dict",none,.dict #[⟨PyData.keyHash w.params "add",.str "add" u_PARTS0,.int 2 v_PARTS0⟩,⟨PyData.keyHash w.params "sub",.str "sub" u_PARTS1,.int 2 v_PARTS1⟩,⟨PyData.keyHash w.params "min",.str "min" u_PARTS2,.int 2 v_PARTS2⟩,⟨PyData.keyHash w.params "max",.str "max" u_PARTS3,.int 2 v_PARTS3⟩,⟨PyData.keyHash w.params "mod",.str "mod" u_PARTS4,.int 2 v_PARTS4⟩,⟨PyData.keyHash w.params "less",.str "less" u_PARTS5,.int 4 v_PARTS5⟩] n_PARTS,#[]⟩)
  (M_PARTS:(t_PARTS == sysModules)=false)
  (G_FIGURES:nsIn K mainGlobals "FIGURES" = some (some (.str "0123456789" t_FIGURES))) :
  ∃ a:Ad,Txt w K mg a:=by
 have F0:=zw (st:=Yx) l_0 cc_0 kk_0
 have F1:=zw (st:=Yw) l_1 cc_1 kk_1
 have F2:=zw (st:=Yv) l_2 cc_2 kk_2
 have F3:=zw (st:=Yu) l_3 cc_3 kk_3
 have F4:=zw (st:=Yt) l_4 cc_4 kk_4
 have F5:=zw (st:=Ys) l_5 cc_5 kk_5
 have F6:=zw (st:=Zw) l_6 cc_6 kk_6
 have F7:=zw (st:=Yr) l_7 cc_7 kk_7
 have F8:=zw (st:=Yq) l_8 cc_8 kk_8
 have F9:=zw (st:=Yp) l_9 cc_9 kk_9
 have F10:=zw (st:=Yo) l_10 cc_10 kk_10
 have F11:=zw (st:=Yn) l_11 cc_11 kk_11
 have F12:=zw (st:=Ym) l_12 cc_12 kk_12
 have F13:=zw (st:=Yl) l_13 cc_13 kk_13
 have F14:=zw (st:=Yk) l_14 cc_14 kk_14
 have F15:=zw (st:=Yj) l_15 cc_15 kk_15
 have F16:=zw (st:=Yi) l_16 cc_16 kk_16
 have F17:=zw (st:=Yh) l_17 cc_17 kk_17
 have F18:=zw (st:=Yg) l_18 cc_18 kk_18
 have F19:=zw (st:=Yf) l_19 cc_19 kk_19
 have F20:=zw (st:=Zv) l_20 cc_20 kk_20
 have F21:=zw (st:=Zu) l_21 cc_21 kk_21
 have F22:=zw (st:=Ye) l_22 cc_22 kk_22
 have F23:=zw (st:=Yd) l_23 cc_23 kk_23
 have F24:=zw (st:=Yc) l_24 cc_24 kk_24
 have F25:=zw (st:=Yb) l_25 cc_25 kk_25
 have F26:=zw (st:=YK) l_26 cc_26 kk_26
 have F27:=zw (st:=YJ) l_27 cc_27 kk_27
 have F28:=zw (st:=YI) l_28 cc_28 kk_28
 have F29:=zw (st:=YH) l_29 cc_29 kk_29
 have F30:=zw (st:=YG) l_30 cc_30 kk_30
 have F31:=zw (st:=YF) l_31 cc_31 kk_31
 have F32:=zw (st:=YE) l_32 cc_32 kk_32
 have F33:=zw (st:=YD) l_33 cc_33 kk_33
 have F34:=zw (st:=YC) l_34 cc_34 kk_34
 have F35:=zw (st:=YB) l_35 cc_35 kk_35
 have F36:=zw (st:=YA) l_36 cc_36 kk_36
 have F37:=zw (st:=Yz) l_37 cc_37 kk_37
 have F38:=zw (st:=Yy) l_38 cc_38 kk_38
 refine⟨⟨f_qa,fS "is_whole" "is_whole" Yx kV0 dc0 pm0 an0 cd0 ct0,f_qb,fS "is_short_number" "is_short_number" Yw kV1 dc1 pm1 an1 cd1 ct1,f_qc,fS "is_word_of" "is_word_of" Yv kV2 dc2 pm2 an2 cd2 ct2,f_qd,fS "is_divisor" "is_divisor" Yu kV3 dc3 pm3 an3 cd3 ct3,f_qe,fS "are_sound" "are_sound" Yt kV4 dc4 pm4 an4 cd4 ct4,f_qf,fS "is_sound" "is_sound" Ys kV5 dc5 pm5 an5 cd5 ct5,f_qg,fS "count_words" "count_words" Zw kV6 dc6 pm6 an6 cd6 ct6,f_qh,fS "is_number_word" "is_number_word" Yr kV7 dc7 pm7 an7 cd7 ct7,f_qi,fS "number_of" "number_of" Yq kV8 dc8 pm8 an8 cd8 ct8,f_qj,fS "read_part" "read_part" Yp kV9 dc9 pm9 an9 cd9 ct9,f_qk,fS "read_words" "read_words" Yo kV10 dc10 pm10 an10 cd10 ct10,f_ql,fS "read_row" "read_row" Yn kV11 dc11 pm11 an11 cd11 ct11,f_qm,fS "read_program" "read_program" Ym kV12 dc12 pm12 an12 cd12 ct12,f_qn,fS "_law_digit" "_law_digit" Yl kV13 dc13 pm13 an13 cd13 ct13,f_qo,fS "_law_row" "_law_row" Yk kV14 dc14 pm14 an14 cd14 ct14,f_qp,fS "_law_signed" "_law_signed" Yj kV15 dc15 pm15 an15 cd15 ct15,f_qq,fS "_law_number" "_law_number" Yi kV16 dc16 pm16 an16 cd16 ct16,f_qr,fS "_law_parsed" "_law_parsed" Yh kV17 dc17 pm17 an17 cd17 ct17,f_qs,fS "_law_look" "_law_look" Yg kV18 dc18 pm18 an18 cd18 ct18,f_qt,fS "_law_due" "_law_due" Yf kV19 dc19 pm19 an19 cd19 ct19,f_qu,fS "_law_found" "_law_found" Zv kV20 dc20 pm20 an20 cd20 ct20,f_qv,fS "law" "law" Zu kV21 dc21 pm21 an21 cd21 ct21,f_qw,fS "__init__" "Num.__init__" Ye kV22 dc22 pm22 an22 cd22 ct22,f_qx,fS "told" "Num.told" Yd kV23 dc23 pm23 an23 cd23 ct23,f_qy,fS "words" "Num.words" Yc kV24 dc24 pm24 an24 cd24 ct24,f_qz,fS "__init__" "Name.__init__" Yb kV25 dc25 pm25 an25 cd25 ct25,f_qA,fS "told" "Name.told" YK kV26 dc26 pm26 an26 cd26 ct26,f_qB,fS "words" "Name.words" YJ kV27 dc27 pm27 an27 cd27 ct27,f_qC,fS "__init__" "Two.__init__" YI kV28 dc28 pm28 an28 cd28 ct28,f_qD,fS "told" "Two.told" YH kV29 dc29 pm29 an29 cd29 ct29,f_qE,fS "words" "Two.words" YG kV30 dc30 pm30 an30 cd30 ct30,f_qF,fS "__init__" "Mod.__init__" YF kV31 dc31 pm31 an31 cd31 ct31,f_qG,fS "told" "Mod.told" YE kV32 dc32 pm32 an32 cd32 ct32,f_qH,fS "words" "Mod.words" YD kV33 dc33 pm33 an33 cd33 ct33,f_qI,fS "__init__" "Less.__init__" YC kV34 dc34 pm34 an34 cd34 ct34,f_qJ,fS "told" "Less.told" YB kV35 dc35 pm35 an35 cd35 ct35,f_qK,fS "words" "Less.words" YA kV36 dc36 pm36 an36 cd36 ct36,f_qL,fS "__init__" "Program.__init__" Yz kV37 dc37 pm37 an37 cd37 ct37,f_qM,fS "__init__" "NoText.__init__" Yy kV38 dc38 pm38 an38 cd38 ct38,c_Num,c_Name,c_Two,c_Mod,c_Less,c_Program,c_NoProgram,c_NoText,t_START_NAMES,t_SEND_NAMES,t_RENEW_NAMES,t_TWO_WORDS,t_MOST_WORDS,t_MOST_DEEP,t_ALL_NAMES,t_ROW_WORDS,t_PARTS,t_FIGURES⟩,?_⟩
 exact⟨mg_none_of X G z_len,
  mg_none_of X G z_int,
  mg_none_of X G z_min,
  mg_none_of X G z_max,
  mg_none_of X G z_range,
  mg_none_of X G z_isinstance,
  mg_none_of X G z_zip,
  mg_none_of X G z_abs,
  mg_none_of X G z_str,
  mg_none_of X G z_sum,
  mg_none_of X G z_bool,
  mg_none_of X G z_tuple,
  mg_none_of X G z_enumerate,
  mg_none_of X G z_reversed,
  mg_none_of X G z_ValueError,
  F0,
  F0.binds (ps:=["value"]) fun _ _ _ _ _ _ us hl=>match us,hl with | [_],_=>rfl,
  mg_of X G a_0,
  F1,
  F1.binds (ps:=["value"]) fun _ _ _ _ _ _ us hl=>match us,hl with | [_],_=>rfl,
  mg_of X G a_1,
  F2,
  F2.binds (ps:=["word", "words"]) fun _ _ _ _ _ _ us hl=>match us,hl with | [_,_],_=>rfl,
  mg_of X G a_2,
  F3,
  F3.binds (ps:=["number"]) fun _ _ _ _ _ _ us hl=>match us,hl with | [_],_=>rfl,
  mg_of X G a_3,
  F4,
  F4.binds (ps:=["parts", "names", "deep"]) fun _ _ _ _ _ _ us hl=>match us,hl with | [_,_,_],_=>rfl,
  mg_of X G a_4,
  F5,
  F5.binds (ps:=["expr", "names", "deep"]) fun _ _ _ _ _ _ us hl=>match us,hl with | [_,_,_],_=>rfl,
  mg_of X G a_5,
  F6,
  F6.binds (ps:=["exprs"]) fun _ _ _ _ _ _ us hl=>match us,hl with | [_],_=>rfl,
  mg_of X G a_6,
  F7,
  F7.binds (ps:=["word"]) fun _ _ _ _ _ _ us hl=>match us,hl with | [_],_=>rfl,
  mg_of X G a_7,
  F8,
  F8.binds (ps:=["word"]) fun _ _ _ _ _ _ us hl=>match us,hl with | [_],_=>rfl,
  mg_of X G a_8,
  F9,
  F9.binds (ps:=["word", "parts"]) fun _ _ _ _ _ _ us hl=>match us,hl with | [_,_],_=>rfl,
  mg_of X G a_9,
  F10,
  F10.binds (ps:=["words"]) fun _ _ _ _ _ _ us hl=>match us,hl with | [_],_=>rfl,
  mg_of X G a_10,
  F11,
  F11.binds (ps:=["row", "first"]) fun _ _ _ _ _ _ us hl=>match us,hl with | [_,_],_=>rfl,
  mg_of X G a_11,
  F12,
  F12.binds (ps:=["text"]) fun _ _ _ _ _ _ us hl=>match us,hl with | [_],_=>rfl,
  mg_of X G a_12,
  F13,
  F13.binds (ps:=["_law_state", "_law_base"]) fun _ _ _ _ _ _ us hl=>match us,hl with | [_,_],_=>rfl,
  mg_of X G a_13,
  F14,
  F14.binds (ps:=["_law_state", "_law_names"]) fun _ _ _ _ _ _ us hl=>match us,hl with | [_,_],_=>rfl,
  mg_of X G a_14,
  F15,
  F15.binds (ps:=["_law_state", "_law_rows"]) fun _ _ _ _ _ _ us hl=>match us,hl with | [_,_],_=>rfl,
  mg_of X G a_15,
  F16,
  F16.binds (ps:=["_law_word"]) fun _ _ _ _ _ _ us hl=>match us,hl with | [_],_=>rfl,
  mg_of X G a_16,
  F17,
  F17.binds (ps:=["_law_words", "_law_at"]) fun _ _ _ _ _ _ us hl=>match us,hl with | [_,_],_=>rfl,
  mg_of X G a_17,
  F18,
  F18.binds (ps:=["_law_told", "_law_names", "_law_deep"]) fun _ _ _ _ _ _ us hl=>match us,hl with | [_,_,_],_=>rfl,
  mg_of X G a_18,
  F19,
  F19.binds (ps:=["_law_rows"]) fun _ _ _ _ _ _ us hl=>match us,hl with | [_],_=>rfl,
  mg_of X G a_19,
  F20,
  F20.binds (ps:=["_law_text"]) fun _ _ _ _ _ _ us hl=>match us,hl with | [_],_=>rfl,
  mg_of X G a_20,
  F21,
  F21.binds (ps:=["_law_script"]) fun _ _ _ _ _ _ us hl=>match us,hl with | [_],_=>rfl,
  fun s v=>.of_eq rfl,
  mg_of X G a_21,
  F22,
  F22.binds (ps:=["self", "value"]) fun _ _ _ _ _ _ us hl=>match us,hl with | [_,_],_=>rfl,
  F23,
  F23.binds (ps:=["self"]) fun _ _ _ _ _ _ us hl=>match us,hl with | [_],_=>rfl,
  ⟨a_23,i_23,kk_23⟩,
  F24,
  F24.binds (ps:=["self"]) fun _ _ _ _ _ _ us hl=>match us,hl with | [_],_=>rfl,
  ⟨a_24,i_24,kk_24⟩,
  F25,
  F25.binds (ps:=["self", "word"]) fun _ _ _ _ _ _ us hl=>match us,hl with | [_,_],_=>rfl,
  F26,
  F26.binds (ps:=["self"]) fun _ _ _ _ _ _ us hl=>match us,hl with | [_],_=>rfl,
  ⟨a_26,i_26,kk_26⟩,
  F27,
  F27.binds (ps:=["self"]) fun _ _ _ _ _ _ us hl=>match us,hl with | [_],_=>rfl,
  ⟨a_27,i_27,kk_27⟩,
  F28,
  F28.binds (ps:=["self", "word", "one", "other"]) fun _ _ _ _ _ _ us hl=>match us,hl with | [_,_,_,_],_=>rfl,
  F29,
  F29.binds (ps:=["self"]) fun _ _ _ _ _ _ us hl=>match us,hl with | [_],_=>rfl,
  ⟨a_29,i_29,kk_29⟩,
  F30,
  F30.binds (ps:=["self"]) fun _ _ _ _ _ _ us hl=>match us,hl with | [_],_=>rfl,
  ⟨a_30,i_30,kk_30⟩,
  F31,
  F31.binds (ps:=["self", "inner", "number"]) fun _ _ _ _ _ _ us hl=>match us,hl with | [_,_,_],_=>rfl,
  F32,
  F32.binds (ps:=["self"]) fun _ _ _ _ _ _ us hl=>match us,hl with | [_],_=>rfl,
  ⟨a_32,i_32,kk_32⟩,
  F33,
  F33.binds (ps:=["self"]) fun _ _ _ _ _ _ us hl=>match us,hl with | [_],_=>rfl,
  ⟨a_33,i_33,kk_33⟩,
  F34,
  F34.binds (ps:=["self", "one", "other", "third", "fourth"]) fun _ _ _ _ _ _ us hl=>match us,hl with | [_,_,_,_,_],_=>rfl,
  F35,
  F35.binds (ps:=["self"]) fun _ _ _ _ _ _ us hl=>match us,hl with | [_],_=>rfl,
  ⟨a_35,i_35,kk_35⟩,
  F36,
  F36.binds (ps:=["self"]) fun _ _ _ _ _ _ us hl=>match us,hl with | [_],_=>rfl,
  ⟨a_36,i_36,kk_36⟩,
  F37,
  F37.binds (ps:=["self", "start", "send", "when", "renew"]) fun _ _ _ _ _ _ us hl=>match us,hl with | [_,_,_,_,_],_=>rfl,
  F38,
  F38.binds (ps:=["self", "row"]) fun _ _ _ _ _ _ us hl=>match us,hl with | [_,_],_=>rfl,
  mg_of X G A_Num,
  ⟨pg_Num,hd_Num,po_Num,sa_Num⟩,
  ⟨mk_Num,a_22,i_22,kc_Num⟩,
  fun H p dx fs e=>.ins e ⟨pg_Num,hd_Num,po_Num,sa_Num⟩ ha_Num hn htk hm_Num,
  na_Num_value,
  mg_of X G A_Name,
  ⟨pg_Name,hd_Name,po_Name,sa_Name⟩,
  ⟨mk_Name,a_25,i_25,kc_Name⟩,
  fun H p dx fs e=>.ins e ⟨pg_Name,hd_Name,po_Name,sa_Name⟩ ha_Name hn htk hm_Name,
  na_Name_word,
  mg_of X G A_Two,
  ⟨pg_Two,hd_Two,po_Two,sa_Two⟩,
  ⟨mk_Two,a_28,i_28,kc_Two⟩,
  fun H p dx fs e=>.ins e ⟨pg_Two,hd_Two,po_Two,sa_Two⟩ ha_Two hn htk hm_Two,
  na_Two_word,
  na_Two_one,
  na_Two_other,
  mg_of X G A_Mod,
  ⟨pg_Mod,hd_Mod,po_Mod,sa_Mod⟩,
  ⟨mk_Mod,a_31,i_31,kc_Mod⟩,
  fun H p dx fs e=>.ins e ⟨pg_Mod,hd_Mod,po_Mod,sa_Mod⟩ ha_Mod hn htk hm_Mod,
  na_Mod_inner,
  na_Mod_number,
  mg_of X G A_Less,
  ⟨pg_Less,hd_Less,po_Less,sa_Less⟩,
  ⟨mk_Less,a_34,i_34,kc_Less⟩,
  fun H p dx fs e=>.ins e ⟨pg_Less,hd_Less,po_Less,sa_Less⟩ ha_Less hn htk hm_Less,
  na_Less_one,
  na_Less_other,
  na_Less_third,
  na_Less_fourth,
  mg_of X G A_Program,
  ⟨pg_Program,hd_Program,po_Program,sa_Program⟩,
  ⟨mk_Program,a_37,i_37,kc_Program⟩,
  fun H p dx fs e=>.ins e ⟨pg_Program,hd_Program,po_Program,sa_Program⟩ ha_Program hn htk hm_Program,
  na_Program_start,
  na_Program_send,
  na_Program_when,
  na_Program_renew,
  k_Num_Num,
  k_Name_Num,
  k_Name_Name,
  k_Two_Num,
  k_Two_Name,
  k_Two_Two,
  k_Mod_Num,
  k_Mod_Name,
  k_Mod_Two,
  k_Mod_Mod,
  k_Less_Num,
  k_Less_Name,
  k_Less_Two,
  k_Less_Mod,
  k_Less_Less,
  k_tint_tint,
  k_tint_tbool,
  k_tstr_tstr,
  k_ttuple_ttuple,
  k_tint_ttuple,
  k_tstr_ttuple,
  k_tint_tstr,
  k_tstr_tint,
  k_tstr_tbool,
  k_Program_Program,
  mg_of X G G_START_NAMES,
  fun H=>.inr ⟨_,_,_,L_START_NAMES,rfl,rfl,by show 2≤sizeLine;decide,by exact .cons ⟨_,rfl⟩ (.cons ⟨_,rfl⟩ (.nil))⟩,
  mg_of X G G_SEND_NAMES,
  fun H=>.inr ⟨_,_,_,L_SEND_NAMES,rfl,rfl,by show 5≤sizeLine;decide,by exact .cons ⟨_,rfl⟩ (.cons ⟨_,rfl⟩ (.cons ⟨_,rfl⟩ (.cons ⟨_,rfl⟩ (.cons ⟨_,rfl⟩ (.nil)))))⟩,
  mg_of X G G_RENEW_NAMES,
  fun H=>.inr ⟨_,_,_,L_RENEW_NAMES,rfl,rfl,by show 8≤sizeLine;decide,by exact .cons ⟨_,rfl⟩ (.cons ⟨_,rfl⟩ (.cons ⟨_,rfl⟩ (.cons ⟨_,rfl⟩ (.cons ⟨_,rfl⟩ (.cons ⟨_,rfl⟩ (.cons ⟨_,rfl⟩ (.cons ⟨_,rfl⟩ (.nil))))))))⟩,
  mg_of X G G_TWO_WORDS,
  fun H=>.inr ⟨_,_,_,L_TWO_WORDS,rfl,rfl,by show 4≤sizeLine;decide,by exact .cons ⟨_,rfl⟩ (.cons ⟨_,rfl⟩ (.cons ⟨_,rfl⟩ (.cons ⟨_,rfl⟩ (.nil))))⟩,
  mg_of X G G_MOST_WORDS,
  mg_of X G G_MOST_DEEP,
  mg_of X G G_ALL_NAMES,
  fun H=>.inr ⟨_,_,_,L_ALL_NAMES,rfl,rfl,by show 9≤sizeLine;decide,by exact .cons ⟨_,rfl⟩ (.cons ⟨_,rfl⟩ (.cons ⟨_,rfl⟩ (.cons ⟨_,rfl⟩ (.cons ⟨_,rfl⟩ (.cons ⟨_,rfl⟩ (.cons ⟨_,rfl⟩ (.cons ⟨_,rfl⟩ (.cons ⟨_,rfl⟩ (.nil)))))))))⟩,
  mg_of X G G_ROW_WORDS,
  fun H=>.inr ⟨_,_,_,L_ROW_WORDS,rfl,rfl,by show 4≤sizeLine;decide,by exact .cons ⟨_,rfl⟩ (.cons ⟨_,rfl⟩ (.cons ⟨_,rfl⟩ (.cons ⟨_,rfl⟩ (.nil))))⟩,
  mg_of X G G_PARTS,
  ⟨M_PARTS,by decide +kernel,[⟨"add",2,u_PARTS0,v_PARTS0⟩,⟨"sub",2,u_PARTS1,v_PARTS1⟩,⟨"min",2,u_PARTS2,v_PARTS2⟩,⟨"max",2,u_PARTS3,v_PARTS3⟩,⟨"mod",2,u_PARTS4,v_PARTS4⟩,⟨"less",4,u_PARTS5,v_PARTS5⟩],n_PARTS,L_PARTS,rfl⟩,
  mg_of X G G_FIGURES,
  mg_of X G A_NoProgram,
  X_NoProgram,
  mg_of X G A_NoText,
  Y1_NoText,
  Y2_NoText,
  y3_NoText,
  ⟨y4_NoText,y5_NoText,Y6_NoText,y7_NoText⟩,
  by unfold PySem.W.takerIn;rw[y8_NoText];rfl,
  ⟨y9_NoText,yA_NoText,yB_NoText,y7_NoText,y8_NoText⟩,
  Y_NoProgram_NoText⟩
end K04
open PySem PySem.W PyProof.Rows
set_option maxRecDepth 100000 in
set_option maxHeartbeats 0 in
theorem PySem.Challenge.cw_beatless_k12_whole_texts_read_holds : PySem.Challenge.rw_beatless_k12_whole_texts_read.Holds := by
 w_on;o_law
 refine holds_open (XP:=XL Hd.Q []) (YP:=(kHook Hd.K Hd.as Hd.asK).says) Hd.left Hd.hk.of Hd.hk.keeps
  (fun s z=>xl_of s (Hd.both z).1) XL.keeps (by rfl) (by rfl) (by rfl)
  (fun s z=>recFacts_of (Hd.both z).2) (by rfl) (by assumption) (by decide +kernel)
  ⟨rfl,rfl,rfl,rfl,rfl,by decide +kernel⟩ ?hw ?hc
 case hw=>w_witness2
 k_fill
 refine L2.walk_ofK (l:=PySem.Challenge.rw_beatless_k12_whole_texts_read) (n:=63) (k:=103) (x := "_law_script") (CX:=L2.CX0) (sp:=K04.spLaw) rfl (by decide) rfl ⟨rfl,by decide,by decide⟩ (fun w h Y=>PySem.W.kIn_of Y) ?F ?S ?C
 case F =>
  intro w mg fa h KX G hmg
  have T:∃ a,K04.Txt w (L2.KOf KX) mg a:=by
   dsimp only[L2.KOf]
   refine' K04.txt_mk KX G ?z_len ?z_int ?z_min ?z_max ?z_range ?z_isinstance ?z_zip ?z_abs ?z_str ?z_sum ?z_bool ?z_tuple ?z_enumerate ?z_reversed ?z_ValueError ?A_Num ?A_Name ?A_Two ?A_Mod ?A_Less ?A_Program ?A_NoText ?a_0 ?l_0 ?cc_0 ?kk_0 ?a_1 ?l_1 ?cc_1 ?kk_1 ?a_2 ?l_2 ?cc_2 ?kk_2 ?a_3 ?l_3 ?cc_3 ?kk_3 ?a_4 ?l_4 ?cc_4 ?kk_4 ?a_5 ?l_5 ?cc_5 ?kk_5 ?a_6 ?l_6 ?cc_6 ?kk_6 ?a_7 ?l_7 ?cc_7 ?kk_7 ?a_8 ?l_8 ?cc_8 ?kk_8 ?a_9 ?l_9 ?cc_9 ?kk_9 ?a_10 ?l_10 ?cc_10 ?kk_10 ?a_11 ?l_11 ?cc_11 ?kk_11 ?a_12 ?l_12 ?cc_12 ?kk_12 ?a_13 ?l_13 ?cc_13 ?kk_13 ?a_14 ?l_14 ?cc_14 ?kk_14 ?a_15 ?l_15 ?cc_15 ?kk_15 ?a_16 ?l_16 ?cc_16 ?kk_16 ?a_17 ?l_17 ?cc_17 ?kk_17 ?a_18 ?l_18 ?cc_18 ?kk_18 ?a_19 ?l_19 ?cc_19 ?kk_19 ?a_20 ?l_20 ?cc_20 ?kk_20 ?a_21 ?l_21 ?cc_21 ?kk_21 ?a_22 ?i_22 ?l_22 ?cc_22 ?kk_22 ?a_23 ?i_23 ?l_23 ?cc_23 ?kk_23 ?a_24 ?i_24 ?l_24 ?cc_24 ?kk_24 ?a_25 ?i_25 ?l_25 ?cc_25 ?kk_25 ?a_26 ?i_26 ?l_26 ?cc_26 ?kk_26 ?a_27 ?i_27 ?l_27 ?cc_27 ?kk_27 ?a_28 ?i_28 ?l_28 ?cc_28 ?kk_28 ?a_29 ?i_29 ?l_29 ?cc_29 ?kk_29 ?a_30 ?i_30 ?l_30 ?cc_30 ?kk_30 ?a_31 ?i_31 ?l_31 ?cc_31 ?kk_31 ?a_32 ?i_32 ?l_32 ?cc_32 ?kk_32 ?a_33 ?i_33 ?l_33 ?cc_33 ?kk_33 ?a_34 ?i_34 ?l_34 ?cc_34 ?kk_34 ?a_35 ?i_35 ?l_35 ?cc_35 ?kk_35 ?a_36 ?i_36 ?l_36 ?cc_36 ?kk_36 ?a_37 ?i_37 ?l_37 ?cc_37 ?kk_37 ?a_38 ?i_38 ?l_38 ?cc_38 ?kk_38 ?pg_Num ?hd_Num ?po_Num ?sa_Num ?mk_Num ?kc_Num ?ha_Num ?hm_Num ?na_Num_value ?pg_Name ?hd_Name ?po_Name ?sa_Name ?mk_Name ?kc_Name ?ha_Name ?hm_Name ?na_Name_word ?pg_Two ?hd_Two ?po_Two ?sa_Two ?mk_Two ?kc_Two ?ha_Two ?hm_Two ?na_Two_word ?na_Two_one ?na_Two_other ?pg_Mod ?hd_Mod ?po_Mod ?sa_Mod ?mk_Mod ?kc_Mod ?ha_Mod ?hm_Mod ?na_Mod_inner ?na_Mod_number ?pg_Less ?hd_Less ?po_Less ?sa_Less ?mk_Less ?kc_Less ?ha_Less ?hm_Less ?na_Less_one ?na_Less_other ?na_Less_third ?na_Less_fourth ?pg_Program ?hd_Program ?po_Program ?sa_Program ?mk_Program ?kc_Program ?ha_Program ?hm_Program ?na_Program_start ?na_Program_send ?na_Program_when ?na_Program_renew ?hn ?htk ?A_NoProgram ?X_NoProgram ?Y1_NoText ?Y2_NoText ?y3_NoText ?y4_NoText ?y5_NoText ?Y6_NoText ?y7_NoText ?y8_NoText ?y9_NoText ?yA_NoText ?yB_NoText ?Y_NoProgram_NoText ?k_Num_Num ?k_Name_Num ?k_Name_Name ?k_Two_Num ?k_Two_Name ?k_Two_Two ?k_Mod_Num ?k_Mod_Name ?k_Mod_Two ?k_Mod_Mod ?k_Less_Num ?k_Less_Name ?k_Less_Two ?k_Less_Mod ?k_Less_Less ?k_tint_tint ?k_tint_tbool ?k_tstr_tstr ?k_ttuple_ttuple ?k_tint_ttuple ?k_tstr_ttuple ?k_tint_tstr ?k_tstr_tint ?k_tstr_tbool ?k_Program_Program ?G_START_NAMES ?L_START_NAMES ?G_SEND_NAMES ?L_SEND_NAMES ?G_RENEW_NAMES ?L_RENEW_NAMES ?G_TWO_WORDS ?L_TWO_WORDS ?G_MOST_WORDS ?G_MOST_DEEP ?G_ALL_NAMES ?L_ALL_NAMES ?G_ROW_WORDS ?L_ROW_WORDS ?G_PARTS ?L_PARTS ?M_PARTS ?G_FIGURES
   (case z_len=>k_is)
   (case z_int=>k_is)
   (case z_min=>k_is)
   (case z_max=>k_is)
   (case z_range=>k_is)
   (case z_isinstance=>k_is)
   (case z_zip=>k_is)
   (case z_abs=>k_is)
   (case z_str=>k_is)
   (case z_sum=>k_is)
   (case z_bool=>k_is)
   (case z_tuple=>k_is)
   (case z_enumerate=>k_is)
   (case z_reversed=>k_is)
   (case z_ValueError=>k_is)
   (case A_Num=>k_is)
   (case A_Name=>k_is)
   (case A_Two=>k_is)
   (case A_Mod=>k_is)
   (case A_Less=>k_is)
   (case A_Program=>k_is)
   (case A_NoText=>k_is)
   (case a_0=>k_is)
   (case l_0=>k_is)
   (case cc_0=>k_is)
   (case kk_0=>k_is)
   (case a_1=>k_is)
   (case l_1=>k_is)
   (case cc_1=>k_is)
   (case kk_1=>k_is)
   (case a_2=>k_is)
   (case l_2=>k_is)
   (case cc_2=>k_is)
   (case kk_2=>k_is)
   (case a_3=>k_is)
   (case l_3=>k_is)
   (case cc_3=>k_is)
   (case kk_3=>k_is)
   (case a_4=>k_is)
   (case l_4=>k_is)
   (case cc_4=>k_is)
   (case kk_4=>k_is)
   (case a_5=>k_is)
   (case l_5=>k_is)
   (case cc_5=>k_is)
   (case kk_5=>k_is)
   (case a_6=>k_is)
   (case l_6=>k_is)
   (case cc_6=>k_is)
   (case kk_6=>k_is)
   (case a_7=>k_is)
   (case l_7=>k_is)
   (case cc_7=>k_is)
   (case kk_7=>k_is)
   (case a_8=>k_is)
   (case l_8=>k_is)
   (case cc_8=>k_is)
   (case kk_8=>k_is)
   (case a_9=>k_is)
   (case l_9=>k_is)
   (case cc_9=>k_is)
   (case kk_9=>k_is)
   (case a_10=>k_is)
   (case l_10=>k_is)
   (case cc_10=>k_is)
   (case kk_10=>k_is)
   (case a_11=>k_is)
   (case l_11=>k_is)
   (case cc_11=>k_is)
   (case kk_11=>k_is)
   (case a_12=>k_is)
   (case l_12=>k_is)
   (case cc_12=>k_is)
   (case kk_12=>k_is)
   (case a_13=>k_is)
   (case l_13=>k_is)
   (case cc_13=>k_is)
   (case kk_13=>k_is)
   (case a_14=>k_is)
   (case l_14=>k_is)
   (case cc_14=>k_is)
   (case kk_14=>k_is)
   (case a_15=>k_is)
   (case l_15=>k_is)
   (case cc_15=>k_is)
   (case kk_15=>k_is)
   (case a_16=>k_is)
   (case l_16=>k_is)
   (case cc_16=>k_is)
   (case kk_16=>k_is)
   (case a_17=>k_is)
   (case l_17=>k_is)
   (case cc_17=>k_is)
   (case kk_17=>k_is)
   (case a_18=>k_is)
   (case l_18=>k_is)
   (case cc_18=>k_is)
   (case kk_18=>k_is)
   (case a_19=>k_is)
   (case l_19=>k_is)
   (case cc_19=>k_is)
   (case kk_19=>k_is)
   (case a_20=>k_is)
   (case l_20=>k_is)
   (case cc_20=>k_is)
   (case kk_20=>k_is)
   (case a_21=>k_is)
   (case l_21=>k_is)
   (case cc_21=>k_is)
   (case kk_21=>k_is)
   (case a_22=>k_is)
   (case i_22=>k_is)
   (case l_22=>k_is)
   (case cc_22=>k_is)
   (case kk_22=>k_is)
   (case a_23=>k_is)
   (case i_23=>k_is)
   (case l_23=>k_is)
   (case cc_23=>k_is)
   (case kk_23=>k_is)
   (case a_24=>k_is)
   (case i_24=>k_is)
   (case l_24=>k_is)
   (case cc_24=>k_is)
   (case kk_24=>k_is)
   (case a_25=>k_is)
   (case i_25=>k_is)
   (case l_25=>k_is)
   (case cc_25=>k_is)
   (case kk_25=>k_is)
   (case a_26=>k_is)
   (case i_26=>k_is)
   (case l_26=>k_is)
   (case cc_26=>k_is)
   (case kk_26=>k_is)
   (case a_27=>k_is)
   (case i_27=>k_is)
   (case l_27=>k_is)
   (case cc_27=>k_is)
   (case kk_27=>k_is)
   (case a_28=>k_is)
   (case i_28=>k_is)
   (case l_28=>k_is)
   (case cc_28=>k_is)
   (case kk_28=>k_is)
   (case a_29=>k_is)
   (case i_29=>k_is)
   (case l_29=>k_is)
   (case cc_29=>k_is)
   (case kk_29=>k_is)
   (case a_30=>k_is)
   (case i_30=>k_is)
   (case l_30=>k_is)
   (case cc_30=>k_is)
   (case kk_30=>k_is)
   (case a_31=>k_is)
   (case i_31=>k_is)
   (case l_31=>k_is)
   (case cc_31=>k_is)
   (case kk_31=>k_is)
   (case a_32=>k_is)
   (case i_32=>k_is)
   (case l_32=>k_is)
   (case cc_32=>k_is)
   (case kk_32=>k_is)
   (case a_33=>k_is)
   (case i_33=>k_is)
   (case l_33=>k_is)
   (case cc_33=>k_is)
   (case kk_33=>k_is)
   (case a_34=>k_is)
   (case i_34=>k_is)
   (case l_34=>k_is)
   (case cc_34=>k_is)
   (case kk_34=>k_is)
   (case a_35=>k_is)
   (case i_35=>k_is)
   (case l_35=>k_is)
   (case cc_35=>k_is)
   (case kk_35=>k_is)
   (case a_36=>k_is)
   (case i_36=>k_is)
   (case l_36=>k_is)
   (case cc_36=>k_is)
   (case kk_36=>k_is)
   (case a_37=>k_is)
   (case i_37=>k_is)
   (case l_37=>k_is)
   (case cc_37=>k_is)
   (case kk_37=>k_is)
   (case a_38=>k_is)
   (case i_38=>k_is)
   (case l_38=>k_is)
   (case cc_38=>k_is)
   (case kk_38=>k_is)
   (case pg_Num=>k_is)
   (case hd_Num=>k_is)
   (case po_Num=>k_is)
   (case sa_Num=>k_is)
   (case mk_Num=>k_is)
   (case kc_Num=>k_is)
   (case ha_Num=>k_is)
   (case hm_Num=>k_is)
   (case na_Num_value=>k_is)
   (case pg_Name=>k_is)
   (case hd_Name=>k_is)
   (case po_Name=>k_is)
   (case sa_Name=>k_is)
   (case mk_Name=>k_is)
   (case kc_Name=>k_is)
   (case ha_Name=>k_is)
   (case hm_Name=>k_is)
   (case na_Name_word=>k_is)
   (case pg_Two=>k_is)
   (case hd_Two=>k_is)
   (case po_Two=>k_is)
   (case sa_Two=>k_is)
   (case mk_Two=>k_is)
   (case kc_Two=>k_is)
   (case ha_Two=>k_is)
   (case hm_Two=>k_is)
   (case na_Two_word=>k_is)
   (case na_Two_one=>k_is)
   (case na_Two_other=>k_is)
   (case pg_Mod=>k_is)
   (case hd_Mod=>k_is)
   (case po_Mod=>k_is)
   (case sa_Mod=>k_is)
   (case mk_Mod=>k_is)
   (case kc_Mod=>k_is)
   (case ha_Mod=>k_is)
   (case hm_Mod=>k_is)
   (case na_Mod_inner=>k_is)
   (case na_Mod_number=>k_is)
   (case pg_Less=>k_is)
   (case hd_Less=>k_is)
   (case po_Less=>k_is)
   (case sa_Less=>k_is)
   (case mk_Less=>k_is)
   (case kc_Less=>k_is)
   (case ha_Less=>k_is)
   (case hm_Less=>k_is)
   (case na_Less_one=>k_is)
   (case na_Less_other=>k_is)
   (case na_Less_third=>k_is)
   (case na_Less_fourth=>k_is)
   (case pg_Program=>k_is)
   (case hd_Program=>k_is)
   (case po_Program=>k_is)
   (case sa_Program=>k_is)
   (case mk_Program=>k_is)
   (case kc_Program=>k_is)
   (case ha_Program=>k_is)
   (case hm_Program=>k_is)
   (case na_Program_start=>k_is)
   (case na_Program_send=>k_is)
   (case na_Program_when=>k_is)
   (case na_Program_renew=>k_is)
   (case hn=>k_is)
   (case htk=>k_is)
   (case A_NoProgram=>k_is)
   (case X_NoProgram=>k_exc)
   (case Y1_NoText=>kernel_rfl)
   (case Y2_NoText=>kernel_rfl)
   (case y3_NoText=>k_is)
   (case y4_NoText=>k_is)
   (case y5_NoText=>k_is)
   (case Y6_NoText=>kernel_rfl)
   (case y7_NoText=>k_is)
   (case y8_NoText=>k_is)
   (case y9_NoText=>k_is)
   (case yA_NoText=>k_is)
   (case yB_NoText=>k_is)
   (case Y_NoProgram_NoText=>kernel_rfl)
   (case k_Num_Num=>kit_is)
   (case k_Name_Num=>kit_is)
   (case k_Name_Name=>kit_is)
   (case k_Two_Num=>kit_is)
   (case k_Two_Name=>kit_is)
   (case k_Two_Two=>kit_is)
   (case k_Mod_Num=>kit_is)
   (case k_Mod_Name=>kit_is)
   (case k_Mod_Two=>kit_is)
   (case k_Mod_Mod=>kit_is)
   (case k_Less_Num=>kit_is)
   (case k_Less_Name=>kit_is)
   (case k_Less_Two=>kit_is)
   (case k_Less_Mod=>kit_is)
   (case k_Less_Less=>kit_is)
   (case k_tint_tint=>kit_is)
   (case k_tint_tbool=>kit_is)
   (case k_tstr_tstr=>kit_is)
   (case k_ttuple_ttuple=>kit_is)
   (case k_tint_ttuple=>kit_is)
   (case k_tstr_ttuple=>kit_is)
   (case k_tint_tstr=>kit_is)
   (case k_tstr_tint=>kit_is)
   (case k_tstr_tbool=>kit_is)
   (case k_Program_Program=>kit_is)
   (case G_START_NAMES=>k_is)
   (case L_START_NAMES=>k_is)
   (case G_SEND_NAMES=>k_is)
   (case L_SEND_NAMES=>k_is)
   (case G_RENEW_NAMES=>k_is)
   (case L_RENEW_NAMES=>k_is)
   (case G_TWO_WORDS=>k_is)
   (case L_TWO_WORDS=>k_is)
   (case G_MOST_WORDS=>k_is)
   (case G_MOST_DEEP=>k_is)
   (case G_ALL_NAMES=>k_is)
   (case L_ALL_NAMES=>k_is)
   (case G_ROW_WORDS=>k_is)
   (case L_ROW_WORDS=>k_is)
   (case G_PARTS=>k_is)
   (case L_PARTS=>k_is)
   (case M_PARTS=>rfl)
   (case G_FIGURES=>k_is)
  obtain⟨a,T⟩:=T
  have e0:=hmg.symm.trans T.g_qv
  cases e0
  exact⟨_,T.b0_qv,fun base kb nb=>K04.ok_law T⟩
 case S=>exact fun K H a ns hl hO hS=>K04.sp_law_of hl hO hS
 case C=>exact fun _ _ _ _ z=>z

