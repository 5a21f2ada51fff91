import PyProof.Rows.All
import Wide.All
import OpenK.AllK
import Wide.FinOn
import PySem.Challenge.RW_beatless_k28_ways_with_something_wrong
import Lean
import PyProof.EqAt
import PyProof.EqKinds
import PyProof.TupleCall
import PyProof.ZipIter
import PyProof.WalksMore
import KE.KRevSl
import KE.KIntText
import KE.KRevIter
import PyProof.Draws
import PyProof.EnumFor
import PyProof.EnumStmt
import PyProof.AttrMissHeap
import PyProof.DictUpdate
import PyProof.DictValues
import KE.KDictList
import PyProof.DictItemsLoops
import PyProof.DictWalks
import PyProof.Rows.SetFrom
import PyProof.DictItems
import PyProof.Rows.SortRev
import PyProof.ReprRoads
import PyProof.FactsAll.bool_1
set_option Elab.async false
open Nat (le_of_eq le_succ le_trans lt_irrefl lt_of_le_of_lt lt_of_lt_of_le lt_trans min_self ne_of_gt ne_of_lt zero_le)
open List (all_cons all_eq_true any_cons any_eq_true append_assoc append_nil filter_append flatMap_cons getElem_mem length_append length_cons length_drop length_filter_le length_map length_nil length_pos_of_mem length_singleton length_take length_zip lookup_cons map_append map_congr_left map_cons map_map map_nil map_take mem_append mem_append_right mem_cons mem_cons_of_mem mem_cons_self mem_filter mem_filterMap mem_map mem_of_find?_eq_some mem_of_getElem? mem_of_mem_take mem_singleton mem_toArray nodup_append nodup_cons nodup_iff_pairwise_ne nodup_nil of_mem_zip pairwise_cons pairwise_map size_toArray take_add_one take_append_drop take_length take_of_length_le take_sublist)
open Array (length_toList mem_def toList_map toList_push toList_zip)
open Option (getD_none isSome_iff_exists isSome_map map_eq_some_iff)
open Bool (and_eq_true and_eq_true_iff false_eq_true not_eq_true or_eq_true)
open Int (emod_nonneg)
set_option compiler.extract_closed false
set_option linter.all false
set_option maxRecDepth 100000
abbrev LI:=List Int
abbrev LP:=List (Int×Int)
namespace L2
open PySem PySem.Spec PyProof.Rows
structure Bx (p:Prop):Prop where
 of:p
abbrev Key:=Sum Int Str
def wu:Key->Value->Bool
 |.inl k,v=>Value.isInt k v
 |.inr x,v=>Value.isStrOf x v
def zc6(w:World):Key->Int
 |.inl k=>hashInt k
 |.inr x=>hashStr w x
theorem zN:∀ {k:Key}{v:Value},wu k v=true->(∃ i t,k=Sum.inl i/\v=Value.int i t)\/(∃ x t,k=Sum.inr x/\v=Value.str x t)
 |.inl i,v,h=>by
  obtain⟨t,e⟩:=Value.isInt_shape (k:=i) (v:=v) h;exact .inl ⟨i,t,rfl,e⟩
 |.inr x,v,h=>by
  obtain⟨t,e⟩:=Value.isStrOf_shape (x:=x) (v:=v) h;exact .inr ⟨x,t,rfl,e⟩
theorem uB(i:Int)(t:Tok):wu (.inl i) (.int i t)=true:=by simp[wu,Value.isInt]
theorem Xx(x:Str)(t:Tok):wu (.inr x) (.str x t)=true:=by simp[wu,Value.isStrOf]
theorem uA(a b:Int):decide ((Sum.inl a:Key)=Sum.inl b)=(a == b):=by
 by_cases e:a=b
 ·subst e;simp
 ·have h:¬ (Sum.inl a:Key)=Sum.inl b:=fun q=>e (Sum.inl.inj q)
  rw[decide_eq_false h];exact(beq_eq_false_iff_ne.mpr e).symm
theorem VH(a b:Str):decide ((Sum.inr a:Key)=Sum.inr b)=decide (a=b):=by
 by_cases e:a=b
 ·subst e;simp
 ·have h:¬ (Sum.inr a:Key)=Sum.inr b:=fun q=>e (Sum.inr.inj q)
  rw[decide_eq_false h,decide_eq_false e]
theorem Xw(a:Int)(b:Str):decide ((Sum.inl a:Key)=Sum.inr b)=false:=decide_eq_false (fun q=>nomatch q)
theorem Xv(a:Str)(b:Int):decide ((Sum.inr a:Key)=Sum.inl b)=false:=decide_eq_false (fun q=>nomatch q)
def zv(prog:Program)(w:World):PySem.KeyKind prog w Key where
 is:=wu
 hash:=zc6 w
 inj:=fun v a b ha hb=>by
  rcases zN ha with⟨i,t,rfl,rfl⟩ | ⟨x,t,rfl,rfl⟩
  ·rcases zN hb with⟨j,u,rfl,e⟩ | ⟨y,u,rfl,e⟩
   ·injection e with e1 _;rw[e1]
   ·exact nomatch e
  ·rcases zN hb with⟨j,u,rfl,e⟩ | ⟨y,u,rfl,e⟩
   ·exact nomatch e
   ·injection e with e1 _;rw[e1]
 byValue:=fun k v h=>by
  rcases zN h with⟨i,t,rfl,rfl⟩ | ⟨x,t,rfl,rfl⟩<;>rfl
 pyHash:=fun hv h=>by
  rcases zN hv with⟨i,t,rfl,rfl⟩ | ⟨x,t,rfl,rfl⟩
  ·exact wpAny_pyHash_int h
  ·exact wpAny_pyHash_str h
 eqBool:=fun hu hv h=>by
  rcases zN hu with⟨i,t,rfl,rfl⟩ | ⟨x,t,rfl,rfl⟩
  ·rcases zN hv with⟨j,u,rfl,rfl⟩ | ⟨y,u,rfl,rfl⟩
   ·rw[uA] at h;exact wpAny_eqBool_int h
   ·rw[Xw] at h;exact SeqAt.EqAt.int_str i t y u _ _ _ _ h
  ·rcases zN hv with⟨j,u,rfl,rfl⟩ | ⟨y,u,rfl,rfl⟩
   ·rw[Xv] at h;exact SeqAt.EqAt.str_int x t j u _ _ _ _ h
   ·rw[VH] at h;exact wpAny_eqBool_str h
 «strs»:=fun k x t v h=>by
  rcases zN h with⟨i,u,rfl,e⟩ | ⟨y,u,rfl,e⟩
  ·exact nomatch e
  ·injection e with e1 _
   subst e1;cases v<;>rfl
theorem wb(prog:Program)(w:World)(k:Key)(v:Value):(zv prog w).is k v=wu k v:=rfl
theorem Zl(prog:Program)(w:World)(i:Int)(t:Tok):(zv prog w).is (.inl i) (.int i t)=true:=uB i t
theorem Zk(prog:Program)(w:World)(x:Str)(t:Tok):(zv prog w).is (.inr x) (.str x t)=true:=Xx x t
inductive V where
 |non | bl (b:Bool) | int (i:Int) | str (x:Str) | byt (b:Array UInt8) | flt (b:UInt64) | ref (a:Addr) | ty (n:String)
 deriving DecidableEq
def RelV:V->Value->Prop
 |.non,u=>u=Value.none
 |.bl b,u=>u=Value.bool b
 |.int i,u=>∃ t,u=Value.int i t
 |.str x,u=>∃ t,u=Value.str x t
 |.byt b,u=>∃ t,u=Value.bytes b t
 |.flt b,u=>∃ t,u=Value.float b t
 |.ref a,u=>u=Value.ref a
 |.ty n,u=>u=Value.type n
abbrev Vals:List V->List Value->Prop:=Paired RelV
theorem Vals.length{xs:List V}{us:List Value}(r:Vals xs us):xs.length=us.length:=Paired.length r
theorem Vals.get:∀ {xs:List V}{us:List Value}{i:Nat}{x:V},Vals xs us->xs[i]?=some x->∃ u,us[i]?=some u/\RelV x u
 |_,_,_,_,.nil,e=>by simp at e
 |_,_,0,_,.cons r _,e=>by simp at e;subst e;exact⟨_,rfl,r⟩
 |_,_,i+1,x,.cons _ t,e=>by
  obtain⟨u,h1,h2⟩:=Vals.get (i:=i) (x:=x) t (by simpa using e);exact⟨u,by simpa using h1,h2⟩
theorem Vals.set{x:V}{u:Value}(r:RelV x u):∀ {xs:List V}{us:List Value}(i:Nat),Vals xs us->Vals (xs.set i x) (us.set i u)
 |_,_,_,.nil=>.nil
 |_,_,0,.cons _ t=>.cons r t
 |_,_,i+1,.cons q t=>.cons q (Vals.set r i t)
theorem Vals.append:∀ {xs ys:List V}{us ws:List Value},Vals xs us->Vals ys ws->Vals (xs++ys) (us++ws)
 |_,_,_,_,.nil,s=>s
 |_,_,_,_,.cons r t,s=>.cons r (Vals.append t s)
theorem Vals.take:∀ {xs:List V}{us:List Value}(n:Nat),Vals xs us->Vals (xs.take n) (us.take n)
 |_,_,0,_=>.nil
 |_,_,_+1,.nil=>.nil
 |_,_,n+1,.cons r t=>.cons r (Vals.take n t)
theorem Vals.drop:∀ {xs:List V}{us:List Value}(n:Nat),Vals xs us->Vals (xs.drop n) (us.drop n)
 |_,_,0,r=>r
 |_,_,_+1,.nil=>.nil
 |_,_,n+1,.cons _ t=>Vals.drop n t
def RelO:Option V->Option Value->Prop
 |some v,some u=>RelV v u
 |none,none=>True
 |_,_=>False
def KV{κ:Type}:List (κ×V)->List (κ×Value)->Prop:=Paired fun(p:κ×V) (q:κ×Value)=>p.1=q.1/\RelV p.2 q.2
def kV:Key->V
 |.inl i=>.int i
 |.inr x=>.str x
inductive HO where
 /-- a list -/
 |lst (xs:List V)
 /-- a tuple (never changes) -/
 |tup (xs:List V)
 /-- a dict whose keys are ints and texts;one whose keys are tuples of ints and texts (the empty one is both) -/
 |dK (kvs:List (Key×V)) | dT (kvs:List (List Key×V))
 /-- a set of ints: its members,its size -/
 |set (S:Int->Bool) (n:Nat)
 /-- an instance of the class at C,its dict at dx,its attributes -/
 |ins (C dx:Addr) (fs:List (Str×V))
 /-- the dict of the instance at x -/
 |own (x:Addr)
 /-- the dict of an exception -/
 |xd (fs:List (Str×V))
 /-- a bound method,f of x -/
 |met (f x:Addr)
 /-- a range object lo,lo+1,.. below hi -/
 |rng (lo hi:Int)
 /-- a thing that is known to the object (the script;a dict while a loop walks it): read,never written while it is so -/
 |frz (o:Obj) (u:HO)
 /-- a code object's table -/
 |tbl (ps:Array Value)
 /-- any other thing,by what is true of its one object (a def of one's own: SetO a S n:=HO.ext fun h=>..) -/
 |ext (φ:Heap->Prop)
abbrev Hp:=Addr->Option HO
def upd(H:Hp)(a:Addr)(o:HO):Hp:=fun b=>if b=a then some o else H b
theorem za{H:Hp}{a:Addr}{o:HO}:upd H a o a=some o:=by unfold upd;rw[if_pos rfl]
theorem upd_ne{H:Hp}{a b:Addr}{o:HO}(h:b≠a):upd H a o b=H b:=by unfold upd;rw[if_neg h]
theorem vM{H:Hp}{a:Addr}{o u:HO}:upd (upd H a o) a u=upd H a u:=by
 funext b;unfold upd;split<;>rfl
theorem Uv{H:Hp}{a b:Addr}{o u:HO}(h:H a=some o)(h':H b=some u)(d:o≠u):a≠b:=by
 intro e;subst e;rw[h] at h';exact d (Option.some.inj h')
theorem nZ{H:Hp}{a b:Addr}{o:HO}(h:H a=some o)(h':H b=none):a≠b:=by
 intro e;subst e;rw[h] at h';cases h'
section
variable (P:Program) (w:World)
def ObjOk(H:Hp)(h:Heap)(a:Addr):HO->Prop
 |.lst xs=>xs.length<=sizeLine/\∃ (its:List Value) (n:Nat),Vals xs its/\h.get? a=some { cls:=.type "list",data:=.seq its.toArray n }
 |.tup xs=>xs.length<=sizeLine/\∃ its:List Value,Vals xs its/\IsTup h a its.toArray
 |.dK kvs=>kvs.length<=sizeLine/\(a == sysModules)=false/\∃ vs,KV kvs vs/\h.DictOf (zv P w) a vs
 |.dT kvs=>kvs.length<=sizeLine/\(a == sysModules)=false/\∃ xs:List (List Key×Addr×Value),
   Paired (fun(p:List Key×V) (q:List Key×Addr×Value)=>p.1=q.1/\H q.2.1=some (.tup (p.1.map kV))/\RelV p.2 q.2.2) kvs xs /\
   ∃ o es ep,h.get? a=some o/\o.ExactDict/\o.data=.dict es ep/\es.toList=xs.map (entryOfKey (tupleKind (zv P w)))/\(xs.map (·.1)).Nodup
 |.set S n=>h.SetOf (intKind P w) a S n
 |.ins C dx fs=>H dx=some (.own a)/\fs.length<=1000/\dx≠a/\h.get? a=some (PySem.W.instObj C dx) /\
   ∃ mA,h.Ns1 dx mA/\(∀ f,RelO (fs.lookup f) (mA f))/\PySem.Within mA (fs.map (·.1))
 |.own _=>∃ o,h.get? a=some o
 |.xd fs=>∃ mA,h.Ns1 a mA/\∀ f,RelO (fs.lookup f) (mA f)
 |.rng lo hi=>∃ t u v,h.get? a=some { cls:=.type "range",data:=.fields #[.int lo t,.int hi u,.int 1 v] }
 |.frz o u=>h.get? a=some o/\ObjOk H h a u
 |.tbl ps=>h.get? a=some { cls:=.none,data:=.fields ps }
 |.met f x=>h.get? a=some (PySem.W.methodObj (.ref f) (.ref x))
 |.ext φ=>φ h/\(∃ o,h.get? a=some o)/\∀ h1 h2:Heap,φ h1->(∀ o,h1.get? a=some o->h2.get? a=some o)->φ h2
def HOk(H:Hp)(h:Heap):Prop:=∀ a o,H a=some o->ObjOk P w H h a o
end
section
variable {P:Program}{w:World}{H H':Hp}{h h':Heap}{a:Addr}{o:HO}
theorem ObjOk.lt(x:ObjOk P w H h a o):a<h.objs.size:=by
 cases o with
 |lst xs=>obtain⟨_,_,_,_,e⟩:=x;exact Heap.lt_size e
 |tup xs=>obtain⟨_,_,_,p⟩:=x;exact p.lt
 |dK kvs=>obtain⟨_,_,_,_,o,_,_,e,_⟩:=x;exact Heap.lt_size e
 |dT kvs=>obtain⟨_,_,_,_,o,_,_,e,_⟩:=x;exact Heap.lt_size e
 |set S n=>obtain⟨o,_,_,_,e,_⟩:=x;exact Heap.lt_size e
 |ins C dx fs=>obtain⟨_,_,_,e,_⟩:=x;exact Heap.lt_size e
 |own y=>obtain⟨_,e⟩:=x;exact Heap.lt_size e
 |xd fs=>obtain⟨_,⟨_,_,_,e,_⟩,_⟩:=x;exact Heap.lt_size e
 |rng lo hi=>obtain⟨_,_,_,e⟩:=x;exact Heap.lt_size e
 |frz ob u=>obtain⟨e,_⟩:=x;exact Heap.lt_size e
 |tbl ps=>exact Heap.lt_size (show h.get? a=some _ from x)
 |met f y=>exact Heap.lt_size (show h.get? a=some _ from x)
 |ext φ=>obtain⟨_,⟨_,e⟩,_⟩:=x;exact Heap.lt_size e
theorem Paired.mapP{α β:Type}{F G:α->β->Prop}:∀ {l₁:List α}{l₂:List β},Paired F l₁ l₂->(∀ a b,F a b->G a b)->Paired G l₁ l₂
 |_,_,.nil,_=>.nil
 |_,_,.cons r t,f=>.cons (f _ _ r) (Paired.mapP t f)
theorem ObjOk.stay(x:ObjOk P w H h a o)(k:∀ b u,(b=a\/H b=some (.own a))->h.get? b=some u->h'.get? b=some u)
  (ho:∀ b,H b=some (.own a)->H' b=some (.own a)) (ht:∀ b xs,H b=some (.tup xs)->H' b=some (.tup xs)):ObjOk P w H' h' a o:=by
 induction o with
 |lst xs=>obtain⟨z,its,n,r,e⟩:=x;exact⟨z,its,n,r,k _ _ (.inl rfl) e⟩
 |tup xs=>obtain⟨z,its,r,ob,e,c⟩:=x;exact⟨z,its,r,ob,k _ _ (.inl rfl) e,c⟩
 |dK kvs=>obtain⟨z,y,vs,r,ob,es,ep,e,c⟩:=x;exact⟨z,y,vs,r,ob,es,ep,k _ _ (.inl rfl) e,c⟩
 |dT kvs =>
  obtain⟨z,y,xs,r,ob,es,ep,e,c⟩:=x;exact⟨z,y,xs,Paired.mapP r fun p q z=>⟨z.1,ht _ _ z.2.1,z.2.2⟩,ob,es,ep,k _ _ (.inl rfl) e,c⟩
 |set S n=>obtain⟨ob,es,ep,t,e,c⟩:=x;exact⟨ob,es,ep,t,k _ _ (.inl rfl) e,c⟩
 |ins C dx fs =>
  obtain⟨d,z,ne,e,mA,⟨od,es,ep,e2,c⟩,r⟩:=x;exact⟨ho _ d,z,ne,k _ _ (.inl rfl) e,mA,⟨od,es,ep,k _ _ (.inr d) e2,c⟩,r⟩
 |own y=>obtain⟨ob,e⟩:=x;exact⟨ob,k _ _ (.inl rfl) e⟩
 |xd fs=>obtain⟨mA,⟨od,es,ep,e,c⟩,r⟩:=x;exact⟨mA,⟨od,es,ep,k _ _ (.inl rfl) e,c⟩,r⟩
 |rng lo hi=>obtain⟨t,u,v,e⟩:=x;exact⟨t,u,v,k _ _ (.inl rfl) e⟩
 |frz ob u ih=>obtain⟨e,q⟩:=x;exact⟨k _ _ (.inl rfl) e,ih q⟩
 |tbl ps =>
  have e:h.get? a=some { cls:=.none,data:=.fields ps }:=x;show h'.get? a=some { cls:=.none,data:=.fields ps };exact k a _ (.inl rfl) e
 |met f y =>
  have e:h.get? a=some (PySem.W.methodObj (.ref f) (.ref y)):=x;show h'.get? a=some (PySem.W.methodObj (.ref f) (.ref y));exact k a _ (.inl rfl) e
 |ext φ=>obtain⟨p,⟨o,e⟩,st⟩:=x;exact⟨st _ _ p fun o q=>k _ _ (.inl rfl) q,⟨o,k _ _ (.inl rfl) e⟩,st⟩
theorem HOk.lt(x:HOk P w H h)(e:H a=some o):a<h.objs.size:=(x a o e).lt
theorem HOk.fresh(x:HOk P w H h)(e:h.objs.size<=a):H a=none:=by
 cases q:H a with
 |none=>rfl
 |some u=>exact absurd (lt_of_lt_of_le (x.lt q) e) (lt_irrefl _)
theorem HOk.kept(x:HOk P w H h)(k:∀ b u,h.get? b=some u->h'.get? b=some u):HOk P w H h':=fun a o e =>
 (x a o e).stay (fun b u _ q=>k b u q) (fun _ q=>q) fun _ _ q=>q
theorem HOk.laid(x:HOk P w H h)(k:∀ b u,h.get? b=some u->h'.get? b=some u)(hp:h.objs.size<=a)(new:ObjOk P w (upd H a o) h' a o):HOk P w (upd H a o) h':=fun b u e=>by
 have hn:=x.fresh hp;by_cases hb:b=a
 ·subst hb;rw[za] at e;cases e;exact new
 ·rw[upd_ne hb] at e
  exact(x b u e).stay (fun c v _ q=>k c v q) (fun c q=>by rw[upd_ne (nZ q hn)];exact q) fun c xs q=>by rw[upd_ne (nZ q hn)];exact q
end
def Rd(H:Hp)(a:Addr)(u:HO):Prop:=H a=some u\/∃ o,H a=some (.frz o u)
theorem Rd.ok{P:Program}{w:World}{H:Hp}{h:Heap}{a:Addr}{u:HO}(r:Rd H a u)(x:HOk P w H h):ObjOk P w H h a u:=by
 rcases r with r | ⟨o,r⟩
 ·exact x a u r
 ·obtain⟨_,q⟩:=x a _ r
  exact q
def Mut:Option HO->Prop
 |some (.lst _)=>True
 |some (.dK _)=>True
 |some (.dT _)=>True
 |some (.set _ _)=>True
 |some (.ins _ _ _)=>True
 |some (.ext _)=>True
 |_=>False
section
variable {P:Program}{w:World}{H:Hp}{h h':Heap}{x e:Addr}{o':HO}
theorem HOk.write(ok:HOk P w H h)(mu:Mut (H x))(he:e=x\/H e=some (.own x))(k:∀ b u,b≠e->h.get? b=some u->h'.get? b=some u)(heo:∃ u,h'.get? e=some u)
  (new:ObjOk P w (upd H x o') h' x o'):HOk P w (upd H x o') h':=fun b u q=>by
 have nown:∀ c y,H c=some (.own y)->c≠x:=fun c y r z=>by subst z;rw[r] at mu;exact mu
 have ntup:∀ c xs,H c=some (.tup xs)->c≠x:=fun c xs r z=>by subst z;rw[r] at mu;exact mu
 by_cases hb:b=x
 ·subst hb;rw[za] at q;cases q;exact new
 ·rw[upd_ne hb] at q
  by_cases hbe:b=e
  ·have q':H b=some (.own x):=by
    rcases he with z | z
    ·exact absurd (hbe.trans z) hb
    ·rw[hbe];exact z
   rw[q] at q';cases q';obtain⟨v,hv⟩:=heo;exact⟨v,by rw[hbe];exact hv⟩
  ·refine(ok b u q).stay (fun c v hc r=>k c v ?_ r) (fun c r=>by rw[upd_ne (nown c b r)];exact r) fun c xs r=>by rw[upd_ne (ntup c xs r)];exact r
   rcases hc with rfl | hc
   ·exact hbe
   ·rintro rfl
    rcases he with z | z
    ·exact nown c b hc z
    ·rw[hc] at z;cases z;exact hb rfl
end
structure Un (fs ex:List Addr) (H H':Hp) (h h':Heap):Prop where
 keep:∀ b o,h.get? b=some o->H b=none->b∉fs->b∉ex->h'.get? b=some o
 slot:∀ b o,h.get? b=some o->H b=none->b∈fs->b∉ex->∃ sl,h'.get? b=some { o with slots:=sl }
 free:∀ b o,h.get? b=some o->H b=none->b∉ex->H' b=none
 there:∀ b o,h.get? b=some o->b∉ex->∃ o',h'.get? b=some o'
 tups:∀ b xs,H b=some (.tup xs)->H' b=some (.tup xs)
 frzs:∀ b o u,H b=some (.frz o u)->H' b=some (.frz o u)
 tbls:∀ b ps,H b=some (.tbl ps)->∃ more,H' b=some (.tbl (ps++more))
section
variable {fs fs' ex ex':List Addr}{H H1 H2:Hp}{h h1 h2 h':Heap}{a x e:Addr}{o:HO}
theorem Un.any(u:Un fs ex H H1 h h1){b:Addr}{ob:Obj}(q:h.get? b=some ob)(n:H b=none)(hx:b∉ex):∃ sl,h1.get? b=some { ob with slots:=sl }:=by
 by_cases hb:b∈fs
 ·exact u.slot b ob q n hb hx
 ·exact⟨ob.slots,u.keep b ob q n hb hx⟩
theorem Un.kept(k:∀ b u,h.get? b=some u->h'.get? b=some u):Un fs ex H H h h' :=
 ⟨fun b ob q _ _ _=>k b ob q,fun b ob q _ _ _=>⟨ob.slots,k b ob q⟩,fun _ _ _ n _=>n,fun b ob q _=>⟨ob,k b ob q⟩,fun _ _ q=>q,fun _ _ _ q=>q,fun _ ps q=>⟨#[],by rw[q];simp⟩⟩
theorem Un.refl:Un fs ex H H h h:=Un.kept fun _ _ q=>q
theorem Un.laid(k:∀ b u,h.get? b=some u->h'.get? b=some u)(hp:h.objs.size<=a)(hn:H a=none):Un fs ex H (upd H a o) h h' where
 keep:=fun b u q _ _ _=>k b u q
 slot:=fun b u q _ _ _=>⟨u.slots,k b u q⟩
 free:=fun b u q n _=>by rw[upd_ne (ne_of_lt (lt_of_lt_of_le (Heap.lt_size q) hp))];exact n
 there:=fun b u q _=>⟨u,k b u q⟩
 tups:=fun b xs q=>by rw[upd_ne (nZ q hn)];exact q
 frzs:=fun b u xs q=>by rw[upd_ne (nZ q hn)];exact q
 tbls:=fun b ps q=>⟨#[],by rw[upd_ne (nZ q hn),q];simp⟩
theorem Un.write(mu:Mut (H x))(he:e=x\/H e=some (.own x))(k:∀ b u,b≠e->h.get? b=some u->h'.get? b=some u)(heo:∃ u,h'.get? e=some u):Un fs ex H (upd H x o) h h':=by
 have hx:∀ b,H b=none->b≠x:=fun b n z=>by subst z;rw[n] at mu;exact mu
 have hb:∀ b,H b=none->b≠e:=fun b n z=>by
  subst z;rcases he with r | r
  ·exact hx b n r
  ·rw[n] at r;cases r
 have hm:∀ b u,H b=some u->¬ Mut (some u)->b≠x:=fun b u q nm z=>by subst z;rw[q] at mu;exact nm mu
 refine⟨fun b u q n _ _=>k b u (hb b n) q,fun b u q n _ _=>⟨u.slots,k b u (hb b n) q⟩,fun b u q n _=>by rw[upd_ne (hx b n)];exact n,fun b u q _=>?_,
  fun b xs q=>by rw[upd_ne (hm b _ q fun z=>z)];exact q,fun b u xs q=>by rw[upd_ne (hm b _ q fun z=>z)];exact q,fun b ps q=>⟨#[],by rw[upd_ne (hm b _ q fun z=>z),q];simp⟩⟩
 by_cases hbe:b=e
 ·subst hbe;exact heo
 ·exact⟨u,k b u hbe q⟩
end
def trk(h:Heap)(H:Hp):List Addr:=(List.range h.objs.size).filter fun a=>(H a).isSome
def WM(h:Heap)(H:Hp):Heap:=PySem.W.hideAll h (trk h H)
theorem XE(h:Heap)(H:Hp):(WM h H).objs.size=h.objs.size:=PySem.W.hideAll_size _ _
theorem WL{h:Heap}{H:Hp}{b:Addr}{o:Obj}(e:h.get? b=some o)(n:H b=none):(WM h H).get? b=some o :=
 PySem.W.hideAll_get _ e fun hm=>by
  have q:(H b).isSome=true:=(mem_filter.mp hm).2;rw[n] at q;simp at q
theorem Uu{h:Heap}{H:Hp}{b:Addr}{o:Obj}(e:(WM h H).get? b=some o):h.get? b=some o/\H b=none:=by
 have e':h.get? b=some o:=PySem.W.of_hideAll (trk h H) e;refine⟨e',?_⟩;cases q:H b with
 |none=>rfl
 |some x =>
  have hm:b∈trk h H:=mem_filter.mpr ⟨List.mem_range.mpr (Heap.lt_size e'),by simp[q]⟩;have z:(WM h H).get? b=none:=PySem.W.hideAll_none (trk h H) hm;rw[z] at e;cases e
structure Mod (K:W.Frag) (mg:Str->Option Value) (base:Heap):Prop where
 kin:K.In base
 glob:base.Ns mainGlobals mg
 blt:∃ mb,base.Ns builtinsNs mb/\∀ x:Str,x ≠ "__name__" -> mb x=bootBuiltins x
 nolimit:base.NoLimit
structure Cx where
 prog:Program
 w:World
 K:PySem.W.Frag
 mg:Str->Option Value
 base:Heap
 A:Around
 N:List Str
 s₀:Shared
 H₀:Hp
 env:Env
 outer:List Env
 stack:List Env
 ex:List Addr
 fn:Str->Bool
 calm:Bool
 pn:List (Addr×Obj)
 xe:Value->Shared->Prop
def frs(l:List Env):List Addr:=l.filterMap (·.frame)
abbrev Cx.fs(X:Cx):List Addr:=frs X.outer
def Vis(sc:Scope)(x:Str):Prop:=sc.names.lookup x=some .local\/sc.names.lookup x=some .cell\/sc.names.lookup x=some .free
def Loc(sc:Scope)(x:Str):Prop:=sc.names.lookup x=some .local\/sc.names.lookup x=some .cell
def zdx(env:Env)(h:Heap)(m:Str->Option Value)(x:Str)(u:Value):Prop :=
 (env.kindOf x=some .local/\m x=some u)\/((env.kindOf x=some .cell\/env.kindOf x=some .free)/\∃ c,env.cells.lookup x=some c/\h.IsCell c (some u))
structure Cx.Ok (X:Cx):Prop where
 mod:Mod X.K X.mg X.base
 kind:X.env.scope.kind=.function
 glob:X.env.globals=mainGlobals
 blt:X.env.builtins=builtinsNs
 above:X.s₀.heap.objs.size<=X.env.locals
 inj:∀ x y c,X.env.cells.lookup x=some c->X.env.cells.lookup y=some c->x=y
 has:∀ x,(X.env.kindOf x=some .cell\/X.env.kindOf x=some .free)->∃ c,X.env.cells.lookup x=some c
 cab:∀ x c,X.fn x=true->X.env.cells.lookup x=some c->X.s₀.heap.objs.size<=c
 hd:X.calm=true->X.A.handled=none
 frames:X.A.frames=some X.stack
 stk:X.stack=X.outer\/(X.stack=X.env::X.outer/\X.env.frame=some X.env.locals)
 exf:∀ b∈X.ex,b≠X.env.locals/\∀ x c,X.env.cells.lookup x=some c->c≠b
 bs:∀ b o,X.base.get? b=some o->X.s₀.heap.get? b=some o/\X.H₀ b=none
 bsz:X.base.objs.size<=X.s₀.heap.objs.size
 noex:∀ b o,X.base.get? b=some o->b∉X.ex
 exfs:∀ b∈X.ex,b∉X.fs
 funs:X.s₀.heap.FunFrames X.base X.outer
 frf:∀ b∈X.fs,X.H₀ b=none
structure Inv (X:Cx) (pins:List (Addr×Obj)) (σ:List (Option V)) (H:Hp) (s:Shared):Prop where
 ok:X.Ok
 os:s.os=X.s₀.os
 bare:AllBare s.gens
 base:Un X.fs X.ex X.H₀ H X.s₀.heap s.heap
 loc:∃ m,s.heap.Ns X.env.locals m/\∀ (i:Nat) (x:Str) (v:V),X.N[i]?=some x->σ[i]?=some (some v)->Vis X.env.scope x->∃ u,RelV v u/\zdx X.env s.heap m x u
 cell:∀ x c,X.env.cells.lookup x=some c->∃ v,s.heap.IsCell c v
 free:H X.env.locals=none
 freeC:∀ x c,X.env.cells.lookup x=some c->H c=none
 pin:∀ p∈X.pn++pins,s.heap.get? p.1=some p.2/\H p.1=none/\p.1≠X.env.locals/\p.1∉X.fs/\∀ v,p.2.data≠.cell v
 hok:HOk X.prog X.w H s.heap
 len:σ.length=X.N.length
section
variable {X:Cx}{pins:List (Addr×Obj)}{σ:List (Option V)}{H H':Hp}{s:Shared}{h':Heap}
theorem Cx.Ok.nofr(ok:X.Ok){b:Addr}{o:Obj}(e:X.base.get? b=some o):b∉X.fs:=fun hb=>by
 have:=(ok.funs.mem hb).1;rw[e] at this;cases this
theorem Inv.bs(I:Inv X pins σ H s):∀ b o,X.base.get? b=some o->s.heap.get? b=some o/\H b=none:=fun b o e =>
 ⟨I.base.keep b o (I.ok.bs b o e).1 (I.ok.bs b o e).2 (I.ok.nofr e) (I.ok.noex b o e),I.base.free b o (I.ok.bs b o e).1 (I.ok.bs b o e).2 (I.ok.noex b o e)⟩
theorem Inv.bk(I:Inv X pins σ H s):∀ b o,X.base.get? b=some o->s.heap.get? b=some o:=fun b o e=>(I.bs b o e).1
theorem Inv.mod(I:Inv X pins σ H s):Mod X.K X.mg X.base:=I.ok.mod
theorem Inv.kIn(I:Inv X pins σ H s):X.K.In s.heap:=I.ok.mod.kin.keeps I.bk
theorem Inv.lt(I:Inv X pins σ H s):X.env.locals<s.heap.objs.size:=let ⟨_,hn,_⟩:=I.loc;hn.lt
theorem Inv.sz(I:Inv X pins σ H s):X.s₀.heap.objs.size<=s.heap.objs.size:=le_trans I.ok.above (Nat.le_of_lt I.lt)
theorem Inv.nofs(I:Inv X pins σ H s){a:Addr}(h:s.heap.objs.size<=a):a∉X.fs:=fun hb=>by
 obtain⟨_,o,ho,_⟩:=I.ok.funs.mem hb;exact absurd (lt_of_lt_of_le (Heap.lt_size ho) (le_trans I.sz h)) (lt_irrefl _)
theorem Inv.cne(I:Inv X pins σ H s):∀ x c,X.env.cells.lookup x=some c->c≠X.env.locals:=fun x c e z=>by
 obtain⟨v,o,ho,hd⟩:=I.cell x c e;obtain⟨m,⟨o',es,ep,ho',hd',_⟩,_⟩:=I.loc;rw[z,ho'] at ho;cases ho;rw[hd'] at hd;cases hd
theorem Inv.funs(I:Inv X pins σ H s):s.heap.FunFrames X.base X.outer:=by
 have all:∀ (l:List Env),(∀ b∈frs l,b∈X.fs)->X.s₀.heap.FunFrames X.base l->s.heap.FunFrames X.base l:=by
  intro l
  induction l with
  |nil=>intro _ _;trivial
  |cons env r ih =>
   intro hs hl;obtain⟨hk,⟨L,o,hf,hn,ho,hd⟩,hr⟩:=hl;have hL:L∈X.fs:=hs L (by unfold frs;rw[List.filterMap_cons,hf];exact mem_cons_self);obtain⟨sl,e⟩:=I.base.slot L o ho (I.ok.frf L hL) hL fun z=>I.ok.exfs L z hL;exact⟨hk,⟨L,_,hf,hn,e,hd⟩,ih (fun b hb=>hs b (by unfold frs;rw[List.filterMap_cons,hf];exact mem_cons_of_mem _ hb)) hr⟩
 exact all X.outer (fun _ hb=>hb) I.ok.funs
theorem Inv.stack(I:Inv X pins σ H s):s.heap.FunFrames X.base X.stack:=by
 rcases I.ok.stk with e | ⟨e,hf⟩
 ·rw[e];exact I.funs
 ·rw[e]
  obtain⟨m,hn,_⟩:=I.loc;refine .cons (by rw[I.ok.kind];decide) hf hn ?_ I.funs;exact Heap.get?_none_of_le (le_trans I.ok.bsz I.ok.above)
theorem Inv.stkSub(I:Inv X pins σ H s):∀ b∈frs X.stack,b∈X.env.locals::X.fs:=fun b hb=>by
 rcases I.ok.stk with e | ⟨e,hf⟩
 ·rw[e] at hb;exact mem_cons_of_mem _ hb
 ·rw[e] at hb
  unfold frs at hb;rw[List.filterMap_cons,hf] at hb;exact hb
theorem Inv.stkFree(I:Inv X pins σ H s):∀ b∈frs X.stack,H b=none:=fun b hb=>by
 rcases mem_cons.mp (I.stkSub b hb) with e | hb
 ·rw[e];exact I.free
 ·obtain⟨_,o,ho,_⟩:=I.ok.funs.mem hb
  exact I.base.free b o ho (I.ok.frf b hb) fun z=>I.ok.exfs b z hb
theorem Inv.step{g':Array GenState}{t':Nat}{d':Drawn}{ch:List Addr}(I:Inv X pins σ H s)
  (hch:∀ b∈ch,(b∈X.ex\/X.s₀.heap.objs.size<=b)/\b≠X.env.locals/\(∀ x c,X.env.cells.lookup x=some c->c≠b)/\∀ p∈X.pn++pins,p.1≠b)
  (keep:∀ b o,b≠X.env.locals->b∉X.fs->b∉ch->s.heap.get? b=some o->H b=none->h'.get? b=some o)
  (slot:∀ b o,b≠X.env.locals->b∈X.fs->b∉ch->s.heap.get? b=some o->H b=none->∃ sl,h'.get? b=some { o with slots:=sl }) (free:∀ b o,b∉ch->s.heap.get? b=some o->H b=none->H' b=none)
  (there:∀ b o,b∉ch->s.heap.get? b=some o->∃ o',h'.get? b=some o')
  (tups:∀ b xs,H b=some (.tup xs)->H' b=some (.tup xs)) (frzs:∀ b o u,H b=some (.frz o u)->H' b=some (.frz o u)) (tbls:∀ b ps,H b=some (.tbl ps)->∃ more,H' b=some (.tbl (ps++more)))
  (ns:∀ m,s.heap.Ns X.env.locals m->h'.Ns X.env.locals m) (hok:HOk X.prog X.w H' h') (hg:AllBare g') :
  Inv X pins σ H' { s with heap:=h',gens:=g',drawn:=d',toks:=t' }:=by
 have neL:∀ b o,X.s₀.heap.get? b=some o->b≠X.env.locals:=fun b o e=>ne_of_lt (lt_of_lt_of_le (Heap.lt_size e) I.ok.above);have neC:∀ b o,X.s₀.heap.get? b=some o->b∉X.ex->b∉ch:=fun b o e hx hb=>by
  rcases(hch b hb).1 with z | z
  ·exact hx z
  ·exact absurd (lt_of_lt_of_le (Heap.lt_size e) z) (lt_irrefl _)
 have cellK:∀ x c,X.env.cells.lookup x=some c->∀ v,s.heap.IsCell c v->h'.IsCell c v:=fun x c e v ⟨o,ho,hd⟩=>by
  have nch:c∉ch:=fun z=>(hch c z).2.2.1 x c e rfl;by_cases hc:c∈X.fs
  ·obtain⟨sl,q⟩:=slot c o (I.cne x c e) hc nch ho (I.freeC x c e)
   exact⟨_,q,hd⟩
  ·exact⟨o,keep c o (I.cne x c e) hc nch ho (I.freeC x c e),hd⟩
 refine⟨I.ok,I.os,hg,⟨fun b o e n hb hx=>?_,fun b o e n hb hx=>?_,fun b o e n hx=>?_,fun b o e hx=>?_,fun b xs e=>tups b xs (I.base.tups b xs e),fun b o xs e=>frzs b o xs (I.base.frzs b o xs e),fun b ps e=>?_⟩,?_,fun x c e=>?_,?_,fun x c e=>?_,fun p hp=>?_,hok,I.len⟩
 ·exact keep b o (neL b o e) hb (neC b o e hx) (I.base.keep b o e n hb hx) (I.base.free b o e n hx)
 ·obtain⟨sl,e1⟩:=I.base.slot b o e n hb hx
  obtain⟨sl',e2⟩:=slot b _ (neL b o e) hb (neC b o e hx) e1 (I.base.free b o e n hx);exact⟨sl',e2⟩
 ·obtain⟨o',e1⟩:=I.base.there b o e hx
  exact free b o' (neC b o e hx) e1 (I.base.free b o e n hx)
 ·obtain⟨o',e1⟩:=I.base.there b o e hx
  exact there b o' (neC b o e hx) e1
 ·obtain⟨m1,e1⟩:=I.base.tbls b ps e
  obtain⟨m2,e2⟩:=tbls b _ e1;exact⟨m1++m2,by rw[e2,Array.append_assoc]⟩
 ·obtain⟨m,hn,hl⟩:=I.loc
  refine⟨m,ns m hn,fun i x v e1 e2 e3=>?_⟩;obtain⟨u,r,l⟩:=hl i x v e1 e2 e3;refine⟨u,r,?_⟩;rcases l with l | ⟨k,c,e,z⟩
  ·exact .inl l
  ·exact .inr ⟨k,c,e,cellK x c e _ z⟩
 ·obtain⟨v,z⟩:=I.cell x c e
  exact⟨v,cellK x c e v z⟩
 ·obtain⟨m,⟨o,_,_,ho,_⟩,_⟩:=I.loc
  exact free _ o (fun z=>(hch _ z).2.1 rfl) ho I.free
 ·obtain⟨v,o,ho,hd⟩:=I.cell x c e
  exact free c o (fun z=>(hch c z).2.2.1 x c e rfl) ho (I.freeC x c e)
 ·obtain⟨e,n,ne,nf,d⟩:=I.pin p hp
  have nch:p.1∉ch:=fun z=>(hch p.1 z).2.2.2 p hp rfl;exact⟨keep p.1 p.2 ne nf nch e n,free p.1 p.2 nch e n,ne,nf,d⟩
theorem Inv.un{t':Nat}(I:Inv X pins σ H s)(u:Un X.fs [] H H' s.heap h')(hok:HOk X.prog X.w H' h'):Inv X pins σ H' { s with heap:=h',toks:=t' }:=by
 obtain⟨m,⟨o,es,ep,ho,r⟩,_⟩:=id I.loc;obtain⟨sl,hL⟩:=u.any ho I.free (by simp);exact I.step (g':=s.gens) (d':=s.drawn) (ch:=[]) (fun _ z=>nomatch z) (fun b o _ hb _ e n=>u.keep b o e n hb (by simp)) (fun b o _ hb _ e n=>u.slot b o e n hb (by simp)) (fun b o _ e n=>u.free b o e n (by simp)) (fun b o _ e=>u.there b o e (by simp)) u.tups u.frzs u.tbls (fun m' hm=>by
  obtain⟨o',es',ep',ho',r'⟩:=hm;rw[ho] at ho';cases ho';exact⟨_,es',ep',hL,r'⟩) hok I.bare
theorem Inv.call{g':Array GenState}{t':Nat}{d':Drawn}{ch:List Addr}(I:Inv X pins σ H s)(u:Un (frs X.stack) ch H H' s.heap h')(hok:HOk X.prog X.w H' h')(hg:AllBare g')
  (hch:∀ b∈ch,(b∈X.ex\/X.s₀.heap.objs.size<=b)/\b≠X.env.locals/\(∀ x c,X.env.cells.lookup x=some c->c≠b)/\∀ p∈X.pn++pins,p.1≠b) :
  Inv X pins σ H' { s with heap:=h',gens:=g',drawn:=d',toks:=t' }:=by
 obtain⟨m,⟨o,es,ep,ho,r⟩,_⟩:=id I.loc;obtain⟨sl,hL⟩:=u.any ho I.free fun z=>(hch _ z).2.1 rfl;exact I.step (ch:=ch) hch (fun b o hL hb hc e n=>u.keep b o e n (fun z=>(mem_cons.mp (I.stkSub b z)).elim hL hb) hc) (fun b o _ _ hc e n=>u.any e n hc) (fun b o hc e n=>u.free b o e n hc) (fun b o hc e=>u.there b o e hc) u.tups u.frzs u.tbls (fun m' hm=>by
  obtain⟨o',es',ep',ho',r'⟩:=hm;rw[ho] at ho';cases ho';exact⟨_,es',ep',hL,r'⟩) hok hg
theorem Inv.turned{t':Nat}{it:Addr}(I:Inv X pins σ H s)(k:∀ b o,b≠it->s.heap.get? b=some o->h'.get? b=some o)(hn:H it=none)(hL:it≠X.env.locals)
  (h1:it∈X.ex\/X.s₀.heap.objs.size<=it) (h2:∀ x c,X.env.cells.lookup x=some c->c≠it) (h3:∀ p∈X.pn++pins,p.1≠it):Inv X pins σ H { s with heap:=h',toks:=t' }:=by
 have nit:∀ b u,H b=some u->b≠it:=fun b u e z=>by rw[z,hn] at e;cases e
 refine I.step (g':=s.gens) (d':=s.drawn) (ch:=[it]) (fun b hb=>?_) (fun b o _ _ hc e _=>k b o (fun z=>hc (by simp[z])) e) (fun b o _ _ hc e _=>⟨o.slots,k b o (fun z=>hc (by simp[z])) e⟩) (fun _ _ _ _ n=>n)
  (fun b o hc e=>⟨o,k b o (fun z=>hc (by simp[z])) e⟩) (fun _ _ e=>e) (fun _ _ _ e=>e) (fun b ps e=>⟨#[],by rw[e];simp⟩) (fun m hm=>?_) (fun b u e=>?_) I.bare
 ·have e:b=it:=by simpa using hb
  subst e;exact⟨h1,hL,h2,h3⟩
 ·obtain⟨o,es,ep,ho,r⟩:=hm
  exact⟨o,es,ep,k _ o (Ne.symm hL) ho,r⟩
 ·refine(I.hok b u e).stay (fun c v hc q=>k c v ?_ q) (fun _ q=>q) fun _ _ q=>q
  rcases hc with z | z
  ·rw[z];exact nit b u e
  ·exact nit c _ z
theorem Inv.tok(I:Inv X pins σ H s)(t:Nat):Inv X pins σ H { s with toks:=t }:=I.un (h':=s.heap) (t':=t) Un.refl I.hok
theorem Inv.kept{t':Nat}(I:Inv X pins σ H s)(k:∀ b u,s.heap.get? b=some u->h'.get? b=some u):Inv X pins σ H { s with heap:=h',toks:=t' }:=I.un (Un.kept k) (I.hok.kept k)
theorem Inv.laid{a:Addr}{o:HO}{t':Nat}(I:Inv X pins σ H s)(k:∀ b u,s.heap.get? b=some u->h'.get? b=some u)(hp:s.heap.objs.size<=a)(new:ObjOk X.prog X.w (upd H a o) h' a o) :
  Inv X pins σ (upd H a o) { s with heap:=h',toks:=t' }:=I.un (Un.laid k hp (I.hok.fresh hp)) (I.hok.laid k hp new)
theorem Inv.write{x e:Addr}{o:HO}{t':Nat}(I:Inv X pins σ H s)(mu:Mut (H x))(he:e=x\/H e=some (.own x))(k:∀ b u,b≠e->s.heap.get? b=some u->h'.get? b=some u)(heo:∃ u,h'.get? e=some u)
  (new:ObjOk X.prog X.w (upd H x o) h' x o):Inv X pins σ (upd H x o) { s with heap:=h',toks:=t' }:=I.un (Un.write mu he k heo) (I.hok.write mu he k heo new)
theorem Inv.pins_of{pins':List (Addr×Obj)}(I:Inv X pins σ H s)(h:∀ p∈pins',s.heap.get? p.1=some p.2/\H p.1=none/\p.1≠X.env.locals/\p.1∉X.fs/\∀ v,p.2.data≠.cell v):Inv X pins' σ H s :=
 ⟨I.ok,I.os,I.bare,I.base,I.loc,I.cell,I.free,I.freeC,fun p hp=>(mem_append.mp hp).elim (fun z=>I.pin p (List.mem_append_left _ z)) (h p),I.hok,I.len⟩
theorem nodup_ix{N:List Str}(hN:N.Nodup){i j:Nat}{x:Str}(a:N[i]?=some x)(b:N[j]?=some x):i=j:=by
 obtain⟨h1,e1⟩:=List.getElem?_eq_some_iff.mp a;obtain⟨h2,e2⟩:=List.getElem?_eq_some_iff.mp b;exact(List.getElem_inj hN).mp (e1.trans e2.symm)
theorem ug{M:Model}{A:Around}{E:Value->Shared->Prop}{i:Nat}{x:Str}{v:V}{u:Value}{Q:Unit->Shared->Prop}(I:Inv X pins σ H s)(hN:X.N.Nodup)(hi:X.N[i]?=some x)(hx:Loc X.env.scope x)(r:RelV v u)
  (h:∀ s',Inv X pins (σ.set i (some v)) H s'->(∃ a,Heap.SameBut a s.heap s'.heap/\(a=X.env.locals\/X.env.cells.lookup x=some a))->Q () s') (hf:X.fn x=true\/X.env.scope.names.lookup x=some .local:=by first | exact .inl rfl | exact .inr rfl | assumption):wpAny M A (storeName X.env x u) Q E s:=by
 obtain⟨m,hn,hl⟩:=id I.loc;have hcls:(X.env.scope.kind == .class||(X.env.scope.kind == .module&&X.env.locals != X.env.globals))=false:=by rw[I.ok.kind];rfl
 have hiσ:i<σ.length:=by rw[I.len];exact(List.getElem?_eq_some_iff.mp hi).1
 have cne:=I.cne;have tracked:∀ {a:Addr}{h':Heap},(∃ o,s.heap.get? a=some o/\H a=none)->Heap.SameBut a s.heap h'->HOk X.prog X.w H h':=fun {a h'} ha hs b ob e=>by
  obtain⟨_,_,hfree⟩:=ha;refine(I.hok b ob e).stay (fun c w' hc q=>(hs.2 c ?_).trans q) (fun _ q=>q) fun _ _ q=>q;rintro rfl;rcases hc with rfl | hc
  ·rw[hfree] at e;cases e
  ·rw[hfree] at hc;cases hc
 rcases hx with hk | hk
 ·refine wpAny_storeName_local hk hn (fun h' hn' hs=>?_) hcls
  obtain⟨oL,_,_,hoL,_⟩:=id hn;refine h _ ⟨I.ok,I.os,I.bare,⟨fun b o e n hb hx=>?_,fun b o e n hb hx=>?_,I.base.free,fun b o e hx=>?_,I.base.tups,I.base.frzs,I.base.tbls⟩,⟨_,hn',fun j y v' e1 e2 e3=>?_⟩,fun y c e=>?_,I.free,I.freeC,fun p hp=>?_,tracked ⟨oL,hoL,I.free⟩ hs,by simpa using I.len⟩ ⟨_,hs,.inl rfl⟩
  ·exact(hs.2 b (ne_of_lt (lt_of_lt_of_le (Heap.lt_size e) I.ok.above))).trans (I.base.keep b o e n hb hx)
  ·obtain⟨sl,e1⟩:=I.base.slot b o e n hb hx
   exact⟨sl,(hs.2 b (ne_of_lt (lt_of_lt_of_le (Heap.lt_size e) I.ok.above))).trans e1⟩
  ·obtain⟨o',e1⟩:=I.base.there b o e hx
   exact⟨o',(hs.2 b (ne_of_lt (lt_of_lt_of_le (Heap.lt_size e) I.ok.above))).trans e1⟩
  ·by_cases hj:j=i
   ·subst hj
    rw[hi] at e1;cases e1;rw[List.getElem?_set_self hiσ] at e2;cases e2;exact⟨u,r,.inl ⟨hk,by simp⟩⟩
   ·rw[List.getElem?_set_ne (Ne.symm hj)] at e2
    obtain⟨u',r',q⟩:=hl j y v' e1 e2 e3;refine⟨u',r',?_⟩;rcases q with⟨k,e⟩ | ⟨k,c,e,z⟩
    ·refine .inl ⟨k,?_⟩
     have:y≠x:=fun e=>hj (nodup_ix hN e1 (e ▸ hi));simp[this,e]
    ·exact .inr ⟨k,c,e,z.sameBut hs (cne y c e)⟩
  ·obtain⟨w',z⟩:=I.cell y c e
   exact⟨w',z.sameBut hs (cne y c e)⟩
  ·obtain⟨e,n,ne,nf,d⟩:=I.pin p hp
   exact⟨(hs.2 p.1 ne).trans e,n,ne,nf,d⟩
 ·have hfn:X.fn x=true:=by
   rcases hf with z | z
   ·exact z
   ·rw[z] at hk;cases hk
  obtain⟨c,hc⟩:=I.ok.has x (.inl hk);obtain⟨w',z⟩:=I.cell x c hc;refine wpAny_storeName_cell I.ok.kind hk hc z (fun h' hc' hs=>?_);obtain⟨oc,hoc,hocd⟩:=id z;refine h { s with heap:=h' } ⟨I.ok,I.os,I.bare,⟨fun b o e n hb hx=>?_,fun b o e n hb hx=>?_,I.base.free,fun b o e hx=>?_,I.base.tups,I.base.frzs,I.base.tbls⟩,⟨m,hn.sameBut hs (Ne.symm (cne x c hc)),fun j y v' e1 e2 e3=>?_⟩,fun y c' e=>?_,I.free,I.freeC,fun p hp=>?_,tracked ⟨oc,hoc,I.freeC x c hc⟩ hs,by simpa using I.len⟩ ⟨c,hs,.inr hc⟩
  ·exact(hs.2 b (ne_of_lt (lt_of_lt_of_le (Heap.lt_size e) (I.ok.cab x c hfn hc)))).trans (I.base.keep b o e n hb hx)
  ·obtain⟨sl,e1⟩:=I.base.slot b o e n hb hx
   exact⟨sl,(hs.2 b (ne_of_lt (lt_of_lt_of_le (Heap.lt_size e) (I.ok.cab x c hfn hc)))).trans e1⟩
  ·obtain⟨o',e1⟩:=I.base.there b o e hx
   exact⟨o',(hs.2 b (ne_of_lt (lt_of_lt_of_le (Heap.lt_size e) (I.ok.cab x c hfn hc)))).trans e1⟩
  ·by_cases hj:j=i
   ·subst hj
    rw[hi] at e1;cases e1;rw[List.getElem?_set_self hiσ] at e2;cases e2;exact⟨u,r,.inr ⟨.inl hk,c,hc,hc'⟩⟩
   ·rw[List.getElem?_set_ne (Ne.symm hj)] at e2
    obtain⟨u',r',q⟩:=hl j y v' e1 e2 e3;refine⟨u',r',?_⟩;rcases q with q | ⟨k,c',e,z'⟩
    ·exact .inl q
    ·refine .inr ⟨k,c',e,z'.sameBut hs ?_⟩
     rintro rfl;exact hj (nodup_ix hN e1 (I.ok.inj _ _ _ e hc ▸ hi))
  ·by_cases hcc:c'=c
   ·subst hcc;exact⟨_,hc'⟩
   ·obtain⟨w2,z2⟩:=I.cell y c' e
    exact⟨w2,z2.sameBut hs hcc⟩
  ·obtain⟨e,n,ne,nf,d⟩:=I.pin p hp
   refine⟨(hs.2 p.1 ?_).trans e,n,ne,nf,d⟩;intro q;rw[q,hoc] at e;have q':oc=p.2:=Option.some.inj e;exact d w' (by rw[<- q'];exact hocd)
theorem store_ok{M:Model}{A:Around}{E:Value->Shared->Prop}{i:Nat}{x:Str}{v:V}{u:Value}{Q:Unit->Shared->Prop}(I:Inv X pins σ H s)(hN:X.N.Nodup)(hi:X.N[i]?=some x)(hx:Loc X.env.scope x)(r:RelV v u)
  (h:∀ s',Inv X pins (σ.set i (some v)) H s'->Q () s') (hf:X.fn x=true\/X.env.scope.names.lookup x=some .local:=by first | exact .inl rfl | exact .inr rfl | assumption):wpAny M A (storeName X.env x u) Q E s :=
 ug I hN hi hx r (fun s' I' _=>h s' I') hf
theorem Inv.call'{s':Shared}{ch:List Addr}(I:Inv X pins σ H s)(ho:s'.os=s.os)(u:Un (frs X.stack) ch H H' s.heap s'.heap)(hok:HOk X.prog X.w H' s'.heap)(hg:AllBare s'.gens)
  (hch:∀ b∈ch,(b∈X.ex\/X.s₀.heap.objs.size<=b)/\b≠X.env.locals/\(∀ x c,X.env.cells.lookup x=some c->c≠b)/\∀ p∈X.pn++pins,p.1≠b):Inv X pins σ H' s':=by
 obtain⟨h',g',d',t',o'⟩:=s';have e:o'=s.os:=ho;subst e;exact I.call (g':=g') (t':=t') (d':=d') u hok hg hch
end
abbrev XK:=Value->Option Addr->Hp->Prop
abbrev St:=List (Option V)
abbrev VK:=V->Hp->Prop
abbrev TE:=St->Hp->VK->Prop
abbrev TT:=St->Hp->(Bool->Hp->Prop)->Prop
abbrev TA:=St->Hp->(List V->Hp->Prop)->Prop
structure Ends where
 nx:St->Hp->Prop
 rt:VK
 bk:St->Hp->Prop:=fun _ _=>False
 ct:St->Hp->Prop:=fun _ _=>False
abbrev TS:=Ends->St->Hp->Prop
def EP(X:Cx)(pins:List (Addr×Obj))(σ:St)(Q:VK)(u:Value)(s':Shared):Prop:=∃ v H',Inv X pins σ H' s'/\RelV v u/\Q v H'
def TP(X:Cx)(pins:List (Addr×Obj))(σ:St)(Q:Bool->Hp->Prop)(b:Bool)(s':Shared):Prop:=∃ H',Inv X pins σ H' s'/\Q b H'
def AP(X:Cx)(pins:List (Addr×Obj))(σ:St)(Q:List V->Hp->Prop)(us:List Value)(s':Shared):Prop:=∃ vs H',Inv X pins σ H' s'/\Vals vs us/\Q vs H'
def SP(X:Cx)(pins:List (Addr×Obj))(D:Ends)(f:Flow)(s':Shared):Prop :=
 match f with
 |.next=>∃ σ' H',Inv X pins σ' H' s'/\D.nx σ' H'
 |.brk=>∃ σ' H',Inv X pins σ' H' s'/\D.bk σ' H'
 |.cont=>∃ σ' H',Inv X pins σ' H' s'/\D.ct σ' H'
 |.ret u=>∃ v σ' H',Inv X pins σ' H' s'/\RelV v u/\D.rt v H'
def PE(X:Cx)(e:Expr)(t:TE):Prop :=
 ∀ (pins:List (Addr×Obj)) (s:Shared) (σ:St) (H:Hp) (Q:VK),Inv X pins σ H s->t σ H Q->wpAny (model X.prog X.w) X.A (eval e X.env) (EP X pins σ Q) X.xe s
def PT(X:Cx)(e:Expr)(t:TT):Prop :=
 ∀ (pins:List (Addr×Obj)) (s:Shared) (σ:St) (H:Hp) (Q:Bool->Hp->Prop),Inv X pins σ H s->t σ H Q->wpAny (model X.prog X.w) X.A (isTrue e X.env (eval e X.env)) (TP X pins σ Q) X.xe s
def PW(X:Cx)(e:Expr)(t:TT):Prop :=
 ∀ (whole:Sem Value) (pins:List (Addr×Obj)) (s:Shared) (σ:St) (H:Hp) (Q:Bool->Hp->Prop),Inv X pins σ H s->t σ H Q->wpAny (model X.prog X.w) X.A (isTrue e X.env whole) (TP X pins σ Q) X.xe s
theorem PW.pt{X:Cx}{e:Expr}{t:TT}(h:PW X e t):PT X e t:=h _
def PA(X:Cx)(es:List Expr)(t:TA):Prop :=
 ∀ (pos:Pos) (pins:List (Addr×Obj)) (s:Shared) (σ:St) (H:Hp) (Q:List V->Hp->Prop),Inv X pins σ H s->t σ H Q->wpAny (model X.prog X.w) X.A (spliced (backTo pos (starEach es X.env))) (AP X pins σ Q) X.xe s
def PS(X:Cx)(st:Stmt)(t:TS):Prop :=
 ∀ (pins:List (Addr×Obj)) (s:Shared) (σ:St) (H:Hp) (D:Ends),Inv X pins σ H s->t D σ H->wpAny (model X.prog X.w) X.A (exec st X.env) (SP X pins D) X.xe s
def PSs(X:Cx)(st:List Stmt)(t:TS):Prop :=
 ∀ (pins:List (Addr×Obj)) (s:Shared) (σ:St) (H:Hp) (D:Ends),Inv X pins σ H s->t D σ H->wpAny (model X.prog X.w) X.A (execs st X.env) (SP X pins D) X.xe s
theorem thn{α:Type}{t:Sem α}{Q Q':α->Shared->Prop}{M:Model}{A:Around}{E:Value->Shared->Prop}{s:Shared}(h:wpAny M A t Q E s)(hQ:∀ a s,Q a s->Q' a s):wpAny M A t Q' E s:=wpAny_mono h hQ fun _ _ x=>x
section
variable {X:Cx}
theorem bin{a b:Expr}{ta tb:TE}(ha:PE X a ta)(hb:PE X b tb){pins:List (Addr×Obj)}{s:Shared}{σ:St}{H:Hp}{R:V->V->Hp->Prop}(I:Inv X pins σ H s)(h:ta σ H fun x H1=>tb σ H1 fun y H2=>R x y H2)
  {α:Type}{Q:α->Shared->Prop}{f:Value->Value->Sem α}
  (hf:∀ v u s2 x y H2,Inv X pins σ H2 s2->RelV x v->RelV y u->R x y H2->wpAny (model X.prog X.w) X.A (f v u) Q X.xe s2) :
  wpAny (model X.prog X.w) X.A (eval a X.env) (fun v s₁=>wpAny (model X.prog X.w) X.A (eval b X.env) (fun u s₂=>wpAny (model X.prog X.w) X.A (f v u) Q X.xe s₂) X.xe s₁) X.xe s:=by
 refine thn (ha pins s σ H _ I h) fun v s1 hq0=>?_;obtain⟨x,H1,I1,r1,q1⟩:=hq0;refine thn (hb pins s1 σ H1 _ I1 q1) fun u s2 hq0=>?_;obtain⟨y,H2,I2,r2,q2⟩:=hq0;exact hf v u s2 x y H2 I2 r1 r2 q2
def ZF(i:Nat):TE:=fun σ H Q=>∃ v,σ[i]?=some (some v)/\Q v H
def tC(v:V):TE:=fun _ H Q=>Q v H
theorem zaz{i:Nat}{x:Str}{pos:Pos}(hN:X.N[i]?=some x)(hv:Vis X.env.scope x)(hd:(x == ("__debug__" : Str))=false:=by decide)(hcd:(x == ("__classdict__" : Str))=false:=by decide):PE X (.Name x pos) (ZF i):=by
 intro pins s σ H Q I h;obtain⟨v,e,h⟩:=h;obtain⟨m,hn,hl⟩:=I.loc;obtain⟨u,r,l⟩:=hl i x v hN e hv;have fin:EP X pins σ Q u s:=⟨v,H,I,r,h⟩;rcases l with⟨hk,hm⟩ | ⟨hk,c,hc,hcell⟩
 ·exact wpAny_Name (wpAny_loadName_local I.ok.kind hk hn hm fin) hd
 ·rcases hk with hk | hk
  ·exact wpAny_Name (wpAny_loadName_cell I.ok.kind hk hc hcell fin) hd
  ·exact wpAny_Name (wpAny_loadName_free I.ok.kind hk hc hcell fin hcd) hd
theorem xC{i j pos}:PE X (.Constant (.int i) j pos) (tC (.int i)):=fun _ _ _ H _ I h=>wpAny_Constant_int ⟨.int i,H,I.tok _,⟨_,rfl⟩,h⟩
theorem vf{b j pos}:PE X (.Constant (.bool b) j pos) (tC (.bl b)):=fun _ _ _ H _ I h=>Constant_bool ⟨.bl b,H,I,rfl,h⟩
theorem zW{j pos}:Bx (PE X (.Constant .none j pos) (tC .non)):=by
 exact⟨fun _ _ _ H _ I h=>Constant_none ⟨.non,H,I,rfl,h⟩⟩
theorem vH{x j pos}:Bx (PE X (.Constant (.str x) j pos) (tC (.str x))):=by
 exact⟨fun _ _ _ H _ I h=>Calls.Constant_str ⟨.str x,H,I.tok _,⟨_,rfl⟩,h⟩⟩
def Gl(X:Cx)(x:Str):Prop:=X.env.kindOf x=some .globalImplicit
theorem ld_glob{E:Value->Shared->Prop}{pins:List (Addr×Obj)}{s:Shared}{σ:St}{H:Hp}{x:Str}{u:Value}{pos:Pos}{Q:Value->Shared->Prop}(I:Inv X pins σ H s)(hg:Gl X x)(hm:X.mg x=some u)(h:Q u s)
  (hd:(x == ("__debug__" : Str))=false:=by decide):wpAny (model X.prog X.w) X.A (eval (.Name x pos) X.env) Q E s :=
 Calls.Name_function_global I.ok.kind hg (Calls.loadGlobal_global (by rw[I.ok.glob];exact I.mod.glob.keeps I.bk) hm h) hd
theorem ld_blt{E:Value->Shared->Prop}{pins:List (Addr×Obj)}{s:Shared}{σ:St}{H:Hp}{x:Str}{u:Value}{pos:Pos}{Q:Value->Shared->Prop}(I:Inv X pins σ H s)(hg:Gl X x)(hm:X.mg x=none)(hv:bootBuiltins x=some u)(h:Q u s)
  (hn:x ≠ "__name__" := by decide) (hd:(x == ("__debug__" : Str))=false:=by decide):wpAny (model X.prog X.w) X.A (eval (.Name x pos) X.env) Q E s:=by
 obtain⟨mb,h1,h2⟩:=I.mod.blt;exact Calls.Name_function_global I.ok.kind hg (Calls.loadGlobal_builtin (by rw[I.ok.glob];exact I.mod.glob.keeps I.bk) hm (by rw[I.ok.blt];exact h1.keeps I.bk) ((h2 x hn).trans hv) h) hd
theorem Zf{x:Str}{v:V}{u:Value}{pos:Pos}(hg:Gl X x)(hm:X.mg x=some u)(r:RelV v u)(hd:(x == ("__debug__" : Str))=false:=by decide):PE X (.Name x pos) (tC v) :=
 fun _ _ _ H _ I h=>ld_glob I hg hm ⟨v,H,I,r,h⟩ hd
theorem Uo{x:Str}{v:V}{u:Value}{pos:Pos}(hg:Gl X x)(hm:X.mg x=none)(hv:bootBuiltins x=some u)(r:RelV v u)(hn:x ≠ "__name__" := by decide)(hd:(x == ("__debug__" : Str))=false:=by decide):PE X (.Name x pos) (tC v) :=
 fun _ _ _ H _ I h=>ld_blt I hg hm hv ⟨v,H,I,r,h⟩ hn hd
variable {a b:Expr}{ta tb:TE}{pos:Pos}
def PC(X:Cx)(op:CmpOp)(a b:Expr)(t:TE):Prop :=
 ∀ (pins:List (Addr×Obj)) (s:Shared) (σ:St) (H:Hp) (Q:VK),Inv X pins σ H s->t σ H Q ->
  wpAny (model X.prog X.w) X.A (eval a X.env) (fun v s₁=>wpAny (model X.prog X.w) X.A (eval b X.env) (fun u s₂=>wpAny (model X.prog X.w) X.A (compareOp op v u) (EP X pins σ Q) X.xe s₂) X.xe s₁) X.xe s
def tB(t:TE):TT:=fun σ H Q=>t σ H fun x H1=>∃ c,x=.bl c/\Q c H1
theorem Wb{op:CmpOp}{t:TE}(h:Bx (PC X op a b t))(h1:behindInMarks op b=false:=by first | exact nobehind _ (by decide) (by decide) | rfl):Bx (PE X (.Compare a [op] [b] pos) t):=by
 have h:=h.of;exact⟨fun pins s σ H Q I hw=>wpAny_Compare1 (h pins s σ H Q I hw) h1⟩
theorem Vm{op:CmpOp}{t:TE}(h:PC X op a b t)(h1:behindInMarks op b=false:=by first | exact nobehind _ (by decide) (by decide) | rfl):PT X (.Compare a [op] [b] pos) (tB t):=by
 intro pins s σ H Q I hw;refine wpAny_isTrue_Compare1 (thn (h pins s σ H _ I hw) fun v s1 h1=>thn h1 fun u s2 h2=>thn h2 fun c s3 hq0=>?_) h1;obtain⟨x,H1,I1,r1,q1⟩:=hq0;obtain⟨d,rfl,q⟩:=q1;cases r1;exact wpAny_truthy_bool ⟨H1,I1,q⟩
theorem xA{e:Expr}{t:TE}(h:PE X e t)(he:∀ whole,isTrue e X.env whole=(do let v <- whole;standAt e.pos;holding [v] (truthy v)):=by intro _;rfl):PT X e (tB t):=by
 intro pins s σ H Q I hw;refine isTrue_plain (thn (h pins s σ H _ I hw) fun v s1 hq0=>?_) (he _);obtain⟨x,H1,I1,r1,q1⟩:=hq0;obtain⟨d,rfl,q⟩:=q1;cases r1;exact wpAny_truthy_bool ⟨H1,I1,q⟩
variable {tA tB':TT}{rest:List Expr}
def zdj(t u:TT):TT:=fun σ H Q=>t σ H fun c H1=>if c=true then u σ H1 Q else Q false H1
def tOr(t u:TT):TT:=fun σ H Q=>t σ H fun c H1=>if c=true then Q true H1 else u σ H1 Q
def zcC(t:TT):TT:=fun σ H Q=>t σ H fun c H1=>Q (!c) H1
theorem yt(ha:Bx (PT X a tA)):Bx (PW X (.BoolOp .And [a] pos) tA):=by
 have ha:=ha.of;refine⟨?_⟩;intro wh pins s σ H Q I h;refine isTrue_and (thn (ha pins s σ H Q I h) fun c s1 e=>?_);cases c with
 |true=>exact isTrue_and_nil e
 |false=>exact e
theorem vv(ha:PT X a tA):PW X (.BoolOp .Or [a] pos) tA:=by
 intro wh pins s σ H Q I h;refine isTrue_or (thn (ha pins s σ H Q I h) fun c s1 e=>?_);cases c with
 |false=>exact isTrue_or_nil e
 |true=>exact e
theorem yJ(ha:Bx (PT X a tA))(hb:Bx (PW X (.BoolOp .And (b::rest) pos) tB')):Bx (PW X (.BoolOp .And (a::b::rest) pos) (zdj tA tB')):=by
 have ha:=ha.of;have hb:=hb.of;refine⟨?_⟩;intro wh pins s σ H Q I h;refine isTrue_and (thn (ha pins s σ H _ I h) fun c s1 hq0=>?_);obtain⟨H1,I1,q1⟩:=hq0;cases c with
 |true=>exact hb wh pins s1 σ H1 Q I1 q1
 |false=>exact⟨H1,I1,q1⟩
theorem ul(ha:PT X a tA)(hb:PW X (.BoolOp .Or (b::rest) pos) tB'):PW X (.BoolOp .Or (a::b::rest) pos) (tOr tA tB'):=by
 intro wh pins s σ H Q I h;refine isTrue_or (thn (ha pins s σ H _ I h) fun c s1 hq0=>?_);obtain⟨H1,I1,q1⟩:=hq0;cases c with
 |true=>exact⟨H1,I1,q1⟩
 |false=>exact hb wh pins s1 σ H1 Q I1 q1
theorem xB(ha:PT X a tA):PT X (.UnaryOp .Not a pos) (zcC tA):=by
 intro pins s σ H Q I h;exact isTrue_not (ha pins s σ H (fun c H1=>Q (!c) H1) I h)
def tAndV(ta tb:TE):TE:=fun σ H Q=>ta σ H fun x H1=>∃ c,x=.bl c/\if c=true then tb σ H1 Q else Q (.bl false) H1
def zbE(ta tb:TE):TE:=fun σ H Q=>ta σ H fun x H1=>∃ c,x=.bl c/\if c=true then Q (.bl true) H1 else tb σ H1 Q
def U2(ta:TE):TE:=fun σ H Q=>ta σ H fun x H1=>∃ c,x=.bl c/\Q (.bl (!c)) H1
theorem YY{op}{t:TE}(h:PE X a t):PE X (.BoolOp op [a] pos) t:=fun pins s σ H Q I hw=>BoolOp_one (h pins s σ H Q I hw)
theorem ZN(ha:PE X a ta)(hb:PE X (.BoolOp .And (b::rest) pos) tb):PE X (.BoolOp .And (a::b::rest) pos) (tAndV ta tb):=by
 intro pins s σ H Q I h;refine BoolOp_and (thn (ha pins s σ H _ I h) fun v s1 hq0=>?_);obtain⟨x,H1,I1,r1,q1⟩:=hq0;obtain⟨c,rfl,q1⟩:=q1;cases r1;refine wpAny_truthy_bool ?_;cases c with
 |true=>exact hb pins s1 σ H1 Q I1 q1
 |false=>exact⟨.bl false,H1,I1,rfl,q1⟩
theorem Yz(ha:Bx (PE X a ta))(hb:Bx (PE X (.BoolOp .Or (b::rest) pos) tb)):Bx (PE X (.BoolOp .Or (a::b::rest) pos) (zbE ta tb)):=by
 have ha:=ha.of;have hb:=hb.of;refine⟨?_⟩;intro pins s σ H Q I h;refine BoolOp_or (thn (ha pins s σ H _ I h) fun v s1 hq0=>?_);obtain⟨x,H1,I1,r1,q1⟩:=hq0;obtain⟨c,rfl,q1⟩:=q1;cases r1;refine wpAny_truthy_bool ?_;cases c with
 |false=>exact hb pins s1 σ H1 Q I1 q1
 |true=>exact⟨.bl true,H1,I1,rfl,q1⟩
theorem Vp(ha:PE X a ta):PE X (.UnaryOp .Not a pos) (U2 ta):=by
 intro pins s σ H Q I h;refine UnaryOp_ (thn (ha pins s σ H _ I h) fun v s1 hq0=>?_);obtain⟨x,H1,I1,r1,q1⟩:=hq0;obtain⟨c,rfl,q1⟩:=q1;cases r1;exact not_of (wpAny_truthy_bool ⟨.bl (!c),H1,I1,rfl,q1⟩)
end
def SqL(K:W.Frag)(H:Hp)(a:Addr)(xs:List V):Prop :=
 Rd H a (.lst xs) \/
  ∃ (o:Obj) (its:Array Value) (n:Nat),K.lookup a=some o/\o.cls=.type "list" /\ o.dict=none/\o.data=.seq its n/\its.size<=sizeLine/\Vals xs its.toList
def SqT(K:W.Frag)(H:Hp)(a:Addr)(xs:List V):Prop :=
 Rd H a (.tup xs) \/
  ∃ (o:Obj) (its:Array Value) (n:Nat),K.lookup a=some o/\o.cls=.type "tuple" /\ o.data=.seq its n/\its.size<=sizeLine/\Vals xs its.toList
def zdw:Value->Option V
 |.none=>some .non
 |.bool b=>some (.bl b)
 |.int i _=>some (.int i)
 |.str x _=>some (.str x)
 |.bytes b _=>some (.byt b)
 |.float b _=>some (.flt b)
 |.ref a=>some (.ref a)
 |.type n=>some (.ty n)
 |_=>none
theorem RelV.abs{x:V}{u:Value}(r:RelV x u):zdw u=some x:=by
 cases x with
 |non=>cases r;rfl
 |bl _=>cases r;rfl
 |int _=>obtain⟨t,rfl⟩:=r;rfl
 |str _=>obtain⟨t,rfl⟩:=r;rfl
 |byt _=>obtain⟨t,rfl⟩:=r;rfl
 |flt _=>obtain⟨t,rfl⟩:=r;rfl
 |ref _=>cases r;rfl
 |ty _=>cases r;rfl
theorem RelV.inj{x y:V}{u:Value}(r:RelV x u)(q:RelV y u):x=y:=Option.some.inj (r.abs.symm.trans q.abs)
theorem Vals.inj:∀ {xs ys:List V}{us:List Value},Vals xs us->Vals ys us->xs=ys
 |_,_,_,.nil,.nil=>rfl
 |_,_,_,.cons r t,.cons r' t'=>by rw[r.inj r',Vals.inj t t']
section
variable {X:Cx}{pins:List (Addr×Obj)}{σ:St}{H:Hp}{s:Shared}{a:Addr}{xs ys:List V}
theorem sO{K:W.Frag}(h:H a=some (.lst xs)):SqL K H a xs:=.inl (.inl h)
theorem sP{K:W.Frag}(h:H a=some (.tup xs)):SqT K H a xs:=.inl (.inl h)
theorem Inv.list(I:Inv X pins σ H s)(h:SqL X.K H a xs):∃ its:List Value,Vals xs its/\PlainL s.heap a its.toArray/\xs.length<=sizeLine:=by
 rcases h with h | ⟨o,its,n,hk,hc,hd,hs,hz,r⟩
 ·obtain⟨z,its,n,r,e⟩:=h.ok I.hok
  exact⟨its,r,⟨_,n,e,rfl,rfl,rfl⟩,z⟩
 ·refine⟨its.toList,r,⟨o,n,I.kIn a o hk,hc,hd,by simpa using hs⟩,?_⟩
  have e:=r.length;simp only[length_toList] at e;omega
theorem Inv.tuple(I:Inv X pins σ H s)(h:SqT X.K H a xs):∃ its:List Value,Vals xs its/\IsTup s.heap a its.toArray/\xs.length<=sizeLine:=by
 rcases h with h | ⟨o,its,n,hk,hc,hs,hz,r⟩
 ·obtain⟨z,its,r,p⟩:=h.ok I.hok
  exact⟨its,r,p,z⟩
 ·refine⟨its.toList,r,⟨o,I.kIn a o hk,hc,n,by simpa using hs⟩,?_⟩
  have e:=r.length;simp only[length_toList] at e;omega
theorem Inv.list_inj(I:Inv X pins σ H s)(h:SqL X.K H a xs)(h':SqL X.K H a ys):xs=ys:=by
 obtain⟨its,r,⟨o,n,e,_,_,d⟩,_⟩:=I.list h;obtain⟨its',r',⟨o',n',e',_,_,d'⟩,_⟩:=I.list h';rw[e] at e';cases e';rw[d] at d';injection d' with d1 _;have:its=its':=by simpa using congrArg Array.toList d1
 subst this;exact r.inj r'
theorem Inv.tuple_inj(I:Inv X pins σ H s)(h:SqT X.K H a xs)(h':SqT X.K H a ys):xs=ys:=by
 obtain⟨its,r,⟨o,e,_,n,d⟩,_⟩:=I.tuple h;obtain⟨its',r',⟨o',e',_,n',d'⟩,_⟩:=I.tuple h';rw[e] at e';cases e';rw[d] at d';injection d' with d1 _;have:its=its':=by simpa using congrArg Array.toList d1
 subst this;exact r.inj r'
end
abbrev Cx.wish(X:Cx)(E:Value->Shared->Prop):Cx:={ X with xe:=E }
abbrev Cx.nox(X:Cx):Cx:=X.wish fun _ _=>False
theorem Cx.Ok.wish{X:Cx}(ok:X.Ok)(E:Value->Shared->Prop):(X.wish E).Ok :=
 ⟨ok.mod,ok.kind,ok.glob,ok.blt,ok.above,ok.inj,ok.has,ok.cab,ok.hd,ok.frames,ok.stk,ok.exf,ok.bs,ok.bsz,ok.noex,ok.exfs,ok.funs,ok.frf⟩
theorem Cx.Ok.unwish{X:Cx}{E:Value->Shared->Prop}(ok:(X.wish E).Ok):X.Ok :=
 ⟨ok.mod,ok.kind,ok.glob,ok.blt,ok.above,ok.inj,ok.has,ok.cab,ok.hd,ok.frames,ok.stk,ok.exf,ok.bs,ok.bsz,ok.noex,ok.exfs,ok.funs,ok.frf⟩
section
variable {X:Cx}{pins:List (Addr×Obj)}{σ:St}{H:Hp}{s:Shared}{E:Value->Shared->Prop}
theorem Inv.wish(I:Inv X pins σ H s)(E:Value->Shared->Prop):Inv (X.wish E) pins σ H s:=⟨I.ok.wish E,I.os,I.bare,I.base,I.loc,I.cell,I.free,I.freeC,I.pin,I.hok,I.len⟩
theorem Inv.unwish(I:Inv (X.wish E) pins σ H s):Inv X pins σ H s:=⟨I.ok.unwish,I.os,I.bare,I.base,I.loc,I.cell,I.free,I.freeC,I.pin,I.hok,I.len⟩
theorem SP.unwish{D:Ends}{f:Flow}{s':Shared}(h:SP (X.wish E) pins D f s'):SP X pins D f s':=by
 cases f with
 |next=>obtain⟨σ',H',I,q⟩:=h;exact⟨σ',H',I.unwish,q⟩
 |brk=>obtain⟨σ',H',I,q⟩:=h;exact⟨σ',H',I.unwish,q⟩
 |cont=>obtain⟨σ',H',I,q⟩:=h;exact⟨σ',H',I.unwish,q⟩
 |ret u=>obtain⟨v,σ',H',I,r,q⟩:=h;exact⟨v,σ',H',I.unwish,r,q⟩
theorem PSs.nox{st:List Stmt}{t:TS}(h:PSs X.nox st t):PSs X st t:=fun pins s σ H D I hw =>
 wpAny_mono (h pins s σ H D (I.wish _) hw) (fun _ _ q=>q.unwish) fun _ _ z=>False.elim z
end
section
variable {X:Cx}{st:Stmt}{rest:List Stmt}{t u:TS}{e:Expr}{te:TE}{pos:Pos}
def VX:TS:=fun D σ H=>D.nx σ H
def zbC(t u:TS):TS:=fun D σ H=>t { D with nx:=u D } σ H
theorem xf:PSs X [] VX:=fun _ _ σ H _ I h=>wpAny_execs_nil ⟨σ,H,I,h⟩
theorem zQ(h1:PS X st t)(h2:PSs X rest u):PSs X (st::rest) (zbC t u):=by
 intro pins s σ H D I h;refine wpAny_execs_cons (thn (h1 pins s σ H { D with nx:=u D } I h) fun f s1 q=>?_);cases f with
 |next =>
  obtain⟨σ',H',I',q⟩:=q;exact h2 pins s1 σ' H' D I' q
 |ret v=>exact q
 |brk=>exact q
 |cont=>exact q
theorem yi(h1:PS X st t):PSs X [st] t:=by
 intro pins s σ H D I h;refine wpAny_execs_cons (thn (h1 pins s σ H D I h) fun f s1 q=>?_);cases f with
 |next=>exact wpAny_execs_nil q
 |ret v=>exact q
 |brk=>exact q
 |cont=>exact q
theorem Inv.quiet{pins:List (Addr×Obj)}{σ:St}{H:Hp}{s:Shared}(I:Inv X pins σ H s):interactive X.env=false:=by simp[interactive,I.ok.kind]
def U7(te:TE):TS:=fun D σ H=>te σ H fun _ H1=>D.nx σ H1
theorem Zc(he:PE X e te)(hs:swapsWith e none pos.line X.env=pure false:=by rfl):PS X (.Expr e pos) (U7 te):=by
 intro pins s σ H D I h;exact wpAny_Expr_any (thn (he pins s σ H _ I h) fun v s1 ⟨x,H1,I1,r1,q1⟩=>⟨σ,H1,I1,q1⟩) I.quiet hs
def zbD(te:TE):TS:=fun D σ H=>te σ H D.rt
theorem xl(he:PE X e te):PS X (.Return (some e) pos) (zbD te):=by
 intro pins s σ H D I h;exact wpAny_Return_some (thn (he pins s σ H _ I h) fun v s1 ⟨x,H1,I1,r1,q1⟩=>⟨x,σ,H1,I1,r1,q1⟩)
def zbt(c:TT)(t u:TS):TS:=fun D σ H=>c σ H fun b H1=>if b=true then t D σ H1 else u D σ H1
theorem vT{c:Expr}{a b:List Stmt}{tc:TT}(hc:PT X c tc)(ha:PSs X a t)(hb:PSs X b u):PS X (.If c a b pos) (zbt tc t u):=by
 intro pins s σ H D I h;refine wpAny_If (thn (hc pins s σ H _ I h) fun d s1 hq0=>?_);obtain⟨H1,I1,q1⟩:=hq0;cases d with
 |true=>exact ha pins s1 σ H1 D I1 q1
 |false=>exact hb pins s1 σ H1 D I1 q1
def U3:TS:=fun _ _ _=>False
theorem ZJ:PS X st U3:=fun _ _ _ _ _ _ h=>h.elim
end
abbrev TG:=V->St->Hp->(St->Hp->Prop)->Prop
abbrev TGs:=List V->St->Hp->(St->Hp->Prop)->Prop
def PG(X:Cx)(target:Expr)(t:TG):Prop :=
 ∀ (pins:List (Addr×Obj)) (s:Shared) (σ:St) (H:Hp) (v:V) (u:Value) (Q:St->Hp->Prop),Inv X pins σ H s->RelV v u->t v σ H Q ->
  wpAny (model X.prog X.w) X.A (assign target X.env u) (fun _ s'=>∃ σ' H',Inv X pins σ' H' s'/\Q σ' H') X.xe s
def PGs(X:Cx)(ts:List Expr)(t:TGs):Prop :=
 ∀ (pins:List (Addr×Obj)) (s:Shared) (σ:St) (H:Hp) (vs:List V) (us:List Value) (Q:St->Hp->Prop),Inv X pins σ H s->Vals vs us->t vs σ H Q ->
  wpAny (model X.prog X.w) X.A (assignInOrder ((assignEach ts X.env).map (·.2)) us) (fun _ s'=>∃ σ' H',Inv X pins σ' H' s'/\Q σ' H') X.xe s
section
variable {X:Cx}{pos:Pos}
def wc(i:Nat):TG:=fun v σ H Q=>Q (σ.set i (some v)) H
theorem xZ{i:Nat}{x:Str}(hN:X.N.Nodup)(hi:X.N[i]?=some x)(hx:Loc X.env.scope x)(hf:X.fn x=true\/X.env.scope.names.lookup x=some .local:=by first | exact .inl rfl | exact .inr rfl | assumption):PG X (.Name x pos) (wc i):=by
 intro pins s σ H v u Q I r h;exact wpAny_assign_Name (store_ok I hN hi hx r (fun s' I'=>⟨_,H,I',h⟩) hf)
def gNil:TGs:=fun vs σ H Q=>vs=[]/\Q σ H
def zbc(t:TG)(u:TGs):TGs:=fun vs σ H Q=>∃ v r,vs=v::r/\t v σ H fun σ' H'=>u r σ' H' Q
theorem YW:PGs X [] gNil:=by
 intro pins s σ H vs us Q I r h;obtain⟨e,h⟩:=h;subst e;cases r;exact assignInOrder_nil ⟨σ,H,I,h⟩
theorem vV{e:Expr}{es:List Expr}{t:TG}{u:TGs}(h1:PG X e t)(h2:PGs X es u)
  (hs:(assignEach (e::es) X.env).map (·.2)=assign e X.env::(assignEach es X.env).map (·.2):=by rfl):PGs X (e::es) (zbc t u):=by
 intro pins s σ H vs us Q I r h;obtain⟨v,vr,e1,h⟩:=h;subst e1;cases r with
 |cons r rr =>
  rw[hs];refine assignInOrder_cons (thn (h1 pins s σ H _ _ _ I r h) fun _ s1 hq0=>?_);obtain⟨σ1,H1,I1,q1⟩:=hq0;exact h2 pins s1 σ1 H1 _ _ Q I1 rr q1
def zc8(K:W.Frag)(n:Nat)(t:TGs):TG:=fun v σ H Q=>∃ a xs,v=.ref a/\SqT K H a xs/\xs.length=n/\t xs σ H Q
theorem Vn{es:List Expr}{k:Nat}{t:TGs}{n:Nat}(hc:X.calm=true)(h:PGs X es t)
  (hn:(assignEach es X.env).length=n:=by rfl) (hst:(assignEach es X.env).findIdx? (·.1)=none:=by rfl):PG X (.Tuple es k pos) (zc8 X.K n t):=by
 intro pins s σ H v u Q I r hw;obtain⟨a,xs,e1,hq,hl,hw⟩:=hw;subst e1;cases r;obtain⟨its,rv,ht,hz⟩:=I.tuple hq;refine assign_Tuple_tuple (I.ok.hd hc) ht (by simp[hn,<- hl,rv.length]) hst fun h' hx=>?_;have I1:Inv X pins σ H { s with heap:=h' }:=I.kept (t':=s.toks) fun b o e=>hx b o (ne_of_lt (Heap.lt_size e)) e;exact h pins _ σ H xs _ Q I1 (by simpa using rv) hw
def VZ(te:TE)(g:TG):TS:=fun D σ H=>te σ H fun x H1=>g x σ H1 D.nx
theorem vG{tg e:Expr}{te:TE}{g:TG}(he:Bx (PE X e te))(hg:Bx (PG X tg g))(hs:swapsWithSole [tg] e pos.line X.env=pure false:=by rfl)(hw:swappedStores [tg] e X.env=pure none:=by rfl)(h1:(assignEach [tg] X.env).map (·.2)=[assign tg X.env]:=by rfl):Bx (PS X (.Assign [tg] e pos) (VZ te g)):=by
 have he:=he.of;have hg:=hg.of;refine⟨?_⟩;intro pins s σ H D I h;refine wpAny_Assign_stores (thn (he pins s σ H _ I h) fun v s1 hq0=>?_) hs hw;obtain⟨x,H1,I1,r1,q1⟩:=hq0;rw[h1];exact thn (hg pins s1 σ H1 x v _ I1 r1 q1) fun _ s2 q=>q
theorem um{i:Nat}{x:Str}{e:Expr}{te:TE}{pos':Pos}(hN:X.N.Nodup)(hi:X.N[i]?=some x)(hx:Loc X.env.scope x)(he:PE X e te)(hs:swapsWith e (some (.Name x pos')) pos.line X.env=pure false:=by rfl)(hf:X.fn x=true\/X.env.scope.names.lookup x=some .local:=by first | exact .inl rfl | exact .inr rfl | assumption) :
  PS X (.Assign [.Name x pos'] e pos) (VZ te (wc i)):=by
 intro pins s σ H D I h;refine wpAny_Assign_Name (thn (he pins s σ H _ I h) fun v s1 hq0=>?_) hs;obtain⟨y,H1,I1,r1,q1⟩:=hq0;exact store_ok I1 hN hi hx r1 (fun s2 I2=>⟨_,H1,I2,q1⟩) hf
def U0(c:TT)(tb:TS):TS:=fun D σ H=>∃ W:Nat->St->Hp->Prop,(∃ m,W m σ H)/\∀ m σ H,W m σ H ->
 c σ H fun b H1=>if b=true then ∃ N:St->Hp->Prop,(∀ σ' H',N σ' H'->∃ m',m'<m/\W m' σ' H')/\tb { D with nx:=N,ct:=N,bk:=D.nx } σ H1 else D.nx σ H1
theorem xv{c:Expr}{body:List Stmt}{tc:TT}{tb:TS}(hp:PassesOwn (model X.prog X.w) X.A X.env X.xe)(hc:Bx (PT X c tc))(hb:Bx (PSs X body tb)):Bx (PS X (.While c body [] pos) (U0 tc tb)):=by
 have hc:=hc.of;have hb:=hb.of;refine⟨?_⟩;intro pins s σ H D I h;obtain⟨W,⟨m0,w0⟩,turn⟩:=h;refine wpAny_While (codeAny_whileLoop (fun n s'=>∃ σ' H',Inv X pins σ' H' s'/\W n σ' H') ?_ m0 ⟨σ,H,I,w0⟩);rintro n s1 ⟨σ1,H1,I1,w1⟩;refine wpAny_passesOwn hp (thn (hc pins s1 σ1 H1 _ I1 (turn n σ1 H1 w1)) fun b s2 hq0=>?_);obtain⟨H2,I2,q2⟩:=hq0;cases b with
 |true =>
  obtain⟨N,hN,q2⟩:=q2;rw[if_pos rfl];refine wpAny_passesOwn hp (thn (hb pins s2 σ1 H2 _ I2 q2) fun f s3 q3=>?_);cases f with
  |next =>
   obtain⟨σ3,H3,I3,n3⟩:=q3;obtain⟨m',hm,w3⟩:=hN σ3 H3 n3;exact⟨m',hm,σ3,H3,I3,w3⟩
  |cont =>
   obtain⟨σ3,H3,I3,n3⟩:=q3;obtain⟨m',hm,w3⟩:=hN σ3 H3 n3;exact⟨m',hm,σ3,H3,I3,w3⟩
  |brk=>exact q3
  |ret v=>exact q3
 |false =>
  rw[if_neg Bool.false_ne_true];exact wpAny_execs_nil ⟨σ1,H2,I2,q2⟩
end
structure It where
 go:Nat->Hp->Prop
 yld:Nat->Hp->V->Hp->Prop
 stop:Nat->Hp->Prop
def FpOk(X:Cx)(pins:List (Addr×Obj))(H:Hp)(b:Addr):Prop :=
 H b=none/\b≠X.env.locals/\b∉X.fs/\(b∈X.ex\/X.s₀.heap.objs.size<=b)/\(∀ x c,X.env.cells.lookup x=some c->c≠b)/\∀ p∈X.pn++pins,p.1≠b
theorem Inv.fpOk{X:Cx}{pins:List (Addr×Obj)}{σ:St}{H H':Hp}{s:Shared}{b:Addr}(I:Inv X pins σ H s)(hb:s.heap.objs.size<=b)(hn:H' b=none):FpOk X pins H' b:=by
 refine⟨hn,ne_of_gt (lt_of_lt_of_le I.lt hb),I.nofs hb,.inr (le_trans I.sz hb),fun x c e z=>?_,fun p hp z=>?_⟩
 ·obtain⟨v,q⟩:=I.cell x c e
  exact absurd (lt_of_lt_of_le q.lt (by rw[z];exact hb)) (lt_irrefl _)
 ·exact absurd (lt_of_lt_of_le (Heap.lt_size (I.pin p hp).1) (by rw[z];exact hb)) (lt_irrefl _)
structure Turn (P:Program) (w:World) (K:W.Frag) (tg:Expr) (J:It) (fp:List Addr) (it:Addr) (tn:Nat->Heap->Prop):Prop where
 mem:it∈fp
 obj:∀ i h,tn i h->∀ b∈fp,∃ o,h.get? b=some o/\∀ v,o.data≠.cell v
 keep:∀ i h h',tn i h->(∀ b∈fp,∀ o,h.get? b=some o->h'.get? b=some o)->tn i h'
 item:∀ (X:Cx),X.prog=P->X.w=w->X.K=K->X.calm=true->∀ (i:Nat) (pins:List (Addr×Obj)) (s:Shared) (σ:St) (H:Hp) (E:Value->Shared->Prop),Inv X pins σ H s->(∀ b∈fp,FpOk X pins H b)->tn i s.heap->J.go i H ->
  wpAny (model P w) X.A (pyNext (.ref it)) (fun r s1=>∃ u,r=some u /\
   wpAny (model P w) X.A (letOwnedTupleGo tg (.ref it) u) (fun _ s2=>∃ x H',Inv X pins σ H' s2/\RelV x u/\J.yld i H x H'/\tn (i+1) s2.heap/\∀ b∈fp,H' b=none) E s1) E s
 done:∀ (X:Cx),X.prog=P->X.w=w->X.K=K->X.calm=true->∀ (i:Nat) (pins:List (Addr×Obj)) (s:Shared) (σ:St) (H:Hp) (E:Value->Shared->Prop),Inv X pins σ H s->(∀ b∈fp,FpOk X pins H b)->tn i s.heap->J.stop i H ->
  wpAny (model P w) X.A (pyNext (.ref it)) (fun r s1=>r=none/\Inv X pins σ H s1) E s
 self:∀ (A:Around) (i:Nat) (s:Shared) (Q:Value->Shared->Prop) (E:Value->Shared->Prop),tn i s.heap->Q (.ref it) s->wpAny (model P w) A (pyIter (.ref it)) Q E s
abbrev TI:=St->Hp->(It->Hp->Prop)->Prop
def PIE(X:Cx)(pins:List (Addr×Obj))(σ:St)(tg:Expr)(R:It->Hp->Prop)(itv:Value)(s2:Shared):Prop :=
 ∃ (it:Addr) (fp:List Addr) (tn:Nat->Heap->Prop) (J:It) (H':Hp),itv=.ref it/\Inv X pins σ H' s2/\Turn X.prog X.w X.K tg J fp it tn/\tn 0 s2.heap/\(∀ b∈fp,FpOk X pins H' b)/\R J H'
def PI(X:Cx)(tg iter:Expr)(wi:TI):Prop :=
 ∀ (pins:List (Addr×Obj)) (s:Shared) (σ:St) (H:Hp) (R:It->Hp->Prop),Inv X pins σ H s->wi σ H R ->
  wpAny (model X.prog X.w) X.A (eval iter X.env) (fun v s1=>wpAny (model X.prog X.w) X.A (pyIter v) (PIE X pins σ tg R) X.xe s1) X.xe s
theorem Yl{M:Model}{A:Around}{E:Value->Shared->Prop}{s:Shared}{tg:Expr}{it:Addr}{u:Value}{o:Obj}{n:String}{vs:Array Value}{Q:Unit->Shared->Prop}(ho:s.heap.get? it=some o)(hc:o.cls=.type n)(hd:o.data=.fields vs)
  (hn:["enumerate", "zip", "dict_itemiterator", "dict_reverseitemiterator", "odict_iterator", "itertools.zip_longest", "itertools.pairwise"].contains n=false) (hQ:Q () s):wpAny M A (letOwnedTupleGo tg (.ref it) u) Q E s:=by
 unfold letOwnedTupleGo;cases tg<;>first
  |exact wpAny_pure hQ
  |(cases u<;>first
    |exact wpAny_pure hQ
    |(refine wpAny_bind (wpAny_load ho ?_)
      rw[hc,hd];show wpAny M A (if (["enumerate", "zip", "dict_itemiterator", "dict_reverseitemiterator", "odict_iterator", "itertools.zip_longest", "itertools.pairwise"].contains n&&vs[0]? == some (rawInt _))=true then _ else _) Q E s;rw[if_neg (by intro h;rw[hn,Bool.false_and] at h;cases h)];exact wpAny_pure hQ))
def Itl(K:W.Frag)(a:Addr):It :=
 ⟨fun i H=>∃ xs x,SqL K H a xs/\xs[i]?=some x,fun i H x H'=>H'=H/\∀ xs,SqL K H a xs->xs[i]?=some x,fun i H=>∃ xs,SqL K H a xs/\xs.length<=i⟩
def Itt(K:W.Frag)(a:Addr):It :=
 ⟨fun i H=>∃ xs x,SqT K H a xs/\xs[i]?=some x,fun i H x H'=>H'=H/\∀ xs,SqT K H a xs->xs[i]?=some x,fun i H=>∃ xs,SqT K H a xs/\xs.length<=i⟩
def Itr(lo:Int)(n:Nat):It:=⟨fun i _=>i<n,fun i H x H'=>H'=H/\x=.int (lo+i),fun i _=>n<=i⟩
theorem YB{P:Program}{w:World}{K:W.Frag}{tg:Expr}(a it:Addr):Turn P w K tg (Itl K a) [it] it (fun i h=>h.IsListIter it a i) where
 mem:=by simp
 obj:=fun i h st b hb=>by
  have e:b=it:=by simpa using hb
  subst e;obtain⟨o,e,c,d⟩:=st;exact⟨o,e,fun v z=>by rw[d] at z;cases z⟩
 keep:=fun i h h' st k=>st.at fun o e=>k it (by simp) o e
 item:=by
  intro X hP hw hK hc i pins s σ H E I hf st hg;subst hP hw hK;obtain⟨xs,x,hq,hx⟩:=hg;obtain⟨its,rv,p,hz⟩:=I.list hq;obtain⟨u,hu,ru⟩:=rv.get hx;obtain⟨f0,f1,f2,f3,f4,f5⟩:=hf it (by simp);refine wpAny_pyNext_list_item st p.isList (x:=u) (by simpa using hu) fun h' st' sb=>?_;have I1:Inv X pins σ H { s with heap:=h' }:=I.turned (t':=s.toks) (fun b o hb e=>(sb.2 b hb).trans e) f0 f1 f3 f4 f5;obtain⟨o,e,c,d⟩:=id st';exact⟨u,rfl,Yl (s:={ s with heap:=h' }) e c d (by decide) ⟨x,H,I1,ru,⟨rfl,fun ys hy=>by rw[I.list_inj hy hq];exact hx⟩,st',fun b hb=>(hf b hb).1⟩⟩
 done:=by
  intro X hP hw hK hc i pins s σ H E I hf st hg;subst hP hw hK;obtain⟨xs,hq,hx⟩:=hg;obtain⟨its,rv,p,hz⟩:=I.list hq;obtain⟨f0,f1,f2,f3,f4,f5⟩:=hf it (by simp);have hl:=rv.length;exact wpAny_pyNext_list_end (I.ok.hd hc) st p.isList (by simp;omega) fun h' eb=>⟨rfl,I.turned (t':=s.toks) (fun b o hb e=>eb b o hb e) f0 f1 f3 f4 f5⟩
 self:=fun _ _ _ _ _ st h=>wpAny_pyIter_listiter st h
theorem Z7{P:Program}{w:World}{K:W.Frag}{tg:Expr}(a it:Addr):Turn P w K tg (Itt K a) [it] it (fun i h=>h.IsTupleIter it a i) where
 mem:=by simp
 obj:=fun i h st b hb=>by
  have e:b=it:=by simpa using hb
  subst e;obtain⟨o,e,c,d⟩:=st;exact⟨o,e,fun v z=>by rw[d] at z;cases z⟩
 keep:=fun i h h' st k=>st.at fun o e=>k it (by simp) o e
 item:=by
  intro X hP hw hK hc i pins s σ H E I hf st hg;subst hP hw hK;obtain⟨xs,x,hq,hx⟩:=hg;obtain⟨its,rv,p,hz⟩:=I.tuple hq;obtain⟨u,hu,ru⟩:=rv.get hx;obtain⟨f0,f1,f2,f3,f4,f5⟩:=hf it (by simp);refine wpAny_pyNext_tuple_item st (show s.heap.IsTuple a its.toArray from p) (x:=u) (by simpa using hu) fun h' st' sb=>?_;have I1:Inv X pins σ H { s with heap:=h' }:=I.turned (t':=s.toks) (fun b o hb e=>(sb.2 b hb).trans e) f0 f1 f3 f4 f5;obtain⟨o,e,c,d⟩:=id st';exact⟨u,rfl,Yl (s:={ s with heap:=h' }) e c d (by decide) ⟨x,H,I1,ru,⟨rfl,fun ys hy=>by rw[I.tuple_inj hy hq];exact hx⟩,st',fun b hb=>(hf b hb).1⟩⟩
 done:=by
  intro X hP hw hK hc i pins s σ H E I hf st hg;subst hP hw hK;obtain⟨xs,hq,hx⟩:=hg;obtain⟨its,rv,p,hz⟩:=I.tuple hq;obtain⟨f0,f1,f2,f3,f4,f5⟩:=hf it (by simp);have hl:=rv.length;exact wpAny_pyNext_tuple_end (I.ok.hd hc) st (show s.heap.IsTuple a its.toArray from p) (by simp;omega) fun h' eb=>⟨rfl,I.turned (t':=s.toks) (fun b o hb e=>eb b o hb e) f0 f1 f3 f4 f5⟩
 self:=fun _ _ _ _ _ st h=>wpAny_pyIter_tupleiter st h
theorem Z8{P:Program}{w:World}{K:W.Frag}{tg:Expr}(it:Addr)(lo:Int)(n:Nat):Turn P w K tg (Itr lo n) [it] it (fun i h=>IsRangeIter h it (lo+(i:Nat)*1) ((n:Int)-(i:Nat)) 1) where
 mem:=by simp
 obj:=fun i h st b hb=>by
  have e:b=it:=by simpa using hb
  subst e;exact⟨_,st,fun v z=>by
   have z':Data.fields _=Data.cell v:=z;cases z'⟩
 keep:=fun i h h' st k=>k it (by simp) _ st
 item:=by
  intro X hP hw hK hc i pins s σ H E I hf st hg;subst hP hw hK;obtain⟨f0,f1,f2,f3,f4,f5⟩:=hf it (by simp);have W:=Walks.range (prog:=X.prog) (w:=X.w) (I.ok.hd hc) it lo 1 n;refine W.item i s _ _ hg st fun v h' tk hv st' kk=>?_;obtain⟨t,rfl⟩:=hv;have I1:Inv X pins σ H { s with heap:=h',toks:=tk }:=I.turned (fun b o hb e=>kk b o (by simpa using hb) e) f0 f1 f3 f4 f5;refine⟨_,rfl,Yl (s:={ s with heap:=h',toks:=tk }) (n := "range_iterator") st' rfl rfl (by decide) ⟨.int (lo+i),H,I1,⟨t,?_⟩,⟨rfl,rfl⟩,st',fun b hb=>(hf b hb).1⟩⟩;rw[Int.mul_one]
 done:=by
  intro X hP hw hK hc i pins s σ H E I hf st hg;subst hP hw hK;obtain⟨f0,f1,f2,f3,f4,f5⟩:=hf it (by simp);exact wpAny_pyNext_range_end (I.ok.hd hc) st (by have:n<=i:=hg;omega) fun h' eb=>⟨rfl,I.turned (t':=s.toks) (fun b o hb e=>eb b o hb e) f0 f1 f3 f4 f5⟩
 self:=fun _ _ _ _ _ st h=>wpAny_pyIter_rangeiter st h
section
variable {X:Cx}{tg:Expr}
def za8(K:W.Frag)(tl:TE):TI:=fun σ H R=>tl σ H fun x H1=>∃ a,x=.ref a/\(∃ xs,SqL K H1 a xs)/\R (Itl K a) H1
def zds(K:W.Frag)(tl:TE):TI:=fun σ H R=>tl σ H fun x H1=>∃ a,x=.ref a/\(∃ xs,SqT K H1 a xs)/\R (Itt K a) H1
theorem wN{l:Expr}{tl:TE}(hl:PE X l tl):PI X tg l (za8 X.K tl):=by
 intro pins s σ H R I h;refine thn (hl pins s σ H _ I h) fun v s1 hq0=>?_;obtain⟨x,H1,I1,r1,q1⟩:=hq0;obtain⟨a,e,⟨xs,hq⟩,q⟩:=q1;subst e;cases r1;obtain⟨its,rv,p,hz⟩:=I1.list hq;refine wpAny_pyIter_list p.isList ?_;refine⟨s1.heap.objs.size,[s1.heap.objs.size],_,_,H1,rfl,I1.kept (t':=s1.toks) fun b o e=>Heap.get?_push_of_some _ e,YB a _,⟨_,Heap.get?_push_size _ rfl,rfl,rfl⟩,fun b hb=>?_,q⟩;have e:b=s1.heap.objs.size:=by simpa using hb
 subst e;exact I1.fpOk (Nat.le_refl _) (I1.hok.fresh (Nat.le_refl _))
theorem ZB{l:Expr}{tl:TE}(hl:Bx (PE X l tl)):Bx (PI X tg l (zds X.K tl)):=by
 have hl:=hl.of;refine⟨?_⟩;intro pins s σ H R I h;refine thn (hl pins s σ H _ I h) fun v s1 hq0=>?_;obtain⟨x,H1,I1,r1,q1⟩:=hq0;obtain⟨a,e,⟨xs,hq⟩,q⟩:=q1;subst e;cases r1;obtain⟨its,rv,p,hz⟩:=I1.tuple hq;refine wpAny_pyIter_tuple (show s1.heap.IsTuple a its.toArray from p) ?_;refine⟨s1.heap.objs.size,[s1.heap.objs.size],_,_,H1,rfl,I1.kept (t':=s1.toks) fun b o e=>Heap.get?_push_of_some _ e,Z7 a _,⟨_,Heap.get?_push_size _ rfl,rfl,rfl⟩,fun b hb=>?_,q⟩;have e:b=s1.heap.objs.size:=by simpa using hb
 subst e;exact I1.fpOk (Nat.le_refl _) (I1.hok.fresh (Nat.le_refl _))
theorem Wm{pins:List (Addr×Obj)}{σ:St}{H:Hp}{s:Shared}{R:It->Hp->Prop}{E:Value->Shared->Prop}{lo hi:Int}{t u v:Tok}{tk:Nat}(I:Inv X pins σ H s)(h1 : -(2 ^ 62)<=lo)(h2:lo<2 ^ 62)(h3 : -(2 ^ 62)<=hi)(h4:hi<2 ^ 62)
  (q:R (Itr lo (hi-lo).toNat) H):wpAny (model X.prog X.w) X.A (pyIter (.ref s.heap.objs.size)) (PIE X pins σ tg R) E { s with heap:=s.heap.push { cls:=.type "range",data:=.fields #[.int lo t,.int hi u,.int 1 v] },toks:=tk }:=by
 refine wpAny_pyIter_range (IsRange.new ..) (small_one h1 h2 h3 h4) ?_;have I1:Inv X pins σ H { s with heap:=s.heap.push { cls:=.type "range",data:=.fields #[.int lo t,.int hi u,.int 1 v] },toks:=tk }:=I.kept fun b o e=>Heap.get?_push_of_some _ e;refine⟨(s.heap.push { cls:=.type "range",data:=.fields #[.int lo t,.int hi u,.int 1 v] }).objs.size,[(s.heap.push { cls:=.type "range",data:=.fields #[.int lo t,.int hi u,.int 1 v] }).objs.size],_,_,H,rfl,
  I1.kept (t':=tk) fun b o e=>Heap.get?_push_of_some _ e,Z8 _ lo (hi-lo).toNat,?_,fun b hb=>?_,q⟩
 ·have e1:lo+((0:Nat):Int)*1=lo:=by simp
  have e2:(((hi-lo).toNat:Nat):Int)-((0:Nat):Int)=Builtin.Range.rangeSize lo hi 1:=by rw[rangeSize_one];split<;>omega
  show IsRangeIter _ _ (lo+((0:Nat):Int)*1) ((((hi-lo).toNat:Nat):Int)-((0:Nat):Int)) 1;rw[e1,e2];exact Heap.get?_push_size _ rfl
 ·have e:b=(s.heap.push { cls:=.type "range",data:=.fields #[.int lo t,.int hi u,.int 1 v] }).objs.size:=by simpa using hb
  subst e;exact I1.fpOk (Nat.le_refl _) (I1.hok.fresh (Nat.le_refl _))
def zcp(ta:TA):TI:=fun σ H R=>ta σ H fun vs H1=>∃ j:Int,vs=[.int j]/\-(2 ^ 62)<=j/\j<2 ^ 62/\R (Itr 0 j.toNat) H1
theorem yZ{a:Expr}{ta:TA}{p pos:Pos}(hg:Gl X "range")(hm:X.mg "range" = none)(ha:Bx (PA X [a] ta))(hs:starEach [a] X.env=[(false,eval a X.env)]:=by rfl):Bx (PI X tg (.Call (.Name "range" p) [a] [] pos) (zcp ta)):=by
 have ha:=ha.of;refine⟨?_⟩;intro pins s σ H R I h;refine Call_ (ld_blt I hg hm boot_range (PyProof.Rows.callWith_type1 (thn (ha pos pins s σ H _ I h) fun us s1 hq0=>?_) hs rfl));obtain⟨vs,H1,I1,r1,q1⟩:=hq0;obtain⟨j,e,q1,q2,q⟩:=q1;subst e;cases r1 with
 |cons r rr =>
  cases rr;obtain⟨t,rfl⟩:=r;exact call_range_1 (Wm I1 (by omega) (by omega) q1 q2 (by simpa using q))
def zcD(wi:TI)(g:TG)(tb:TS):TS:=fun D σ H=>wi σ H fun J H1=>∃ W:Nat->Nat->St->Hp->Prop,(∃ m,W 0 m σ H1)/\∀ i m σ H,W i m σ H ->
 (J.stop i H/\D.nx σ H)\/(J.go i H/\∃ N:St->Hp->Prop,(∀ σ' H',N σ' H'->∃ m',m'<m/\W (i+1) m' σ' H')/\∀ x H',J.yld i H x H'->g x σ H' fun σ2 H2=>tb { D with nx:=N,ct:=N,bk:=D.nx } σ2 H2)
def ur(fp:List Addr)(h:Heap):List (Addr×Obj):=fp.filterMap fun b=>(h.get? b).map fun o=>(b,o)
theorem xw{fp:List Addr}{h:Heap}{b:Addr}{o:Obj}(hb:b∈fp)(e:h.get? b=some o):(b,o)∈ur fp h:=mem_filterMap.mpr ⟨b,hb,by rw[e];rfl⟩
theorem Xe{fp:List Addr}{h:Heap}{p:Addr×Obj}(hp:p∈ur fp h):p.1∈fp/\h.get? p.1=some p.2:=by
 obtain⟨b,hb,e⟩:=mem_filterMap.mp hp;cases q:h.get? b with
 |none=>rw[q] at e;cases e
 |some o =>
  rw[q] at e;have e':(b,o)=p:=Option.some.inj e;subst e';exact⟨hb,q⟩
theorem Inv.pinned{pins:List (Addr×Obj)}{σ:St}{H:Hp}{s:Shared}{fp:List Addr}(I:Inv X pins σ H s)(hf:∀ b∈fp,FpOk X pins H b)(ho:∀ b∈fp,∃ o,s.heap.get? b=some o/\∀ v,o.data≠.cell v):Inv X (pins++ur fp s.heap) σ H s :=
 I.pins_of fun p hp=>(mem_append.mp hp).elim (fun z=>I.pin p (mem_append_right _ z)) fun z=>by
  obtain⟨hb,e⟩:=Xe z;obtain⟨f0,f1,f2,_⟩:=hf p.1 hb;obtain⟨o,e',d⟩:=ho p.1 hb;rw[e] at e';cases e';exact⟨e,f0,f1,f2,d⟩
theorem Inv.unpinned{pins pl:List (Addr×Obj)}{σ:St}{H:Hp}{s:Shared}(I:Inv X (pins++pl) σ H s):Inv X pins σ H s:=I.pins_of fun p hp=>I.pin p (mem_append_right _ (List.mem_append_left _ hp))
theorem uo{iter:Expr}{body:List Stmt}{wi:TI}{g:TG}{tb:TS}{pos:Pos}(hp:PassesOwn (model X.prog X.w) X.A X.env X.xe)(hc:X.calm=true)(hi:PI X tg iter wi)(hg:PG X tg g)(hb:PSs X body tb)
  (hs:∀ x,foldedSetIterable iter X.env x=pure x:=by intro _;rfl):PS X (.For tg iter body [] pos) (zcD wi g tb):=by
 intro pins s σ H D I h;refine wpAny_For (thn (hi pins s σ H _ I h) fun v s1 h1=>thn h1 fun itv s2 h2=>?_) hs;obtain⟨it,fp,tn,J,H2,e,I2,T,st2,f2,W,⟨m0,w0⟩,turn⟩:=h2;subst e
 -- what stays true of the iterator's objects through the loop
 have stat:∀ {H':Hp},(∀ b∈fp,H' b=none)->∀ b∈fp,FpOk X pins H' b:=fun hn b hb=>⟨hn b hb,(f2 b hb).2⟩;refine codeAny_forLoop_any (fun n s'=>∃ i σ' H',Inv X pins σ' H' s'/\tn i s'.heap/\(∀ b∈fp,H' b=none)/\W i n σ' H') ?_ m0 ⟨0,σ,H2,I2,st2,fun b hb=>(f2 b hb).1,w0⟩;rintro n s3 ⟨i,σ3,H3,I3,st3,fr3,w3⟩;rcases turn i n σ3 H3 w3 with⟨stop,qn⟩ | ⟨go,N,hN,step⟩
 ·refine wpAny_passesOwn hp (thn (T.done X rfl rfl rfl hc i pins s3 σ3 H3 X.xe I3 (stat fr3) st3 stop) fun r s4 ⟨hr,I4⟩=>?_)
  subst hr;exact wpAny_execs_nil ⟨σ3,H3,I4,qn⟩
 ·refine wpAny_passesOwn hp (thn (T.item X rfl rfl rfl hc i pins s3 σ3 H3 X.xe I3 (stat fr3) st3 go) fun r s4 ⟨u,hr,h4⟩=>?_)
  subst hr;refine wpAny_passesOwn hp (thn h4 fun _ s5 hq0=>?_);obtain⟨x,H5,I5,r5,y5,st5,fr5⟩:=hq0;have I5':=I5.pinned (stat fr5) (T.obj _ _ st5);refine wpAny_passesOwn hp (thn (hg _ s5 σ3 H5 x u _ I5' r5 (step x H5 y5)) fun _ s6 hq0=>?_);obtain⟨σ6,H6,I6,q6⟩:=hq0;refine wpAny_passesOwn hp (thn (hb _ s6 σ6 H6 _ I6 q6) fun f s7 q7=>?_);have again:∀ {σ7:St}{H7:Hp},Inv X (pins++ur fp s5.heap) σ7 H7 s7->N σ7 H7->∃ m,m<n/\∃ i σ' H',Inv X pins σ' H' s7/\tn i s7.heap/\(∀ b∈fp,H' b=none)/\W i m σ' H':=fun {σ7 H7} I7 n7=>by
   obtain⟨m',hm,w7⟩:=hN σ7 H7 n7;refine⟨m',hm,i+1,σ7,H7,I7.unpinned,T.keep _ _ _ st5 fun b hb o e=>(I7.pin (b,o) (mem_append_right _ (mem_append_right _ (xw hb e)))).1,fun b hb=>?_,w7⟩;obtain⟨o,e,d⟩:=T.obj _ _ st5 b hb;exact(I7.pin (b,o) (mem_append_right _ (mem_append_right _ (xw hb e)))).2.1
  cases f with
  |next=>obtain⟨σ7,H7,I7,n7⟩:=q7;exact again I7 n7
  |cont=>obtain⟨σ7,H7,I7,n7⟩:=q7;exact again I7 n7
  |brk=>obtain⟨σ7,H7,I7,q7⟩:=q7;exact⟨σ7,H7,I7.unpinned,q7⟩
  |ret v=>obtain⟨x7,σ7,H7,I7,r7,q7⟩:=q7;exact⟨x7,σ7,H7,I7.unpinned,r7,q7⟩
end
theorem for_list{K:W.Frag}{a:Addr}{xs:List V}{g:TG}{tb:TS}{D:Ends}{σ:St}{H:Hp}(Pv:Nat->St->Hp->Prop)(h0:Pv 0 σ H)(hl:∀ i σ H,i<=xs.length->Pv i σ H->SqL K H a xs)
  (hs:∀ i x σ H,xs[i]?=some x->Pv i σ H->g x σ H fun σ2 H2=>tb { D with nx:=Pv (i+1),ct:=Pv (i+1),bk:=D.nx } σ2 H2) (hd:∀ σ H,Pv xs.length σ H->D.nx σ H) :
  ∃ W:Nat->Nat->St->Hp->Prop,(∃ m,W 0 m σ H)/\∀ i m σ H,W i m σ H ->
   ((Itl K a).stop i H/\D.nx σ H)\/((Itl K a).go i H/\∃ N:St->Hp->Prop,(∀ σ' H',N σ' H'->∃ m',m'<m/\W (i+1) m' σ' H')/\∀ x H',(Itl K a).yld i H x H'->g x σ H' fun σ2 H2=>tb { D with nx:=N,ct:=N,bk:=D.nx } σ2 H2):=by
 refine⟨fun i m σ H=>m=xs.length-i/\i<=xs.length/\Pv i σ H,⟨xs.length,by simp,zero_le _,h0⟩,?_⟩;rintro i m σ H ⟨rfl,hi,p⟩;have q:=hl i σ H hi p;by_cases hlt:i<xs.length
 ·refine .inr ⟨⟨xs,xs[i],q,by simp[hlt]⟩,Pv (i+1),fun σ' H' p'=>⟨xs.length-(i+1),by omega,rfl,hlt,p'⟩,fun x H' y=>?_⟩
  obtain⟨e,y⟩:=y;subst e;exact hs i x σ _ (y xs q) p
 ·have e:i=xs.length:=by omega
  subst e;exact .inl ⟨⟨xs,q,Nat.le_refl _⟩,hd σ H p⟩
theorem for_tup{K:W.Frag}{a:Addr}{xs:List V}{g:TG}{tb:TS}{D:Ends}{σ:St}{H:Hp}(Pv:Nat->St->Hp->Prop)(h0:Pv 0 σ H)(hl:∀ i σ H,i<=xs.length->Pv i σ H->SqT K H a xs)
  (hs:∀ i x σ H,xs[i]?=some x->Pv i σ H->g x σ H fun σ2 H2=>tb { D with nx:=Pv (i+1),ct:=Pv (i+1),bk:=D.nx } σ2 H2) (hd:∀ σ H,Pv xs.length σ H->D.nx σ H) :
  ∃ W:Nat->Nat->St->Hp->Prop,(∃ m,W 0 m σ H)/\∀ i m σ H,W i m σ H ->
   ((Itt K a).stop i H/\D.nx σ H)\/((Itt K a).go i H/\∃ N:St->Hp->Prop,(∀ σ' H',N σ' H'->∃ m',m'<m/\W (i+1) m' σ' H')/\∀ x H',(Itt K a).yld i H x H'->g x σ H' fun σ2 H2=>tb { D with nx:=N,ct:=N,bk:=D.nx } σ2 H2):=by
 refine⟨fun i m σ H=>m=xs.length-i/\i<=xs.length/\Pv i σ H,⟨xs.length,by simp,zero_le _,h0⟩,?_⟩;rintro i m σ H ⟨rfl,hi,p⟩;have q:=hl i σ H hi p;by_cases hlt:i<xs.length
 ·refine .inr ⟨⟨xs,xs[i],q,by simp[hlt]⟩,Pv (i+1),fun σ' H' p'=>⟨xs.length-(i+1),by omega,rfl,hlt,p'⟩,fun x H' y=>?_⟩
  obtain⟨e,y⟩:=y;subst e;exact hs i x σ _ (y xs q) p
 ·have e:i=xs.length:=by omega
  subst e;exact .inl ⟨⟨xs,q,Nat.le_refl _⟩,hd σ H p⟩
theorem for_range{lo:Int}{n:Nat}{g:TG}{tb:TS}{D:Ends}{σ:St}{H:Hp}(Pv:Nat->St->Hp->Prop)(h0:Pv 0 σ H)
  (hs:∀ i σ H,i<n->Pv i σ H->g (.int (lo+i)) σ H fun σ2 H2=>tb { D with nx:=Pv (i+1),ct:=Pv (i+1),bk:=D.nx } σ2 H2) (hd:∀ σ H,Pv n σ H->D.nx σ H) :
  ∃ W:Nat->Nat->St->Hp->Prop,(∃ m,W 0 m σ H)/\∀ i m σ H,W i m σ H ->
   ((Itr lo n).stop i H/\D.nx σ H)\/((Itr lo n).go i H/\∃ N:St->Hp->Prop,(∀ σ' H',N σ' H'->∃ m',m'<m/\W (i+1) m' σ' H')/\∀ x H',(Itr lo n).yld i H x H'->g x σ H' fun σ2 H2=>tb { D with nx:=N,ct:=N,bk:=D.nx } σ2 H2):=by
 refine⟨fun i m σ H=>m=n-i/\i<=n/\Pv i σ H,⟨n,by simp,zero_le _,h0⟩,?_⟩;rintro i m σ H ⟨rfl,hi,p⟩;by_cases hlt:i<n
 ·refine .inr ⟨hlt,Pv (i+1),fun σ' H' p'=>⟨n-(i+1),by omega,rfl,hlt,p'⟩,fun x H' y=>?_⟩
  obtain⟨e,y⟩:=y;subst e y;exact hs i σ _ hlt p
 ·have e:i=n:=by omega
  subst e;exact .inl ⟨Nat.le_refl _,hd σ H p⟩
abbrev R2:=V->V->Hp->VK->Prop
def OpR(X:Cx)(f:Value->Value->Sem Value)(r:R2):Prop :=
 ∀ (pins:List (Addr×Obj)) (s:Shared) (σ:St) (H:Hp) (x y:V) (v u:Value) (Q:VK),Inv X pins σ H s->RelV x v->RelV y u->r x y H Q ->
  wpAny (model X.prog X.w) X.A (f v u) (EP X pins σ Q) X.xe s
def UnR(X:Cx)(f:Value->Sem Value)(r:V->Hp->VK->Prop):Prop :=
 ∀ (pins:List (Addr×Obj)) (s:Shared) (σ:St) (H:Hp) (x:V) (v:Value) (Q:VK),Inv X pins σ H s->RelV x v->r x H Q ->
  wpAny (model X.prog X.w) X.A (f v) (EP X pins σ Q) X.xe s
def yS(X:Cx)(f:Value)(r:List V->Hp->VK->Prop):Prop :=
 ∀ (pins:List (Addr×Obj)) (s:Shared) (σ:St) (H:Hp) (xs:List V) (us:List Value) (Q:VK),Inv X pins σ H s->Vals xs us->r xs H Q ->
  wpAny (model X.prog X.w) X.A (call f us) (EP X pins σ Q) X.xe s
def tOp(r:R2)(ta tb:TE):TE:=fun σ H Q=>ta σ H fun x H1=>tb σ H1 fun y H2=>r x y H2 Q
def tUn(r:V->Hp->VK->Prop)(ta:TE):TE:=fun σ H Q=>ta σ H fun x H1=>r x H1 Q
def rI(C:Int->Int->Prop)(g:Int->Int->V):R2:=fun x y H Q=>∃ i j,x=.int i/\y=.int j/\C i j/\Q (g i j) H
def rI0(g:Int->Int->V):R2:=fun x y H Q=>∃ i j,x=.int i/\y=.int j/\Q (g i j) H
def rU(g:Int->V):V->Hp->VK->Prop:=fun x H Q=>∃ i,x=.int i/\Q (g i) H
section
variable {X:Cx}{a b c:Expr}{ta tb tc:TE}{pos:Pos}
theorem binT(ha:PE X a ta)(hb:PE X b tb){pins:List (Addr×Obj)}{s:Shared}{σ:St}{H:Hp}{R:V->V->Hp->Prop}(I:Inv X pins σ H s)
  (h:ta σ H fun x H1=>tb σ H1 fun y H2=>R x y H2){Q:Value->Shared->Prop}{f:Value->Value->Sem Value}
  (hf:∀ v u s2 x y H2,Inv X pins σ H2 s2->RelV x v->RelV y u->R x y H2->wpAny (model X.prog X.w) X.A (f v u) Q X.xe s2) :
  wpAny (model X.prog X.w) X.A (eval a X.env) (fun v s₁=>wpAny (model X.prog X.w) X.A (eval b X.env) (fun u s₂=>wpAny (model X.prog X.w) X.A (f v u) Q X.xe s₂) X.xe s₁) X.xe s:=by
 refine thn (ha pins s σ H _ I h) fun v s1 hq0=>?_;obtain⟨x,H1,I1,r1,q1⟩:=hq0;refine thn (hb pins s1 σ H1 _ I1 q1) fun u s2 hq0=>?_;obtain⟨y,H2,I2,r2,q2⟩:=hq0;exact hf v u s2 x y H2 I2 r1 r2 q2
theorem zo{op:Operator}{r:R2}(ho:OpR X (binaryOp op) r)(ha:Bx (PE X a ta))(hb:Bx (PE X b tb)):Bx (PE X (.BinOp a op b pos) (tOp r ta tb)):=by
 have ha:=ha.of;have hb:=hb.of;refine⟨?_⟩;intro pins s σ H Q I h;exact wpAny_BinOp (binT ha hb I h fun v u s2 x y H2 I2 rx ry q=>ho pins s2 σ H2 x y v u Q I2 rx ry q)
theorem zaA{op:UnaryOp}{r:V->Hp->VK->Prop}(ho:UnR X (unaryOp op) r)(ha:PE X a ta):PE X (.UnaryOp op a pos) (tUn r ta):=by
 intro pins s σ H Q I h;exact UnaryOp_ (thn (ha pins s σ H _ I h) fun v s1 ⟨x,H1,I1,r1,q1⟩=>ho pins s1 σ H1 x v Q I1 r1 q1)
theorem opI{f:Value->Value->Sem Value}{C:Int->Int->Prop}{g:Int->Int->Int}
  (rule:∀ (i j:Int) (t u:Tok) (s:Shared) (Q:Value->Shared->Prop) (E:Value->Shared->Prop),C i j->Q (.int (g i j) s.toks) { s with toks:=s.toks+1 }->wpAny (model X.prog X.w) X.A (f (.int i t) (.int j u)) Q E s) :
  OpR X f (rI C fun i j=>.int (g i j)):=by
 intro pins s σ H x y v u Q I rx ry h;obtain⟨i,j,rfl,rfl,hc,q⟩:=h;obtain⟨t,rfl⟩:=rx;obtain⟨t',rfl⟩:=ry;exact rule i j t t' s _ _ hc ⟨.int (g i j),H,I.tok _,⟨_,rfl⟩,q⟩
theorem zc4{f:Value->Value->Sem Value}{g:Int->Int->Int}
  (rule:∀ (i j:Int) (t u:Tok) (s:Shared) (Q:Value->Shared->Prop) (E:Value->Shared->Prop),Q (.int (g i j) s.toks) { s with toks:=s.toks+1 }->wpAny (model X.prog X.w) X.A (f (.int i t) (.int j u)) Q E s) :
  OpR X f (rI0 fun i j=>.int (g i j)):=by
 intro pins s σ H x y v u Q I rx ry h;obtain⟨i,j,rfl,rfl,q⟩:=h;obtain⟨t,rfl⟩:=rx;obtain⟨t',rfl⟩:=ry;exact rule i j t t' s _ _ ⟨.int (g i j),H,I.tok _,⟨_,rfl⟩,q⟩
theorem zbv{f:Value->Value->Sem Value}{g:Int->Int->Bool}
  (rule:∀ (i j:Int) (t u:Tok) (s:Shared) (Q:Value->Shared->Prop) (E:Value->Shared->Prop),Q (.bool (g i j)) s->wpAny (model X.prog X.w) X.A (f (.int i t) (.int j u)) Q E s) :
  OpR X f (rI0 fun i j=>.bl (g i j)):=by
 intro pins s σ H x y v u Q I rx ry h;obtain⟨i,j,rfl,rfl,q⟩:=h;obtain⟨t,rfl⟩:=rx;obtain⟨t',rfl⟩:=ry;exact rule i j t t' s _ _ ⟨.bl (g i j),H,I,rfl,q⟩
def zdy(i j:Int):Prop:=0<=j/\j<=1000000/\i.natAbs<2 ^ 64
def CMul(i j:Int):Prop:=(-(2 ^ 64)<i/\i<2 ^ 64)\/(-(2 ^ 64)<j/\j<2 ^ 64)
theorem CMul.ok{i j:Int}(h:CMul i j):IntMulOk i j:=by
 rcases h with⟨h1,h2⟩ | ⟨h1,h2⟩
 ·exact .of_left (intBits_le_64 h1 h2)
 ·exact .of_right (intBits_le_64 h1 h2)
theorem yw:OpR X (binaryOp .Add) (rI0 fun i j=>.int (i+j)):=zc4 fun _ _ _ _ _ _ _ q=>add_int q
theorem vA:OpR X (binaryOp .Sub) (rI0 fun i j=>.int (i-j)):=zc4 fun _ _ _ _ _ _ _ q=>sub_int q
theorem uv:OpR X (binaryOp .Mult) (rI CMul fun i j=>.int (i*j)):=opI fun _ _ _ _ _ _ _ hc q=>mul_int q hc.ok
theorem wm:OpR X (binaryOp .Mod) (rI (fun _ j=>0<j) fun i j=>.int (i%j)):=opI fun i j _ _ _ _ _ hc q=>by
 have h1:(0:Int)<j:=hc;exact mod_int' (by omega) (by rw[Int.fmod_eq_emod_of_nonneg i (by omega)];exact q)
theorem ZP:OpR X (binaryOp .Pow) (rI zdy fun i j=>.int (i ^ j.toNat)):=opI fun _ _ _ _ _ _ _ hc q=>pow_int_small hc.1 hc.2.1 hc.2.2 q
theorem unI{f:Value->Sem Value}{g:Int->Int}
  (rule:∀ (i:Int) (t:Tok) (s:Shared) (Q:Value->Shared->Prop) (E:Value->Shared->Prop),Q (.int (g i) s.toks) { s with toks:=s.toks+1 }->wpAny (model X.prog X.w) X.A (f (.int i t)) Q E s) :
  UnR X f (rU fun i=>.int (g i)):=by
 intro pins s σ H x v Q I rx h;obtain⟨i,rfl,q⟩:=h;obtain⟨t,rfl⟩:=rx;exact rule i t s _ _ ⟨.int (g i),H,I.tok _,⟨_,rfl⟩,q⟩
theorem xz:UnR X (unaryOp .USub) (rU fun i=>.int (-i)):=unI fun _ _ _ _ _ q=>neg_int q
end
def zcX:V->V->Bool
 |.non,.non=>true | .non,.int _=>true | .int _,.non=>true | .non,.bl _=>true | .bl _,.non=>true | .non,.str _=>true | .str _,.non=>true
 |.int _,.int _=>true | .bl _,.bl _=>true | .str _,.str _=>true | .byt _,.byt _=>true
 |.int _,.str _=>true | .str _,.int _=>true | .bl _,.str _=>true | .str _,.bl _=>true
 |_,_=>false
def rEq:R2:=fun x y H Q=>zcX x y=true/\Q (.bl (decide (x=y))) H
def rNe:R2:=fun x y H Q=>zcX x y=true/\Q (.bl (!decide (x=y))) H
theorem XO{i j:Int}:decide (V.int i=V.int j)=(i == j):=by
 rw[Bool.eq_iff_iff];simp
theorem VM{i j:Bool}:decide (V.bl i=V.bl j)=(i == j):=by
 rw[Bool.eq_iff_iff];simp
theorem XN{i j:Str}:decide (V.str i=V.str j)=(i == j):=by
 rw[Bool.eq_iff_iff];simp
theorem XQ{i j:Array UInt8}:decide (V.byt i=V.byt j)=(i.toList == j.toList):=by
 rw[Bool.eq_iff_iff];cases i;cases j;simp
section
variable {X:Cx}{a b c:Expr}{ta tb tc:TE}{pos:Pos}
theorem zS{pins:List (Addr×Obj)}{σ:St}{H:Hp}{s:Shared}{Q:VK}{k k':Bool}(I:Inv X pins σ H s)(q:Q (.bl k) H)(e:k=k'):EP X pins σ Q (.bool k') s:=by
 subst e;exact⟨.bl k,H,I,rfl,q⟩
theorem yu:OpR X (compareOp .Eq) rEq:=by
 intro pins s σ H x y v u Q I rx ry h;obtain⟨hs,q⟩:=h;cases x with
 |non =>
  cases rx;cases y with
  |non=>cases ry;exact PySem.EqNone.eq_none_none (zS I q (by simp))
  |bl j=>cases ry;exact PySem.EqNone.eq_none_bool (zS I q (by simp))
  |int j=>obtain⟨t',rfl⟩:=ry;exact PySem.EqNone.eq_none_int (zS I q (by simp))
  |str j=>obtain⟨t',rfl⟩:=ry;exact PySem.EqNone.eq_none_str (zS I q (by simp))
  |_=>exact absurd (show false=true from hs) Bool.false_ne_true
 |bl i =>
  cases rx;cases y with
  |non=>cases ry;exact PySem.EqNone.eq_bool_none (zS I q (by simp))
  |bl j=>cases ry;exact eq_bool (zS I q VM)
  |str j=>obtain⟨t',rfl⟩:=ry;exact PySem.EqMixed.eq_bool_str (zS I q (by simp))
  |_=>exact absurd (show false=true from hs) Bool.false_ne_true
 |int i =>
  obtain⟨t,rfl⟩:=rx;cases y with
  |non=>cases ry;exact PySem.EqNone.eq_int_none (zS I q (by simp))
  |int j=>obtain⟨t',rfl⟩:=ry;exact eq_int (zS I q XO)
  |str j=>obtain⟨t',rfl⟩:=ry;exact PySem.EqMixed.eq_int_str (zS I q (by simp))
  |_=>exact absurd (show false=true from hs) Bool.false_ne_true
 |str i =>
  obtain⟨t,rfl⟩:=rx;cases y with
  |non=>cases ry;exact PySem.EqNone.eq_str_none (zS I q (by simp))
  |bl j=>cases ry;exact PySem.EqMixed.eq_str_bool (zS I q (by simp))
  |int j=>obtain⟨t',rfl⟩:=ry;exact PySem.EqMixed.eq_str_int (zS I q (by simp))
  |str j=>obtain⟨t',rfl⟩:=ry;exact eq_str (zS I q XN)
  |_=>exact absurd (show false=true from hs) Bool.false_ne_true
 |byt i =>
  obtain⟨t,rfl⟩:=rx;cases y with
  |byt j=>obtain⟨t',rfl⟩:=ry;exact PySem.W.eq_bytes (zS I q XQ)
  |_=>exact absurd (show false=true from hs) Bool.false_ne_true
 |_=>cases y<;>exact absurd (show false=true from hs) Bool.false_ne_true
theorem wO:OpR X (compareOp .NotEq) rNe:=by
 intro pins s σ H x y v u Q I rx ry h;obtain⟨hs,q⟩:=h;cases x with
 |non =>
  cases rx;cases y with
  |non=>cases ry;exact PySem.EqNone.ne_none_none (zS I q (by simp))
  |bl j=>cases ry;exact PySem.EqNone.ne_none_bool (zS I q (by simp))
  |int j=>obtain⟨t',rfl⟩:=ry;exact PySem.EqNone.ne_none_int (zS I q (by simp))
  |str j=>obtain⟨t',rfl⟩:=ry;exact PySem.EqNone.ne_none_str (zS I q (by simp))
  |_=>exact absurd (show false=true from hs) Bool.false_ne_true
 |bl i =>
  cases rx;cases y with
  |non=>cases ry;exact PySem.EqNone.ne_bool_none (zS I q (by simp))
  |bl j=>cases ry;exact ne_bool (zS I q (congrArg not VM))
  |str j=>obtain⟨t',rfl⟩:=ry;exact PySem.EqMixed.ne_bool_str (zS I q (by simp))
  |_=>exact absurd (show false=true from hs) Bool.false_ne_true
 |int i =>
  obtain⟨t,rfl⟩:=rx;cases y with
  |non=>cases ry;exact PySem.EqNone.ne_int_none (zS I q (by simp))
  |int j=>obtain⟨t',rfl⟩:=ry;exact ne_int (zS I q (congrArg not XO))
  |str j=>obtain⟨t',rfl⟩:=ry;exact PySem.EqMixed.ne_int_str (zS I q (by simp))
  |_=>exact absurd (show false=true from hs) Bool.false_ne_true
 |str i =>
  obtain⟨t,rfl⟩:=rx;cases y with
  |non=>cases ry;exact PySem.EqNone.ne_str_none (zS I q (by simp))
  |bl j=>cases ry;exact PySem.EqMixed.ne_str_bool (zS I q (by simp))
  |int j=>obtain⟨t',rfl⟩:=ry;exact PySem.EqMixed.ne_str_int (zS I q (by simp))
  |str j=>obtain⟨t',rfl⟩:=ry;exact ne_str (zS I q (congrArg not XN))
  |_=>exact absurd (show false=true from hs) Bool.false_ne_true
 |byt i =>
  obtain⟨t,rfl⟩:=rx;cases y with
  |byt j=>obtain⟨t',rfl⟩:=ry;exact PySem.W.ne_bytes (zS I q (congrArg not XQ))
  |_=>exact absurd (show false=true from hs) Bool.false_ne_true
 |_=>cases y<;>exact absurd (show false=true from hs) Bool.false_ne_true
theorem Zi:OpR X (compareOp .Lt) (rI0 fun i j=>.bl (decide (i<j))):=zbv fun _ _ _ _ _ _ _ q=>lt_int q
theorem zb2:OpR X (compareOp .LtE) (rI0 fun i j=>.bl (decide (i<=j))):=zbv fun _ _ _ _ _ _ _ q=>le_int q
theorem Zj:OpR X (compareOp .Gt) (rI0 fun i j=>.bl (decide (j<i))):=zbv fun _ _ _ _ _ _ _ q=>gt_int q
theorem zb3:OpR X (compareOp .GtE) (rI0 fun i j=>.bl (decide (j<=i))):=zbv fun _ _ _ _ _ _ _ q=>ge_int q
theorem zaC:OpR X (compareOp .Is) (fun x y H Q=>y=.non/\Q (.bl (decide (x=.non))) H):=by
 intro pins s σ H x y v u Q I rx ry h;obtain⟨rfl,q⟩:=h;cases ry;refine is_none_gen (zS I q ?_);cases x<;>first
  |(cases rx;rfl)
  |(obtain⟨t,rfl⟩:=rx;rfl)
theorem wa:OpR X (compareOp .IsNot) (fun x y H Q=>y=.non/\Q (.bl (!decide (x=.non))) H):=by
 intro pins s σ H x y v u Q I rx ry h;obtain⟨rfl,q⟩:=h;cases ry;refine isnot_none_gen (zS I q ?_);cases x<;>first
  |(cases rx;rfl)
  |(obtain⟨t,rfl⟩:=rx;rfl)
theorem zu(b:Expr){op:CmpOp}(h:op≠.In:=by decide)(h2:op≠.NotIn:=by decide):behindInMarks op b=false:=by
 have e1:(op == CmpOp.In)=false:=by cases op<;>first | rfl | exact absurd rfl h
 have e2:(op == CmpOp.NotIn)=false:=by cases op<;>first | rfl | exact absurd rfl h2
 cases b<;>simp[behindInMarks,e1,e2]
theorem vW{op:CmpOp}{r:R2}(ho:OpR X (compareOp op) r)(ha:PE X a ta)(hb:PE X b tb)(hm:behindInMarks op b=false):PE X (.Compare a [op] [b] pos) (tOp r ta tb):=by
 intro pins s σ H Q I h;exact wpAny_Compare1 (binT ha hb I h fun v u s2 x y H2 I2 rx ry q=>ho pins s2 σ H2 x y v u Q I2 rx ry q) hm
def VU(t:TE):TT:=fun σ H Q=>t σ H fun x H'=>∃ k,x=.bl k/\Q k H'
theorem xX{op:CmpOp}{r:R2}(ho:OpR X (compareOp op) r)(ha:PE X a ta)(hb:PE X b tb)(hm:behindInMarks op b=false):PT X (.Compare a [op] [b] pos) (VU (tOp r ta tb)):=by
 intro pins s σ H Q I h;refine wpAny_isTrue_Compare1 (thn (ha pins s σ H _ I h) fun v s1 ⟨x,H1,I1,r1,q1⟩=>thn (hb pins s1 σ H1 _ I1 q1) fun u s2 ⟨y,H2,I2,r2,q2⟩ =>
  thn (ho pins s2 σ H2 x y v u _ I2 r1 r2 q2) fun c s3 ⟨z,H3,I3,r3,k,e,q3⟩=>?_) hm
 subst e;cases r3;exact wpAny_truthy_bool ⟨H3,I3,q3⟩
theorem Xq:(sizeLine:Nat)<2 ^ 63:=by rw[sizeLine_eq];decide
theorem uZ{x:V}{us:List Value}(r:Vals [x] us):∃ u,us=[u]/\RelV x u:=by
 cases r with
 |cons r1 r2=>cases r2;exact⟨_,rfl,r1⟩
theorem UV{x y:V}{us:List Value}(r:Vals [x,y] us):∃ u w',us=[u,w']/\RelV x u/\RelV y w':=by
 cases r with
 |cons r1 r2 =>
  cases r2 with
  |cons r3 r4=>cases r4;exact⟨_,_,rfl,r1,r3⟩
theorem XW(hc:X.calm=true):yS X (.builtin "max") (fun xs H Q=>∃ i j,xs=[.int i,.int j]/\Q (.int (if j>i then j else i)) H):=by
 intro pins s σ H xs us Q I r h;obtain⟨i,j,rfl,q⟩:=h;obtain⟨u,w',rfl,⟨t,rfl⟩,⟨t',rfl⟩⟩:=UV r;refine max_two_ints (I.ok.hd hc) fun h' tk k=>⟨_,H,I.kept k,?_,q⟩;by_cases hj:j>i
 ·rw[if_pos hj,if_pos hj];exact⟨_,rfl⟩
 ·rw[if_neg hj,if_neg hj];exact⟨_,rfl⟩
theorem XV(hc:X.calm=true):yS X (.builtin "min") (fun xs H Q=>∃ i j,xs=[.int i,.int j]/\Q (.int (if j<i then j else i)) H):=by
 intro pins s σ H xs us Q I r h;obtain⟨i,j,rfl,q⟩:=h;obtain⟨u,w',rfl,⟨t,rfl⟩,⟨t',rfl⟩⟩:=UV r;refine min_two_ints (I.ok.hd hc) fun h' tk k=>⟨_,H,I.kept k,?_,q⟩;by_cases hj:j<i
 ·rw[if_pos hj,if_pos hj];exact⟨_,rfl⟩
 ·rw[if_neg hj,if_neg hj];exact⟨_,rfl⟩
theorem XX:yS X (.type "int") (fun xs H Q=>(∃ i,xs=[.int i]/\Q (.int i) H)\/∃ k,xs=[.bl k]/\Q (.int (if k then 1 else 0)) H):=by
 intro pins s σ H xs us Q I r h;rcases h with⟨i,rfl,q⟩ | ⟨k,rfl,q⟩
 ·obtain⟨u,rfl,t,rfl⟩:=uZ r
  exact call_int_int ⟨.int i,H,I,⟨_,rfl⟩,q⟩
 ·obtain⟨u,rfl,r1⟩:=uZ r
  cases r1;exact call_int_bool ⟨.int (if k then 1 else 0),H,I.tok _,⟨_,rfl⟩,q⟩
theorem uM:yS X (.type "str") (fun xs H Q=>∃ i,xs=[.int i]/\i.natAbs.log2<1920/\Q (.str (toString i)) H):=by
 intro pins s σ H xs us Q I r h;obtain⟨i,rfl,hz,q⟩:=h;obtain⟨u,rfl,t,rfl⟩:=uZ r;exact PySem.P.str_of_int hz ⟨.str _,H,I.tok _,⟨_,rfl⟩,q⟩
end
structure ObjM (h:Heap) (x dx C:Addr) (mA:Str->Option Value):Prop where
 obj:h.get? x=some (PySem.W.instObj C dx)
 ns:h.Ns1 dx mA
 ne:dx≠x
theorem Xo{h:Heap}{dx:Addr}{mA:Str->Option Value}(n:h.Ns1 dx mA):∃ od,h.get? dx=some od/\∀ name,PySem.W.lookIn name od=some (mA name):=by
 obtain⟨o,es,ep,ho,hd,hk,_,hm⟩:=n;refine⟨o,ho,fun name=>?_⟩;have e:=hm name;unfold nsFind findBy at e;rw[<- Array.find?_toList] at e;unfold PySem.W.lookIn;rw[hd];dsimp only
 split
 ·rename_i y q
  rw[q] at e;exact congrArg some e
 ·rename_i q
  rw[q] at e;have a:es.toList.any (·.refKey)=false:=by
   rw[List.any_eq_false];intro y hy;obtain⟨z,t,hkey⟩:=hk y (Array.mem_toList_iff.mp hy);simp[DictEntry.refKey,hkey]
  have a':¬ es.toList.any (·.refKey)=true:=by rw[a];exact Bool.false_ne_true
  rw[if_neg a'];exact congrArg some e
theorem ObjM.look{h:Heap}{x dx C:Addr}{mA:Str->Option Value}(I:ObjM h x dx C mA):∃ od,PySem.W.InstAt h x (PySem.W.instObj C dx) C (some od)/\∀ name,PySem.W.lookIn name od=some (mA name) :=
 let ⟨od,ho,hl⟩:=Xo I.ns
 ⟨od,⟨I.obj,rfl,rfl,ho⟩,hl⟩
section
variable {prog:Program}{w:World}{A:Around}{E:Value->Shared->Prop}{s:Shared}{K:W.Frag}{x dx C f:Addr}{mA:Str->Option Value}{name:Str}{v:Value}
theorem UF{expr:Bool}{Q:Value->Shared->Prop}(X:K.In s.heap)(I:ObjM s.heap x dx C mA)(hg:PySem.W.plainGet K C name=true)(hh:PySem.W.hasDictIn K C=true)
  (ha:PySem.W.findIn K (.ref C) name=some none) (hv:mA name=some v) (hv':PySem.W.handedIn v=true) (h:Q v { s with toks:=s.toks+1 }) :
  wpAny (model prog w) A (getAttr (.ref x) name expr) Q E s:=by
 obtain⟨od,J,hl⟩:=I.look;exact PySem.W.get_value X J (PySem.W.plainGet_of hg).1 (PySem.W.findObj_own hh ha rfl (by rw[hl,hv])) hv' h
theorem WO{pl:Sem Bool}{Q:Value×List Value->Shared->Prop}(X:K.In s.heap)(I:ObjM s.heap x dx C mA)(hg:PySem.W.plainGet K C name=true)
  (hf:PySem.W.findIn K (.ref C) name=some (some (.ref f))) (ht:PySem.W.isFn K (.ref f)=true) (hv:mA name=none) (h:Q (.ref f,[.ref x]) s) :
  wpAny (model prog w) A (getMethod (.ref x) name pl) Q E s:=by
 obtain⟨od,J,hl⟩:=I.look;exact PySem.W.method_fn X J (PySem.W.plainGet_of hg).1 (PySem.W.plainGet_of hg).2 hf (beq_iff_eq.mp ht) (by show(PySem.W.lookIn name od).map (·.isSome)=some false;rw[hl,hv];rfl) h
theorem V4{ns:List Str}{Q:Unit->Shared->Prop}(X:K.In s.heap)(I:ObjM s.heap x dx C mA)
  (hs:PySem.W.findIn K (.ref C) "__setattr__" = some (some (.builtin "object.__setattr__"))) (hp:PySem.W.plainOver K C=true) (ht:PySem.W.takerIn K C name=some none) (hh:PySem.W.hasDictIn K C=true)
  (hw:PySem.Within mA ns) (hsz:ns.length<=sizeLine)
  (h:∀ h',ObjM h' x dx C (fun y=>if y=name then some v else mA y)->Heap.SameBut dx s.heap h'->Q () { s with heap:=h',toks:=s.toks+2 }) :
  wpAny (model prog w) A (setAttr (.ref x) name v) Q E s:=by
 obtain⟨od,J,hl⟩:=I.look;refine PySem.W.set_plain X J hs (PySem.W.osa_open (s:={ s with toks:=s.toks+1 }) (r:=none) X J hp ht fun b=>?_);obtain⟨cd,hc,hd'⟩:=PySem.W.any_some hh;have hx:s.heap.get? x=some ⟨.ref C,some dx,.plain,#[]⟩:=I.obj;refine wpAny_bind (wpAny_pure (wpAny_bind (wpAny_bind (wpAny_loadPart hx (wpAny_bind (PySem.W.Looks.here (s:={ s with toks:=s.toks+1 }) (PySem.W.looks_clsIn X hc) ?_))))));rw[hd'];refine wpAny_pure (a:=some dx) (wpAny_bind (wpAny_pure (wpAny_bind ?_)));refine wpAny_nsSet1 (s:={ s with toks:=s.toks+1 }) I.ns fun h' hn2 hs2=>?_;obtain⟨oD,esD,epD,hoD,hdD,hcD⟩:=hn2.count (PySem.Within.cons name v hw);refine wpAny_bind (wpAny_lookBehind hoD (by rw[hdD];exact pastItsLine_dict (le_trans hcD (by rw[length_cons];omega))) ?_);exact wpAny_pure (h _ ⟨(hs2.2 _ (Ne.symm I.ne)).trans I.obj,hn2,I.ne⟩ hs2)
theorem WA{R:Result->Shared->Prop}{vs:List Value}{kw:List (Str×Value)}(X:K.In s.heap)(hm:PySem.W.makesIn K C=true)
  (hi:PySem.W.findIn K (.ref C) "__init__" = some (some (.ref f))) (hf:PySem.W.typeIn K (.ref f)=some (.type "function"))
  (h:codeAny (model prog w) (A.under (.builtin "type.__call__" ⟨.ref C::vs,kw⟩)) (.call (.ref f) ⟨.ref (s.heap.objs.size+1)::vs,kw⟩) (PySem.W.InitBack (s.heap.objs.size+1) R)
   { s with heap:=(s.heap.push PySem.W.emptyDict).push (PySem.W.instObj C s.heap.objs.size) }) :
  codeAny (model prog w) A (.call (.ref C) ⟨vs,kw⟩) R s:=by
 obtain⟨hh,g,d,t,os⟩:=s;exact PySem.W.make_core (PySem.W.makes_of X hm) (PySem.W.looks_findIn X hi) (fun self=>PySem.W.bind_fn X self hf) (.inl rfl) h
end
def uV(f:Str)(v:V):List (Str×V)->List (Str×V)
 |[]=>[(f,v)]
 |(g,x)::r=>if g=f then(g,v)::r else(g,x)::uV f v r
theorem wU(f g:Str)(v:V):∀ fs:List (Str×V),(uV f v fs).lookup g=if g=f then some v else fs.lookup g
 |[]=>by
  show List.lookup g [(f,v)]=_;by_cases h:g=f
  ·have hb:(g == f)=true:=beq_iff_eq.mpr h
   simp only[List.lookup,hb,if_pos h]
  ·have hb:(g == f)=false:=beq_eq_false_iff_ne.mpr h
   simp only[List.lookup,hb,if_neg h]
 |(k,x)::r=>by
  have ih:=wU f g v r;rw[show uV f v ((k,x)::r)=(if k=f then(k,v)::r else(k,x)::uV f v r) from rfl];by_cases hk:k=f
  ·rw[if_pos hk]
   by_cases h:g=k
   ·have hb:(g == k)=true:=beq_iff_eq.mpr h
    simp only[List.lookup,hb,if_pos (h.trans hk)]
   ·have hb:(g == k)=false:=beq_eq_false_iff_ne.mpr h
    simp only[List.lookup,hb,if_neg (fun e:g=f=>h (e.trans hk.symm))]
  ·rw[if_neg hk]
   by_cases h:g=k
   ·have hb:(g == k)=true:=beq_iff_eq.mpr h
    simp only[List.lookup,hb,if_neg (fun e:g=f=>hk (h.symm.trans e))]
   ·have hb:(g == k)=false:=beq_eq_false_iff_ne.mpr h
    simp only[List.lookup,hb];exact ih
theorem wX(f:Str)(v:V):∀ fs:List (Str×V),f∈(uV f v fs).map (·.1)/\∀ g,g∈fs.map (·.1)->g∈(uV f v fs).map (·.1)
 |[]=>⟨by simp[uV],fun g h=>by simp at h⟩
 |(k,x)::r=>by
  obtain⟨i1,i2⟩:=wX f v r;rw[show uV f v ((k,x)::r)=(if k=f then(k,v)::r else(k,x)::uV f v r) from rfl];by_cases hk:k=f
  ·rw[if_pos hk]
   subst hk;exact⟨by simp,fun g h=>by simpa using h⟩
  ·rw[if_neg hk]
   refine⟨?_,fun g h=>?_⟩
   ·rw[map_cons]
    exact mem_cons_of_mem _ i1
   ·rw[map_cons] at h ⊢
    rcases mem_cons.mp h with e | e
    ·exact mem_cons.mpr (.inl e)
    ·exact mem_cons_of_mem _ (i2 g e)
theorem wV(f:Str)(v:V):∀ fs:List (Str×V),(uV f v fs).length<=fs.length+1
 |[]=>by simp[uV]
 |(k,x)::r=>by
  have ih:=wV f v r;rw[show uV f v ((k,x)::r)=(if k=f then(k,v)::r else(k,x)::uV f v r) from rfl];by_cases hk:k=f
  ·rw[if_pos hk,length_cons,length_cons];omega
  ·rw[if_neg hk,length_cons,length_cons];omega
theorem RelO.some_of{v:V}{o:Option Value}(r:RelO (some v) o):∃ u,o=some u/\RelV v u:=by
 cases o with
 |none=>exact(show False from r).elim
 |some u=>exact⟨u,rfl,r⟩
theorem RelO.none_of{o:Option Value}(r:RelO none o):o=none:=by
 cases o with
 |none=>rfl
 |some u=>exact(show False from r).elim
theorem XF{v:V}{u:Value}(r:RelV v u):PySem.W.handedIn u=true:=by
 cases v with
 |non=>cases (show u=Value.none from r);rfl
 |bl b=>cases (show u=Value.bool b from r);rfl
 |int i=>obtain⟨t,e⟩:=(show ∃ t,u=Value.int i t from r);cases e;rfl
 |str x=>obtain⟨t,e⟩:=(show ∃ t,u=Value.str x t from r);cases e;rfl
 |byt b=>obtain⟨t,e⟩:=(show ∃ t,u=Value.bytes b t from r);cases e;rfl
 |flt b=>obtain⟨t,e⟩:=(show ∃ t,u=Value.float b t from r);cases e;rfl
 |ref a=>cases (show u=Value.ref a from r);rfl
 |ty n=>cases (show u=Value.type n from r);rfl
section
variable {P:Program}{w:World}{H H':Hp}{h h':Heap}{a C dx:Addr}{fs fs':List (Str×V)}
theorem vZ(hok:HOk P w H h)(e:H a=some (.ins C dx fs)):∃ mA,ObjM h a dx C mA/\(∀ f,RelO (fs.lookup f) (mA f))/\PySem.Within mA (fs.map (·.1))/\fs.length<=1000/\H dx=some (.own a):=by
 obtain⟨d,z,ne,ob,mA,n,r,q⟩:=(show ObjOk P w H h a (.ins C dx fs) from hok a _ e);exact⟨mA,⟨ob,n,ne⟩,r,q,z,d⟩
end
structure Cls (K:W.Frag) (C:Addr):Prop where
 pg:PySem.W.plainGet K C Str.empty=true
 hd:PySem.W.hasDictIn K C=true
 po:PySem.W.plainOver K C=true
 sa:PySem.W.findIn K (.ref C) "__setattr__" = some (some (.builtin "object.__setattr__"))
theorem Cls.get{K:W.Frag}{C:Addr}(c:Cls K C)(f:Str):PySem.W.plainGet K C f=true:=c.pg
def NoAttr(K:W.Frag)(C:Addr)(f:Str):Prop:=PySem.W.findIn K (.ref C) f=some none
theorem NoAttr.taker{K:W.Frag}{C:Addr}{f:Str}(n:NoAttr K C f):PySem.W.takerIn K C f=some none:=by
 unfold PySem.W.takerIn;rw[show PySem.W.findIn K (.ref C) f=some none from n];rfl
structure Meth (K:W.Frag) (C:Addr) (m:Str) (f:Addr):Prop where
 at_:PySem.W.findIn K (.ref C) m=some (some (.ref f))
 fn:PySem.W.isFn K (.ref f)=true
 kp:PySem.W.keepIn K (.ref f)=true
section
variable {X:Cx}{pins:List (Addr×Obj)}{σ:St}{H:Hp}{s:Shared}{a C dx:Addr}{fs:List (Str×V)}{f:Str}{v:V}{A:Around}{E:Value->Shared->Prop}
theorem Ym{b:Bool}{Q:Value->Shared->Prop}(I:Inv X pins σ H s)(e:H a=some (.ins C dx fs))(c:Cls X.K C)(n:NoAttr X.K C f)(l:fs.lookup f=some v)
  (h:∀ u s',Inv X pins σ H s'->RelV v u->Q u s'):wpAny (model X.prog X.w) A (getAttr (.ref a) f b) Q E s:=by
 obtain⟨mA,O,r,_,_,_⟩:=vZ I.hok e;obtain⟨u,hu,ru⟩:=RelO.some_of (v:=v) (o:=mA f) (by rw[<- l];exact r f);exact UF I.kIn O (c.get f) c.hd n hu (XF ru) (h u _ (I.tok _) ru)
theorem xx{m:Str}{g:Addr}{pl:Sem Bool}{Q:Value×List Value->Shared->Prop}(I:Inv X pins σ H s)(e:H a=some (.ins C dx fs))(c:Cls X.K C)(k:Meth X.K C m g)(l:fs.lookup m=none)
  (h:Q (.ref g,[.ref a]) s):wpAny (model X.prog X.w) A (getMethod (.ref a) m pl) Q E s:=by
 obtain⟨mA,O,r,_,_,_⟩:=vZ I.hok e;have hn:mA m=none:=RelO.none_of (by rw[<- l];exact r m);exact WO I.kIn O (c.get m) k.at_ k.fn hn h
theorem Ye{y:V}{u:Value}{Q:Unit->Shared->Prop}(I:Inv X pins σ H s)(e:H a=some (.ins C dx fs))(c:Cls X.K C)(n:NoAttr X.K C f)(hl:fs.length<1000)(ry:RelV y u)
  (h:∀ s',Inv X pins σ (upd H a (.ins C dx (uV f y fs))) s'->Q () s'):wpAny (model X.prog X.w) A (setAttr (.ref a) f u) Q E s:=by
 obtain⟨mA,O,r,wi,_,ho⟩:=vZ I.hok e;have hz:(fs.map (·.1)).length<=sizeLine:=by rw[length_map,sizeLine_eq];omega
 refine V4 I.kIn O c.sa c.po n.taker c.hd wi hz fun h' O' sb=>h _ ?_;have hd:∃ o,h'.get? dx=some o:=let ⟨o,_,_,e',_⟩:=O'.ns;⟨o,e'⟩
 refine I.write (x:=a) (e:=dx) (by rw[e];exact True.intro) (.inr ho) (fun b q hb z=>(sb.2 b hb).trans z) hd ?_;refine⟨by rw[upd_ne O.ne];exact ho,?_,O.ne,O'.obj,_,O'.ns,fun g=>?_,fun g hg=>?_⟩
 ·have:=wV f y fs;omega
 ·show RelO ((uV f y fs).lookup g) (if g=f then some u else mA g)
  rw[wU];by_cases q:g=f
  ·rw[if_pos q,if_pos q];exact ry
  ·rw[if_neg q,if_neg q];exact r g
 ·by_cases q:g=f
  ·rw[q];exact(wX f y fs).1
  ·refine(wX f y fs).2 g (wi g fun z=>hg ?_)
   show(if g=f then some u else mA g)=none;rw[if_neg q];exact z
theorem Inv.made(I:Inv X pins σ H s):Inv X pins σ (upd (upd H s.heap.objs.size (.own (s.heap.objs.size+1))) (s.heap.objs.size+1) (.ins C s.heap.objs.size []))
  { s with heap:=(s.heap.push PySem.W.emptyDict).push (PySem.W.instObj C s.heap.objs.size) }:=by
 have e1:(s.heap.push PySem.W.emptyDict).get? s.heap.objs.size=some PySem.W.emptyDict:=Heap.get?_push_size s.heap rfl;have e2:((s.heap.push PySem.W.emptyDict).push (PySem.W.instObj C s.heap.objs.size)).get? (s.heap.objs.size+1)=some (PySem.W.instObj C s.heap.objs.size):=by
  have:=Heap.get?_push_size (s.heap.push PySem.W.emptyDict) (o:=PySem.W.instObj C s.heap.objs.size) rfl
  rwa [Heap.size_push] at this
 have e3:(s.heap.push PySem.W.emptyDict).Ns s.heap.objs.size (fun _=>none):=⟨PySem.W.emptyDict,#[],_,e1,rfl,(fun e he=>absurd he (by simp)),fun _=>rfl⟩;have I1:=I.laid (a:=s.heap.objs.size) (o:=.own (s.heap.objs.size+1)) (h':=s.heap.push PySem.W.emptyDict) (t':=s.toks) (fun b u q=>Heap.get?_push_of_some _ q) (Nat.le_refl _) ⟨_,e1⟩;refine I1.laid (a:=s.heap.objs.size+1) (o:=.ins C s.heap.objs.size []) (t':=s.toks) (fun b u q=>Heap.get?_push_of_some _ q) (le_of_eq (Heap.size_push _ _)) ?_;have ne:s.heap.objs.size≠s.heap.objs.size+1:=ne_of_lt (Nat.lt_succ_self _);refine⟨by rw[upd_ne ne,za],zero_le _,ne,e2,fun _=>none,(Heap.Ns1.of_empty e3).at fun o q=>Heap.get?_push_of_some _ q,fun _=>True.intro,fun y hy=>absurd rfl hy⟩
theorem attr_of{prog:Program}{w:World}{env:Env}{e:Expr}{f:Str}{pos:Pos}{s:Shared}{Q:Value->Shared->Prop}(hb:attributeBase e f env (eval e env)=eval e env)
  (h:wpAny (model prog w) A (eval e env) (fun o s₁=>wpAny (model prog w) A (getAttr o f true) Q E s₁) E s):wpAny (model prog w) A (eval (.Attribute e f pos) env) Q E s :=
 Attribute_any_ h (by rw[arm_eval_Attribute,hb])
end
def zdi(K:W.Frag)(ta:TE)(f:Str):TE:=fun σ H Q=>ta σ H fun x H1=>∃ a C dx fs v,x=.ref a/\H1 a=some (.ins C dx fs)/\Cls K C/\NoAttr K C f/\fs.lookup f=some v/\Q v H1
def zcY(K:W.Frag)(ta tv:TE)(f:Str):TS:=fun D σ H=>tv σ H fun y H1=>ta σ H1 fun x H2=>∃ a C dx fs,x=.ref a/\H2 a=some (.ins C dx fs)/\Cls K C/\NoAttr K C f/\fs.length<1000 /\
 D.nx σ (upd H2 a (.ins C dx (uV f y fs)))
section
variable {X:Cx}{o e value:Expr}{f:Str}{pos pos' tpos:Pos}{ta tv:TE}
theorem yL(he:Bx (PE X e ta))(hb:attributeBase e f X.env (eval e X.env)=eval e X.env):Bx (PE X (.Attribute e f pos) (zdi X.K ta f)):=by
 have he:=he.of;refine⟨?_⟩;intro pins s σ H Q I h;refine attr_of hb (thn (he pins s σ H _ I h) fun u s1 hq0=>?_);obtain⟨x,H1,I1,rx,a,C,dx,fs,v,ex,ea,c,n,l,q⟩:=hq0;subst ex;obtain rfl:u=Value.ref a:=rx;exact Ym I1 ea c n l fun u' s2 I2 ru=>⟨v,H1,I2,ru,q⟩
theorem ZK(ha:PE X o ta)(hv:PE X value tv)(hs:swapsWith value (some (.Attribute o f pos')) pos.line X.env=pure false):PS X (.Assign [.Attribute o f pos'] value pos) (zcY X.K ta tv f):=by
 intro pins s σ H D I h;refine plainObj_wpAny_Assign_Attribute (thn (hv pins s σ H _ I h) fun u s1 ⟨y,H1,I1,ry,q⟩=>thn (ha pins s1 σ H1 _ I1 q) fun ov s2 hq0=>?_) hs;obtain⟨x,H2,I2,rx,a,C,dx,fs,ex,ea,c,n,l,q2⟩:=hq0;subst ex;obtain rfl:ov=Value.ref a:=rx;exact Ye I2 ea c n l ry fun s3 I3=>⟨σ,_,I3,q2⟩
theorem Uy{pl:Sem Bool}{m:Str}{apos:Pos}{args:List Expr}{pins:List (Addr×Obj)}{s:Shared}{σ:St}{H:Hp}{Q:Value->Shared->Prop}{te:TE}(he:PE X e te)(I:Inv X pins σ H s)
  (h:te σ H fun x H1=>∃ a C dx fs g,x=.ref a/\H1 a=some (.ins C dx fs)/\Cls X.K C/\Meth X.K C m g/\fs.lookup m=none /\
   ∀ s1,Inv X pins σ H1 s1->wpAny (model X.prog X.w) X.A (callWith pos (.ref g) [.ref a] (backTo pos (starEach args X.env)) (backToKw pos (keywordEach [] X.env))) Q X.xe s1)
  (ht:eval (.Call (.Attribute e m apos) args [] pos) X.env=(do
   let ov <- eval e X.env
   standAt apos.atName
   let (f,first) <- holding [ov] (getMethod ov m pl)
   callWith pos f first (backTo pos (starEach args X.env)) (backToKw pos (keywordEach [] X.env)))) :
  wpAny (model X.prog X.w) X.A (eval (.Call (.Attribute e m apos) args [] pos) X.env) Q X.xe s:=by
 refine PySem.W.methodCall_KW (pl:=pl) (thn (he pins s σ H _ I h) fun u s1 hq0=>?_) ht;obtain⟨x,H1,I1,rx,a,C,dx,fs,g,ex,ea,c,k,l,q⟩:=hq0;subst ex;obtain rfl:u=Value.ref a:=rx;exact xx I1 ea c k l (q s1 I1)
end
section
variable {X:Cx}{pins:List (Addr×Obj)}{σ:St}{H:Hp}{s:Shared}{A:Around}{E:Value->Shared->Prop}{Q:Value->Shared->Prop}{c:Value}{b:Bool}
inductive TyOf (K:W.Frag) (H:Hp):V->Value->Prop where
 |non:TyOf K H .non (.type "NoneType")
 |bl (x:Bool):TyOf K H (.bl x) (.type "bool")
 |int (i:Int):TyOf K H (.int i) (.type "int")
 |str (x:Str):TyOf K H (.str x) (.type "str")
 |flt (x:UInt64):TyOf K H (.flt x) (.type "float")
 |lst {a:Addr}{xs:List V}(e:H a=some (.lst xs)):TyOf K H (.ref a) (.type "list")
 |frz {a:Addr}{o:Obj}{xs:List V}(e:H a=some (.frz o (.lst xs))):TyOf K H (.ref a) (.type "list")
 |tup {a:Addr}{xs:List V}(e:H a=some (.tup xs)):TyOf K H (.ref a) (.type "tuple")
 |dK {a:Addr}{kvs:List (Key×V)}(e:H a=some (.dK kvs)):TyOf K H (.ref a) (.type "dict")
 |dT {a:Addr}{kvs:List (List Key×V)}(e:H a=some (.dT kvs)):TyOf K H (.ref a) (.type "dict")
 |ins {a C dx:Addr}{fs:List (Str×V)}(e:H a=some (.ins C dx fs)) (cl:Cls K C) (ha:PySem.W.findIn K (.ref C) "__class__" = some (some (.builtin "object.__class__")))
   (hn:PySem.W.specialIn K (.builtin "object.__class__") "__get__" = some (some (.builtin "getset_descriptor.__get__"))) (htk:PySem.W.takesIn K (.builtin "object.__class__")=some true)
   (hm:PySem.W.mroIn K C (.type "object")=some true):TyOf K H (.ref a) (.ref C)
 |odd {a:Addr}{o:Obj}{φ:Heap->Prop}(e:H a=some (.frz o (.ext φ))) (x:o.ExactDict):TyOf K H (.ref a) (.type "dict")
theorem XB{x:V}{u t:Value}(I:Inv X pins σ H s)(rx:RelV x u)(ty:TyOf X.K H x t)(e:PySem.W.kitOne X.K t c=some b)(h:∀ tk,Q (.bool b) { s with toks:=tk }) :
  wpAny (model X.prog X.w) A (call (.builtin "isinstance") [u,c]) Q E s:=by
 cases ty with
 |non=>cases (show u=Value.none from rx);exact PySem.W.kia_one PySem.W.kitx_none I.kIn True.intro e (fun z=>nomatch z) h
 |bl y=>cases (show u=Value.bool y from rx);exact PySem.W.kia_one PySem.W.kitx_bool I.kIn True.intro e (fun z=>nomatch z) h
 |int i=>obtain⟨t,q⟩:=(show ∃ t,u=Value.int i t from rx);cases q;exact PySem.W.kia_one PySem.W.kitx_int I.kIn True.intro e (fun z=>nomatch z) h
 |str y=>obtain⟨t,q⟩:=(show ∃ t,u=Value.str y t from rx);cases q;exact PySem.W.kia_one PySem.W.kitx_str I.kIn True.intro e (fun z=>nomatch z) h
 |flt y=>obtain⟨t,q⟩:=(show ∃ t,u=Value.float y t from rx);cases q;exact PySem.W.kia_one PySem.W.kitx_float I.kIn True.intro e (fun z=>nomatch z) h
 | @lst a xs ea =>
  cases (show u=Value.ref a from rx);obtain⟨_,_,n,_,h1⟩:=(show ObjOk X.prog X.w H s.heap a (.lst xs) from I.hok a _ ea);exact PySem.W.kia_one PySem.W.kitx_list I.kIn ⟨_,h1,rfl⟩ e (fun z=>nomatch z) h
 | @frz a ob xs ea =>
  cases (show u=Value.ref a from rx);obtain⟨_,_,_,n,_,h1⟩:=(show ObjOk X.prog X.w H s.heap a (.frz ob (.lst xs)) from I.hok a _ ea);exact PySem.W.kia_one PySem.W.kitx_list I.kIn ⟨_,h1,rfl⟩ e (fun z=>nomatch z) h
 | @tup a xs ea =>
  cases (show u=Value.ref a from rx);obtain⟨_,_,_,p⟩:=(show ObjOk X.prog X.w H s.heap a (.tup xs) from I.hok a _ ea);obtain⟨o,h1,h2,_⟩:=p;exact PySem.W.kia_one PySem.W.kitx_tuple I.kIn ⟨o,h1,h2⟩ e (fun z=>nomatch z) h
 | @dK a kvs ea =>
  cases (show u=Value.ref a from rx);obtain⟨_,_,vs,_,p⟩:=(show ObjOk X.prog X.w H s.heap a (.dK kvs) from I.hok a _ ea);obtain⟨o,es,ep,h1,h2,_⟩:=p;exact PySem.W.kia_one PySem.W.kitx_dict I.kIn ⟨o,h1,h2.1⟩ e (fun z=>nomatch z) h
 | @dT a kvs ea =>
  cases (show u=Value.ref a from rx);obtain⟨_,_,xs,_,o,es,ep,h1,h2,_⟩:=(show ObjOk X.prog X.w H s.heap a (.dT kvs) from I.hok a _ ea);exact PySem.W.kia_one PySem.W.kitx_dict I.kIn ⟨o,h1,h2.1⟩ e (fun z=>nomatch z) h
 | @ins a C dx fs ea cl ha hn htk hm =>
  cases (show u=Value.ref a from rx);obtain⟨mA,O,_⟩:=vZ I.hok ea;obtain⟨od,J,_⟩:=O.look;exact PySem.W.kia_one (PySem.W.kitx_own (cl.get _) cl.hd ha hn htk hm) I.kIn J e (fun z=>nomatch z) h
 | @odd a o φ ea x =>
  cases (show u=Value.ref a from rx);exact PySem.W.kia_one PySem.W.kitx_dict I.kIn ⟨o,(I.hok a _ ea).1,x.1⟩ e (fun z=>nomatch z) h
end
structure Room (k:Nat) (A:Around):Prop where
 hd:A.handled=none
 dp:A.depth+3*k+5<recursionLimit
 un:A.units+16*k+200<cLine
 gd:A.guards=some []
theorem Room.mono{j k:Nat}{A:Around}(r:Room k A)(h:j<=k):Room j A:=⟨r.hd,by have:=r.dp;omega,by have:=r.un;omega,r.gd⟩
theorem Room.m{j k:Nat}{A:Around}(r:Room k A)(h:j<=k:=by omega):Room j A:=r.mono h
theorem Room.deeper{k:Nat}{A:Around}(r:Room (k+1) A)(env:Env):Room k (A.deeper env) :=
 ⟨r.hd,by have:=r.dp;show A.depth+1+3*k+5<_;omega,by have:=r.un;show A.units+3+16*k+200<_;omega,r.gd⟩
theorem Yi{A:Around}{C:Addr}{us:List Value}{kw:List (Str×Value)}:(A.under (.builtin "type.__call__" ⟨.ref C::us,kw⟩)).depth=A.depth+1:=by
 first | rfl | simp[Around.under,Code.weight,Code.isCreation,Code.isGuard,Code.isCaller,Code.frames,Code.isFrame,guardIds]
theorem Yh{A:Around}{C:Addr}{us:List Value}{kw:List (Str×Value)}:(A.under (.builtin "type.__call__" ⟨.ref C::us,kw⟩)).units=A.units+1:=by
 first | rfl | simp[Around.under,Code.cUnits,Code.frames,Code.isFrame]
theorem Zm{A:Around}{C:Addr}{us:List Value}{kw:List (Str×Value)}(h:A.guards=some []):(A.under (.builtin "type.__call__" ⟨.ref C::us,kw⟩)).guards=some []:=by
 have e:(Code.builtin "type.__call__" ⟨.ref C::us,kw⟩).guards=[]:=by
  unfold Code.guards Code.isGuard;rw[if_neg (show ¬ guardIds.contains "type.__call__" = true by decide +kernel)]
 simp only[Around.under,e,h,pushGuards]
theorem Room.make{k:Nat}{A:Around}(r:Room (k+1) A)(C:Addr)(us:List Value)(kw:List (Str×Value)):Room k (A.under (.builtin "type.__call__" ⟨.ref C::us,kw⟩)) :=
 ⟨r.hd,by have:=r.dp;rw[Yi];omega,by have:=r.un;rw[Yh];omega,Zm r.gd⟩
theorem Room.depth{k:Nat}{A:Around}(r:Room k A):A.depth<recursionLimit:=by have:=r.dp;omega
theorem Room.units{k:Nat}{A:Around}(r:Room k A):A.units+64<cLine:=by have:=r.un;omega
def Wh:TA:=fun _ H Q=>Q [] H
def xG(ta:TE)(tr:TA):TA:=fun σ H Q=>ta σ H fun x H1=>tr σ H1 fun xs H2=>Q (x::xs) H2
section
variable {X:Cx}{e:Expr}{es:List Expr}{te:TE}{t:TA}{pos:Pos}
theorem yp:PA X [] Wh:=fun _ _ _ _ H Q I h=>Calls.spliced_nil ⟨[],H,I,.nil,h⟩
theorem xh(ha:PE X e te)(hr:PA X es t)(hs:starEach (e::es) X.env=(false,eval e X.env)::starEach es X.env:=by rfl):PA X (e::es) (xG te t):=by
 intro pos pins s σ H Q I h;rw[hs];show wpAny _ _ (spliced ((false,eval e X.env)::backTo pos (starEach es X.env))) _ _ s;refine Calls.spliced_cons (thn (ha pins s σ H _ I h) fun u s1 hq0=>?_);obtain⟨x,H1,I1,r1,q1⟩:=hq0;exact thn (hr pos pins s1 σ H1 _ I1 q1) fun us s2 ⟨xs,H2,I2,r2,q2⟩=>⟨x::xs,H2,I2,.cons r1 r2,q2⟩
def zdd(t:TA):TE:=fun σ H Q=>t σ H fun xs H1=>xs.length<=sizeLine/\∀ p,H1 p=none->Q (.ref p) (upd H1 p (.tup xs))
def U6(t:TA):TE:=fun σ H Q=>t σ H fun xs H1=>xs.length<=sizeLine/\∀ p,H1 p=none->Q (.ref p) (upd H1 p (.lst xs))
theorem zD{x1}(h:Bx (PA X es t)):Bx (PE X (.Tuple es x1 pos) (zdd t)):=by
 have h:=h.of;refine⟨?_⟩;intro pins s σ H Q I hq;refine wpAny_Tuple_spliced (thn (h pos pins s σ H _ I hq) fun us s1 ⟨xs,H1,I1,r,z,q⟩=>⟨by rw[<- r.length];exact z,?_⟩);have hf:H1 s1.heap.objs.size=none:=I1.hok.fresh (Nat.le_refl _);refine⟨.ref s1.heap.objs.size,upd H1 s1.heap.objs.size (.tup xs),I1.laid (t':=s1.toks) (fun b u e=>Heap.get?_push_of_some _ e) (Nat.le_refl _) ?_,rfl,q _ hf⟩;exact⟨z,us,r,⟨_,Heap.get?_push_size _ rfl,rfl,_,rfl⟩⟩
theorem Vq(h:PA X es t):PE X (.List es pos) (U6 t):=by
 intro pins s σ H Q I hq;refine wpAny_List_spliced (thn (h pos pins s σ H _ I hq) fun us s1 ⟨xs,H1,I1,r,z,q⟩=>⟨by rw[<- r.length];exact z,?_⟩);have hf:H1 s1.heap.objs.size=none:=I1.hok.fresh (Nat.le_refl _);refine⟨.ref s1.heap.objs.size,upd H1 s1.heap.objs.size (.lst xs),I1.laid (t':=s1.toks) (fun b u e=>Heap.get?_push_of_some _ e) (Nat.le_refl _) ?_,rfl,q _ hf⟩;exact⟨z,us,0,r,Heap.get?_push_size _ rfl⟩
end
abbrev Sp:=List V->Hp->VK->XK->Prop
abbrev CXT:=List Env->Hp->Shared->XK->Value->Shared->Prop
structure Env0 (P:Program) (w:World) (K:W.Frag) (mg:Str->Option Value) (base:Heap) (A:Around) (outer:List Env) (s:Shared) (H:Hp):Prop where
 frames:A.frames=some outer
 mod:Mod K mg base
 bs:∀ b o,base.get? b=some o->s.heap.get? b=some o/\H b=none
 bsz:base.objs.size<=s.heap.objs.size
 funs:s.heap.FunFrames base outer
 frf:∀ b∈frs outer,H b=none
 hok:HOk P w H s.heap
 bare:AllBare s.gens
def CE(outer:List Env)(P:Program)(w:World)(H:Hp)(s:Shared)(Q:VK)(u:Value)(s':Shared):Prop :=
 ∃ v H',s'.os=s.os/\AllBare s'.gens/\Un (frs outer) [] H H' s.heap s'.heap/\HOk P w H' s'.heap/\RelV v u/\Q v H'
def CR(CX:CXT)(outer:List Env)(P:Program)(w:World)(H:Hp)(s:Shared)(Q:VK)(E:XK)(r:Result)(s':Shared):Prop :=
 match r with
 |.ok (.ret u)=>CE outer P w H s Q u s'
 |.ok _=>False
 |.error e=>CX outer H s E e s'
structure FnOk (P:Program) (w:World) (K:W.Frag) (mg:Str->Option Value) (base:Heap) (CX:CXT) (k:Nat) (f:Addr) (fd:FuncData) (ps:List Str) (sp:Sp):Prop where
 len:∀ vs H Q E,sp vs H Q E->vs.length=ps.length
 run:∀ (A:Around) (outer:List Env) (s:Shared) (H:Hp) (args:Args) (us:List Value) (vs:List V) (Q:VK) (E:XK),Room k A->Env0 P w K mg base A outer s H->BindsTo s fd args (ps.zip us)->Vals vs us->sp vs H Q E ->
  codeAny (model P w) A (.call (.ref f) args) (CR CX outer P w H s Q E) s
theorem FnOk.imp{P:Program}{w:World}{K:W.Frag}{mg:Str->Option Value}{base:Heap}{CX:CXT}{k:Nat}{f:Addr}{fd:FuncData}{ps:List Str}{sp sp':Sp}(F:FnOk P w K mg base CX k f fd ps sp)
  (h:∀ vs H Q E,sp' vs H Q E->sp vs H Q E):FnOk P w K mg base CX k f fd ps sp' :=
 ⟨fun vs H Q E q=>F.len vs H Q E (h _ _ _ _ q),fun A outer s H args us vs Q E hr he hb hv hs=>F.run A outer s H args us vs Q E hr he hb hv (h _ _ _ _ hs)⟩
theorem Env0.make{P:Program}{w:World}{K:W.Frag}{mg:Str->Option Value}{base:Heap}{A:Around}{outer:List Env}{s:Shared}{H:Hp}(e:Env0 P w K mg base A outer s H)(C:Addr)(us:List Value)(kw:List (Str×Value)) :
  Env0 P w K mg base (A.under (.builtin "type.__call__" ⟨.ref C::us,kw⟩)) outer s H:=⟨by first | exact e.frames | (simpa[Around.under,Code.envs,Code.isFrame,pushEnvs] using e.frames),e.mod,e.bs,e.bsz,e.funs,e.frf,e.hok,e.bare⟩
section
variable {X:Cx}{pins:List (Addr×Obj)}{σ:St}{H:Hp}{s s':Shared}
theorem Inv.env0(I:Inv X pins σ H s):Env0 X.prog X.w X.K X.mg X.base X.A X.stack s H :=
 ⟨I.ok.frames,I.ok.mod,I.bs,le_trans I.ok.bsz I.sz,I.stack,I.stkFree,I.hok,I.bare⟩
theorem Inv.after{Q:VK}{u:Value}(I:Inv X pins σ H s)(h:CE X.stack X.prog X.w H s Q u s'):EP X pins σ Q u s':=by
 obtain⟨v,H',os,bare,un,hok,r,q⟩:=h;obtain⟨hh,g,d,t,os'⟩:=s';obtain rfl:os'=s.os:=os;exact⟨v,H',I.call (h':=hh) (g':=g) (d':=d) (t':=t) (ch:=[]) un hok bare (fun b z=>absurd z (by simp)),r,q⟩
end
def u7(sp:Sp)(dvs:List V)(E:XK)(t:TA):TE:=fun σ H Q=>t σ H fun vs H1=>sp (vs++dvs) H1 Q E
def U4(C:Addr)(m:Str)(sp:Sp)(dvs:List V)(E:XK)(ta:TE)(t:TA):TE:=fun σ H Q=>ta σ H fun x H1=>∃ a dx fs,x=.ref a/\H1 a=some (.ins C dx fs)/\fs.lookup m=none /\
 t σ H1 fun vs H2=>sp (x::(vs++dvs)) H2 Q E
def U5(C:Addr)(sp:Sp)(dvs:List V)(E:XK)(t:TA):TE:=fun σ H Q=>t σ H fun vs H1=>∀ x dx,H1 x=none->H1 dx=none->dx≠x ->
 sp (.ref x::(vs++dvs)) (upd (upd H1 dx (.own x)) x (.ins C dx [])) (fun v H2=>v=.non/\Q (.ref x) H2) E
def Binds(K:W.Frag)(fd:FuncData)(ps:List Str)(ds:List Value):Prop :=
 ∀ (s:Shared) (us:List Value),K.In s.heap->(us++ds).length=ps.length->BindsTo s fd ⟨us,[]⟩ (ps.zip (us++ds))
theorem Binds.all{K:W.Frag}{fd:FuncData}{ps:List Str}(h:∀ us:List Value,us.length=ps.length->bindArgs fd ⟨us,[]⟩=pure (ps.zip us)):Binds K fd ps []:=fun s us _ hl=>by
 rw[append_nil] at hl ⊢;exact .of_eq (h us hl)
def wq(CX:CXT)(X:Cx)(E:XK):Prop:=∀ (pins:List (Addr×Obj)) (σ:St) (H:Hp) (s:Shared) (e:Value) (s':Shared),Inv X pins σ H s->CX X.stack H s E e s'->X.xe e s'
section
variable {X:Cx}{CX:CXT}{k:Nat}{f C:Addr}{fd:FuncData}{ps:List Str}{sp:Sp}{dvs:List V}{ds:List Value}{E:XK}{x m:Str}{p pos apos:Pos}{e o:Expr}{es:List Expr}{ta:TE}{t:TA}
theorem ZI{pins:List (Addr×Obj)}{σ:St}{H:Hp}{s:Shared}{Q:VK}{us:List Value}{vs:List V}(F:FnOk X.prog X.w X.K X.mg X.base CX k f fd ps sp)(hr:Room k X.A)(hb:Binds X.K fd ps ds)(hd:Vals dvs ds)(hx:wq CX X E)
  (I:Inv X pins σ H s) (r:Vals vs us) (h:sp (vs++dvs) H Q E):wpAny (model X.prog X.w) X.A (call (.ref f) us) (EP X pins σ Q) X.xe s:=by
 have r2:Vals (vs++dvs) (us++ds):=r.append hd;have hl:(us++ds).length=ps.length:=by rw[<- r2.length];exact F.len _ _ _ _ h
 refine wpAny_call (codeAny_mono (F.run X.A X.stack s H ⟨us,[]⟩ (us++ds) (vs++dvs) Q E hr I.env0 (hb s us I.kIn hl) r2 h) fun r s' hq=>?_);cases r with
 |error e=>exact hx pins σ H s e s' I hq
 |ok fl =>
  cases fl with
  |ret u=>exact I.after hq
  |next=>exact False.elim hq
  |brk=>exact False.elim hq
  |cont=>exact False.elim hq
theorem Y0(F:FnOk X.prog X.w X.K X.mg X.base CX k f fd ps sp)(hr:Room k X.A)(hg:Gl X x)(hm:X.mg x=some (.ref f))(hk:PySem.W.keepIn X.K (.ref f)=true)(hb:Binds X.K fd ps ds)(hd:Vals dvs ds)(hx:wq CX X E)
  (ha:PA X (e::es) t) (hdb:(x == ("__debug__" : Str))=false:=by decide) (he:starEach (e::es) X.env=(false,eval e X.env)::starEach es X.env:=by rfl) (hpl:(backTo pos (starEach es X.env)).any (·.1)=false:=by rfl) :
  PE X (.Call (.Name x p) (e::es) [] pos) (u7 sp dvs E t):=by
 intro pins s σ H Q I h;refine wpAny_Call_Name_kw (ld_glob I hg hm ?_ hdb);refine PySem.W.callWith_K (h₀:=X.base) I.ok.mod.kin hk (thn (ha pos pins s σ H _ I h) fun us s1 ⟨vs,H1,I1,r,q⟩=>⟨I1.kIn,?_⟩) he hpl;exact ZI F hr hb hd hx I1 r q
theorem Uk{pl:Sem Bool}(he:PE X o ta)(c:Cls X.K C)(hm:Meth X.K C m f)(F:FnOk X.prog X.w X.K X.mg X.base CX k f fd ps sp)(hr:Room k X.A)(hb:Binds X.K fd ps ds)(hd:Vals dvs ds)(hx:wq CX X E)(ha:PA X (e::es) t)
  (hst:starEach (e::es) X.env=(false,eval e X.env)::starEach es X.env:=by rfl) (hpl:(backTo pos (starEach es X.env)).any (·.1)=false:=by rfl)
  (ht:eval (.Call (.Attribute o m apos) (e::es) [] pos) X.env=(do
   let ov <- eval o X.env
   standAt apos.atName
   let (f,first) <- holding [ov] (getMethod ov m pl)
   callWith pos f first (backTo pos (starEach (e::es) X.env)) (backToKw pos (keywordEach [] X.env))):=by rfl) :
  PE X (.Call (.Attribute o m apos) (e::es) [] pos) (U4 C m sp dvs E ta t):=by
 intro pins s σ H Q I h;refine PySem.W.methodCall_KW (pl:=pl) (thn (he pins s σ H _ I h) fun u s1 hq0=>?_) ht;obtain⟨x,H1,I1,rx,a,dx,fs,ex,ea,l,q⟩:=hq0;subst ex;obtain rfl:u=Value.ref a:=rx;refine xx I1 ea c hm l ?_;refine PySem.W.callWith_K (first:=[.ref a]) (h₀:=X.base) I.ok.mod.kin hm.kp (thn (ha pos pins s1 σ H1 _ I1 q) fun us s2 ⟨vs,H2,I2,r,q2⟩=>⟨I2.kIn,?_⟩) hst hpl;exact ZI (us:=.ref a::us) (vs:=.ref a::vs) F hr hb hd hx I2 (.cons rfl r) q2
structure Mk (K:W.Frag) (C f:Addr):Prop where
 makes:PySem.W.makesIn K C=true
 init:PySem.W.findIn K (.ref C) "__init__" = some (some (.ref f))
 fn:PySem.W.isFn K (.ref f)=true
 kp:PySem.W.keepIn K (.ref C)=true
theorem Wk{pins:List (Addr×Obj)}{σ:St}{H:Hp}{s:Shared}{Q:VK}{us:List Value}{vs:List V}(M:Mk X.K C f)(F:FnOk X.prog X.w X.K X.mg X.base CX k f fd ps sp)(hr:Room (k+1) X.A)(hb:Binds X.K fd ps ds)(hd:Vals dvs ds)
  (hx:wq CX X E) (I:Inv X pins σ H s) (r:Vals vs us)
  (h:∀ x dx,H x=none->H dx=none->dx≠x->sp (.ref x::(vs++dvs)) (upd (upd H dx (.own x)) x (.ins C dx [])) (fun v H2=>v=.non/\Q (.ref x) H2) E) :
  wpAny (model X.prog X.w) X.A (call (.ref C) us) (EP X pins σ Q) X.xe s:=by
 have hq:=h (s.heap.objs.size+1) s.heap.objs.size (I.hok.fresh (le_succ _)) (I.hok.fresh (Nat.le_refl _)) (ne_of_lt (Nat.lt_succ_self _));have I2:=Inv.made (C:=C) I;have r2:Vals (V.ref (s.heap.objs.size+1)::(vs++dvs)) (Value.ref (s.heap.objs.size+1)::(us++ds)):=.cons rfl (r.append hd);have hl:(Value.ref (s.heap.objs.size+1)::us++ds).length=ps.length:=by
  have e:=r2.length;rw[F.len _ _ _ _ hq] at e;exact e.symm
 refine wpAny_call (WA (f:=f) I.kIn M.makes M.init (beq_iff_eq.mp M.fn) (codeAny_mono (F.run _ X.stack _ _ ⟨Value.ref (s.heap.objs.size+1)::us,[]⟩ (Value.ref (s.heap.objs.size+1)::(us++ds)) _ _ E (hr.make C us [])
  (I2.env0.make C us []) (hb _ (Value.ref (s.heap.objs.size+1)::us) I2.kIn hl) r2 hq) fun r s' hq'=>?_))
 cases r with
 |error e=>exact hx pins σ _ _ e s' I2 hq'
 |ok fl =>
  cases fl with
  |ret u =>
   obtain⟨v,H',I3,rv,ev,q3⟩:=I2.after hq';subst ev;exact⟨rv,⟨V.ref (s.heap.objs.size+1),H',I3,rfl,q3⟩⟩
  |next=>exact False.elim hq'
  |brk=>exact False.elim hq'
  |cont=>exact False.elim hq'
theorem Ul(M:Mk X.K C f)(F:FnOk X.prog X.w X.K X.mg X.base CX k f fd ps sp)(hr:Room (k+1) X.A)(hg:Gl X x)(hm:X.mg x=some (.ref C))(hb:Binds X.K fd ps ds)(hd:Vals dvs ds)(hx:wq CX X E)
  (ha:PA X (e::es) t) (hdb:(x == ("__debug__" : Str))=false:=by decide) (he:starEach (e::es) X.env=(false,eval e X.env)::starEach es X.env:=by rfl) (hpl:(backTo pos (starEach es X.env)).any (·.1)=false:=by rfl) :
  PE X (.Call (.Name x p) (e::es) [] pos) (U5 C sp dvs E t):=by
 intro pins s σ H Q I h;refine wpAny_Call_Name_kw (ld_glob I hg hm ?_ hdb);refine PySem.W.callWith_K (h₀:=X.base) I.ok.mod.kin M.kp (thn (ha pos pins s σ H _ I h) fun us s1 ⟨vs,H1,I1,r,q⟩=>⟨I1.kIn,?_⟩) he hpl;exact Wk M F hr hb hd hx I1 r q
end
structure FnScope (N P:List Str) (sc:Scope):Prop where
 kind:sc.kind=.function
 co:sc.isCoroutine=false
 gen:sc.isGenerator=false
 nd:N.Nodup
 pre:N.take P.length=P
 par:∀ x∈P,sc.names.lookup x=some .local\/sc.names.lookup x=some .cell
 nofree:∀ y∈sc.names,y.2≠.free
theorem uQ{kindOf:Str->Option NameKind}{x:Str}:∀ {binds:List (Str×Value)}{m:Str->Option Value},(∀ v,(x,v)∉binds)->bindL kindOf binds m x=m x
 |[],_,_=>rfl
 |(n,v)::r,m,h=>by
  unfold bindL;rw[uQ fun w hw=>h w (mem_cons_of_mem _ hw)]
  split
  ·have:x≠n:=by rintro rfl;exact h v mem_cons_self
   simp[this]
  ·rfl
theorem bindC_out{kindOf:Str->Option NameKind}{x:Str}:∀ {binds:List (Str×Value)}{m:Str->Option Value},(∀ v,(x,v)∉binds)->bindC kindOf binds m x=m x
 |[],_,_=>rfl
 |(n,v)::r,m,h=>by
  unfold bindC;rw[bindC_out fun w hw=>h w (mem_cons_of_mem _ hw)]
  split
  ·rfl
  ·have:x≠n:=by rintro rfl;exact h v mem_cons_self
   simp[this]
theorem bindL_get{kindOf:Str->Option NameKind}{x:Str}{v:Value}:∀ {P:List Str}{vs:List Value}{i:Nat}{m:Str->Option Value},P.Nodup->P[i]?=some x->vs[i]?=some v->kindOf x=some .local ->
  bindL kindOf (P.zip vs) m x=some v
 |[],_,_,_,_,h,_,_=>by simp at h
 |_::_,[],_,_,_,_,h,_=>by simp at h
 |p::P,w::vs,0,m,nd,h1,h2,hk=>by
  simp at h1 h2;subst h1;subst h2;show bindL kindOf ((p,w)::P.zip vs) m p=_;unfold bindL;rw[uQ fun v hv=>(nodup_cons.mp nd).1 (of_mem_zip hv).1,if_pos hk];simp
 |p::P,w::vs,i+1,m,nd,h1,h2,hk=>by
  show bindL kindOf ((p,w)::P.zip vs) m x=_;unfold bindL;exact bindL_get (i:=i) (nodup_cons.mp nd).2 (by simpa using h1) (by simpa using h2) hk
theorem uR{kindOf:Str->Option NameKind}{x:Str}{v:Value}:∀ {P:List Str}{vs:List Value}{i:Nat}{m:Str->Option Value},P.Nodup->P[i]?=some x->vs[i]?=some v->kindOf x≠some .local ->
  bindC kindOf (P.zip vs) m x=some v
 |[],_,_,_,_,h,_,_=>by simp at h
 |_::_,[],_,_,_,_,h,_=>by simp at h
 |p::P,w::vs,0,m,nd,h1,h2,hk=>by
  simp at h1 h2;subst h1;subst h2;show bindC kindOf ((p,w)::P.zip vs) m p=_;unfold bindC;rw[bindC_out fun v hv=>(nodup_cons.mp nd).1 (of_mem_zip hv).1,if_neg hk];simp
 |p::P,w::vs,i+1,m,nd,h1,h2,hk=>by
  show bindC kindOf ((p,w)::P.zip vs) m x=_;unfold bindC;exact uR (i:=i) (nodup_cons.mp nd).2 (by simpa using h1) (by simpa using h2) hk
def start(N:List Str)(vs:List V):St:=vs.map some++List.replicate (N.length-vs.length) none
def wo(CX:CXT)(P:Program)(w:World)(K:W.Frag)(mg:Str->Option Value)(base:Heap)(N:List Str)(qual:Str)(scope:Scope)(f:Addr)(cd:Value)(A:Around)(outer:List Env)(s:Shared)(H:Hp)(E:XK):Cx where
 prog:=P
 w:=w
 K:=K
 mg:=mg
 base:=base
 A:=A.deeper (envOfC qual scope s.heap.objs.size f cd)
 N:=N
 s₀:=s
 H₀:=H
 env:=envOfC qual scope s.heap.objs.size f cd
 outer:=outer
 stack:=envOfC qual scope s.heap.objs.size f cd::outer
 ex:=[]
 calm:=true
 fn:=fun _=>true
 pn:=[]
 xe:=fun e s'=>wpAny (model P w) (A.deeper (envOfC qual scope s.heap.objs.size f cd)) (leaving (envOfC qual scope s.heap.objs.size f cd) e) (fun _ s''=>CX outer H s E e s'') (fun e' s''=>CX outer H s E e' s'') s'
theorem ZY{sc:Scope}{n:Nat}{x:Str}(h:sc.names.lookup x=some .cell):∃ c,(cellsFrom n sc.names []).lookup x=some c:=by
 have q:=PySem.W.cellsFrom_some sc.names n [] (.inl h);exact isSome_iff_exists.mp q
theorem XD{CX:CXT}{P:Program}{w:World}{K:W.Frag}{mg:Str->Option Value}{base:Heap}{N ps:List Str}{qual:Str}{scope:Scope}{f:Addr}{cd:Value}{A:Around}{outer:List Env}{s s1:Shared}{H:Hp}{E:XK}{us:List Value}{vs:List V}
  (S:FnScope N ps scope) (hd:A.handled=none) (e0:Env0 P w K mg base A outer s H) (hl:vs.length=ps.length) (r:Vals vs us)
  (x:InCallC s s.heap.objs.size (bindL (envOfC qual scope s.heap.objs.size f cd).kindOf (ps.zip us) fun _=>none) (cellsFrom (s.heap.objs.size+1) scope.names []) (bindC (envOfC qual scope s.heap.objs.size f cd).kindOf (ps.zip us) fun _=>none) s1) :
  Inv (wo CX P w K mg base N qual scope f cd A outer s H E) [] (start N vs) H s1:=by
 have hpl:ps.length<=N.length:=by have:=congrArg List.length S.pre;rw[length_take] at this;omega
 obtain⟨h1,tk,rfl,hk⟩:=x.done;have noA:∀ b:Addr,b∉(wo CX P w K mg base N qual scope f cd A outer s H E).ex:=fun b z=>absurd (show b∈([]:List Addr) from z) (by simp);refine⟨⟨e0.mod,S.kind,rfl,rfl,Nat.le_refl _,fun y z c h1 h2=>?_,fun y hy=>?_,fun y c _ h=>?_,fun _=>hd,Around.frames_deeper e0.frames,.inr ⟨rfl,rfl⟩,fun b z=>absurd z (noA b),e0.bs,e0.bsz,fun b _ _=>noA b,fun b z=>absurd z (noA b),e0.funs,e0.frf⟩,
  rfl,e0.bare,Un.kept hk,⟨_,x.toInCall.ns,fun i y v h1 h2 h3=>?_⟩,fun y c h=>⟨_,x.cell y c h⟩,e0.hok.fresh (Nat.le_refl _),fun y c h=>?_,fun p hp=>absurd (show p∈([]:List (Addr×Obj)) from hp) (by simp),e0.hok.kept hk,?_⟩
 ·exact name_of_addr x.apart (PySem.mem_of_lookup h1) (PySem.mem_of_lookup h2)
 ·have hy:scope.names.lookup y=some .cell\/scope.names.lookup y=some .free:=hy
  rcases hy with hy | hy
  ·exact ZY hy
  ·exact absurd rfl (S.nofree _ (PySem.mem_of_lookup hy))
 ·exact Nat.le_of_lt (x.above y c (PySem.mem_of_lookup h))
 ·have hi:i<vs.length:=by
   unfold start at h2;by_cases hi:i<vs.length
   ·exact hi
   ·rw[List.getElem?_append_right (by simpa using hi)] at h2
    rw[List.getElem?_replicate] at h2
    split at h2<;>cases h2
  have ha:vs[i]?=some v:=by
   unfold start at h2;rw[List.getElem?_append_left (by simpa using hi),List.getElem?_map] at h2;cases e:vs[i]? with
   |none=>rw[e] at h2;cases h2
   |some a=>rw[e] at h2;cases h2;rfl
  obtain⟨u,hu,rv⟩:=r.get ha;have hp:ps[i]?=some y:=by
   rw[<- S.pre,List.getElem?_take_of_lt (by omega)];exact h1
  have ndP:ps.Nodup:=by rw[<- S.pre];exact S.nd.sublist (take_sublist _ _)
  refine⟨u,rv,?_⟩;rcases S.par y (mem_of_getElem? hp) with k | k
  ·exact .inl ⟨k,bindL_get ndP hp hu k⟩
  ·obtain⟨c,e⟩:=ZY (n:=s.heap.objs.size+1) k
   refine .inr ⟨.inl k,c,e,?_⟩;have q:=x.cell y c e;rw[uR ndP hp hu (by show scope.names.lookup y≠_;rw[k];decide)] at q;exact q
 ·exact e0.hok.fresh (Nat.le_of_lt (x.above y c (PySem.mem_of_lookup h)))
 ·unfold start
  show _=N.length;rw[length_append,length_map,List.length_replicate];omega
theorem zbd{CX:CXT}{P:Program}{w:World}{K:W.Frag}{mg:Str->Option Value}{base:Heap}{k:Nat}{f:Addr}{name qual:Str}{params:Arguments}{body:List Stmt}{scope:Scope}{dV kV doc pm cdv ct oc:Value}{an od:Option Addr}
  {osl:Array (Option Value)}{N ps:List Str}{sp:Sp}(lk:K.lookup f=some ⟨oc,od,.func (PySem.W.fnOf name qual params body scope dV kV doc pm an cdv ct),osl⟩) (hcd:PySem.W.codeIn K cdv qual=true) (S:FnScope N ps scope)
  (len:∀ vs H Q E,sp vs H Q E->vs.length=ps.length)
  (hbody:∀ (A:Around) (outer:List Env) (s:Shared) (H:Hp) (vs:List V) (Q:VK) (E:XK),Room k (A.deeper (envOfC qual scope s.heap.objs.size f cdv))->sp vs H Q E ->
   ∃ t,PSs (wo CX P w K mg base N qual scope f cdv A outer s H E) body t/\t { nx:=fun _ H'=>Q .non H',rt:=Q } (start N vs) H) :
  FnOk P w K mg base CX (k+1) f (PySem.W.fnOf name qual params body scope dV kV doc pm an cdv ct) ps sp:=by
 refine⟨len,fun A outer s H args us vs Q E hr e0 hb r hsp=>?_⟩;have hl:=len _ _ _ _ hsp;have KX:K.In s.heap:=e0.mod.kin.keeps fun b o e=>(e0.bs b o e).1;have lim:s.heap.NoLimit:=e0.mod.nolimit.keeps fun b o e=>(e0.bs b o e).1;have hkind:∀ y∈ps.zip us,scope.names.lookup y.1=some .local\/(scope.names.lookup y.1=some .cell/\((cellsFrom (s.heap.objs.size+1) scope.names []).lookup y.1).isSome=true):=fun⟨n,v⟩ hy=>by
  rcases S.par n (of_mem_zip hy).1 with q | q
  ·exact .inl q
  ·exact .inr ⟨q,PySem.W.cellsFrom_some _ _ _ (.inl q)⟩
 refine codeAny_call_function hr.depth (KX _ _ lk) rfl S.co S.gen rfl (PySem.W.codeRec_of KX hcd) (hb _ _ _ _ ?_);refine wpAny_newFunctionEnv_cells S.kind hkind fun env he s1 x=>?_;subst he;refine⟨lim.keeps x.toInCall.keep,codeAny_func ?_⟩;obtain⟨t,ht,hq⟩:=hbody A outer s H vs Q E (hr.deeper _) hsp;have I:Inv (wo CX P w K mg base N qual scope f cdv A outer s H E) [] (start N vs) H s1:=XD S hr.hd e0 hl r x;refine wpAny_mono (ht [] s1 (start N vs) H _ I hq) (fun fl s' hs=>?_) fun e s' hs=>hs;have fin:∀ {σ':St}{H':Hp}{v:V}{u:Value},Inv (wo CX P w K mg base N qual scope f cdv A outer s H E) [] σ' H' s'->RelV v u->Q v H'->CE outer P w H s Q u s' :=
  fun {σ' H' v u} J rv q=>⟨v,H',J.os,J.bare,J.base,J.hok,rv,q⟩
 cases fl with
 |ret u =>
  obtain⟨v,σ',H',J,rv,q⟩:=hs;exact fin J rv q
 |next =>
  obtain⟨σ',H',J,q⟩:=hs;exact fin (v:=V.non) (u:=Value.none) J rfl q
 |brk =>
  obtain⟨_,_,_,q⟩:=hs;exact False.elim q
 |cont =>
  obtain⟨_,_,_,q⟩:=hs;exact False.elim q
section
variable {X:Cx}{x:Str}{p pos:Pos}{e:Expr}{es:List Expr}{t:TA}{id T:String}{r:List V->Hp->VK->Prop}
def tCB(r:List V->Hp->VK->Prop)(t:TA):TE:=fun σ H Q=>t σ H fun vs H1=>r vs H1 Q
theorem yB(hc:yS X (.builtin id) r)(hg:Gl X x)(hm:X.mg x=none)(hv:bootBuiltins x=some (.builtin id))(ha:PA X (e::es) t)(hn:x ≠ "__name__" := by decide)(hdb:(x == ("__debug__" : Str))=false:=by decide)
  (he:starEach (e::es) X.env=(false,eval e X.env)::starEach es X.env:=by rfl) (hpl:(backTo pos (starEach es X.env)).any (·.1)=false:=by rfl):PE X (.Call (.Name x p) (e::es) [] pos) (tCB r t):=by
 intro pins s σ H Q I h;refine wpAny_Call_Name_kw (ld_blt I hg hm hv ?_ hn hdb);exact PyProof.Rows.callWith_builtin1 (thn (ha pos pins s σ H _ I h) fun us s1 ⟨vs,H1,I1,r1,q1⟩=>hc pins s1 σ H1 vs us Q I1 r1 q1) he hpl
theorem ut(hc:yS X (.type T) r)(hg:Gl X x)(hm:X.mg x=none)(hv:bootBuiltins x=some (.type T))(ha:PA X (e::es) t)(hn:x ≠ "__name__" := by decide)(hdb:(x == ("__debug__" : Str))=false:=by decide)
  (he:starEach (e::es) X.env=(false,eval e X.env)::starEach es X.env:=by rfl) (hpl:(backTo pos (starEach es X.env)).any (·.1)=false:=by rfl):PE X (.Call (.Name x p) (e::es) [] pos) (tCB r t):=by
 intro pins s σ H Q I h;refine wpAny_Call_Name_kw (ld_blt I hg hm hv ?_ hn hdb);exact PyProof.Rows.callWith_type1 (thn (ha pos pins s σ H _ I h) fun us s1 ⟨vs,H1,I1,r1,q1⟩=>hc pins s1 σ H1 vs us Q I1 r1 q1) he hpl
end
end L2
namespace HT
open PySem PyProof.Rows
section
variable {prog:Program}{w:World}{A:Around}{E:Value->Shared->Prop}{s:Shared}
def sIx(n d:Nat):Option Int->Nat
 |none=>d
 |some v=>if v<0 then(v+(n:Int)).toNat else min v.toNat n
end
end HT
namespace L2
open PySem PySem.Spec PyProof.Rows
abbrev TO:=St->Hp->(Option Int->Hp->Prop)->Prop
def PO(X:Cx)(e:Option Expr)(t:TO):Prop :=
 ∀ (pins:List (Addr×Obj)) (s:Shared) (σ:St) (H:Hp) (Q:Option Int->Hp->Prop),Inv X pins σ H s->t σ H Q ->
  wpAny (model X.prog X.w) X.A (evalPart e X.env) (fun u s'=>∃ o H',Inv X pins σ H' s'/\IsPart u o/\Q o H') X.xe s
def YE:TO:=fun _ H Q=>Q none H
def VW(t:TE):TO:=fun σ H Q=>t σ H fun x H1=>∃ i,x=.int i/\Q (some i) H1
section
variable {X:Cx}{e:Expr}{te:TE}{lo hi:Option Expr}{tl th:TO}{pos p2:Pos}
theorem yj  : Bx (PO X none YE):=by
 refine⟨?_⟩;intro pins s σ H Q I h;rw[evalPart_none];exact wpAny_pure ⟨none,H,I,.none,h⟩
theorem w_po_some(h:Bx (PE X e te)):Bx (PO X (some e) (VW te)):=by
 have h:=h.of;refine⟨?_⟩;intro pins s σ H Q I hw;rw[evalPart_some];refine thn (h pins s σ H _ I hw) fun u s1 hq0=>?_;obtain⟨x,H1,I1,r1,q1⟩:=hq0;obtain⟨i,rfl,q⟩:=q1;obtain⟨t,rfl⟩:=r1;exact⟨some i,H1,I1,.int i t,q⟩
def SlR(X:Cx)(r:V->Option Int->Option Int->Hp->VK->Prop):Prop :=
 ∀ (pins:List (Addr×Obj)) (s:Shared) (σ:St) (H:Hp) (x:V) (v vl vu:Value) (lo hi:Option Int) (sl:Addr) (Q:VK),Inv X pins σ H s->RelV x v->s.heap.IsSliceOf sl vl vu .none->IsPart vl lo->IsPart vu hi->r x lo hi H Q ->
  ∃ T id,typeLookup (.type T) "__getitem__" = pure (some (.builtin id))/\s.TypeIs v T/\wpAny (model X.prog X.w) X.A (getItem v (.ref sl)) (EP X pins σ Q) X.xe s
def tSl(r:V->Option Int->Option Int->Hp->VK->Prop)(te:TE)(tl th:TO):TE:=fun σ H Q=>te σ H fun x H1=>tl σ H1 fun l H2=>th σ H2 fun u H3=>r x l u H3 Q
theorem zH{r:V->Option Int->Option Int->Hp->VK->Prop}(hr:SlR X r)(he:Bx (PE X e te))(hl:Bx (PO X lo tl))(hu:Bx (PO X hi th)):Bx (PE X (.Subscript e (.Slice lo hi none p2) pos) (tSl r te tl th)):=by
 have he:=he.of;have hl:=hl.of;have hu:=hu.of;refine⟨?_⟩;intro pins s σ H Q I h;refine Subscript_ (thn (he pins s σ H _ I h) fun v s1 hq0=>?_);obtain⟨x,H1,I1,r1,q1⟩:=hq0;refine wpAny_Slice (thn (hl pins s1 σ H1 _ I1 q1) fun vl s2 ⟨l,H2,I2,pl,q2⟩=>thn (hu pins s2 σ H2 _ I2 q2) fun vu s3 hq0=>?_);obtain⟨u,H3,I3,pu,q3⟩:=hq0;rw[evalPart_none];refine wpAny_pure ?_;have I4:Inv X pins σ H3 { s3 with heap:=s3.heap.push { cls:=.type "slice",data:=.fields #[vl,vu,.none] } }:=I3.kept (t':=s3.toks) fun b ob q=>Heap.get?_push_of_some _ q;obtain⟨T,id,hT,ht,hg⟩:=hr pins { s3 with heap:=s3.heap.push { cls:=.type "slice",data:=.fields #[vl,vu,.none] } } σ H3 x v vl vu l u s3.heap.objs.size Q I4 r1 (Heap.IsSliceOf.new ..) pl pu q3;show wpAny (model X.prog X.w) X.A (subscriptTail e (.Slice lo hi none p2) v (.ref s3.heap.objs.size)) (EP X pins σ Q) X.xe { s3 with heap:=s3.heap.push { cls:=.type "slice",data:=.fields #[vl,vu,.none] } };exact tail_any (ops:=[.ref s3.heap.objs.size,v]) ht hT hg (by with_unfolding_all rfl)
def cutV(xs:List V)(lo hi:Option Int):List V:=(xs.drop (HT.sIx xs.length 0 lo)).take (HT.sIx xs.length xs.length hi-HT.sIx xs.length 0 lo)
theorem yo(xs:List V)(lo hi:Option Int):(cutV xs lo hi).length<=xs.length:=by
 unfold cutV;rw[length_take,length_drop];omega
end
def ixN(n:Nat)(i:Int):Option Nat:=if 0<=i then(if i<n then some i.toNat else none) else if -(n:Int)<=i then some (i+n).toNat else none
def atI{α:Type}(xs:List α)(i:Int):Option α:=(ixN xs.length i).bind fun j=>xs[j]?
theorem UE{n:Nat}{i:Int}{j:Nat}(h:ixN n i=some j):seqIndex? i n=some j/\j<n/\-(n:Int)<=i/\i<n:=by
 unfold ixN at h;by_cases h0:0<=i
 ·rw[if_pos h0] at h
  by_cases h1:i<n
  ·rw[if_pos h1] at h
   have e:i.toNat=j:=Option.some.inj h;exact⟨by rw[seqIndex_of h0 h1,e],by omega,by omega,h1⟩
  ·rw[if_neg h1] at h;cases h
 ·rw[if_neg h0] at h
  by_cases h1 : -(n:Int)<=i
  ·rw[if_pos h1] at h
   have e:(i+n).toNat=j:=Option.some.inj h;exact⟨by rw[seqIndex_neg (by omega) h1,e],by omega,h1,by omega⟩
  ·rw[if_neg h1] at h;cases h
theorem XY{α:Type}{xs:List α}{i:Int}{v:α}(h:atI xs i=some v):∃ j,seqIndex? i xs.length=some j/\xs[j]?=some v/\j<xs.length/\-(xs.length:Int)<=i/\i<xs.length:=by
 unfold atI at h;cases e:ixN xs.length i with
 |none=>rw[e] at h;cases h
 |some j =>
  rw[e] at h;obtain⟨h1,h2,h3,h4⟩:=UE e;exact⟨j,h1,h,h2,h3,h4⟩
theorem zV{α:Type}{xs:List α}{j:Nat}{v:α}(h:xs[j]?=some v):atI xs (j:Int)=some v:=by
 have hj:j<xs.length:=(List.getElem?_eq_some_iff.mp h).1;have e:ixN xs.length (j:Int)=some j:=by
  unfold ixN;rw[if_pos (by omega),if_pos (by omega)];simp
 unfold atI;rw[e];exact h
def X7(b:Expr):Prop:=∀ o i,subscripted b false o i=operate [o,i] (getItem o i)
def IxR(X:Cx)(r:R2):Prop :=
 ∀ (value slice:Expr) (pins:List (Addr×Obj)) (s:Shared) (σ:St) (H:Hp) (x y:V) (v u:Value) (Q:VK),Inv X pins σ H s->RelV x v->RelV y u->r x y H Q ->
  subscripted slice false v u=operate [v,u] (getItem v u)->wpAny (model X.prog X.w) X.A (subscriptTail value slice v u) (EP X pins σ Q) X.xe s
def MtR(X:Cx)(id:String)(r:V->List V->Hp->VK->Prop):Prop :=
 ∀ (pins:List (Addr×Obj)) (s:Shared) (σ:St) (H:Hp) (x:V) (xs:List V) (v:Value) (us:List Value) (Q:VK),Inv X pins σ H s->RelV x v->Vals xs us->r x xs H Q ->
  wpAny (model X.prog X.w) X.A (call (.builtin id) (v::us)) (EP X pins σ Q) X.xe s
section
variable {X:Cx}{a b:Expr}{ta tb:TE}{pos:Pos}
theorem Ze{r:R2}(hr:IxR X r)(ha:PE X a ta)(hb:PE X b tb)(hs:X7 b):PE X (.Subscript a b pos) (tOp r ta tb):=by
 intro pins s σ H Q I h;exact Subscript_ (binT ha hb I h fun v u s2 x y H2 I2 rx ry q=>hr a b pins s2 σ H2 x y v u Q I2 rx ry q (hs _ _))
def zc0(K:W.Frag):R2:=fun x y H Q=>∃ p xs i v,x=.ref p/\y=.int i/\SqL K H p xs/\atI xs i=some v/\Q v H
def zdn(K:W.Frag):R2:=fun x y H Q=>∃ p xs i v,x=.ref p/\y=.int i/\SqT K H p xs/\atI xs i=some v/\Q v H
theorem zY:IxR X (zc0 X.K):=by
 intro value slice pins s σ H x y v u Q I rx ry h hs;obtain⟨p,xs,i,z,rfl,rfl,hq,he,q⟩:=h;cases rx;obtain⟨t,rfl⟩:=ry;obtain⟨its,r,pl,hz⟩:=I.list hq;obtain⟨j,h1,h2,h3,h4,h5⟩:=XY he;obtain⟨w,ew,rw'⟩:=r.get h2;have hl:=r.length;have hn:=Xq;have fin:EP X pins σ Q w s:=⟨z,H,I,rw',q⟩;by_cases h0:0<=i
 ·have hj:i.toNat=j:=by
   rw[seqIndex_of h0 h5] at h1;exact Option.some.inj h1
  exact item_listR pl.isList h0 (by omega) (by rw[hj];simpa using ew) fin hs
 ·have hj:(i+(its.toArray.size:Int)).toNat=j:=by
   rw[seqIndex_neg (by omega) h4] at h1;rw[size_toArray,<- hl];exact Option.some.inj h1
  exact subscriptTail_builtinR (x:=w) pl.isList.typeIs slot_list_getitem.lookup
   (wpAny_getItem_list_neg (Q:=fun r s'=>r=w/\EP X pins σ Q r s') pl.isList (by omega) (by rw[size_toArray]<;>omega) (by omega) (by rw[hj];simpa using ew) ⟨rfl,fin⟩) hs
theorem zX:IxR X (zdn X.K):=by
 intro value slice pins s σ H x y v u Q I rx ry h hs;obtain⟨p,xs,i,z,rfl,rfl,hq,he,q⟩:=h;cases rx;obtain⟨t,rfl⟩:=ry;obtain⟨its,r,pl,hz⟩:=I.tuple hq;obtain⟨j,h1,h2,h3,h4,h5⟩:=XY he;obtain⟨w,ew,rw'⟩:=r.get h2;have hl:=r.length;have hn:=Xq;have fin:EP X pins σ Q w s:=⟨z,H,I,rw',q⟩;exact subscriptTail_builtinR (x:=w) pl.typeIs slot_tuple_getitem.lookup
  (getItem_tuple (j:=j) (Q:=fun r s'=>r=w/\EP X pins σ Q r s') pl (by omega) (by omega) (by rw[size_toArray,<- hl];exact h1) (by simpa using ew) ⟨rfl,fin⟩) hs
theorem ui(lo hi:Option Int)(n:Nat):(sliceBounds lo hi none n).1=((HT.sIx n 0 lo:Nat):Int)/\(sliceBounds lo hi none n).2.1=((HT.sIx n n hi:Nat):Int)/\(sliceBounds lo hi none n).2.2=1:=by
 refine⟨?_,?_,rfl⟩
 ·cases lo with
  |none=>simp[sliceBounds,HT.sIx]
  |some i =>
   simp only[sliceBounds,HT.sIx,getD_none,show(1:Int)>0 by decide,if_true];by_cases h:i<0
   ·simp only[h,if_true]<;>omega
   ·simp only[h,if_false]<;>omega
 ·cases hi with
  |none=>simp[sliceBounds,HT.sIx]
  |some i =>
   simp only[sliceBounds,HT.sIx,getD_none,show(1:Int)>0 by decide,if_true];by_cases h:i<0
   ·simp only[h,if_true]<;>omega
   ·simp only[h,if_false]<;>omega
theorem vS(its:List Value)(lo hi:Option Int):slicePick its.toArray lo hi none=((its.drop (HT.sIx its.length 0 lo)).take (HT.sIx its.length its.length hi-HT.sIx its.length 0 lo)).toArray:=by
 obtain⟨h1,h2,h3⟩:=ui lo hi its.toArray.size;unfold slicePick;rw[h1,h2,h3];simp only[sliceRange_one,pick_run,size_toArray]<;>rfl
def zbV(K:W.Frag):V->Option Int->Option Int->Hp->VK->Prop:=fun x lo hi H Q=>∃ a xs,x=.ref a/\SqL K H a xs/\∀ p,H p=none->Q (.ref p) (upd H p (.lst (cutV xs lo hi)))
theorem yq:SlR X (zbV X.K):=by
 intro pins s σ H x v vl vu lo hi sl Q I rx hs pl pu h;obtain⟨a,xs,rfl,hx,q⟩:=h;cases rx;obtain⟨its,r,ht,hz⟩:=I.list hx;have hlen:=r.length;refine⟨"list",_,slot_list_getitem.lookup,ht.isList.typeIs,?_⟩;refine wpAny_getItem_list_slice ht.isList hs pl pu .none (by simp) ?_ (by rw[size_toArray]<;>omega);rw[vS,<- hlen];refine⟨.ref s.heap.objs.size,_,I.laid (t':=s.toks) (o:=.lst (cutV xs lo hi)) (fun b ob q=>Heap.get?_push_of_some _ q) (Nat.le_refl _) ?_,rfl,q _ (I.hok.fresh (Nat.le_refl _))⟩;exact⟨le_trans (yo xs lo hi) hz,_,0,(r.drop (HT.sIx xs.length 0 lo)).take (HT.sIx xs.length xs.length hi-HT.sIx xs.length 0 lo),Heap.get?_push_size _ rfl⟩
def w4:V->Bool
 |.non=>true
 |.bl _=>true
 |.int _=>true
 |.str _=>true
 |_=>false
def eqV:V->V->Bool
 |.non,.non=>true
 |.bl a,.bl b=>a == b
 |.bl a,.int b=>(if a then 1 else 0) == b
 |.int a,.bl b=>a == (if b then 1 else 0)
 |.int a,.int b=>a == b
 |.str a,.str b=>a == b
 |_,_=>false
theorem eqAt_V{A:Around}{s:Shared}{y x:V}{u v:Value}(ry:RelV y u)(rx:RelV x v)(fy:w4 y=true)(fx:w4 x=true):SeqAt.EqAt A s u v (eqV y x):=by
 cases y with
 |non =>
  cases ry;cases x with
  |non=>cases rx;exact SeqAt.EqAt.same _
  |bl b=>cases rx;exact SeqAt.EqAt.none_bool b
  |int b=>obtain⟨t,rfl⟩:=rx;exact SeqAt.EqAt.none_int b t
  |str b=>obtain⟨t,rfl⟩:=rx;exact SeqAt.EqAt.none_str b t
  |_=>exact absurd (show false=true from fx) Bool.false_ne_true
 |bl a =>
  cases ry;cases x with
  |non=>cases rx;exact SeqAt.EqAt.bool_none a
  |bl b=>cases rx;exact SeqAt.EqAt.bool_bool a b
  |int b=>obtain⟨t,rfl⟩:=rx;exact SeqAt.EqAt.bool_int a b t
  |str b=>obtain⟨t,rfl⟩:=rx;exact SeqAt.EqAt.bool_str a b t
  |_=>exact absurd (show false=true from fx) Bool.false_ne_true
 |int a =>
  obtain⟨t',rfl⟩:=ry;cases x with
  |non=>cases rx;exact SeqAt.EqAt.int_none a t'
  |bl b=>cases rx;exact SeqAt.EqAt.int_bool a t' b
  |int b=>obtain⟨t,rfl⟩:=rx;exact SeqAt.EqAt.int_int a t' b t
  |str b=>obtain⟨t,rfl⟩:=rx;exact SeqAt.EqAt.int_str a t' b t
  |_=>exact absurd (show false=true from fx) Bool.false_ne_true
 |str a =>
  obtain⟨t',rfl⟩:=ry;cases x with
  |non=>cases rx;exact SeqAt.EqAt.str_none a t'
  |bl b=>cases rx;exact SeqAt.EqAt.str_bool a t' b
  |int b=>obtain⟨t,rfl⟩:=rx;exact SeqAt.EqAt.str_int a t' b t
  |str b=>obtain⟨t,rfl⟩:=rx;exact SeqAt.EqAt.str_str a t' b t
  |_=>exact absurd (show false=true from fx) Bool.false_ne_true
 |_=>exact absurd (show false=true from fy) Bool.false_ne_true
def eqU(x:V)(u:Value):Bool:=match u with
 |.none=>eqV .non x
 |.bool b=>eqV (.bl b) x
 |.int i _=>eqV (.int i) x
 |.str z _=>eqV (.str z) x
 |_=>false
theorem VL{x y:V}{u:Value}(r:RelV y u)(f:w4 y=true):eqU x u=eqV y x:=by
 cases y with
 |non=>cases r;rfl
 |bl b=>cases r;rfl
 |int i=>obtain⟨t,rfl⟩:=r;rfl
 |str z=>obtain⟨t,rfl⟩:=r;rfl
 |_=>exact absurd (show false=true from f) Bool.false_ne_true
theorem ve{x:V}:∀ {xs:List V}{us:List Value},Vals xs us->xs.all w4=true->us.any (eqU x)=xs.any fun y=>eqV y x
 |_,_,.nil,_=>rfl
 |y::xs,u::us,.cons r t,f=>by
  rw[all_cons,and_eq_true] at f;rw[any_cons,any_cons,VL r f.1,ve t f.2]
theorem xP{A:Around}{s:Shared}{x:V}{v:Value}(rx:RelV x v)(fx:w4 x=true):∀ {xs:List V}{us:List Value},Vals xs us->xs.all w4=true->∀ u∈us,SeqAt.EqAt A s u v (eqU x u)
 |_,_,.nil,_=>fun u hu=>by cases hu
 |y::xs,u::us,.cons r t,f=>fun u' hu=>by
  rw[all_cons,and_eq_true] at f;rcases mem_cons.mp hu with rfl | hu
  ·rw[VL r f.1];exact eqAt_V r rx f.1 fx
  ·exact xP rx fx t f.2 u' hu
def inV(x:V)(xs:List V):Bool:=xs.any fun y=>eqV y x
def rIn(K:W.Frag)(neg:Bool):R2:=fun x y H Q=>∃ p xs,y=.ref p/\(SqL K H p xs\/SqT K H p xs)/\w4 x=true/\xs.all w4=true/\Q (.bl (if neg then !inV x xs else inV x xs)) H
theorem wP:OpR X (compareOp .In) (rIn X.K false):=by
 intro pins s σ H x y v u Q I rx ry h;obtain⟨p,xs,rfl,hq,fx,fs,q⟩:=h;cases ry;rcases hq with hq | hq
 ·obtain⟨its,r,pl,hz⟩:=I.list hq
  refine SeqAt.in_listAt (eqU x) pl.isList (fun w hw=>xP rx fx r fs w (by simpa using hw)) ⟨.bl _,H,I,rfl,?_⟩;rw[show its.toArray.any (eqU x)=its.any (eqU x) by simp,ve r fs];exact q
 ·obtain⟨its,r,pl,hz⟩:=I.tuple hq
  refine SeqAt.in_tupleAt (eqU x) pl (fun w hw=>xP rx fx r fs w (by simpa using hw)) ⟨.bl _,H,I,rfl,?_⟩;rw[show its.toArray.any (eqU x)=its.any (eqU x) by simp,ve r fs];exact q
theorem xr:OpR X (compareOp .NotIn) (rIn X.K true):=by
 intro pins s σ H x y v u Q I rx ry h;obtain⟨p,xs,rfl,hq,fx,fs,q⟩:=h;cases ry;rcases hq with hq | hq
 ·obtain⟨its,r,pl,hz⟩:=I.list hq
  refine SeqAt.notIn_listAt (eqU x) pl.isList (fun w hw=>xP rx fx r fs w (by simpa using hw)) ⟨.bl _,H,I,rfl,?_⟩;rw[show its.toArray.any (eqU x)=its.any (eqU x) by simp,ve r fs];exact q
 ·obtain⟨its,r,pl,hz⟩:=I.tuple hq
  refine SeqAt.notIn_tupleAt (eqU x) pl (fun w hw=>xP rx fx r fs w (by simpa using hw)) ⟨.bl _,H,I,rfl,?_⟩;rw[show its.toArray.any (eqU x)=its.any (eqU x) by simp,ve r fs];exact q
theorem zw:yS X (.builtin "len") (fun xs H Q=>∃ p ys,xs=[.ref p]/\(SqL X.K H p ys\/SqT X.K H p ys)/\Q (.int ys.length) H):=by
 intro pins s σ H xs us Q I r h;obtain⟨p,ys,rfl,hq,q⟩:=h;obtain⟨u,rfl,rx⟩:=uZ r;cases rx;have hn:=Xq;rcases hq with hq | hq
 ·obtain⟨its,r',pl,hz⟩:=I.list hq
  have hlen:=r'.length;exact Calls.call_len_list pl.isList (by simp only[size_toArray]<;>omega) ⟨.int ys.length,H,I.tok _,⟨s.toks+1,by rw[size_toArray,hlen]⟩,q⟩
 ·obtain⟨its,r',pl,hz⟩:=I.tuple hq
  have hlen:=r'.length;exact len_tuple pl (by simp only[size_toArray]<;>omega) ⟨.int ys.length,H,I.tok _,⟨s.toks+1,by rw[size_toArray,hlen]⟩,q⟩
theorem yF:yS X (.type "list") (fun xs H Q=>∃ p ys,xs=[.ref p]/\(SqL X.K H p ys\/SqT X.K H p ys)/\∀ l,H l=none->Q (.ref l) (upd H l (.lst ys))):=by
 intro pins s σ H xs us Q I r h;obtain⟨p,ys,rfl,hq,q⟩:=h;obtain⟨u,rfl,rx⟩:=uZ r;cases rx;have fin:∀ (its:List Value),Vals ys its->ys.length<=sizeLine->∀ (h':Heap) (c':Nat),(∀ b o',s.heap.get? b=some o'->h'.get? b=some o') ->
   h'.get? s.heap.objs.size=some { cls:=.type "list",dict:=none,data:=.seq its.toArray c',slots:=#[] }->EP X pins σ Q (.ref s.heap.objs.size) { s with heap:=h' }:=fun its r' hz h' c' kp e =>
  ⟨.ref s.heap.objs.size,_,I.laid (t':=s.toks) kp (Nat.le_refl _) (show ObjOk X.prog X.w _ h' _ (.lst ys) from⟨hz,its,c',r',e⟩),rfl,q _ (I.hok.fresh (Nat.le_refl _))⟩
 rcases hq with hq | hq
 ·obtain⟨its,r',pl,hz⟩:=I.list hq
  have hlen:=r'.length;obtain⟨o,ho,hc,n,hd⟩:=pl.isList;exact call_list_seq p (.inl rfl) ho hc hd (fun h' c' kp e=>fin its r' hz h' c' kp e) (by simp only[size_toArray]<;>omega)
 ·obtain⟨its,r',pl,hz⟩:=I.tuple hq
  have hlen:=r'.length;obtain⟨o,ho,hc,n,hd⟩:=pl;exact call_list_seq p (.inr rfl) ho hc hd (fun h' c' kp e=>fin its r' hz h' c' kp e) (by simp only[size_toArray]<;>omega)
theorem xk:yS X (.type "tuple") (fun xs H Q=>∃ p ys,xs=[.ref p]/\((SqL X.K H p ys/\∀ l,H l=none->Q (.ref l) (upd H l (.tup ys)))\/(SqT X.K H p ys/\Q (.ref p) H))):=by
 intro pins s σ H xs us Q I r h;obtain⟨p,ys,rfl,h⟩:=h;obtain⟨u,rfl,rx⟩:=uZ r;cases rx;rcases h with⟨hq,q⟩ | ⟨hq,q⟩
 ·obtain⟨its,r',pl,hz⟩:=I.list hq
  have hlen:=r'.length;refine call_tuple_list pl.isList (fun h' kp=>?_) (by simp only[size_toArray]<;>omega);have I1:Inv X pins σ H { s with heap:=h' }:=I.kept (t':=s.toks) kp;have I2:Inv X pins σ (upd H h'.objs.size (.tup ys)) { s with heap:=h'.push { cls:=.type "tuple",data:=.seq its.toArray } } :=
   I1.laid (t':=s.toks) (fun b o e=>Heap.get?_push_of_some _ e) (Nat.le_refl _) (show ObjOk X.prog X.w _ _ _ (.tup ys) from⟨hz,its,r',IsTup.new _ _⟩)
  exact⟨.ref h'.objs.size,_,I2,rfl,q _ (I1.hok.fresh (Nat.le_refl _))⟩
 ·obtain⟨its,r',pl,hz⟩:=I.tuple hq
  exact call_tuple_same pl ⟨.ref p,H,I,rfl,q⟩
def tyV(K:W.Frag)(T:String)(x:V)(H:Hp):Prop:=match x with
 |.str _=>T = "str"
 |.int _=>T = "int"
 |.ref p=>(T = "list" /\ ∃ xs,SqL K H p xs)\/(T = "tuple" /\ ∃ o,K.lookup p=some o/\o.cls=.type "tuple" /\ o.dict=none) \/
   (T = "dict" /\ ((∃ kvs,H p=some (.dK kvs))\/∃ kvs,H p=some (.dT kvs)))\/(T = "set" /\ ∃ S n,H p=some (.set S n))
 |_=>False
theorem UX{pins:List (Addr×Obj)}{σ:St}{H:Hp}{s:Shared}{T:String}{x:V}{v:Value}(I:Inv X pins σ H s)(r:RelV x v)(ty:tyV X.K T x H) :
  s.TypeIs v T/\∀ a,v=.ref a->∃ ob,s.heap.get? a=some ob/\ob.dict=none:=by
 cases x with
 |str z =>
  obtain⟨t,rfl⟩:=r;cases (show T = "str" from ty);exact⟨typeIs_str s z t,fun _ e=>nomatch e⟩
 |int i =>
  obtain⟨t,rfl⟩:=r;cases (show T = "int" from ty);exact⟨typeIs_int s i t,fun _ e=>nomatch e⟩
 |ref p =>
  cases r;rcases ty with⟨rfl,xs,hq⟩ | ⟨rfl,o,hk,hc,hd⟩ | ⟨rfl,hk⟩ | ⟨rfl,S,n,hk⟩
  ·obtain⟨its,_,pl,_⟩:=I.list hq
   refine⟨pl.isList.typeIs,fun a e=>?_⟩;cases e;obtain⟨o,n,e,c,hd,_⟩:=pl;exact⟨o,e,hd⟩
  ·refine⟨⟨o,I.kIn p o hk,hc⟩,fun a e=>?_⟩
   cases e;exact⟨o,I.kIn _ o hk,hd⟩
  ·have z:∃ o,s.heap.get? p=some o/\o.ExactDict:=by
    rcases hk with⟨kvs,hk⟩ | ⟨kvs,hk⟩
    ·obtain⟨_,_,_,_,o,_,_,e,ex,_⟩:=I.hok p _ hk
     exact⟨o,e,ex⟩
    ·obtain⟨_,_,_,_,o,_,_,e,ex,_⟩:=I.hok p _ hk
     exact⟨o,e,ex⟩
   obtain⟨o,e,ex⟩:=z;refine⟨⟨o,e,ex.1⟩,fun a e2=>?_⟩;cases e2;exact⟨o,e,ex.2.1⟩
  ·obtain⟨o,_,_,_,e,ex,_⟩:=I.hok p _ hk
   refine⟨⟨o,e,ex.1⟩,fun a e2=>?_⟩;cases e2;exact⟨o,e,ex.2.1⟩
 |_=>exact False.elim ty
def tBM(K:W.Frag)(T:String)(r:V->List V->Hp->VK->Prop)(to:TE)(t:TA):TE:=fun σ H Q=>to σ H fun x H1=>tyV K T x H1/\t σ H1 fun xs H2=>r x xs H2 Q
variable {o e:Expr}{es:List Expr}{to:TE}{t:TA}{name:Str}{apos cpos:Pos}{T id:String}{r:V->List V->Hp->VK->Prop}
theorem Um(pa:PlainAttrs T)(slot:Slot T name id)(hty:typeOf (.builtin id)=pure (.type "method_descriptor"))(hm:MtR X id r)(ho:PE X o to)(ha:PA X (e::es) t)
  (hbase:attributeBase o name X.env (eval o X.env)=eval o X.env:=by rfl)
  (hfew:((backTo cpos (starEach (e::es) X.env)).all (fun x=>!x.1)&&(backToKw cpos (keywordEach [] X.env)).all (fun x=>x.1.isSome)
   && decide ((e::es).length+([]:List Keyword).length+(if ([]:List Keyword).isEmpty then 0 else 1)<30))=true:=by rfl)
  (hline:(apos.endLine == cpos.line)=true:=by rfl) (hs:starEach (e::es) X.env=(false,eval e X.env)::starEach es X.env:=by rfl) (hplain:(backTo cpos (starEach es X.env)).any (·.1)=false:=by rfl) :
  PE X (.Call (.Attribute o name apos) (e::es) [] cpos) (tBM X.K T r to t):=by
 intro pins s σ H Q I h;refine wpAny_Call_method_late hbase hfew hline rfl (thn (ho pins s σ H _ I h) fun v s1 hq0=>?_);obtain⟨x,H1,I1,r1,ty,q1⟩:=hq0;obtain⟨h1,h2⟩:=UX I1 r1 ty;refine⟨T,id,pa,slot,hty,h1,h2,?_⟩;have hA:=ha cpos pins s1 σ H1 _ I1 q1;rw[hs] at hA ⊢;refine Calls.callWith_builtin (by show(false||(backTo cpos (starEach es X.env)).any (·.1))=false;rw[hplain]<;>rfl) (Calls.evalArgs_plain ?_);exact thn hA fun us s2 ⟨vs,H2,I2,r2,q2⟩=>hm pins s2 σ H2 x vs v us Q I2 r1 r2 q2
end
def MtM(X:Cx)(id:String)(r:V->List V->Hp->VK->Prop):Prop :=
 ∀ (pins:List (Addr×Obj)) (s:Shared) (σ:St) (H:Hp) (x:V) (xs:List V) (v:Value) (us:List Value) (Q:VK),Inv X pins σ H s->RelV x v->Vals xs us->r x xs H Q ->
  wpAny (model X.prog X.w) X.A (call (.builtin id) (v::us)) (EP X pins σ Q) X.xe s
theorem Vals.one:∀ {x:V}{us:List Value},Vals [x] us->∃ u,us=[u]/\RelV x u
 |_,_,.cons r .nil=>⟨_,rfl,r⟩
theorem Vals.two:∀ {x y:V}{us:List Value},Vals [x,y] us->∃ u v,us=[u,v]/\RelV x u/\RelV y v
 |_,_,_,.cons r (.cons q .nil)=>⟨_,_,rfl,r,q⟩
theorem Vals.eraseIdx:∀ {xs:List V}{us:List Value}(i:Nat),Vals xs us->Vals (xs.eraseIdx i) (us.eraseIdx i)
 |_,_,_,.nil=>.nil
 |_,_,0,.cons _ t=>t
 |_,_,i+1,.cons r t=>.cons r (Vals.eraseIdx i t)
theorem Vals.reverse{xs:List V}{us:List Value}(h:Vals xs us):Vals xs.reverse us.reverse:=by
 induction h with
 |nil=>exact .nil
 |cons r t ih=>rw[List.reverse_cons,List.reverse_cons];exact Vals.append ih (.cons r .nil)
theorem uy{α:Type}:∀ (l:List α) (i:Nat),(l.eraseIdx i).length<=l.length
 |[],_=>Nat.le_refl _
 |_::_,0=>le_succ _
 |_::r,i+1=>Nat.succ_le_succ (uy r i)
section
variable {X:Cx}{pins:List (Addr×Obj)}{σ:St}{H:Hp}{s:Shared}{l b:Addr}{xs ys zs:List V}
theorem Inv.lset{its its':List Value}{n:Nat}{f:Array Value->Array Value}{t':Nat}(I:Inv X pins σ H s)(hH:H l=some (.lst xs))
  (e:s.heap.get? l=some { cls:=.type "list",data:=.seq its.toArray n }) (hf:f its.toArray=its'.toArray) (hv:Vals ys its') (hz:ys.length<=sizeLine) :
  Inv X pins σ (upd H l (.lst ys)) { s with heap:=s.heap.update l (Obj.mapSeq f),toks:=t' }:=by
 have q:=PySem.IsL.update e f;rw[hf] at q;refine I.write (x:=l) (e:=l) (by rw[hH];exact trivial) (.inl rfl) (fun b' u hb hu=>(Heap.get?_update_other s.heap (Obj.mapSeq f) (Ne.symm hb)).trans hu) ⟨_,q⟩ ?_;exact⟨hz,its',_,hv,q⟩
theorem Inv.lnew{its:List Value}{t':Nat}(I:Inv X pins σ H s)(hv:Vals ys its)(hz:ys.length<=sizeLine) :
  Inv X pins σ (upd H s.heap.objs.size (.lst ys)) { s with heap:=s.heap.push { cls:=.type "list",data:=.seq its.toArray },toks:=t' } :=
 I.laid (fun _ _ q=>Heap.get?_push_of_some _ q) (Nat.le_refl _) ⟨hz,its,0,hv,Heap.get?_push_size _ rfl⟩
theorem Inv.fresh(I:Inv X pins σ H s):H s.heap.objs.size=none:=I.hok.fresh (Nat.le_refl _)
theorem Inv.lstM(I:Inv X pins σ H s)(hH:H l=some (.lst xs)):xs.length<=sizeLine/\∃ (its:List Value) (n:Nat),Vals xs its/\xs.length=its.length/\s.heap.get? l=some { cls:=.type "list",data:=.seq its.toArray n }:=by
 obtain⟨z,its,n,r,e⟩:=I.hok l _ hH;exact⟨z,its,n,r,r.length,e⟩
theorem Wv{n:Nat}(h:n<=sizeLine):Builtin.List.listTooLong n=false:=by
 unfold Builtin.List.listTooLong;exact decide_eq_false (by omega)
end
section
variable {X:Cx}
def Ug:V->List V->Hp->VK->Prop:=fun x vs H Q=>∃ l xs y,x=.ref l/\vs=[y]/\H l=some (.lst xs)/\xs.length<sizeLine/\Q .non (upd H l (.lst (xs++[y])))
theorem yc:MtM X "list.append" Ug:=by
 intro pins s σ H x vs v us Q I rx rv h;obtain⟨l,xs,y,rfl,rfl,hH,hz,q⟩:=h;cases rx;obtain⟨u,rfl,ru⟩:=rv.one;obtain⟨z,its,n,r,hl,e⟩:=I.lstM hH;refine call_meets F.slot_list_append ⟨_,e,rfl⟩ F.entry_list_append (F.args_list_append_2 _ _) (PySem.list_append l its.toArray n u (by rw[size_toArray];omega)) ⟨e,?_⟩;refine⟨.non,_,I.lset (its':=its++[u]) hH e (by simp) (r.append (.cons ru .nil)) ?_,rfl,q⟩;rw[length_append,length_singleton];omega
def Ue:V->List V->Hp->VK->Prop:=fun x vs H Q=>∃ l b xs zs,x=.ref l/\vs=[.ref b]/\H l=some (.lst xs)/\H b=some (.lst zs)/\xs.length+zs.length<=sizeLine/\Q .non (upd H l (.lst (xs++zs)))
theorem zaY:MtM X "list.extend" Ue:=by
 intro pins s σ H x vs v us Q I rx rv h;obtain⟨l,b,xs,zs,rfl,rfl,hH,hB,hz,q⟩:=h;cases rx;obtain⟨u,rfl,ru⟩:=rv.one;cases ru;obtain⟨z,its,n,r,hl,e⟩:=I.lstM hH;obtain⟨z2,its2,n2,r2,hl2,e2⟩:=I.lstM hB;have hsz:its.toArray.size+its2.toArray.size<=sizeLine:=by rw[size_toArray,size_toArray];omega
 have hlong:¬ (!its.toArray.isEmpty&&Builtin.List.listTooLong (its.toArray.size+its2.toArray.size))=true:=by
  rw[Wv hsz,Bool.and_false];exact Bool.false_ne_true
 refine call_meets F.slot_list_extend ⟨_,e,rfl⟩ F.entry_list_extend (F.args_list_extend_2 _ _)
  (AutoSeq1.list_extend_list_list_0 l its.toArray n b its2.toArray n2 hlong (by rw[size_toArray];omega) (by omega)) ⟨e,e2,?_⟩
 refine⟨.non,_,I.lset (its':=its++its2) hH e (by simp) (r.append r2) ?_,rfl,q⟩;rw[length_append];omega
def zau:V->List V->Hp->VK->Prop:=fun x vs H Q=>∃ l xs i k y,x=.ref l/\vs=[.int i]/\H l=some (.lst xs)/\-(2 ^ 63)<=i/\i<2 ^ 63/\seqIndex? i xs.length=some k/\xs[k]?=some y/\Q y (upd H l (.lst (xs.eraseIdx k)))
theorem ZR:MtM X "list.pop" zau:=by
 intro pins s σ H x vs v us Q I rx rv h;obtain⟨l,xs,i,k,y,rfl,rfl,hH,h1,h2,hk,hy,q⟩:=h;cases rx;obtain⟨u,rfl,ru⟩:=rv.one;obtain⟨t,rfl⟩:=ru;obtain⟨z,its,n,r,hl,e⟩:=I.lstM hH;obtain⟨w,hw,rw'⟩:=r.get hy;refine call_meets F.slot_list_pop ⟨_,e,rfl⟩ F.entry_list_pop (F.args_list_pop_2 _ _)
  (MeetsSeq.list_pop_at l its.toArray n i t k w (fitsIndex_both h1 h2) (by rw[size_toArray,<- hl];exact hk) (by rw[<- Array.getElem?_toList];exact hw) (by rw[size_toArray];omega)) ⟨e,?_⟩
 refine⟨y,_,I.lset (its':=its.eraseIdx k) hH e ?_ (r.eraseIdx k) ?_,rw',q⟩
 ·show its.toArray.eraseIdxIfInBounds k=(its.eraseIdx k).toArray
  rw[List.eraseIdxIfInBounds_toArray]
 ·have:=uy xs k
  omega
def zc3:R2:=fun x y H Q=>∃ l b xs zs,x=.ref l/\y=.ref b/\H l=some (.lst xs)/\H b=some (.lst zs)/\xs.length+zs.length<=sizeLine/\∀ p,H p=none->Q (.ref p) (upd H p (.lst (xs++zs)))
theorem yU:OpR X (binaryOp .Add) zc3:=by
 intro pins s σ H x y v u Q I rx ry h;obtain⟨l,b,xs,zs,rfl,rfl,hH,hB,hz,q⟩:=h;cases rx;cases ry;obtain⟨z,its,n,r,hl,e⟩:=I.lstM hH;obtain⟨z2,its2,n2,r2,hl2,e2⟩:=I.lstM hB;refine PySem.P.add_list e e2 ?_ (by rw[size_toArray,size_toArray];omega);have ea:its.toArray++its2.toArray=(its++its2).toArray:=by simp
 rw[ea];exact⟨.ref _,_,I.lnew (t':=s.toks) (r.append r2) (by rw[length_append];omega),rfl,q _ I.fresh⟩
end
section
variable {κ:Type} [DecidableEq κ]
def yG(kvs:List (κ×V))(k:κ):Option V:=(kvs.find? fun kv=>decide (kv.1=k)).map (·.2)
def putK(kvs:List (κ×V))(k:κ)(v:V):List (κ×V) :=
 if (kvs.any fun kv=>decide (kv.1=k))=true then kvs.map (fun kv=>if kv.1=k then(kv.1,v) else kv) else kvs++[(k,v)]
def w8(kvs:List (κ×V))(k:κ):List (κ×V):=kvs.filter fun kv=>decide (kv.1≠k)
theorem xL{p:κ×V}{r:List (κ×V)}{k:κ}(e:p.1=k):yG (p::r) k=some p.2:=by simp[yG,List.find?_cons,e]
theorem xM{p:κ×V}{r:List (κ×V)}{k:κ}(e:¬ p.1=k):yG (p::r) k=yG r k:=by simp[yG,List.find?_cons,e]
theorem yM(k:κ):∀ kvs:List (κ×V),(kvs.any fun kv=>decide (kv.1=k))=(yG kvs k).isSome
 |[]=>rfl
 |p::r=>by
  rw[any_cons];by_cases e:p.1=k
  ·simp only[xL e,decide_eq_true e,Bool.true_or,Option.isSome_some]
  ·rw[xM e,decide_eq_false e,Bool.false_or];exact yM k r
theorem yn(kvs:List (κ×V))(k:κ)(v:V):(putK kvs k v).length<=kvs.length+1:=by
 unfold putK
 split
 ·rw[length_map];omega
 ·rw[length_append,length_cons,length_nil];omega
theorem putK_new{kvs:List (κ×V)}{k:κ}(v:V)(h:yG kvs k=none):putK kvs k v=kvs++[(k,v)]:=by
 unfold putK;rw[yM,h];exact if_neg (by decide)
theorem RelO.isSome_eq{o:Option V}{u:Option Value}(r:RelO o u):o.isSome=u.isSome:=by
 cases o with
 |none=>cases u with
  |none=>rfl
  |some _=>exact(show False from r).elim
 |some _=>cases u with
  |none=>exact(show False from r).elim
  |some _=>rfl
theorem RelO.getD{o:Option V}{u:Option Value}{d:V}{d':Value}(r:RelO o u)(rd:RelV d d'):RelV (o.getD d) (u.getD d'):=by
 cases o with
 |none=>cases u with
  |none=>exact rd
  |some _=>exact(show False from r).elim
 |some _=>cases u with
  |none=>exact(show False from r).elim
  |some _=>exact r
theorem KV.val{kvs:List (κ×V)}{vs:List (κ×Value)}(r:KV kvs vs)(k:κ):RelO (yG kvs k) (valueAt vs k):=by
 unfold KV at r
 induction r with
 |nil=>exact True.intro
 | @cons p q ps qs h t ih =>
  obtain⟨h1,h2⟩:=h;by_cases e:p.1=k
  ·have e':q.1=k:=h1.symm.trans e
   have b:valueAt (q::qs) k=some q.2:=by simp[valueAt,List.find?_cons,e']
   rw[xL e,b];exact h2
  ·have e':¬ q.1=k:=fun z=>e (h1.trans z)
   have b:valueAt (q::qs) k=valueAt qs k:=by simp[valueAt,List.find?_cons,e']
   rw[xM e,b];exact ih
theorem KV.any{kvs:List (κ×V)}{vs:List (κ×Value)}(r:KV kvs vs)(k:κ):(kvs.any fun kv=>decide (kv.1=k))=vs.any fun kv=>decide (kv.1=k):=by
 unfold KV at r
 induction r with
 |nil=>rfl
 |cons h t ih=>rw[any_cons,any_cons,ih,h.1]
theorem KV.repl{kvs:List (κ×V)}{vs:List (κ×Value)}(r:KV kvs vs)(k:κ){y:V}{u:Value}(ry:RelV y u) :
  KV (kvs.map fun kv=>if kv.1=k then(kv.1,y) else kv) (vs.map fun kv=>if kv.1=k then(kv.1,u) else kv):=by
 unfold KV at r ⊢
 induction r with
 |nil=>exact .nil
 | @cons p q ps qs h t ih =>
  rw[map_cons,map_cons];refine .cons ?_ ih;obtain⟨h1,h2⟩:=h;by_cases e:p.1=k
  ·rw[if_pos e,if_pos (h1.symm.trans e)];exact⟨h1,ry⟩
  ·rw[if_neg e,if_neg (fun z=>e (h1.trans z))];exact⟨h1,h2⟩
theorem KV.put{kvs:List (κ×V)}{vs:List (κ×Value)}(r:KV kvs vs)(k:κ){y:V}{u:Value}(ry:RelV y u):KV (putK kvs k y) (stored vs k u):=by
 unfold putK stored;rw[r.any k];by_cases e:(vs.any fun kv=>decide (kv.1=k))=true
 ·rw[if_pos e,if_pos e];exact r.repl k ry
 ·rw[if_neg e,if_neg e];exact Paired.snoc r ⟨rfl,ry⟩
theorem KV.drop{kvs:List (κ×V)}{vs:List (κ×Value)}(r:KV kvs vs)(k:κ):KV (w8 kvs k) (without vs k):=by
 unfold KV at r ⊢;unfold w8 without
 induction r with
 |nil=>exact .nil
 | @cons p q ps qs h t ih =>
  obtain⟨h1,h2⟩:=h;rw[List.filter_cons,List.filter_cons];by_cases e:p.1=k
  ·have a:¬ decide (p.1≠k)=true:=by simp[e]
   have b:¬ decide (q.1≠k)=true:=by simp[h1.symm.trans e]
   rw[if_neg a,if_neg b];exact ih
  ·have e':¬ q.1=k:=fun z=>e (h1.trans z)
   have a:decide (p.1≠k)=true:=by simp[e]
   have b:decide (q.1≠k)=true:=by simp[e']
   rw[if_pos a,if_pos b];exact .cons ⟨h1,h2⟩ ih
theorem KV.length{kvs:List (κ×V)}{vs:List (κ×Value)}(r:KV kvs vs):kvs.length=vs.length:=Paired.length r
theorem v0(kvs:List (κ×V))(k:κ):(w8 kvs k).length<=kvs.length:=length_filter_le _ _
end
theorem wv{P:Program}{w:World}{k:Key}{u:Value}(r:RelV (kV k) u):(zv P w).is k u=true:=by
 cases k with
 |inl i=>obtain⟨t,e⟩:=(show ∃ t,u=Value.int i t from r);subst e;exact Zl P w i t
 |inr x=>obtain⟨t,e⟩:=(show ∃ t,u=Value.str x t from r);subst e;exact Zk P w x t
theorem uC{P:Program}{w:World}:∀ {ks:List Key}{us:List Value},Vals (ks.map kV) us->ItemsAre (zv P w) ks us
 |[],_,r=>by rw[map_nil] at r;cases r;exact .nil
 |k::ks,_,r=>by
  rw[map_cons] at r;cases r with
  |cons h t=>exact .cons (wv h) (uC t)
abbrev KT(H:Hp):List (List Key×V)->List (List Key×Addr×Value)->Prop:=Paired fun p q=>p.1=q.1/\H q.2.1=some (.tup (p.1.map kV))/\RelV p.2 q.2.2
theorem KT.val{H:Hp}{kvs:List (List Key×V)}{xs:List (List Key×Addr×Value)}(r:KT H kvs xs)(k:List Key):RelO (yG kvs k) ((atKey xs k).map (·.2)):=by
 induction r with
 |nil=>exact True.intro
 | @cons p q ps qs h t ih =>
  obtain⟨h1,_,h2⟩:=h;by_cases e:p.1=k
  ·have e':q.1=k:=h1.symm.trans e
   have b:atKey (q::qs) k=some q.2:=by simp[atKey,List.find?_cons,e']
   rw[xL e,b];exact h2
  ·have e':¬ q.1=k:=fun z=>e (h1.trans z)
   have b:atKey (q::qs) k=atKey qs k:=by simp[atKey,List.find?_cons,e']
   rw[xM e,b];exact ih
theorem KT.repl{H:Hp}{kvs:List (List Key×V)}{xs:List (List Key×Addr×Value)}(r:KT H kvs xs)(k:List Key){y:V}{u:Value}(ry:RelV y u) :
  KT H (kvs.map fun kv=>if kv.1=k then(kv.1,y) else kv) (xs.map (putAt k u)):=by
 induction r with
 |nil=>exact .nil
 | @cons p q ps qs h t ih =>
  rw[map_cons,map_cons];refine .cons ?_ ih;obtain⟨h1,h2,h3⟩:=h;unfold putAt;by_cases e:p.1=k
  ·rw[if_pos e,if_pos (h1.symm.trans e)];exact⟨h1,h2,ry⟩
  ·rw[if_neg e,if_neg (fun z=>e (h1.trans z))];exact⟨h1,h2,h3⟩
theorem KT.put{H:Hp}{kvs:List (List Key×V)}{xs:List (List Key×Addr×Value)}(r:KT H kvs xs)(k:List Key){b:Addr}{y:V}{u:Value}(hb:H b=some (.tup (k.map kV)))(ry:RelV y u) :
  KT H (putK kvs k y) (storedH xs k b u):=by
 have e:(kvs.any fun kv=>decide (kv.1=k))=(atKey xs k).isSome:=by
  rw[yM,(r.val k).isSome_eq,isSome_map]
 unfold putK storedH;rw[e];by_cases q:(atKey xs k).isSome=true
 ·rw[if_pos q,if_pos q];exact r.repl k ry
 ·rw[if_neg q,if_neg q];exact Paired.snoc r ⟨rfl,hb,ry⟩
theorem KT.keeps{H H':Hp}{kvs:List (List Key×V)}{xs:List (List Key×Addr×Value)}(r:KT H kvs xs)(ht:∀ b ys,H b=some (.tup ys)->H' b=some (.tup ys)):KT H' kvs xs :=
 Paired.mapP r fun _ _ z=>⟨z.1,ht _ _ z.2.1,z.2.2⟩
section
variable {P:Program}{w:World}{H:Hp}{h:Heap}{a:Addr}
theorem zar{u:HO}(ok:HOk P w H h)(e:Rd H a u):ObjOk P w H h a u:=e.ok ok
theorem vj{kvs:List (Key×V)}(ok:HOk P w H h)(e:Rd H a (.dK kvs)):kvs.length<=sizeLine/\(a == sysModules)=false/\∃ vs,KV kvs vs/\h.DictOf (zv P w) a vs :=
 show ObjOk P w H h a (.dK kvs) from zar ok e
theorem vk{kvs:List (Key×V)}(ok:HOk P w H h)(e:H a=some (.dK kvs)):kvs.length<=sizeLine/\(a == sysModules)=false/\∃ vs,KV kvs vs/\h.DictOf (zv P w) a vs:=vj ok (.inl e)
theorem xD{ks:List Key}(ok:HOk P w H h)(e:H a=some (.tup (ks.map kV))):(tupleKind (zv P w)).is h ks a:=by
 obtain⟨_,its,r,o,h1,h2,n,h3⟩:=(show ObjOk P w H h a (.tup (ks.map kV)) from ok a _ e);exact⟨o,its.toArray,n,h1,h2,h3,by simpa using uC r⟩
theorem vi{kvs:List (List Key×V)}(ok:HOk P w H h)(e:Rd H a (.dT kvs)):kvs.length<=sizeLine/\(a == sysModules)=false /\
  ∃ xs,KT H kvs xs/\h.DictOfH (tupleKind (zv P w)) a xs:=by
 obtain⟨z,y,xs,r,o,es,ep,h1,h2,h3,h4,h5⟩:=(show ObjOk P w H h a (.dT kvs) from zar ok e);refine⟨z,y,xs,r,o,es,ep,h1,h2,h3,h4,fun x hx=>?_,h5⟩;have all:∀ {l:List (List Key×V)}{m:List (List Key×Addr×Value)},KT H l m->∀ x∈m,(tupleKind (zv P w)).is h x.1 x.2.1:=by
  intro l m q
  induction q with
  |nil=>intro x hx;exact nomatch hx
  | @cons p q ps qs hq t ih =>
   intro x hx;rcases mem_cons.mp hx with e | hx
   ·subst e
    exact xD ok (by rw[<- hq.1];exact hq.2.1)
   ·exact ih x hx
 exact all r x hx
theorem XM{kvs:List (List Key×V)}(ok:HOk P w H h)(e:H a=some (.dT kvs)):kvs.length<=sizeLine/\(a == sysModules)=false /\
  ∃ xs,KT H kvs xs/\h.DictOfH (tupleKind (zv P w)) a xs:=vi ok (.inl e)
end
def DGet(H:Hp)(a:Addr)(y:V)(r:Option V):Prop :=
 (∃ kvs k,Rd H a (.dK kvs)/\y=kV k/\r=yG kvs k)\/∃ kvs k b,Rd H a (.dT kvs)/\y=.ref b/\H b=some (.tup (k.map kV))/\r=yG kvs k
def DPut(H:Hp)(a:Addr)(y v:V)(H':Hp):Prop :=
 (∃ kvs k,H a=some (.dK kvs)/\y=kV k/\kvs.length<sizeLine/\H'=upd H a (.dK (putK kvs k v))) \/
 ∃ kvs k b,H a=some (.dT kvs)/\y=.ref b/\H b=some (.tup (k.map kV))/\kvs.length<sizeLine/\H'=upd H a (.dT (putK kvs k v))
theorem DGet.k{H:Hp}{a:Addr}{kvs:List (Key×V)}{k:Key}(e:H a=some (.dK kvs)):DGet H a (kV k) (yG kvs k):=.inl ⟨kvs,k,.inl e,rfl,rfl⟩
theorem DGet.t{H:Hp}{a b:Addr}{kvs:List (List Key×V)}{k:List Key}(e:H a=some (.dT kvs))(eb:H b=some (.tup (k.map kV))):DGet H a (.ref b) (yG kvs k):=.inr ⟨kvs,k,b,.inl e,rfl,eb,rfl⟩
theorem DPut.k{H:Hp}{a:Addr}{kvs:List (Key×V)}{k:Key}{v:V}(e:H a=some (.dK kvs))(hl:kvs.length<sizeLine):DPut H a (kV k) v (upd H a (.dK (putK kvs k v))):=.inl ⟨kvs,k,e,rfl,hl,rfl⟩
theorem DPut.t{H:Hp}{a b:Addr}{kvs:List (List Key×V)}{k:List Key}{v:V}(e:H a=some (.dT kvs))(eb:H b=some (.tup (k.map kV)))(hl:kvs.length<sizeLine) :
  DPut H a (.ref b) v (upd H a (.dT (putK kvs k v))):=.inr ⟨kvs,k,b,e,rfl,eb,hl,rfl⟩
section
variable {X:Cx}{pins:List (Addr×Obj)}{σ:St}{H:Hp}{s:Shared}{a:Addr}{y v:V}{u r:Value}{o:Option V}{A:Around}{E:Value->Shared->Prop}
theorem Inv.big(I:Inv X pins σ H s):sysModules<s.heap.objs.size:=by
 have h:mainGlobals<s.heap.objs.size:=(I.mod.glob.keeps I.bk).lt;exact lt_trans (by decide) h
theorem XR{Q:Value->Shared->Prop}(hu:A.units+1<cLine)(I:Inv X pins σ H s)(g:DGet H a y (some v))(ry:RelV y u)(h:∀ w' s',Inv X pins σ H s'->RelV v w'->Q w' s') :
  wpAny (model X.prog X.w) A (getItem (.ref a) u) Q E s:=by
 rcases g with⟨kvs,k,e,ey,l⟩ | ⟨kvs,k,b,e,ey,eb,l⟩
 ·subst ey
  obtain⟨z,hd,vs,rel,dd⟩:=vj I.hok e;obtain⟨w',hw,rw'⟩:=RelO.some_of (v:=v) (o:=valueAt vs k) (by rw[l];exact rel.val k);exact wpAny_getItem_of (wv ry) dd.mapOf hw (h w' _ (I.tok _) rw')
 ·subst ey
  cases (show u=Value.ref b from ry);obtain⟨z,hd,xs,rel,dd⟩:=vi I.hok e;obtain⟨w',hw,rw'⟩:=RelO.some_of (v:=v) (o:=(atKey xs k).map (·.2)) (by rw[l];exact rel.val k);obtain⟨p,hp,hp2⟩:=map_eq_some_iff.mp hw;refine wpAny_getItem_heap (tupleKind_room_in1 hu) (xD I.hok eb) dd hp ?_;rw[hp2];exact h w' _ (I.tok _) rw'
theorem zdu{Q:Value->Shared->Prop}(hu:A.units+1<cLine)(I:Inv X pins σ H s)(g:DGet H a y o)(ry:RelV y u)(h:∀ s',Inv X pins σ H s'->Q (.bool o.isSome) s') :
  wpAny (model X.prog X.w) A (compareOp .In u (.ref a)) Q E s:=by
 rcases g with⟨kvs,k,e,ey,l⟩ | ⟨kvs,k,b,e,ey,eb,l⟩
 ·subst ey
  obtain⟨z,hd,vs,rel,dd⟩:=vj I.hok e;refine wpAny_in_of (wv ry) hd dd.mapOf ?_;rw[<- (rel.val k).isSome_eq,<- l];exact h _ (I.tok _)
 ·subst ey
  cases (show u=Value.ref b from ry);obtain⟨z,hd,xs,rel,dd⟩:=vi I.hok e;refine wpAny_in_heap (tupleKind_room_in1 hu) (xD I.hok eb) hd dd ?_;have q:=(rel.val k).isSome_eq;rw[isSome_map] at q;rw[<- q,<- l];exact h _ (I.tok _)
theorem UJ{Q:Value->Shared->Prop}(hu:A.units+1<cLine)(I:Inv X pins σ H s)(g:DGet H a y o)(ry:RelV y u)(h:∀ s',Inv X pins σ H s'->Q (.bool (!o.isSome)) s') :
  wpAny (model X.prog X.w) A (compareOp .NotIn u (.ref a)) Q E s:=by
 rcases g with⟨kvs,k,e,ey,l⟩ | ⟨kvs,k,b,e,ey,eb,l⟩
 ·subst ey
  obtain⟨z,hd,vs,rel,dd⟩:=vj I.hok e;refine wpAny_notIn_of (wv ry) hd dd.mapOf ?_;rw[<- (rel.val k).isSome_eq,<- l];exact h _ (I.tok _)
 ·subst ey
  cases (show u=Value.ref b from ry);obtain⟨z,hd,xs,rel,dd⟩:=vi I.hok e;refine wpAny_notIn_heap (tupleKind_room_in1 hu) (xD I.hok eb) hd dd ?_;have q:=(rel.val k).isSome_eq;rw[isSome_map] at q;rw[<- q,<- l];exact h _ (I.tok _)
theorem yX{h':Heap}{t':Nat}{ob:HO}(I:Inv X pins σ H s)(mu:Mut (H a))(hs:Heap.SameBut a s.heap h')(he:∃ q,h'.get? a=some q)(new:ObjOk X.prog X.w (upd H a ob) h' a ob) :
  Inv X pins σ (upd H a ob) { s with heap:=h',toks:=t' } :=
 I.write (x:=a) (e:=a) mu (.inl rfl) (fun b q hb z=>(hs.2 b hb).trans z) he new
theorem wn{P:Program}{w:World}{H':Hp}{h':Heap}{kvs:List (Key×V)}{vs:List (Key×Value)}(z:kvs.length<=sizeLine)(hd:(a == sysModules)=false)(rel:KV kvs vs)(dd:h'.DictOf (zv P w) a vs) :
  ObjOk P w H' h' a (.dK kvs):=⟨z,hd,vs,rel,dd⟩
theorem uI{H':Hp}{Q:Unit->Shared->Prop}(hu:A.units+1<cLine)(I:Inv X pins σ H s)(g:DPut H a y v H')(ry:RelV y u)(rv:RelV v r)(h:∀ s',Inv X pins σ H' s'->Q () s') :
  wpAny (model X.prog X.w) A (setItem (.ref a) u r) Q E s:=by
 rcases g with⟨kvs,k,e,ey,l,eH⟩ | ⟨kvs,k,b,e,ey,eb,l,eH⟩
 ·subst ey eH
  obtain⟨z,hd,vs,rel,dd⟩:=vk I.hok e;have hz:vs.length<=sizeLine:=by rw[<- rel.length];exact z
  have hl:(putK kvs k v).length<=sizeLine:=by have:=yn kvs k v;omega
  refine wpAny_setItem_pairs (hsz:=hz) (wv ry) dd fun h' dd' hs=>h _ ?_;have he:∃ q,h'.get? a=some q:=let ⟨q,_,_,hq,_⟩:=dd';⟨q,hq⟩
  exact yX I (by rw[e];exact True.intro) hs he (wn hl hd (rel.put k rv) dd')
 ·subst ey eH
  cases (show u=Value.ref b from ry);obtain⟨z,hd,xs,rel,dd⟩:=XM I.hok e;have hz:xs.length<=sizeLine:=by rw[<- Paired.length rel];exact z
  have hl:(putK kvs k v).length<=sizeLine:=by have:=yn kvs k v;omega
  refine wpAny_setItem_heap (hsz:=hz) (tupleKind_room_in1 hu) (xD I.hok eb) dd fun h' dd' hs=>h _ ?_;obtain⟨q,es,ep,hq,h2,h3,h4,_,h5⟩:=dd';refine yX I (by rw[e];exact True.intro) hs ⟨q,hq⟩ ⟨hl,hd,_,(rel.put k eb rv).keeps fun c ys ec=>?_,q,es,ep,hq,h2,h3,h4,h5⟩;rw[upd_ne (Uv ec e (fun z=>nomatch z))];exact ec
end
section
variable {X:Cx}{pins:List (Addr×Obj)}{σ:St}{H:Hp}{s:Shared}{a:Addr}{kvs:List (Key×V)}{k:Key}{u:Value}{A:Around}{E:Value->Shared->Prop}
theorem zbj{Q:Unit->Shared->Prop}(I:Inv X pins σ H s)(e:H a=some (.dK kvs))(ry:RelV (kV k) u)(l:(yG kvs k).isSome=true)(h:∀ s',Inv X pins σ (upd H a (.dK (w8 kvs k))) s'->Q () s') :
  wpAny (model X.prog X.w) A (delItem (.ref a) u) Q E s:=by
 obtain⟨z,hd,vs,rel,dd⟩:=vk I.hok e;refine wpAny_delItem_slot dd.typeIs (by decide) PySem.F.slot_dict_delitem
  (call_meetsIn PySem.F.slot_dict_delitem dd.typeIs PySem.F.entry_dict_delitem (PySem.F.args_dict_delitem_2 _ _) (meets_dict_delitem_pairs (zv X.prog X.w) a (wv ry)) ⟨vs,dd,by rw[<- rel.length];exact z,by rw[<- (rel.val k).isSome_eq];exact l,fun h' dd' hs=>h _ ?_⟩)
 have he:∃ q,h'.get? a=some q:=let ⟨q,_,_,hq,_⟩:=dd';⟨q,hq⟩
 exact yX I (by rw[e];exact True.intro) hs he (wn (le_trans (v0 kvs k) z) hd (rel.drop k) dd')
theorem zcs{v:V}{more:List Value}{Q:Value->Shared->Prop}(I:Inv X pins σ H s)(e:H a=some (.dK kvs))(ry:RelV (kV k) u)(l:yG kvs k=some v)(hm:more=[]\/∃ x,more=[x])
  (h:∀ w' s',Inv X pins σ (upd H a (.dK (w8 kvs k))) s'->RelV v w'->Q w' s'):wpAny (model X.prog X.w) A (call (.builtin "dict.pop") (.ref a::u::more)) Q E s:=by
 obtain⟨z,hd,vs,rel,dd⟩:=vk I.hok e;obtain⟨w',hw,rw'⟩:=RelO.some_of (v:=v) (o:=valueAt vs k) (by rw[<- l];exact rel.val k);have hp:(keyPart u).isSome=true:=by
  cases k with
  |inl i=>obtain⟨t,q⟩:=(show ∃ t,u=Value.int i t from ry);subst q;rfl
  |inr x=>obtain⟨t,q⟩:=(show ∃ t,u=Value.str x t from ry);subst q;rfl
 have ha:argsOk "dict.pop" ⟨.ref a::u::more,[]⟩:=by
  rcases hm with q | ⟨x,q⟩
  ·subst q;exact PySem.F.args_dict_pop_2 _ _
  ·subst q;exact PySem.F.args_dict_pop_3 _ _ _
 refine call_meetsIn PySem.F.slot_dict_pop dd.typeIs PySem.F.entry_dict_pop ha (meets_dict_pop_there (zv X.prog X.w) a (wv ry) more hm hp)
  ⟨vs,w',dd,by rw[<- rel.length];exact z,hw,fun h' dd' hs=>h w' _ ?_ rw'⟩
 have he:∃ q,h'.get? a=some q:=let ⟨q,_,_,hq,_⟩:=dd';⟨q,hq⟩
 exact yX I (by rw[e];exact True.intro) hs he (wn (le_trans (v0 kvs k) z) hd (rel.drop k) dd')
theorem zct{Q:Value->Shared->Prop}(I:Inv X pins σ H s)(e:Rd H a (.dK kvs))(h:∀ t s',Inv X pins σ H s'->Q (.int kvs.length t) s'):wpAny (model X.prog X.w) A (call (.builtin "len") [.ref a]) Q E s:=by
 obtain⟨z,hd,vs,rel,dd⟩:=vj I.hok e;refine call_len_dict hd dd (by rw[<- rel.length];rw[sizeLine_eq] at z;omega) ?_;rw[<- rel.length];exact h _ _ (I.tok _)
end
def zcx(i:Expr):Prop:=∀ ov iv,subscripted i false ov iv=operate [ov,iv] (getItem ov iv)
theorem subD_of{prog:Program}{w:World}{A:Around}{E:Value->Shared->Prop}{s:Shared}{env:Env}{value slice:Expr}{pos:Pos}{T id:String}{Q:Value->Shared->Prop}
  (hl:typeLookup (.type T) "__getitem__" = pure (some (.builtin id))) (hs:zcx slice)
  (h:wpAny (model prog w) A (eval value env) (fun o s₁=>wpAny (model prog w) A (eval slice env) (fun i s₂=>s₂.TypeIs o T/\wpAny (model prog w) A (getItem o i) Q E s₂) E s₁) E s) :
  wpAny (model prog w) A (eval (.Subscript value slice pos) env) Q E s:=by
 refine Subscript_ (wpAny_mono h (fun o s₁ h₁=>wpAny_mono h₁ (fun i s₂ h₂=>?_) fun _ _ x=>x) fun _ _ x=>x);obtain⟨hT,h₂⟩:=h₂;unfold subscriptTail;refine wpAny_bind ?_;rw[getitemInPython_of_ne hT.not_modules];refine wpAny_bind (wpAny_specialOf hT hl ?_);have fin:wpAny (model prog w) A (subscripted slice false o i) (fun r s₃=>wpAny (model prog w) A (letTemporaryGo value o r >>= fun _=>pure r) Q E s₃) E s₂:=by
  rw[hs o i];exact wpAny_operating (wpAny_mono h₂ (fun r s₃ h₃=>wpAny_bind (wpAny_letTemporaryGo (wpAny_pure h₃))) fun _ _ x=>x)
 first
  |exact wpAny_pure (wpAny_bind fin)
  |exact wpAny_bind (wpAny_pure (wpAny_bind fin))
  |exact wpAny_bind fin
theorem Zv{X:Cx}{pins:List (Addr×Obj)}{σ:St}{H:Hp}{s:Shared}{a:Addr}{y:V}{o:Option V}(I:Inv X pins σ H s)(g:DGet H a y o):s.TypeIs (.ref a) "dict" := by
 rcases g with⟨kvs,k,e,_,_⟩ | ⟨kvs,k,b,e,_,_,_⟩
 ·obtain⟨_,_,vs,_,dd⟩:=vj I.hok e
  exact dd.typeIs
 ·obtain⟨_,_,xs,_,dd⟩:=vi I.hok e
  exact dd.typeIs
def zab(td ty:TE):TE:=fun σ H Q=>td σ H fun x H1=>ty σ H1 fun y H2=>∃ a v,x=.ref a/\DGet H2 a y (some v)/\Q v H2
def zcE(ty td:TE):TE:=fun σ H Q=>ty σ H fun y H1=>td σ H1 fun x H2=>∃ a o,x=.ref a/\DGet H2 a y o/\Q (.bl o.isSome) H2
def VY(ty td:TE):TE:=fun σ H Q=>ty σ H fun y H1=>td σ H1 fun x H2=>∃ a o,x=.ref a/\DGet H2 a y o/\Q (.bl (!o.isSome)) H2
def zan(td ty tv:TE):TS:=fun D σ H=>tv σ H fun v H1=>td σ H1 fun x H2=>ty σ H2 fun y H3=>∃ a H4,x=.ref a/\DPut H3 a y v H4/\D.nx σ H4
section
variable {X:Cx}{o i e value:Expr}{pos pos' tpos:Pos}{td ty tv:TE}
theorem Zg(hu:X.A.units+1<cLine)(ho:PE X o td)(hi:PE X i ty)(hs:zcx i):PE X (.Subscript o i pos) (zab td ty):=by
 intro pins s σ H Q I h;refine subD_of PySem.F.slot_dict_getitem.lookup hs (thn (ho pins s σ H _ I h) fun u s1 ⟨x,H1,I1,rx,q1⟩=>thn (hi pins s1 σ H1 _ I1 q1) fun iv s2 hq0=>?_);obtain⟨y,H2,I2,ry,a,v,ex,g,q2⟩:=hq0;subst ex;obtain rfl:u=Value.ref a:=rx;exact⟨Zv I2 g,XR hu I2 g ry fun w' s3 I3 rw'=>⟨v,H2,I3,rw',q2⟩⟩
theorem Vs(hu:X.A.units+1<cLine)(hi:PE X i ty)(ho:PE X o td):PC X .In i o (zcE ty td):=by
 intro pins s σ H Q I h;refine thn (hi pins s σ H _ I h) fun iv s1 ⟨y,H1,I1,ry,q1⟩=>thn (ho pins s1 σ H1 _ I1 q1) fun u s2 hq0=>?_;obtain⟨x,H2,I2,rx,a,ov,ex,g,q2⟩:=hq0;subst ex;obtain rfl:u=Value.ref a:=rx;exact zdu hu I2 g ry fun s3 I3=>⟨.bl ov.isSome,H2,I3,rfl,q2⟩
theorem wJ(hu:X.A.units+1<cLine)(hi:Bx (PE X i ty))(ho:Bx (PE X o td)):Bx (PC X .NotIn i o (VY ty td)):=by
 have hi:=hi.of;have ho:=ho.of;refine⟨?_⟩;intro pins s σ H Q I h;refine thn (hi pins s σ H _ I h) fun iv s1 ⟨y,H1,I1,ry,q1⟩=>thn (ho pins s1 σ H1 _ I1 q1) fun u s2 hq0=>?_;obtain⟨x,H2,I2,rx,a,ov,ex,g,q2⟩:=hq0;subst ex;obtain rfl:u=Value.ref a:=rx;exact UJ hu I2 g ry fun s3 I3=>⟨.bl (!ov.isSome),H2,I3,rfl,q2⟩
theorem Zd(hu:X.A.units+1<cLine)(ho:PE X o td)(hi:PE X i ty)(hv:PE X value tv)(hs:swapsWith value (some (.Subscript o i pos')) pos.line X.env=pure false) :
  PS X (.Assign [.Subscript o i pos'] value pos) (zan td ty tv):=by
 intro pins s σ H D I h;refine wpAny_Assign_Subscript (thn (hv pins s σ H _ I h) fun r s1 ⟨v,H1,I1,rv,q1⟩=>thn (ho pins s1 σ H1 _ I1 q1) fun u s2 ⟨x,H2,I2,rx,q2⟩=>thn (hi pins s2 σ H2 _ I2 q2) fun iv s3 hq0=>?_) hs;obtain⟨y,H3,I3,ry,a,H4,ex,g,q3⟩:=hq0;subst ex;obtain rfl:u=Value.ref a:=rx;exact uI hu I3 g ry rv fun s4 I4=>⟨σ,H4,I4,q3⟩
end
theorem ZW{P:Program}{w:World}{H:Hp}(h:Heap)(hb:sysModules<h.objs.size):ObjOk P w H (h.push { cls:=.type "dict",data:=.dict #[] }) h.objs.size (.dK []) :=
 ⟨zero_le _,beq_eq_false_iff_ne.mpr (Ne.symm (ne_of_lt hb)),[],.nil,Heap.DictOf.new h⟩
theorem WS{P:Program}{w:World}{H:Hp}(h:Heap)(hb:sysModules<h.objs.size):ObjOk P w H (h.push { cls:=.type "dict",data:=.dict #[] }) h.objs.size (.dT []) :=
 ⟨zero_le _,beq_eq_false_iff_ne.mpr (Ne.symm (ne_of_lt hb)),[],.nil,_,#[],0,Heap.get?_push_size _ rfl,⟨rfl,rfl,rfl⟩,rfl,rfl,nodup_nil⟩
def Vf:TE:=fun _ H Q=>∀ p,H p=none->Q (.ref p) (upd H p (.dK []))
def Ve:TE:=fun _ H Q=>∀ p,H p=none->Q (.ref p) (upd H p (.dT []))
section
variable {X:Cx}{pos:Pos}
theorem ZM:PE X (.Dict [] [] pos) Vf:=fun pins s σ H Q I h =>
 wpAny_Dict_empty ⟨.ref s.heap.objs.size,_,I.laid (a:=s.heap.objs.size) (o:=.dK []) (t':=s.toks) (fun _ _ q=>Heap.get?_push_of_some _ q) (Nat.le_refl _) (ZW s.heap I.big),rfl,h _ (I.hok.fresh (Nat.le_refl _))⟩
theorem ZL:PE X (.Dict [] [] pos) Ve:=fun pins s σ H Q I h =>
 wpAny_Dict_empty ⟨.ref s.heap.objs.size,_,I.laid (a:=s.heap.objs.size) (o:=.dT []) (t':=s.toks) (fun _ _ q=>Heap.get?_push_of_some _ q) (Nat.le_refl _) (WS s.heap I.big),rfl,h _ (I.hok.fresh (Nat.le_refl _))⟩
end
def YD:List (TE×TE)->St->Hp->(List (V×V)->Hp->Prop)->Prop
 |[],_,H,Q=>Q [] H
 |(tk,tv)::r,σ,H,Q=>tk σ H fun x H1=>tv σ H1 fun y H2=>YD r σ H2 fun ps H3=>Q ((x,y)::ps) H3
abbrev VV:List (V×V)->List (Value×Value)->Prop:=Paired fun p q=>RelV p.1 q.1/\RelV p.2 q.2
def PPs(X:Cx)(pos:Pos)(keys:List (Option Expr))(values:List Expr)(trs:List (TE×TE)):Prop :=
 ∀ (pins:List (Addr×Obj)) (s:Shared) (σ:St) (H:Hp) (Q:List (V×V)->Hp->Prop),Inv X pins σ H s->YD trs σ H Q ->
  wpAny (model X.prog X.w) X.A (evalPairs (pairTrees keys values X.env pos)) (fun vs s'=>∃ ps H',Inv X pins σ H' s'/\VV ps vs/\Q ps H') X.xe s
theorem v8{X:Cx}{pos:Pos}:Bx (PPs X pos [] [] []):=by
 exact⟨fun pins s σ H Q I h=>pairTrees_nil_walk ⟨[],H,I,.nil,h⟩⟩
theorem vn{X:Cx}{pos:Pos}{k v:Expr}{ks:List (Option Expr)}{vs:List Expr}{tk tv:TE}{trs:List (TE×TE)}(hk:Bx (PE X k tk))(hv:Bx (PE X v tv))(hr:Bx (PPs X pos ks vs trs)):Bx (PPs X pos (some k::ks) (v::vs) ((tk,tv)::trs)):=by
 have hk:=hk.of;have hv:=hv.of;have hr:=hr.of;exact⟨fun pins s σ H Q I h =>
  pairTrees_cons_walk (thn (hk pins s σ H _ I h) fun u s1 ⟨x,H1,I1,rx,q1⟩=>thn (hv pins s1 σ H1 _ I1 q1) fun w2 s2 ⟨y,H2,I2,ry,q2⟩ =>
   thn (hr pins s2 σ H2 _ I2 q2) fun ws s3 ⟨ps,H3,I3,rel,q3⟩=>⟨(x,y)::ps,H3,I3,.cons ⟨rx,ry⟩ rel,q3⟩)⟩
def mergeK(kvs more:List (Key×V)):List (Key×V):=more.foldl (fun acc kv=>putK acc kv.1 kv.2) kvs
theorem KV.merge:∀ {more:List (Key×V)}{rs:List (Key×Value)}{kvs:List (Key×V)}{vs:List (Key×Value)},KV more rs->KV kvs vs->KV (mergeK kvs more) (merged vs rs):=by
 intro more rs kvs vs r;unfold KV at r
 induction r generalizing kvs vs with
 |nil=>intro q;exact q
 | @cons p q ps qs h t ih =>
  intro r0;have e:KV (putK kvs p.1 p.2) (stored vs q.1 q.2):=by
   have:=r0.put p.1 h.2;rw[<- h.1];exact this
  exact ih e
theorem xQ:∀ (more kvs:List (Key×V)),(mergeK kvs more).length<=kvs.length+more.length
 |[],kvs=>by show kvs.length<=kvs.length+0;omega
 |p::r,kvs=>by
  have h1:=xQ r (putK kvs p.1 p.2);have h2:=yn kvs p.1 p.2;show(mergeK (putK kvs p.1 p.2) r).length<=_;rw[length_cons];omega
theorem vF{P:Program}{w:World}:∀ {kvs:List (Key×V)}{ws:List (Value×Value)},VV (kvs.map fun kv=>(kV kv.1,kv.2)) ws->∃ rs,Carries (zv P w) ws rs/\KV kvs rs
 |[],_,r=>by rw[map_nil] at r;cases r;exact⟨[],True.intro,.nil⟩
 |p::kvs,_,r=>by
  rw[map_cons] at r;cases r with
  | @cons a b as bs h t =>
   obtain⟨rs,c,q⟩:=vF (P:=P) (w:=w) t;obtain⟨b1,b2⟩:=b;exact⟨(p.1,b2)::rs,⟨wv h.1,rfl,c⟩,.cons ⟨rfl,h.2⟩ q⟩
def zbG(trs:List (TE×TE)):TE:=fun σ H Q=>∀ p,H p=none->YD trs σ (upd H p (.dK [])) fun ps H2=>H2 p=some (.dK [])/\∃ kvs:List (Key×V),ps=kvs.map (fun kv=>(kV kv.1,kv.2))/\kvs.length<=15/\Q (.ref p) (upd H2 p (.dK (mergeK [] kvs)))
theorem ua{X:Cx}{pos:Pos}{keys:List (Option Expr)}{values:List Expr}{trs:List (TE×TE)}(h:Bx (PPs X pos keys values trs))(hall:keys.all (·.isSome)=true)(hl:keys.length=values.length)(h0:keys≠[])(h15:keys.length<=15):Bx (PE X (.Dict keys values pos) (zbG trs)):=by
 have h:=h.of;refine⟨?_⟩;intro pins s σ H Q I q;have hn:=I.hok.fresh (Nat.le_refl s.heap.objs.size);have I1:=I.laid (a:=s.heap.objs.size) (o:=.dK []) (h':=s.heap.push { cls:=.type "dict",data:=.dict #[] }) (t':=s.toks) (fun _ _ q=>Heap.get?_push_of_some _ q) (Nat.le_refl _) (ZW s.heap I.big);refine wpAny_Dict_walk (knd:=zv X.prog X.w) hall hl h0 h15 (thn (h pins _ σ _ _ I1 (q _ hn)) fun ws s2 hq0=>?_);obtain⟨ps,H2,I2,rel,e,kvs,ep,lk,q2⟩:=hq0;subst ep;obtain⟨rs,c,rk⟩:=vF (P:=X.prog) (w:=X.w) rel;obtain⟨z,hd,vs0,r0,dd⟩:=vk I2.hok e;cases r0;refine⟨rs,c,dd,fun h' dd' hs=>⟨.ref s.heap.objs.size,_,?_,rfl,q2⟩⟩;have hz:(mergeK [] kvs).length<=sizeLine:=by
  have h1:=xQ kvs [];rw[length_nil] at h1;rw[sizeLine_eq];omega
 have he:∃ q,h'.get? s.heap.objs.size=some q:=let ⟨q,_,_,hq,_⟩:=dd';⟨q,hq⟩
 exact yX I2 (by rw[e];exact True.intro) hs he (wn hz hd (rk.merge .nil) dd')
structure M1 (X:Cx) (o:Expr) (m:Str) (apos:Pos) (e:Expr) (cpos:Pos):Prop where
 base:attributeBase o m X.env (eval o X.env)=eval o X.env
 few:((backTo cpos (starEach [e] X.env)).all (fun x=>!x.1)&&(backToKw cpos (keywordEach [] X.env)).all (fun x=>x.1.isSome)
  && decide (([e]:List Expr).length+([]:List Keyword).length+(if ([]:List Keyword).isEmpty then 0 else 1)<30))=true
 line:(apos.endLine == cpos.line)=true
 trees:backTo cpos (starEach [e] X.env)=[(false,eval e X.env)]
structure M2 (X:Cx) (o:Expr) (m:Str) (apos:Pos) (e f:Expr) (cpos:Pos):Prop where
 base:attributeBase o m X.env (eval o X.env)=eval o X.env
 few:((backTo cpos (starEach [e,f] X.env)).all (fun x=>!x.1)&&(backToKw cpos (keywordEach [] X.env)).all (fun x=>x.1.isSome)
  && decide (([e,f]:List Expr).length+([]:List Keyword).length+(if ([]:List Keyword).isEmpty then 0 else 1)<30))=true
 line:(apos.endLine == cpos.line)=true
 trees:backTo cpos (starEach [e,f] X.env)=[(false,eval e X.env),(false,eval f X.env)]
def IsD(H:Hp)(a:Addr):Prop:=(∃ kvs,Rd H a (.dK kvs))\/∃ kvs,Rd H a (.dT kvs)
theorem uE{X:Cx}{pins:List (Addr×Obj)}{σ:St}{H:Hp}{s:Shared}{a:Addr}(I:Inv X pins σ H s)(d:IsD H a) :
  s.TypeIs (.ref a) "dict" /\ (∀ b,Value.ref a=.ref b->∃ ob,s.heap.get? b=some ob/\ob.dict=none)/\(a == sysModules)=false:=by
 rcases d with⟨kvs,e⟩ | ⟨kvs,e⟩
 ·obtain⟨_,hd,vs,_,dd⟩:=vj I.hok e
  refine⟨dd.typeIs,fun b q=>?_,hd⟩;cases q;obtain⟨ob,_,_,h1,h2,_⟩:=dd;exact⟨ob,h1,h2.2.1⟩
 ·obtain⟨_,hd,xs,_,dd⟩:=vi I.hok e
  refine⟨dd.typeIs,fun b q=>?_,hd⟩;cases q;obtain⟨ob,_,_,h1,h2,_⟩:=dd;exact⟨ob,h1,h2.2.1⟩
section
variable {X:Cx}{pins:List (Addr×Obj)}{σ:St}{H:Hp}{s:Shared}{a:Addr}{y d:V}{u r:Value}{o:Option V}{A:Around}{E:Value->Shared->Prop}
theorem zbi{Q:Value->Shared->Prop}(hu:A.units+1<cLine)(I:Inv X pins σ H s)(g:DGet H a y o)(ry:RelV y u)(h:∀ w' s',Inv X pins σ H s'->RelV (o.getD .non) w'->Q w' s') :
  wpAny (model X.prog X.w) A (call (.builtin "dict.get") [.ref a,u]) Q E s:=by
 rcases g with⟨kvs,k,e,ey,l⟩ | ⟨kvs,k,b,e,ey,eb,l⟩
 ·subst ey
  obtain⟨z,hd,vs,rel,dd⟩:=vj I.hok e;refine call_meetsIn PySem.F.slot_dict_get dd.typeIs PySem.F.entry_dict_get (PySem.F.args_dict_get_2 _ _) (meets_dict_get (zv X.prog X.w) a (wv ry) hd) ⟨_,dd.mapOf,h _ _ (I.tok _) ?_⟩;rw[l];exact(rel.val k).getD rfl
 ·subst ey
  cases (show u=Value.ref b from ry);obtain⟨z,hd,xs,rel,dd⟩:=vi I.hok e;refine call_meetsIn PySem.F.slot_dict_get dd.typeIs PySem.F.entry_dict_get (PySem.F.args_dict_get_2 _ _) (meetsH_dict_get (tupleKind (zv X.prog X.w)) a b hd) ⟨tupleKind_room_in1 hu,k,xs,xD I.hok eb,dd,h _ _ (I.tok _) ?_⟩;rw[l];exact(rel.val k).getD rfl
theorem zbh{Q:Value->Shared->Prop}(hu:A.units+1<cLine)(I:Inv X pins σ H s)(g:DGet H a y o)(ry:RelV y u)(rd:RelV d r)(h:∀ w' s',Inv X pins σ H s'->RelV (o.getD d) w'->Q w' s') :
  wpAny (model X.prog X.w) A (call (.builtin "dict.get") [.ref a,u,r]) Q E s:=by
 rcases g with⟨kvs,k,e,ey,l⟩ | ⟨kvs,k,b,e,ey,eb,l⟩
 ·subst ey
  obtain⟨z,hd,vs,rel,dd⟩:=vj I.hok e;refine call_meetsIn PySem.F.slot_dict_get dd.typeIs PySem.F.entry_dict_get (PySem.F.args_dict_get_3 _ _ _) (meets_dict_get_default (zv X.prog X.w) a (wv ry) hd r) ⟨_,dd.mapOf,h _ _ (I.tok _) ?_⟩;rw[l];exact(rel.val k).getD rd
 ·subst ey
  cases (show u=Value.ref b from ry);obtain⟨z,hd,xs,rel,dd⟩:=vi I.hok e;refine call_meetsIn PySem.F.slot_dict_get dd.typeIs PySem.F.entry_dict_get (PySem.F.args_dict_get_3 _ _ _) (meetsH_dict_get_default (tupleKind (zv X.prog X.w)) a b hd r) ⟨tupleKind_room_in1 hu,k,xs,xD I.hok eb,dd,h _ _ (I.tok _) ?_⟩;rw[l];exact(rel.val k).getD rd
end
def zaa(td ty:TE):TE:=fun σ H Q=>td σ H fun x H1=>∃ a,x=.ref a/\IsD H1 a/\ty σ H1 fun y H2=>∃ o,DGet H2 a y o/\Q (o.getD .non) H2
def U9(td ty tx:TE):TE:=fun σ H Q=>td σ H fun x H1=>∃ a,x=.ref a/\IsD H1 a/\ty σ H1 fun y H2=>tx σ H2 fun z H3=>∃ o,DGet H3 a y o/\Q (o.getD z) H3
def U8(td ty:TE):TE:=fun σ H Q=>td σ H fun x H1=>∃ a,x=.ref a/\IsD H1 a/\ty σ H1 fun y H2=>∃ kvs k v,H2 a=some (.dK kvs)/\y=kV k/\yG kvs k=some v/\Q v (upd H2 a (.dK (w8 kvs k)))
section
variable {X:Cx}{o e f:Expr}{apos cpos:Pos}{td ty tx:TE}
theorem vp(hu:X.A.units+1<cLine)(ho:Bx (PE X o td))(he:Bx (PE X e ty))(m:M1 X o "get" apos e cpos):Bx (PE X (.Call (.Attribute o "get" apos) [e] [] cpos) (zaa td ty)):=by
 have ho:=ho.of;have he:=he.of;refine⟨?_⟩;intro pins s σ H Q I h;refine wpAny_Call_method m.base m.few m.line PySem.F.plainAttrs_dict PySem.F.slot_dict_get PySem.F.type_dict_get (thn (ho pins s σ H _ I h) fun u s1 hq0=>?_);obtain⟨x,H1,I1,rx,a,ex,d,q1⟩:=hq0;subst ex;obtain rfl:u=Value.ref a:=rx;obtain⟨t1,t2,_⟩:=uE I1 d;refine⟨t1,t2,?_⟩;rw[m.trees];refine Calls.callWith_builtin rfl (Calls.evalArgs_plain (Calls.spliced_cons (thn (he pins s1 σ H1 _ I1 q1) fun iv s2 ⟨y,H2,I2,ry,ov,g,q2⟩=>Calls.spliced_nil ?_)));exact zbi hu I2 g ry fun w' s3 I3 rw'=>⟨_,H2,I3,rw',q2⟩
theorem Z5(hu:X.A.units+1<cLine)(ho:Bx (PE X o td))(he:Bx (PE X e ty))(hf:Bx (PE X f tx))(m:M2 X o "get" apos e f cpos):Bx (PE X (.Call (.Attribute o "get" apos) [e,f] [] cpos) (U9 td ty tx)):=by
 have ho:=ho.of;have he:=he.of;have hf:=hf.of;refine⟨?_⟩;intro pins s σ H Q I h;refine wpAny_Call_method m.base m.few m.line PySem.F.plainAttrs_dict PySem.F.slot_dict_get PySem.F.type_dict_get (thn (ho pins s σ H _ I h) fun u s1 hq0=>?_);obtain⟨x,H1,I1,rx,a,ex,d,q1⟩:=hq0;subst ex;obtain rfl:u=Value.ref a:=rx;obtain⟨t1,t2,_⟩:=uE I1 d;refine⟨t1,t2,?_⟩;rw[m.trees];refine Calls.callWith_builtin rfl (Calls.evalArgs_plain (Calls.spliced_cons (thn (he pins s1 σ H1 _ I1 q1) fun iv s2 ⟨y,H2,I2,ry,q2⟩ =>
  Calls.spliced_cons (thn (hf pins s2 σ H2 _ I2 q2) fun fv s3 ⟨z,H3,I3,rz,ov,g,q3⟩=>Calls.spliced_nil ?_))))
 exact zbh hu I3 g ry rz fun w' s4 I4 rw'=>⟨_,H3,I4,rw',q3⟩
theorem vo(ho:Bx (PE X o td))(he:Bx (PE X e ty))(m:M1 X o "pop" apos e cpos):Bx (PE X (.Call (.Attribute o "pop" apos) [e] [] cpos) (U8 td ty)):=by
 have ho:=ho.of;have he:=he.of;refine⟨?_⟩;intro pins s σ H Q I h;refine wpAny_Call_method m.base m.few m.line PySem.F.plainAttrs_dict PySem.F.slot_dict_pop PySem.F.type_dict_pop (thn (ho pins s σ H _ I h) fun u s1 hq0=>?_);obtain⟨x,H1,I1,rx,a,ex,d,q1⟩:=hq0;subst ex;obtain rfl:u=Value.ref a:=rx;obtain⟨t1,t2,_⟩:=uE I1 d;refine⟨t1,t2,?_⟩;rw[m.trees];refine Calls.callWith_builtin rfl (Calls.evalArgs_plain (Calls.spliced_cons (thn (he pins s1 σ H1 _ I1 q1) fun iv s2 ⟨y,H2,I2,ry,kvs,k,v,ea,ey,l,q2⟩=>Calls.spliced_nil ?_)));subst ey;exact zcs I2 ea ry l (.inl rfl) fun w' s3 I3 rw'=>⟨v,_,I3,rw',q2⟩
end
section
variable {X:Cx}{pins:List (Addr×Obj)}{σ:St}{H:Hp}{s:Shared}{a:Addr}{kvs:List (Key×V)}{A:Around}{E:Value->Shared->Prop}
theorem WV{Q:Value->Shared->Prop}(I:Inv X pins σ H s)(e:Rd H a (.dK kvs))(h:∀ p s',H p=none->Inv X pins σ (upd H p (.dK kvs)) s'->Q (.ref p) s'):wpAny (model X.prog X.w) A (call (.type "dict") [.ref a]) Q E s:=by
 obtain⟨z,hd,vs,rel,dd⟩:=vj I.hok e;refine kt_call_dict hd dd (by rw[<- rel.length];exact z) fun h' dd' hs=>?_;refine h _ _ (I.hok.fresh (Nat.le_refl _)) (I.laid (a:=s.heap.objs.size) (o:=.dK kvs) (t':=s.toks) (fun b q hq=>?_) (Nat.le_refl _) (wn z (beq_eq_false_iff_ne.mpr (Ne.symm (ne_of_lt I.big))) rel dd'));exact(hs.2 b (ne_of_lt (Heap.lt_size hq))).trans (Heap.get?_push_of_some _ hq)
end
end L2
namespace Att
open PySem PySem.W PySem.Calls PyProof.Rows
theorem wY{P:Params}{h:Heap}:∀ (ns:LI) (vs:List Value),WellAll P h vs (ns.map WData.int)->IntsAre vs ns:=by
 intro ns
 induction ns with
 |nil =>
  intro vs w;rw[map_nil] at w;cases w;exact .nil
 |cons n ns ih =>
  intro vs w;rw[map_cons] at w;cases w with
  |cons a b =>
   cases a;exact .cons _ _ (ih _ b)
theorem YN{l:OpenLaw}{n:Nat}(hn:l.most=some n){P:Params}{h:Heap}{args:List WData}{vals:List Value}
  (hpre:l.row.toRowW.claim.pre args=true) (hwl:WellAll P h vals args) :
  ∃ a vs ns,vals=[Value.ref a]/\args=[WData.list (ns.map WData.int)]/\h.get? a=some { cls:=.type "list",data:=.seq vs.toArray }/\IntsAre vs ns/\ns.length<=n:=by
 have hsh:WShape.hasAll [] args [.list .int]=true:=(pre_splitW hpre).1;have hc:l.pre.holds [] { args:=args }=true:=(pre_splitW hpre).2;obtain⟨d,r,rfl,h1,h2⟩:=hasAllW_cons hsh;obtain rfl:=hasAllW_nil h2;obtain⟨xs,rfl,h3⟩:=hasW_list h1;obtain⟨ns,rfl⟩:=items_int h3;have hlen:ns.length<=n:=by
  unfold OpenLaw.pre at hc;have h4:(WTm.not (.lt (.lit (.int (n:Int))) (.len (.arg 0)))).holds [] { args:=[.list (ns.map .int)] }=true:=by
   have h4:=(holds_andW hc).1;rw[hn] at h4;exact h4
  have h5:=condW_of h4 (w_not (w_lt w_lit (w_len_list (w_arg rfl))));rw[length_map] at h5;refine Nat.le_of_not_lt fun q=>?_;have q':(n:Int)<((ns.length:Nat):Int):=by omega
  first
   |(rw[decide_eq_true q'] at h5;exact absurd h5 (by decide))
   |(simp at h5;omega)
 cases hwl with
 |cons w1 w2 =>
  cases w2;cases w1 with
  |list ho hall=>exact⟨_,_,ns,rfl,rfl,ho,wY ns _ hall,hlen⟩
theorem YU(l:OpenLaw)(args:List WData):l.row.toRowW.claim.post args (.bool true) args=true :=
 postW_of (r:=l.row.toRowW) (X:=(true == true))
  (show WShape.has [] (.bool true) .bool=true by first | rfl | decide | simp[WShape.has,WShape.arms,WShape.armsAll])
  (show(WTm.eq .res (.lit (.bool true))).value [] { args:=args,res:=some (.bool true),after:=args }=some (.bool (true == true)) from w_eq_bool (w_res rfl) w_lit) rfl
theorem attach_call{l:OpenLaw}{n:Nat}{q:Program}{loose:List Str}{XP:(Str->Option Value)->Heap->Prop}{YP:World->Heap->Prop}{d:DefRec}
  (hn:l.most=some n) (hdf:d.params.defaults=[])
  (call:∀ (w:World) (s₀ s₁:Shared) (mg mb:Str->Option Value) (fa:Addr) (o:Obj) (pm cd doc:Value) (a:Addr) (vs:List Value) (ns:LI),
   Ground q loose [] XP w s₀ mg mb s₁.heap->YP w s₁.heap ->
   s₁.heap.get? fa=some o->o.data=.func (docDef d.name d.params d.body d.scope pm cd doc)->s₁.heap.CodeRec cd d.name->mg d.name=some (.ref fa) ->
   s₁.heap.get? a=some { cls:=.type "list",data:=.seq vs.toArray }->IntsAre vs ns->ns.length<=n->s₁.gens = #[] ->
   codeAny (model l.prog w) callerA (.call (.ref fa) ⟨[.ref a],[]⟩) (fun r s'=>r=.ok (.ret (.bool true))/\OldK s₁.heap s'.heap/\s'.os=s₁.os/\AllBare s'.gens) s₁) :
  WalkO q loose XP YP l.row.toRowW d [] (fun f vs=>PySem.call f vs):=by
 intro w s₀ s₁ mg mb G Y fa o pm cd doc dV kV ho hd hcd hD hmg hg args vals as hpre hlay hrd hwl hlo;obtain rfl:dV=.none:=Dflts.none hD hdf;obtain rfl:kV=.none:=Dflts.noKw hD;obtain⟨a,vs,ns,rfl,rfl,hobj,hints,hlen⟩:=YN hn hpre hwl;refine enter_call (codeAny_mono (call w s₀ s₁ mg mb fa o pm cd doc a vs ns G Y ho (fd_plain hd) hcd hmg hobj hints hlen hg) fun r s' hq=>?_);obtain⟨rfl,h2,h3,h4⟩:=hq;exact⟨.inl ⟨.bool true,.bool true,[],rfl,fun _=>rfl,.bool true,YU l _,fun _=>⟨List.Pairwise.nil,fun _ hm=>(nomatch hm)⟩⟩,h2,h3,h4⟩
end Att
namespace L2
open PySem PySem.Spec PyProof.Rows
theorem ud:∀ {vs:List Value}{ns:LI},IntsAre vs ns->Vals (ns.map V.int) vs
 |_,_,.nil=>.nil
 |_,_,.cons n t h=>.cons ⟨t,rfl⟩ (ud h)
def zbq(H:Hp):Prop:=∀ b,H b=none\/∃ o xs,H b=some (.frz o (.lst xs))
theorem WG{P:Program}{w:World}{K:W.Frag}{mg mb:Str->Option Value}{CX:CXT}{k:Nat}{fa a:Addr}{fd:FuncData}{x:Str}{sp:Sp}{s₁:Shared}{vs:List Value}{ns:LI}
  (KX:K.In s₁.heap) (hns:s₁.heap.Ns mainGlobals mg) (hb:s₁.heap.Ns builtinsNs mb) (hbb:∀ x:Str,x ≠ "__name__" -> mb x=bootBuiltins x) (hlim:s₁.heap.NoLimit) (hg:s₁.gens = #[])
  (ha:s₁.heap.get? a=some { cls:=.type "list",data:=.seq vs.toArray }) (hi:IntsAre vs ns) (hl:ns.length<=sizeLine) (hr:Room k callerA)
  (F:∀ base:Heap,K.In base->base.Ns mainGlobals mg->FnOk P w K mg base CX k fa fd [x] sp) (hbind:∀ (s:Shared) (u:Value),BindsTo s fd ⟨[u],[]⟩ [(x,u)])
  (hsp:∀ H:Hp,zbq H->SqL K H a (ns.map V.int)->sp [.ref a] H (fun v _=>v=.bl true) fun _ _ _=>False)
  (hCX:∀ H e s',CX [] H s₁ (fun _ _ _=>False) e s'->False) :
  codeAny (model P w) callerA (.call (.ref fa) ⟨[.ref a],[]⟩) (fun r s'=>r=.ok (.ret (.bool true))/\OldK s₁.heap s'.heap/\s'.os=s₁.os/\AllBare s'.gens) s₁:=by
 have rv:=ud hi;have lenV:=hi.length
 -- from an abstract heap in which nothing but the script may be tracked
 have core:∀ H:Hp,zbq H->SqL K H a (ns.map V.int)->HOk P w H s₁.heap->(∀ b,H b≠none->b=a)->(H a≠none->K.lookup a=none) ->
   codeAny (model P w) callerA (.call (.ref fa) ⟨[.ref a],[]⟩) (fun r s'=>r=.ok (.ret (.bool true))/\OldK s₁.heap s'.heap/\s'.os=s₁.os/\AllBare s'.gens) s₁:=by
  intro H hO hS hok hA hK;have base_of:∀ {b:Addr}{o:Obj},s₁.heap.get? b=some o->H b=none->(WM s₁.heap H).get? b=some o:=fun e n=>WL e n;have noA:∀ {b:Addr}{o:Obj}{es:Array DictEntry}{ep:Nat},s₁.heap.get? b=some o->o.data=.dict es ep->H b=none:=fun {b o es ep} e d=>by
   cases q:H b with
   |none=>rfl
   |some u =>
    have e':b=a:=hA b (by rw[q];simp);subst e';rw[ha] at e;cases e;have d':Data.seq vs.toArray _=Data.dict es ep:=d;cases d'
  have nsK:∀ {b:Addr}{m:Str->Option Value},s₁.heap.Ns b m->(WM s₁.heap H).Ns b m:=fun {b m} ⟨o,es,ep,e,d,r⟩=>⟨o,es,ep,base_of e (noA e d),d,r⟩;have hKb:K.In (WM s₁.heap H):=fun b o e=>base_of (KX b o e) (by
   cases q:H b with
   |none=>rfl
   |some u =>
    have e':b=a:=hA b (by rw[q];simp);subst e';rw[hK (by rw[q];simp)] at e;cases e)
  have hM:Mod K mg (WM s₁.heap H):=⟨hKb,nsK hns,⟨mb,nsK hb,hbb⟩,let ⟨mc,h1,h2⟩:=hlim;⟨mc,nsK h1,h2⟩⟩;have e0:Env0 P w K mg (WM s₁.heap H) callerA [] s₁ H:=⟨rfl,hM,fun b o e=>Uu e,le_of_eq (XE _ _),trivial,fun b hb=>absurd (show b∈([]:List Addr) from hb) (by simp),hok,.of_eq hg⟩;refine codeAny_mono ((F _ hKb (nsK hns)).run callerA [] s₁ H ⟨[.ref a],[]⟩ [.ref a] [.ref a] _ _ hr e0 (hbind s₁ (.ref a)) (.cons rfl .nil) (hsp H hO hS)) fun r s' h=>?_;cases r with
  |error e=>exact(hCX H e s' h).elim
  |ok fl =>
   cases fl with
   |next=>exact False.elim h
   |brk=>exact False.elim h
   |cont=>exact False.elim h
   |ret u =>
    obtain⟨v,H',os,bare,un,hok',r',q⟩:=h;have q':v=.bl true:=q;subst q';obtain rfl:u=Value.bool true:=r';refine⟨rfl,OldK.of_keep fun b o e=>?_,os,bare⟩;cases q:H b with
    |none=>exact un.keep b o e q (by intro z;exact absurd (show b∈([]:List Addr) from z) (by simp)) (by simp)
    |some u =>
     rcases hO b with z | ⟨ob,xs,z⟩
     ·rw[q] at z;cases z
     ·have z2:=un.frzs b ob _ z
      obtain⟨e1,_⟩:=hok b _ z;obtain⟨e2,_⟩:=hok' b _ z2;rw[e] at e1;cases e1;exact e2
 cases hk:K.lookup a with
 |some o =>
  -- the script is one of the module's own objects
  have e:=KX a o hk;rw[ha] at e;cases e;refine core (fun _=>none) (fun _=>.inl rfl) (.inr ⟨_,vs.toArray,_,hk,rfl,rfl,rfl,by rw[size_toArray,lenV];exact hl,by simpa using rv⟩) (fun b u z=>by have z':(none:Option HO)=some u:=z;cases z') (fun b z=>absurd rfl z) fun z=>absurd rfl z
 |none =>
  refine core (fun b=>if b=a then some (.frz { cls:=.type "list",data:=.seq vs.toArray } (.lst (ns.map V.int))) else none) (fun b=>?_) (.inl (.inr ⟨{ cls:=.type "list",data:=.seq vs.toArray },if_pos rfl⟩)) (fun b u z=>?_) (fun b z=>?_) fun _=>hk
  ·by_cases hb:b=a
   ·exact .inr ⟨_,_,if_pos hb⟩
   ·exact .inl (if_neg hb)
  ·by_cases hb:b=a
   ·have z':=(if_pos hb).symm.trans z
    cases z';subst hb;exact⟨ha,by rw[length_map];exact hl,vs,_,rv,ha⟩
   ·have z':=(if_neg hb).symm.trans z
    cases z'
  ·by_cases hb:b=a
   ·exact hb
   ·exact absurd (if_neg hb) z
abbrev KOf{K:W.Frag}{h:Heap}(_:K.In h):PySem.W.Frag:=K
theorem VO{l:PySem.W.OpenLaw}{n k:Nat}{q:Program}{loose:List Str}{XP:(Str->Option Value)->Heap->Prop}{YP:World->Heap->Prop}{d:DefRec}{K:Params->PySem.W.Frag}{CX:World->CXT}{sp:World->Sp}{x:Str}
  (hn:l.most=some n) (hn2:n<=sizeLine) (hdf:d.params.defaults=[]) (hr:Room k callerA)
  (hY:∀ (w:World) (h:Heap),YP w h->(K w.params).In h)
  (F:∀ (w:World) (mg:Str->Option Value) (fa:Addr) (h:Heap),(K w.params).In h->h.Ns mainGlobals mg->mg d.name=some (.ref fa) ->
   ∃ fd:FuncData,(∀ (s:Shared) (u:Value),BindsTo s fd ⟨[u],[]⟩ [(x,u)]) /\
    ∀ base:Heap,(K w.params).In base->base.Ns mainGlobals mg->FnOk l.prog w (K w.params) mg base (CX w) k fa fd [x] (sp w))
  (hsp:∀ (w:World) (H:Hp) (a:Addr) (ns:LI),ns.length<=n->zbq H->SqL (K w.params) H a (ns.map V.int)->sp w [.ref a] H (fun v _=>v=.bl true) fun _ _ _=>False)
  (hCX:∀ (w:World) (H:Hp) (s:Shared) (e:Value) (s':Shared),CX w [] H s (fun _ _ _=>False) e s'->False) :
  PySem.W.WalkO q loose XP YP l.row.toRowW d [] (fun f vs=>PySem.call f vs):=by
 refine Att.attach_call hn hdf fun w s₀ s₁ mg mb fa o pm cd doc a vs ns G Y ho hd hcd hmg hobj hints hlen hg=>?_;have KX:=hY w _ Y;obtain⟨fd,hb,hF⟩:=F w mg fa _ KX G.T.g hmg;exact WG KX G.T.g G.T.b G.T.builtins G.T.nolimit hg hobj hints (le_trans hlen hn2) hr hF hb (fun H hO hS=>hsp w H a ns hlen hO hS) fun H e s'=>hCX w H s₁ e s'
theorem walk_ofK{l:PySem.W.OpenLaw}{n k:Nat}{q:Program}{loose:List Str}{XP:(Str->Option Value)->Heap->Prop}{YP:World->Heap->Prop}{d:DefRec}{K:Params->PySem.W.Frag}{CX:CXT}{sp:PySem.W.Frag->Sp}{x:Str}
  (hn:l.most=some n) (hn2:n<=sizeLine) (hdf:d.params.defaults=[]) (hr:Room k callerA)
  (hY:∀ (w:World) (h:Heap),YP w h->(K w.params).In h)
  (F:∀ (w:World) (mg:Str->Option Value) (fa:Addr) (h:Heap),(K w.params).In h->h.Ns mainGlobals mg->mg d.name=some (.ref fa) ->
   ∃ fd:FuncData,(∀ (s:Shared) (u:Value),BindsTo s fd ⟨[u],[]⟩ [(x,u)]) /\
    ∀ base:Heap,(K w.params).In base->base.Ns mainGlobals mg->FnOk l.prog w (K w.params) mg base CX k fa fd [x] (sp (K w.params)))
  (hsp:∀ (K:W.Frag) (H:Hp) (a:Addr) (ns:LI),ns.length<=n->zbq H->SqL K H a (ns.map V.int)->sp K [.ref a] H (fun v _=>v=.bl true) fun _ _ _=>False)
  (hCX:∀ (H:Hp) (s:Shared) (e:Value) (s':Shared),CX [] H s (fun _ _ _=>False) e s'->False) :
  PySem.W.WalkO q loose XP YP l.row.toRowW d [] (fun f vs=>PySem.call f vs) :=
 VO (K:=K) (CX:=fun _=>CX) (sp:=fun w=>sp (K w.params)) hn hn2 hdf hr hY F (fun w H a ns h1 h2 h3=>hsp (K w.params) H a ns h1 h2 h3) fun _ H s e s'=>hCX H s e s'
def inClass(s:Stmt)(j:Nat):Stmt:=match s with
 |.ClassDef _ _ _ body _ _ _ _ _ _ _=>body.getD j (.Pass ⟨0,0,0,0⟩)
 |_=>.Pass ⟨0,0,0,0⟩
def defArgs(s:Stmt):Arguments:=match s with
 |.FunctionDef _ a _ _ _ _ _ _ _ _=>a
 |_=>{ posonlyargs:=[],args:=[],vararg:=none,kwonlyargs:=[],kw_defaults:=[],kwarg:=none,defaults:=[] }
def defBody(s:Stmt):List Stmt:=match s with
 |.FunctionDef _ _ b _ _ _ _ _ _ _=>b
 |_=>[]
def defScope(s:Stmt):Scope:=match s with
 |.FunctionDef _ _ _ _ _ _ sc _ _ _=>sc
 |_=>{ kind:=.function,names:=[],isGenerator:=false,isCoroutine:=false }
abbrev CX0:CXT:=fun _ _ _ _ _ _=>False
abbrev E0:XK:=fun _ _ _=>False
theorem Wp{X:Cx}:wq CX0 X E0:=fun _ _ _ _ _ _ _ h=>h.elim
structure Fun (K:W.Frag) (x qual:Str) (st:Stmt) (f:Addr) (fd:FuncData):Prop where
 ex:∃ (oc:Value) (od:Option Addr) (kV doc pm:Value) (an:Option Addr) (cdv ct:Value) (osl:Array (Option Value)),
  fd=PySem.W.fnOf x qual (defArgs st) (defBody st) (defScope st) .none kV doc pm an cdv ct/\K.lookup f=some ⟨oc,od,.func fd,osl⟩/\PySem.W.codeIn K cdv qual=true
 kp:PySem.W.keepIn K (.ref f)=true
section
variable {P:Program}{w:World}{K:W.Frag}{mg:Str->Option Value}{base:Heap}
theorem Fun.ok{x qual:Str}{st:Stmt}{f:Addr}{fd:FuncData}{N ps:List Str}{k:Nat}{sp:Sp}(F:Fun K x qual st f fd)(S:FnScope N ps (defScope st))(len:∀ vs H Q E,sp vs H Q E->vs.length=ps.length)
  (hbody:∀ (cdv:Value) (A:Around) (outer:List Env) (s:Shared) (H:Hp) (vs:List V) (Q:VK) (E:XK),Room k (A.deeper (envOfC qual (defScope st) s.heap.objs.size f cdv))->sp vs H Q E ->
   ∃ t,PSs (wo CX0 P w K mg base N qual (defScope st) f cdv A outer s H E).nox (defBody st) t/\t { nx:=fun _ H'=>Q .non H',rt:=Q } (start N vs) H):FnOk P w K mg base CX0 (k+1) f fd ps sp:=by
 obtain⟨oc,od,kV,doc,pm,an,cdv,ct,osl,rfl,lk,hcd⟩:=F.ex;refine zbd lk hcd S len fun A outer s H vs Q E hr hsp=>?_;obtain⟨t,h,q⟩:=hbody cdv A outer s H vs Q E hr hsp;exact⟨t,h.nox,q⟩
end
theorem yY{A:Around}{k:Nat}(hr:Room k A):A.units+1<cLine:=lt_of_le_of_lt (Nat.add_le_add_left (by decide:1<=64) _) hr.units
theorem zj{n:Nat}(h:n<=1000):n<sizeLine:=lt_of_le_of_lt h (by decide)
section
variable {X:Cx}
theorem pv(i:Nat){x:Str}{pos:Pos}(hN:X.N[i]?=some x:=by rfl)(hv:Vis X.env.scope x:=by first | exact Or.inl rfl | exact Or.inr (Or.inl rfl) | exact Or.inr (Or.inr rfl))(hd:(x == ("__debug__" : Str))=false:=by decide)
  (hcd:(x == ("__classdict__" : Str))=false:=by decide):PE X (.Name x pos) (ZF i):=zaz hN hv hd hcd
theorem vb:yS X (.builtin "len") (fun xs H Q=>∃ a kvs,xs=[V.ref a]/\H a=some (.dK kvs)/\Q (.int kvs.length) H):=by
 intro pins s σ H xs us Q I r h;obtain⟨a,kvs,rfl,ha,q⟩:=h;obtain⟨u,rfl,ru⟩:=uZ r;cases ru;exact zct I (.inl ha) fun t s' I'=>⟨.int kvs.length,H,I',⟨t,rfl⟩,q⟩
end
theorem zdr{A B:Prop}(h:B):if false=true then A else B:=by
 rw[if_neg Bool.false_ne_true];exact h
theorem iteT{A B:Prop}(h:A):if true=true then A else B:=by
 rw[if_pos rfl];exact h
theorem ite2{c A B:Prop}[Decidable c](h1:c->A)(h2:¬ c->B):if c then A else B:=by
 by_cases h:c
 ·rw[if_pos h]
  exact h1 h
 ·rw[if_neg h]
  exact h2 h
def Same(H H':Hp):Prop:=∀ b o,H b=some o->H' b=some o
theorem sR(H:Hp):Same H H:=fun _ _ h=>h
theorem Same.trans{H H1 H2:Hp}(a:Same H H1)(b:Same H1 H2):Same H H2:=fun c o h=>b c o (a c o h)
theorem Same.free{H H':Hp}(e:Same H H'){l:Addr}(h:H' l=Option.none):H l=Option.none:=by
 cases q:H l with
 |none=>rfl
 |some o =>
  rw[e l o q] at h;cases h
theorem Same.seq{K:W.Frag}{H H':Hp}{a:Addr}{xs:List V}(e:Same H H')(h:SqL K H a xs):SqL K H' a xs:=by
 rcases h with(h | ⟨o,h⟩) | h
 ·exact .inl (.inl (e _ _ h))
 ·exact .inl (.inr ⟨o,e _ _ h⟩)
 ·exact .inr h
section
variable {κ:Type} [DecidableEq κ]
theorem vK{kvs:List (κ×V)}{k:κ}(h:yG kvs k=none):¬ k∈kvs.map (·.1):=by
 intro m;obtain⟨p,hp,e⟩:=mem_map.mp m;have q:(kvs.any fun kv=>decide (kv.1=k))=true:=any_eq_true.mpr ⟨p,hp,decide_eq_true e⟩;rw[yM,h] at q;exact absurd q (by simp)
theorem Xi:∀ {l:List κ}{k:κ},l.Nodup->¬ k∈l->(l++[k]).Nodup
 |[],k,_,_=>by simp
 |a::r,k,h,hk=>by
  obtain⟨h1,h2⟩:=nodup_cons.mp h;show(a::(r++[k])).Nodup;refine nodup_cons.mpr ⟨fun m=>?_,Xi h2 fun m=>hk (mem_cons.mpr (Or.inr m))⟩;rcases mem_append.mp m with q | q
  ·exact h1 q
  ·exact hk (mem_cons.mpr (Or.inl (mem_singleton.mp q).symm))
theorem Uw{kvs:List (κ×V)}{k:κ}(v:V)(hn:(kvs.map (·.1)).Nodup)(h:yG kvs k=none):((putK kvs k v).map (·.1)).Nodup:=by
 rw[putK_new v h,map_append];exact Xi hn (vK h)
theorem uH{kvs:List (κ×V)}{k:κ}{p:κ×V}(h:p∈w8 kvs k):p∈kvs:=(mem_filter.mp h).1
end
end L2
set_option maxHeartbeats 4000000
namespace L2
open PySem PySem.Spec PyProof.Rows
def U1(t u:TS):TS:=fun D σ H=>∃ M:St->Hp->Prop,t { D with nx:=M } σ H/\∀ σ' H',M σ' H'->u D σ' H'
theorem zJ{X:Cx}{st:Stmt}{rest:List Stmt}{t u:TS}(h1:Bx (PS X st t))(h2:Bx (PSs X rest u)):Bx (PSs X (st::rest) (U1 t u)):=by
 have h1:=h1.of;have h2:=h2.of;refine⟨?_⟩;intro pins s σ H D I h;obtain⟨M,h,hM⟩:=h;refine wpAny_execs_cons (thn (h1 pins s σ H { D with nx:=M } I h) fun f s1 q=>?_);cases f with
 |next =>
  obtain⟨σ',H',I',q⟩:=q;exact h2 pins s1 σ' H' D I' (hM σ' H' q)
 |brk=>exact q
 |cont=>exact q
 |ret u=>exact q
theorem iteB{c:Bool}{A B:Prop}(hc:c=true)(h:A):if c=true then A else B:=by rw[if_pos hc];exact h
theorem zF{c:Bool}{A B:Prop}(hc:c=false)(h:B):if c=true then A else B:=by rw[hc];exact zdr h
def PTs(X:Cx)(ifs:List Expr)(t:TT):Prop :=
 ∀ (pins:List (Addr×Obj)) (s:Shared) (σ:St) (H:Hp) (Q:Bool->Hp->Prop),Inv X pins σ H s->t σ H Q ->
  wpAny (model X.prog X.w) X.A (forIn ifs true fun c r=>if r=true then do let ok <- isTrue c X.env (eval c X.env);pure (ForInStep.yield ok) else pure (ForInStep.yield r)) (TP X pins σ Q) X.xe s
def zbs:TT:=fun _ H Q=>Q true H
theorem Zz{τ:St}{H:Hp}{A B:Hp->Prop}(h:A H):zbs τ H (fun b H5=>if b=true then A H5 else B H5):=by
 show if true=true then A H else B H
 exact iteT h
theorem yC{X:Cx}:Bx (PTs X [] zbs):=by
 exact⟨fun _ _ _ H _ I h=>wpAny_tests_nil ⟨H,I,h⟩⟩
theorem yO{X:Cx}{c:Expr}{t:TT}(h:Bx (PT X c t)):Bx (PTs X [c] t):=by
 have h:=h.of;exact⟨fun pins s σ H Q I hw=>wpAny_tests_one (h pins s σ H Q I hw)⟩
section
variable {prog:Program}{w:World}{A:Around}{R:Result->Shared->Prop}{s:Shared}
abbrev NoE:Value->Shared->Prop:=fun _ _=>False
theorem zcm{α:Type}{m:Sem α}{Q:α->Shared->Prop}{E:Value->Shared->Prop}{s:Shared}(h:wpAny (model prog w) A m Q NoE s):wpAny (model prog w) A m Q E s :=
 wpAny_mono h (fun _ _ q=>q) fun _ _ z=>z.elim
def X0(prog:Program)(w:World)(A:Around)(env:Env)(tg:Expr)(ifs:List Expr)(elt:Expr)(it acc:Value)(again:Shared->Prop)(v:Value)(s1:Shared):Prop :=
 wpAny (model prog w) A (letOwnedTupleGo tg it v) (fun _ s2=>wpAny (model prog w) A (assign tg env v) (fun _ s3 =>
  wpAny (model prog w) A (forIn ifs true fun c r=>if r=true then do let ok <- isTrue c env (eval c env);pure (ForInStep.yield ok) else pure (ForInStep.yield r)) (fun ok s4 =>
   if ok=true then wpAny (model prog w) A (eval elt env) (fun x s5=>wpAny (model prog w) A (call (.builtin "list.append") [acc,x]) (fun _ s6=>again s6) NoE s5) NoE s4
   else again s4) NoE s3) NoE s2) NoE s1
theorem Yt{elt tg iter:Expr}{ifs:List Expr}{scope:Scope}{pos:Pos}{it acc:Value}{env:Env}(J:Nat->Shared->Prop)
  (turn:∀ n s,J n s->wpAny (model prog w) A (pyNext it) (fun r s1=>match r with
   |none=>R (.ok .next) s1
   |some v=>X0 prog w A env tg ifs elt it acc (fun s6=>∃ m,m<n/\J m s6) v s1) NoE s)
  (n:Nat) (h:J n s):codeAny (model prog w) A (.compLoop (.ListComp elt [⟨tg,iter,ifs,0⟩] scope pos) 0 it acc env) R s:=by
 refine codeAny_loop rfl J (fun n s hJ=>?_) n h;show wpAny _ A ((compTurn (.ListComp elt [⟨tg,iter,ifs,0⟩] scope pos) 0 it acc env).onRaise (fun x=>do noteFrame x env;theTreesLotGoes x)) _ _ s;refine wpAny_noted (zcm ?_);rw[compTurn_list];refine wpAny_bind (wpAny_standAt (wpAny_bind (thn (turn n s hJ) fun r s1 h1=>?_)));cases r with
 |none=>exact wpAny_pure h1
 |some v =>
  refine wpAny_bind (thn h1 fun _ s2 h2=>wpAny_bind (thn h2 fun _ s3 h3=>wpAny_bind (thn h3 fun ok s4 h4=>?_)));cases ok with
  |false=>exact wpAny_pure ⟨rfl,h4⟩
  |true=>exact wpAny_bind (wpAny_bind (thn h4 fun x s5 h5=>wpAny_bind (thn h5 fun _ s6 h6=>wpAny_pure (wpAny_pure ⟨rfl,h6⟩))))
end
theorem Zx{env:Env}:∀ (names:List (Str×NameKind)) (acc:List (Str×Addr)),(∀ y∈names,y.2=.free->∃ c,env.cells.lookup y.1=some c)->(∀ x c,acc.lookup x=some c->env.cells.lookup x=some c) ->
  ∃ cl,(forIn names acc (fun(y:Str×NameKind) (cs:List (Str×Addr))=>(if (y.2 == NameKind.free)=true then(do let c <- cellOf env y.1;pure (ForInStep.yield ((y.1,c)::cs))) else pure (ForInStep.yield cs):Sem (ForInStep (List (Str×Addr))))))=(pure cl:Sem (List (Str×Addr))) /\
   (∀ x c,cl.lookup x=some c->env.cells.lookup x=some c)/\(∀ x,(acc.lookup x).isSome=true->(cl.lookup x).isSome=true)/\(∀ y∈names,y.2=.free->(cl.lookup y.1).isSome=true)
 |[],acc,_,h2=>⟨acc,rfl,h2,fun _ h=>h,fun y hy=>by cases hy⟩
 |(n,k)::r,acc,h1,h2=>by
  have h1':∀ y∈r,y.2=.free->∃ c,env.cells.lookup y.1=some c:=fun y hy=>h1 y (mem_cons_of_mem _ hy);by_cases hk:k=.free
  ·subst hk
   obtain⟨c,hc⟩:=h1 (n,.free) mem_cons_self rfl;have h2':∀ x c',(((n,c)::acc:List (Str×Addr)).lookup x)=some c'->env.cells.lookup x=some c':=fun x c' e=>by
    rw[lookup_cons] at e;by_cases hx:(x == n)=true
    ·rw[hx] at e
     cases e;rw[beq_iff_eq.mp hx];exact hc
    ·rw[not_eq_true] at hx
     rw[hx] at e;exact h2 x c' e
   obtain⟨cl,e,p1,p2,p3⟩:=Zx r ((n,c)::acc) h1' h2';refine⟨cl,?_,p1,fun x hx=>p2 x ?_,fun y hy hf=>?_⟩
   ·rw[List.forIn_cons]
    have q:cellOf env n=pure c:=by unfold cellOf;rw[hc]
    simp only[beq_self_eq_true,if_true,q,pure_bind];exact e
   ·rw[lookup_cons]
    cases q:x == n with
    |true=>rfl
    |false=>exact hx
   ·rcases mem_cons.mp hy with rfl | hy
    ·exact p2 n (by rw[lookup_cons,beq_self_eq_true];rfl)
    ·exact p3 y hy hf
  ·obtain⟨cl,e,p1,p2,p3⟩:=Zx r acc h1' h2
   have hb:(k == NameKind.free)=false:=by simpa using hk
   refine⟨cl,?_,p1,p2,fun y hy hf=>?_⟩
   ·rw[List.forIn_cons]
    simp only[hb,false_eq_true,if_false,pure_bind];exact e
   ·rcases mem_cons.mp hy with rfl | hy
    ·exact absurd hf hk
    ·exact p3 y hy hf
structure Clos (env:Env) (scope:Scope) (cl:List (Str×Addr)):Prop where
 eq:closureFor scope env=pure cl
 sub:∀ x c,cl.lookup x=some c->env.cells.lookup x=some c
 all:∀ y∈scope.names,y.2=.free->(cl.lookup y.1).isSome=true
theorem XU{env:Env}{scope:Scope}(h:∀ y∈scope.names,y.2=.free->∃ c,env.cells.lookup y.1=some c):∃ cl,Clos env scope cl:=by
 obtain⟨cl,e,p1,p2,p3⟩:=Zx (env:=env) scope.names [] h (fun x c z=>by simp at z);refine⟨cl,⟨?_,p1,p3⟩⟩;have q:closureFor scope env=(forIn scope.names [] (fun(y:Str×NameKind) (cs:List (Str×Addr))=>(if (y.2 == NameKind.free)=true then(do let c <- cellOf env y.1;pure (ForInStep.yield ((y.1,c)::cs))) else pure (ForInStep.yield cs):Sem (ForInStep (List (Str×Addr))))) >>= fun s=>pure s):=rfl;rw[q,e,pure_bind]
abbrev xE(X:Cx)(scope:Scope)(N':List Str)(cl:List (Str×Addr))(C:Addr)(s₀:Shared)(H₀:Hp)(fp:List Addr):Cx :=
 { X with N:=N',s₀:=s₀,H₀:=H₀,env:=compEnvC scope cl C X.env,outer:=X.stack,ex:=fp,fn:=fun _=>false,pn:=[],xe:=NoE }
structure Blk where
 cl:List (Str×Addr)
 C:Addr
 s₀:Shared
 H₀:Hp
 fp:List Addr
abbrev cxB(X:Cx)(scope:Scope)(N':List Str)(b:Blk):Cx:=xE X scope N' b.cl b.C b.s₀ b.H₀ b.fp
def XC:Option NameKind->Bool
 |some .cell=>true
 |some .free=>true
 |_=>false
theorem wF{k:Option NameKind}(h:XC k=true):k=some .cell\/k=some .free:=by
 cases k with
 |none=>cases h
 |some k=>cases k<;>first | exact .inl rfl | exact .inr rfl | cases h
def W5(N:List Str)(kd kd':Str->Option NameKind)(N':List Str)(t:Nat):List Nat->Nat->Bool
 |[],k=>N'.length == t+k
 |j::r,k=>(match N[j]?,N'[t+k]? with
  |some x,some y=>(x == y)&&XC (kd x)&&XC (kd' x)
  |_,_=>false)&&W5 N kd kd' N' t r (k+1)
theorem uL{N:List Str}{kd kd':Str->Option NameKind}{N':List Str}{t:Nat}:∀ {caps:List Nat}{k:Nat},W5 N kd kd' N' t caps k=true->N'.length=t+k+caps.length
 |[],k,h=>by
  have:=beq_iff_eq.mp h
  simpa using this
 |j::r,k,h=>by
  have:=uL (and_eq_true_iff.mp h).2;rw[length_cons];omega
theorem ZZ{N:List Str}{kd kd':Str->Option NameKind}{N':List Str}{t:Nat}:∀ {caps:List Nat}{k i j:Nat},W5 N kd kd' N' t caps k=true->caps[i]?=some j ->
  ∃ x,N[j]?=some x/\N'[t+k+i]?=some x/\XC (kd x)=true/\XC (kd' x)=true
 |[],_,_,_,_,e=>by simp at e
 |j::r,k,0,j',h,e=>by
  simp at e;subst e;have h1:=(and_eq_true_iff.mp h).1;cases q:N[j]? with
  |none=>rw[q] at h1;cases h1
  |some x =>
   cases q':N'[t+k]? with
   |none=>rw[q,q'] at h1;cases h1
   |some y =>
    rw[q,q'] at h1;obtain⟨h2,h3⟩:=and_eq_true_iff.mp h1;obtain⟨h4,h5⟩:=and_eq_true_iff.mp h2;obtain rfl:x=y:=beq_iff_eq.mp h4;exact⟨x,rfl,rfl,h5,h3⟩
 |j::r,k,i+1,j',h,e=>by
  obtain⟨x,a,b,c,d⟩:=ZZ (i:=i) (and_eq_true_iff.mp h).2 (by simpa using e);refine⟨x,a,?_,c,d⟩;have q:t+(k+1)+i=t+k+(i+1):=by omega
  rw[<- q];exact b
structure CompOk (X:Cx) (scope:Scope) (N':List Str) (t:Nat) (caps:List Nat):Prop where
 kind:scope.kind=.function
 shape:(scope.names.all fun y=>(y.2 == .local&&scope.names.lookup y.1 == some .local)||(y.2 == .free&&XC (X.env.kindOf y.1))||(y.2 == .globalImplicit))=true
 cap:W5 X.N X.env.kindOf (compEnvC scope [] 0 X.env).kindOf N' t caps 0=true
theorem CompOk.at{X:Cx}{scope:Scope}{N':List Str}{t:Nat}{caps:List Nat}(S:CompOk X scope N' t caps){y:Str×NameKind}(hy:y∈scope.names) :
  y.2≠.cell/\(y.2=.local->scope.names.lookup y.1=some .local)/\(y.2=.free->XC (X.env.kindOf y.1)=true):=by
 have h:=all_eq_true.mp S.shape y hy;obtain⟨n,k⟩:=y;cases k<;>simp at h<;>simp[h]
def zbl(t:Nat)(caps:List Nat)(σ:St):St:=List.replicate t none++caps.map fun j=>(σ[j]?).join
theorem xW{scope:Scope}{env:Env}{x:Str}:∀ {names:List (Str×NameKind)},(∀ y∈names,y.2≠.cell)->XC ((names.map fun(y:Str×NameKind)=>if (y.2 == NameKind.free&&env.scope.kind == .function&&env.kindOf y.1 == some .cell)=true then(y.1,NameKind.cell) else(y.1,y.2)).lookup x)=true ->
  (x,NameKind.free)∈names
 |[],_,h=>by simp[XC] at h
 |(n,k)::r,hn,h=>by
  have hr:∀ y∈r,y.2≠.cell:=fun y hy=>hn y (mem_cons_of_mem _ hy);have hk:k≠.cell:=hn (n,k) mem_cons_self;rw[map_cons] at h;by_cases hx:(x == n)=true
  ·obtain rfl:x=n:=beq_iff_eq.mp hx
   have q:k=.free:=by
    by_cases hf:k=.free
    ·exact hf
    ·exfalso
     have hb:(k == NameKind.free)=false:=by simpa using hf
     simp only[hb,Bool.false_and,false_eq_true,if_false,lookup_cons,beq_self_eq_true] at h;cases k<;>simp[XC] at h hk hf
   subst q;exact mem_cons_self
  ·rw[not_eq_true] at hx
   refine mem_cons_of_mem _ (xW (scope:=scope) (env:=env) hr ?_);by_cases hc:(k == NameKind.free&&env.scope.kind == .function&&env.kindOf n == some .cell)=true
   ·simp only[hc,if_true,lookup_cons,hx] at h
    exact h
   ·rw[not_eq_true] at hc
    simp only[hc,false_eq_true,if_false,lookup_cons,hx] at h;exact h
def uU(J:It)(g:TG)(tc:TT)(te:TE)(Q:VK)(D:Addr)(τ0:St)(H0:Hp):Prop :=
 ∃ W:Nat->Nat->List V->St->Hp->Prop,(∃ m,W 0 m [] τ0 H0)/\∀ i m ys τ H,W i m ys τ H ->
  (J.stop i H/\Q (.ref D) H)\/(J.go i H/\∃ N:List V->St->Hp->Prop,(∀ zs τ' H',N zs τ' H'->∃ m',m'<m/\W (i+1) m' zs τ' H')/\∀ x H3,J.yld i H x H3->g x τ H3 fun τ2 H4=>tc τ2 H4 fun b H5 =>
   if b=true then te τ2 H5 fun y H6=>H6 D=some (.lst ys)/\ys.length<sizeLine/\N (ys++[y]) τ2 (upd H6 D (.lst (ys++[y]))) else N ys τ2 H5)
def zac(wi:TI)(g:Blk->TG)(tc:Blk->TT)(te:Blk->TE)(t:Nat)(caps:List Nat):TE:=fun σ H Q =>
 wi σ H fun J H1=>∀ D,H1 D=none->∀ b:Blk,uU J (g b) (tc b) (te b) Q D (zbl t caps σ) (upd H1 D (.lst []))
theorem va{J:It}{g:TG}{tc:TT}{te:TE}{Q:VK}{D:Addr}{τ0:St}{H0:Hp}(n:Nat)(Pv:Nat->List V->St->Hp->Prop)(h0:Pv 0 [] τ0 H0)
  (hst:∀ zs τ H,Pv n zs τ H->J.stop n H/\Q (.ref D) H)
  (hgo:∀ i zs τ H,i<n->Pv i zs τ H->J.go i H/\∀ x H3,J.yld i H x H3->g x τ H3 fun τ2 H4=>tc τ2 H4 fun b H5 =>
   if b=true then te τ2 H5 fun y H6=>H6 D=some (.lst zs)/\zs.length<sizeLine/\Pv (i+1) (zs++[y]) τ2 (upd H6 D (.lst (zs++[y]))) else Pv (i+1) zs τ2 H5):uU J g tc te Q D τ0 H0:=by
 refine⟨fun i m zs τ H=>m=n-i/\i<=n/\Pv i zs τ H,⟨n,by simp,zero_le _,h0⟩,?_⟩;rintro i m zs τ H ⟨rfl,hi,p⟩;by_cases hlt:i<n
 ·obtain⟨go,step⟩:=hgo i zs τ H hlt p
  exact .inr ⟨go,Pv (i+1),fun zs' τ' H' p'=>⟨n-(i+1),by omega,rfl,hlt,p'⟩,step⟩
 ·have e:i=n:=by omega
  subst e;exact .inl (hst zs τ H p)
theorem comp_list{K:W.Frag}{a:Addr}{xs:List V}{g:TG}{tc:TT}{te:TE}{Q:VK}{D:Addr}{τ0:St}{H0:Hp}(Pv:Nat->List V->St->Hp->Prop)(h0:Pv 0 [] τ0 H0)(hl:∀ i zs τ H,Pv i zs τ H->SqL K H a xs)
  (hs:∀ i x zs τ H,xs[i]?=some x->Pv i zs τ H->g x τ H fun τ2 H4=>tc τ2 H4 fun b H5 =>
   if b=true then te τ2 H5 fun y H6=>H6 D=some (.lst zs)/\zs.length<sizeLine/\Pv (i+1) (zs++[y]) τ2 (upd H6 D (.lst (zs++[y]))) else Pv (i+1) zs τ2 H5)
  (hd:∀ zs τ H,Pv xs.length zs τ H->Q (.ref D) H):uU (Itl K a) g tc te Q D τ0 H0 :=
 va xs.length Pv h0 (fun zs τ H p=>⟨⟨xs,hl _ _ _ _ p,Nat.le_refl _⟩,hd zs τ H p⟩) fun i zs τ H hi p=>⟨⟨xs,xs[i],hl _ _ _ _ p,by simp[hi]⟩,fun x H3 y=>by
  obtain⟨e,y⟩:=y;subst e;exact hs i x zs τ _ (y xs (hl _ _ _ _ p)) p⟩
theorem WX{K:W.Frag}{a:Addr}{xs:List V}{g:TG}{tc:TT}{te:TE}{Q:VK}{D:Addr}{τ0:St}{H0:Hp}(Pv:Nat->List V->St->Hp->Prop)(h0:Pv 0 [] τ0 H0)(hl:∀ i zs τ H,Pv i zs τ H->SqT K H a xs)
  (hs:∀ i x zs τ H,xs[i]?=some x->Pv i zs τ H->g x τ H fun τ2 H4=>tc τ2 H4 fun b H5 =>
   if b=true then te τ2 H5 fun y H6=>H6 D=some (.lst zs)/\zs.length<sizeLine/\Pv (i+1) (zs++[y]) τ2 (upd H6 D (.lst (zs++[y]))) else Pv (i+1) zs τ2 H5)
  (hd:∀ zs τ H,Pv xs.length zs τ H->Q (.ref D) H):uU (Itt K a) g tc te Q D τ0 H0 :=
 va xs.length Pv h0 (fun zs τ H p=>⟨⟨xs,hl _ _ _ _ p,Nat.le_refl _⟩,hd zs τ H p⟩) fun i zs τ H hi p=>⟨⟨xs,xs[i],hl _ _ _ _ p,by simp[hi]⟩,fun x H3 y=>by
  obtain⟨e,y⟩:=y;subst e;exact hs i x zs τ _ (y xs (hl _ _ _ _ p)) p⟩
section
variable {X:Cx}{tg iter elt:Expr}{ifs:List Expr}{scope:Scope}{pos:Pos}{N':List Str}{t:Nat}{caps:List Nat}{g:Blk->TG}{tc:Blk->TT}{te:Blk->TE}{wi:TI}
theorem FpOk.heap{pins:List (Addr×Obj)}{H H':Hp}{b:Addr}(f:FpOk X pins H b)(h:H' b=none):FpOk X pins H' b:=⟨h,f.2⟩
theorem uJ{cl:List (Str×Addr)}{J:It}{fp:List Addr}{it:Addr}{tn:Nat->Heap->Prop}{pins:List (Addr×Obj)}{σ:St}{H2:Hp}{s2:Shared}{Q:VK}{E:Value->Shared->Prop}
  (hc:X.calm=true) (S:CompOk X scope N' t caps) (L:Clos X.env scope cl)
  (hg:∀ b,PG (cxB X scope N' b) tg (g b)) (ht:∀ b,PTs (cxB X scope N' b) ifs (tc b)) (he:∀ b,PE (cxB X scope N' b) elt (te b))
  (I2:Inv X pins σ H2 s2) (T:Turn X.prog X.w X.K tg J fp it tn) (st2:tn 0 s2.heap) (f2:∀ b∈fp,FpOk X pins H2 b)
  (R:∀ D,H2 D=none->∀ b,uU J (g b) (tc b) (te b) Q D (zbl t caps σ) (upd H2 D (.lst []))) :
  wpAny (model X.prog X.w) X.A (newList []) (fun acc s3=>wpAny (model X.prog X.w) X.A (newFunctionEnv scope X.env.globals cl [] X.env.qual none .none (some X.env)) (fun cenv s4 =>
   codeAny (model X.prog X.w) X.A (.compStart (.ListComp elt [⟨tg,iter,ifs,0⟩] scope pos) 0 (.ref it) acc { cenv with scope:=relabel scope X.env })
    (fun r s'=>∃ (D:Addr) (H':Hp) (m:Str->Option Value),acc=.ref D/\r=.ok .next/\Inv X pins σ H' s'/\s'.heap.Ns cenv.locals m/\FpOk X pins H' cenv.locals/\Q (.ref D) H') s4) E s3) E s2:=by
 refine wpAny_newObj_type ?_;have I3:Inv X pins σ (upd H2 s2.heap.objs.size (.lst [])) { s2 with heap:=s2.heap.push { cls:=.type "list",data:=.seq ([]:List Value).toArray } }:=I2.lnew (t':=s2.toks) .nil (zero_le _);have hD:H2 s2.heap.objs.size=none:=I2.fresh;have R:=R _ hD;generalize hs3:({ s2 with heap:=s2.heap.push { cls:=.type "list",data:=.seq ([]:List Value).toArray } }:Shared)=s3 at I3 ⊢;generalize hH3:upd H2 s2.heap.objs.size (.lst [])=H3 at I3 R;generalize hDD:s2.heap.objs.size=D at R ⊢;have k3:∀ b o,s2.heap.get? b=some o->s3.heap.get? b=some o:=fun b o e=>by rw[<- hs3];exact Heap.get?_push_of_some _ e
 have st3:tn 0 s3.heap:=T.keep 0 _ _ st2 fun b _ o e=>k3 b o e;have fpn:∀ b∈fp,H3 b=none:=fun b hb=>by
  obtain⟨o,e,_⟩:=T.obj 0 _ st2 b hb;rw[<- hH3,upd_ne (ne_of_lt (Heap.lt_size e))];exact(f2 b hb).1
 have f3:∀ b∈fp,FpOk X pins H3 b:=fun b hb=>(f2 b hb).heap (fpn b hb);refine wpAny_newFunctionEnv (fun y hy=>(S.at hy).1) (by intro y hy;simp at hy) (fun h4 hns hsb=>?_) S.kind;generalize hC:s3.heap.objs.size=C at hns hsb ⊢;have k4:∀ b o,s3.heap.get? b=some o->h4.get? b=some o:=fun b o e=>hsb.extBut b o (by rw[<- hC];exact ne_of_lt (Heap.lt_size e)) (Heap.get?_push_of_some _ e);have cellsub:∀ x c,(xE X scope N' cl C s3 H3 fp).env.cells.lookup x=some c->X.env.cells.lookup x=some c:=L.sub;have hnc:∀ y∈scope.names,y.2≠.cell:=fun y hy=>(S.at hy).1;have fC:∀ {H':Hp},H' C=none->FpOk X pins H' C:=fun h=>by rw[<- hC] at h ⊢;exact I3.fpOk (Nat.le_refl _) h
 have I4:Inv (xE X scope N' cl C s3 H3 fp) [] (zbl t caps σ) H3 { s3 with heap:=h4,toks:=s3.toks+([]:List (Str×Value)).length }:=by
  refine⟨⟨I3.ok.mod,S.kind,I3.ok.glob,I3.ok.blt,le_of_eq hC,fun x y c h1 h2=>I3.ok.inj x y c (L.sub _ _ h1) (L.sub _ _ h2),fun x hx=>?_,fun x c h _=>absurd (show false=true from h) Bool.false_ne_true,I3.ok.hd,I3.ok.frames,.inl rfl,fun b hb=>⟨?_,fun x c e=>(f3 b hb).2.2.2.2.1 x c (L.sub x c e)⟩,
    I3.bs,le_trans I3.ok.bsz I3.sz,fun b o e hb=>?_,fun b hb z=>?_,I3.stack,I3.stkFree⟩,
   rfl,I3.bare,Un.kept k4,⟨_,hns,fun i x v e1 e2 e3=>?_⟩,fun x c e=>?_,(by rw[<- hC];exact I3.fresh),fun x c e=>I3.freeC x c (L.sub x c e),fun p hp=>?_,I3.hok.kept k4,?_⟩
  ·have hx':XC ((relabel scope X.env).names.lookup x)=true:=by
    rcases hx with q | q
    ·rw[show(relabel scope X.env).names.lookup x=some .cell from q];rfl
    ·rw[show(relabel scope X.env).names.lookup x=some .free from q];rfl
   exact isSome_iff_exists.mp (L.all _ (xW (scope:=scope) hnc hx') rfl)
  ·obtain⟨o,e,_⟩:=T.obj 0 _ st3 b hb
   rw[<- hC];exact ne_of_lt (Heap.lt_size e)
  ·rcases(f3 b hb).2.2.2.1 with z | z
   ·exact I3.ok.noex b o e z
   ·exact absurd (lt_of_lt_of_le (lt_of_lt_of_le (Heap.lt_size e) I3.ok.bsz) z) (lt_irrefl _)
  ·rcases mem_cons.mp (I3.stkSub b z) with q | q
   ·exact(f3 b hb).2.1 q
   ·exact(f3 b hb).2.2.1 q
  ·-- a name that was taken over
   unfold zbl at e2;by_cases hi:i<t
   ·rw[List.getElem?_append_left (by simpa using hi),List.getElem?_replicate] at e2
    simp[hi] at e2
   ·rw[List.getElem?_append_right (by simpa using hi),List.length_replicate,List.getElem?_map] at e2
    cases q:caps[i-t]? with
    |none=>rw[q] at e2;simp at e2
    |some j =>
     rw[q] at e2;obtain⟨y,c1,c2,c3,c4⟩:=ZZ S.cap q;have ei:t+0+(i-t)=i:=by omega
     rw[ei] at c2;have exy:x=y:=Option.some.inj ((show N'[i]?=some x from e1).symm.trans c2);subst exy;have e2':σ[j]?=some (some v):=by
      have e2:(σ[j]?).join=some v:=Option.some.inj e2;cases r:σ[j]? with
      |none=>rw[r] at e2;cases e2
      |some z =>
       rw[r] at e2;have e2:z=some v:=e2;rw[e2]
     obtain⟨m,hn,hl⟩:=I3.loc;have cf:=wF c3;obtain⟨u,ru,lk⟩:=hl j x v c1 e2' (.inr (by
      rcases cf with z | z
      ·exact .inl z
      ·exact .inr z))
     refine⟨u,ru,.inr ⟨wF c4,?_⟩⟩;rcases lk with⟨z,_⟩ | ⟨_,c,ec,zc⟩
     ·rcases cf with w | w<;>(rw[z] at w;cases w)
     ·have hfree:=xW (scope:=scope) (env:=X.env) (x:=x) hnc c4
      obtain⟨c',ec'⟩:=isSome_iff_exists.mp (L.all _ hfree rfl);have:=L.sub _ _ ec';rw[show X.env.cells.lookup x=some c from ec] at this;cases this;obtain⟨o,ho,hd⟩:=zc;exact⟨c,ec',o,k4 _ _ ho,hd⟩
  ·obtain⟨v,o,ho,hd⟩:=I3.cell x c (L.sub x c e)
   exact⟨v,o,k4 _ _ ho,hd⟩
  ·exact absurd (show p∈([]:List (Addr×Obj)) from hp) (by simp)
  ·unfold zbl
   rw[length_append,List.length_replicate,length_map,uL S.cap];omega
 obtain⟨W,⟨m0,w0⟩,turn⟩:=R ⟨cl,C,s3,H3,fp⟩
 -- back to the frame outside
 have back:∀ {τ:St}{H':Hp}{s':Shared},Inv (xE X scope N' cl C s3 H3 fp) [] τ H' s'->Inv X pins σ H' s':=fun {τ H' s'} J=>by
  refine I3.call' (ch:=fp) (J.os.trans ?_) J.base J.hok J.bare fun b hb=>⟨(f3 b hb).2.2.2.1,(f3 b hb).2.1,(f3 b hb).2.2.2.2.1,(f3 b hb).2.2.2.2.2⟩;rfl
 have stat:∀ {H':Hp},(∀ b∈fp,H' b=none)->∀ b∈fp,FpOk (xE X scope N' cl C s3 H3 fp) [] H' b:=fun {H'} hn b hb=>by
  refine⟨hn b hb,(I4.ok.exf b hb).1,I4.ok.exfs b hb,.inl hb,(I4.ok.exf b hb).2,fun p hp=>?_⟩;exact absurd (show p∈([]:List (Addr×Obj)) from hp) (by simp)
 have loop:codeAny (model X.prog X.w) X.A (.compLoop (.ListComp elt [⟨tg,iter,ifs,0⟩] scope pos) 0 (.ref it) (.ref D) (compEnvC scope cl C X.env))
   (fun r s'=>∃ (D':Addr) (H':Hp) (m:Str->Option Value),Value.ref D=.ref D'/\r=.ok .next/\Inv X pins σ H' s'/\s'.heap.Ns C m/\FpOk X pins H' C/\Q (.ref D') H') { s3 with heap:=h4,toks:=s3.toks+([]:List (Str×Value)).length }:=by
  refine Yt (fun n s'=>∃ i ys τ H',Inv (xE X scope N' cl C s3 H3 fp) [] τ H' s'/\tn i s'.heap/\(∀ b∈fp,H' b=none)/\W i n ys τ H') ?_ m0 ⟨0,[],_,H3,I4,T.keep 0 _ _ st3 fun b _ o e=>k4 b o e,fpn,w0⟩;rintro n s5 ⟨i,ys,τ,H5,I5,st5,fr5,w5⟩;rcases turn i n ys τ H5 w5 with⟨stop,q⟩ | ⟨go,N,hN,step⟩
  ·refine thn (T.done (xE X scope N' cl C s3 H3 fp) rfl rfl rfl hc i [] s5 τ H5 NoE I5 (stat fr5) st5 stop) fun r s6 ⟨hr,I6⟩=>?_
   subst hr;obtain⟨m,hm,_⟩:=id I6.loc;exact⟨D,H5,m,rfl,rfl,back I6,hm,fC I6.free,q⟩
  ·refine thn (T.item (xE X scope N' cl C s3 H3 fp) rfl rfl rfl hc i [] s5 τ H5 NoE I5 (stat fr5) st5 go) fun r s6 ⟨u,hr,h6⟩=>?_
   subst hr;refine thn h6 fun _ s7 hq0=>?_;obtain⟨x,H7,I7,r7,y7,st7,fr7⟩:=hq0;have I7':=I7.pinned (stat fr7) (T.obj _ _ st7);have again:∀ {τ9:St}{H9:Hp}{s9:Shared}{ys9:List V}{m':Nat},Inv (xE X scope N' cl C s3 H3 fp) ([]++ur fp s7.heap) τ9 H9 s9->m'<n->W (i+1) m' ys9 τ9 H9 ->
     ∃ m,m<n/\∃ i ys τ H',Inv (xE X scope N' cl C s3 H3 fp) [] τ H' s9/\tn i s9.heap/\(∀ b∈fp,H' b=none)/\W i m ys τ H':=fun {τ9 H9 s9 ys9 m'} I9 hm w9=>by
    refine⟨m',hm,i+1,ys9,τ9,H9,I9.unpinned,T.keep _ _ _ st7 fun b hb o e=>(I9.pin (b,o) (mem_append_right _ (mem_append_right _ (xw hb e)))).1,fun b hb=>?_,w9⟩;obtain⟨o,e,_⟩:=T.obj _ _ st7 b hb;exact(I9.pin (b,o) (mem_append_right _ (mem_append_right _ (xw hb e)))).2.1
   refine thn (hg ⟨cl,C,s3,H3,fp⟩ _ s7 τ H7 x u _ I7' r7 (step x H7 y7)) fun _ s8 hq0=>?_;obtain⟨τ8,H8,I8,q8⟩:=hq0;refine thn (ht ⟨cl,C,s3,H3,fp⟩ _ s8 τ8 H8 _ I8 q8) fun ok s9 hq0=>?_;obtain⟨H9,I9,q9⟩:=hq0;cases ok with
   |false =>
    obtain⟨m',hm,w9⟩:=hN _ _ _ (show N ys τ8 H9 from q9);exact again I9 hm w9
   |true =>
    refine thn (he ⟨cl,C,s3,H3,fp⟩ _ s9 τ8 H9 _ I9 q9) fun y s10 hq0=>?_;obtain⟨z,H10,I10,r10,hl,hz,q10⟩:=hq0;refine thn (yc _ s10 τ8 H10 (.ref D) [z] (.ref D) [y] (fun v H11=>v=.non/\H11=upd H10 D (.lst (ys++[z]))) I10 rfl (.cons r10 .nil) ⟨D,ys,z,rfl,rfl,hl,hz,rfl,rfl⟩) fun _ s11 hq0=>?_;obtain⟨v,H11,I11,_,_,e11⟩:=hq0;subst e11;obtain⟨m',hm,w10⟩:=hN _ _ _ q10;exact again I11 hm w10
 exact codeAny_compStart_list loop (T.self _ 0 _ _ _ (T.keep 0 _ _ st3 fun b _ o e=>k4 b o e) loop)
theorem ym(hc:X.calm=true)(S:CompOk X scope N' t caps)(hi:Bx (PI X tg iter wi))(hg:∀ b,Bx (PG (cxB X scope N' b) tg (g b)))(ht:∀ b,Bx (PTs (cxB X scope N' b) ifs (tc b)))(he:∀ b,Bx (PE (cxB X scope N' b) elt (te b)))(hs:∀ x,foldedSetIterable iter X.env x=pure x:=by intro _;rfl):Bx (PE X (.ListComp elt [⟨tg,iter,ifs,0⟩] scope pos) (zac wi g tc te t caps)):=by
 have hi:=hi.of;have hg:=fun x0=>(hg x0).of;have ht:=fun x0=>(ht x0).of;have he:=fun x0=>(he x0).of;refine⟨?_⟩;intro pins s σ H Q I h;obtain⟨cl,L⟩:=XU (env:=X.env) (scope:=scope) fun y hy hf=>I.ok.has y.1 (wF ((S.at hy).2.2 hf));rw[eval_ListComp];refine wpAny_comprehension_free (use:=none) rfl hs L.eq S.kind (fun y hy=>(S.at hy).2.1) (thn (hi pins s σ H _ I h) fun x s1 h1=>thn h1 fun itv s2 h2=>?_);obtain⟨it,fp,tn,J,H2,rfl,I2,T,st2,f2,R⟩:=h2;refine thn (uJ hc S L hg ht he I2 T st2 f2 R) fun acc s3 h3=>thn h3 fun cenv s4 h4=>codeAny_mono h4 fun r s' hr=>?_;obtain⟨D,H',m,rfl,rfl,I',hm,fC,q⟩:=hr;obtain⟨c0,c1,c2,c3,c4,c5⟩:=fC;exact⟨m,hm,fun h' sb=>⟨.ref D,H',I'.turned (t':=s'.toks) (fun b o hb e=>sb.extBut b o hb e) c0 c1 c3 c4 c5,rfl,q⟩⟩
theorem yT{i:Nat}{y:Str}{py spos:Pos}(hc:X.calm=true)(hN:X.N.Nodup)(hiy:X.N[i]?=some y)(hy:Loc X.env.scope y)(S:CompOk X scope N' t caps)(hi:Bx (PI X tg iter wi))(hg:∀ b,Bx (PG (cxB X scope N' b) tg (g b)))(ht:∀ b,Bx (PTs (cxB X scope N' b) ifs (tc b)))(he:∀ b,Bx (PE (cxB X scope N' b) elt (te b)))(hsw:swapsWith (.ListComp elt [⟨tg,iter,ifs,0⟩] scope pos) (some (.Name y py)) spos.line X.env=pure true:=by rfl)(hs:∀ x,foldedSetIterable iter X.env x=pure x:=by intro _;rfl)(hf:X.fn y=true\/X.env.scope.names.lookup y=some .local:=by first | exact .inl rfl | exact .inr rfl | assumption):Bx (PS X (.Assign [.Name y py] (.ListComp elt [⟨tg,iter,ifs,0⟩] scope pos) spos) (VZ (zac wi g tc te t caps) (wc i))):=by
 have hi:=hi.of;have hg:=fun x0=>(hg x0).of;have ht:=fun x0=>(ht x0).of;have he:=fun x0=>(he x0).of;refine⟨?_⟩;intro pins s σ H D' I h;obtain⟨cl,L⟩:=XU (env:=X.env) (scope:=scope) fun y hy hf=>I.ok.has y.1 (wF ((S.at hy).2.2 hf));rw[exec_Assign_Name_used _ _ _ _ hsw];refine wpAny_bind (wpAny_standAt (wpAny_bind ?_));show wpAny _ X.A (comprehension (.ListComp elt [⟨tg,iter,ifs,0⟩] scope pos) scope X.env _ (newList []) false (eval iter X.env) (some (assign (.Name y py) X.env)) >>= fun _=>pure ()) _ _ s;refine wpAny_bind (thn (Q:=fun _ s'=>SP X pins D' .next s') ?_ fun _ s' hq=>wpAny_pure (wpAny_pure hq));refine wpAny_comprehension_free (use:=some (assign (.Name y py) X.env)) rfl hs L.eq S.kind (fun y hy=>(S.at hy).2.1) (thn (hi pins s σ H _ I h) fun x s1 h1=>thn h1 fun itv s2 h2=>?_);obtain⟨it,fp,tn,J,H2,rfl,I2,T,st2,f2,R⟩:=h2;refine thn (uJ hc S L hg ht he I2 T st2 f2 R) fun acc s3 h3=>thn h3 fun cenv s4 h4=>codeAny_mono h4 fun r s' hr=>?_;obtain⟨D,H',m,rfl,rfl,I',hm,fC,q⟩:=hr;obtain⟨c0,c1,c2,c3,c4,c5⟩:=fC;show wpAny _ X.A (assign (.Name y py) X.env (.ref D)) _ _ _;refine wpAny_assign_Name (ug I' hN hiy hy (show RelV (.ref D) (.ref D) from rfl) (fun s'' I'' hq0=>?_) hf);obtain⟨a,sb,ha⟩:=hq0;have hne:cenv.locals≠a:=by
  rcases ha with z | z
  ·rw[z];exact c1
  ·exact fun z'=>c4 y a z z'.symm
 refine⟨m,hm.sameBut sb hne,fun h' sb'=>?_⟩;exact⟨_,H',I''.turned (t':=s''.toks) (fun b o hb e=>sb'.extBut b o hb e) c0 c1 c3 c4 c5,q⟩
end
def zcz(i j:Int):Prop:=0<j/\j.natAbs.log2<9000
section
variable {X:Cx}
theorem wC:OpR X (binaryOp .FloorDiv) (rI zcz fun i j=>.int (i/j)):=opI fun i j _ _ _ _ _ hc q=>by
 have e:i.fdiv j=i/j:=Int.fdiv_eq_ediv_of_nonneg i (Int.le_of_lt hc.1);exact floordiv_int (Ne.symm (Int.ne_of_lt hc.1)) (by rw[e];exact q) (.inl (PyProof.noPylong_of_log2 hc.2))
def zbw:V->Option Value
 |.ty n=>some (.type n)
 |.ref a=>some (.ref a)
 |_=>none
theorem WZ{c:V}{cv u:Value}(h:zbw c=some cv)(r:RelV c u):u=cv:=by
 cases c<;>simp[zbw] at h
 ·exact(show u=Value.ref _ from r).trans h
 ·exact(show u=Value.type _ from r).trans h
def zc1(K:W.Frag):List V->Hp->VK->Prop:=fun xs H Q=>∃ x c t cv b,xs=[x,c]/\zbw c=some cv/\TyOf K H x t/\PySem.W.kitOne K t cv=some b/\Q (.bl b) H
theorem zG:yS X (.builtin "isinstance") (zc1 X.K):=by
 intro pins s σ H xs us Q I r h;obtain⟨x,c,t,cv,b,rfl,hc,ty,e,q⟩:=h;obtain⟨u,v,rfl,r1,r2⟩:=r.two;obtain rfl:=WZ hc r2;exact XB I r1 ty e fun tk=>⟨.bl b,H,I.tok tk,rfl,q⟩
inductive EqD (K:W.Frag) (H:Hp):V->V->Bool->Nat->Prop where
 |flat {x y:V}{n:Nat}(fx:w4 x=true) (fy:w4 y=true):EqD K H x y (eqV x y) n
 |same {a:Addr}{n:Nat}:EqD K H (.ref a) (.ref a) true n
 |lst {a b:Addr}{xs ys:List V}{e:Nat->Bool}{n:Nat}(hne:a≠b) (ha:SqL K H a xs) (hb:SqL K H b ys) (hl:xs.length=ys.length) (h:∀ (j:Nat) x y,xs[j]?=some x->ys[j]?=some y->EqD K H x y (e j) n) :
   EqD K H (.ref a) (.ref b) ((List.range xs.length).all e) (n+1)
 |tup {a b:Addr}{xs ys:List V}{e:Nat->Bool}{n:Nat}(hne:a≠b) (ha:SqT K H a xs) (hb:SqT K H b ys) (hl:xs.length=ys.length) (h:∀ (j:Nat) x y,xs[j]?=some x->ys[j]?=some y->EqD K H x y (e j) n) :
   EqD K H (.ref a) (.ref b) ((List.range xs.length).all e) (n+1)
theorem yd(A:Around):A.in1.units=A.units+1:=rfl
theorem EqD.at{pins:List (Addr×Obj)}{σ:St}{H:Hp}{s:Shared}{x y:V}{b:Bool}{n:Nat}(I:Inv X pins σ H s)(h:EqD X.K H x y b n) :
  ∀ (A:Around) (u v:Value),A.units+n<cLine->RelV x u->RelV y v->SeqAt.EqAt A s u v b:=by
 induction h with
 |flat fx fy=>intro A u v _ rx ry;exact eqAt_V rx ry fx fy
 |same=>intro A u v _ rx ry;cases rx;cases ry;exact SeqAt.EqAt.same _
 | @lst a b xs ys e n hne ha hb hl h ih =>
  intro A u v hu rx ry;cases rx;cases ry;obtain⟨i1,r1,p1,_⟩:=I.list ha;obtain⟨i2,r2,p2,_⟩:=I.list hb;have l1:=r1.length;have l2:=r2.length;refine SeqAt.EqAt.of_refs hne ?_;have q:=SeqAt.RcAt.lists (A:=A) (s:=s) (e:=e) p1.isList p2.isList (by simp;omega) (by omega) (fun j h1 h2=>?_)
  ·rw[size_toArray,<- l1] at q
   exact q
  ·have g1:j<xs.length:=by rw[l1];simpa using h1
   have g2:j<ys.length:=by rw[l2];simpa using h2
   obtain⟨u1,e1,q1⟩:=r1.get (i:=j) (x:=xs[j]) (by simp[g1]);obtain⟨u2,e2,q2⟩:=r2.get (i:=j) (x:=ys[j]) (by simp[g2]);have f1:i1.toArray[j]=u1:=by
    have:=List.getElem?_eq_some_iff.mp e1;obtain⟨_,z⟩:=this
    simpa using z
   have f2:i2.toArray[j]=u2:=by
    have:=List.getElem?_eq_some_iff.mp e2;obtain⟨_,z⟩:=this
    simpa using z
   rw[f1,f2];exact ih j _ _ (by simp[g1]) (by simp[g2]) A.in1 u1 u2 (by rw[yd];omega) q1 q2
 | @tup a b xs ys e n hne ha hb hl h ih =>
  intro A u v hu rx ry;cases rx;cases ry;obtain⟨i1,r1,p1,_⟩:=I.tuple ha;obtain⟨i2,r2,p2,_⟩:=I.tuple hb;have l1:=r1.length;have l2:=r2.length;refine SeqAt.EqAt.of_refs hne ?_;have q:=SeqAt.RcAt.tuples (A:=A) (s:=s) (e:=e) (show s.heap.IsTuple a i1.toArray from p1) (show s.heap.IsTuple b i2.toArray from p2) (by omega) (fun j h1 h2=>?_)
  ·have z:i1.toArray.size=i2.toArray.size:=by simp;omega
   rw[<- z,min_self,beq_self_eq_true,Bool.and_true,size_toArray,<- l1] at q;exact q
  ·have g1:j<xs.length:=by rw[l1];simpa using h1
   have g2:j<ys.length:=by rw[l2];simpa using h2
   obtain⟨u1,e1,q1⟩:=r1.get (i:=j) (x:=xs[j]) (by simp[g1]);obtain⟨u2,e2,q2⟩:=r2.get (i:=j) (x:=ys[j]) (by simp[g2]);have f1:i1.toArray[j]=u1:=by
    have:=List.getElem?_eq_some_iff.mp e1;obtain⟨_,z⟩:=this
    simpa using z
   have f2:i2.toArray[j]=u2:=by
    have:=List.getElem?_eq_some_iff.mp e2;obtain⟨_,z⟩:=this
    simpa using z
   rw[f1,f2];exact ih j _ _ (by simp[g1]) (by simp[g2]) A.in1 u1 u2 (by rw[yd];omega) q1 q2
def zbW(K:W.Frag)(A:Around)(neg:Bool):R2:=fun x y H Q=>∃ (a b:Addr) (xs ys:List V) (e:Nat->Bool) (n:Nat),x=.ref a/\y=.ref b/\((SqL K H a xs/\SqL K H b ys)\/(SqT K H a xs/\SqT K H b ys))/\xs.length=ys.length /\
 A.units+n+2<cLine/\(∀ (j:Nat) x y,xs[j]?=some x->ys[j]?=some y->EqD K H x y (e j) n)/\Q (.bl (if neg then !(List.range xs.length).all e else(List.range xs.length).all e)) H
theorem wE{pins:List (Addr×Obj)}{σ:St}{H:Hp}{s:Shared}{A:Around}{xs ys:List V}{i1 i2:List Value}{e:Nat->Bool}{n:Nat}(I:Inv X pins σ H s)(r1:Vals xs i1)(r2:Vals ys i2)(hu:A.units+n+2<cLine)
  (h:∀ (j:Nat) x y,xs[j]?=some x->ys[j]?=some y->EqD X.K H x y (e j) n):∀ (j:Nat) (h1:j<i1.toArray.size) (h2:j<i2.toArray.size),SeqAt.EqAt A.in1 s i1.toArray[j] i2.toArray[j] (e j):=fun j h1 h2=>by
 have g1:j<xs.length:=by rw[r1.length];simpa using h1
 have g2:j<ys.length:=by rw[r2.length];simpa using h2
 obtain⟨u1,e1,q1⟩:=r1.get (i:=j) (x:=xs[j]) (by simp[g1]);obtain⟨u2,e2,q2⟩:=r2.get (i:=j) (x:=ys[j]) (by simp[g2]);have f1:i1.toArray[j]=u1:=by
  obtain⟨_,z⟩:=List.getElem?_eq_some_iff.mp e1
  simpa using z
 have f2:i2.toArray[j]=u2:=by
  obtain⟨_,z⟩:=List.getElem?_eq_some_iff.mp e2
  simpa using z
 rw[f1,f2];exact(h j _ _ (by simp[g1]) (by simp[g2])).at I A.in1 u1 u2 (by rw[yd];omega) q1 q2
theorem zaE:OpR X (compareOp .Eq) (zbW X.K X.A false):=by
 intro pins s σ H x y v u Q I rx ry h;obtain⟨a,b,xs,ys,e,n,rfl,rfl,hq,hl,hu,hi,q⟩:=h;cases rx;cases ry;rcases hq with⟨h1,h2⟩ | ⟨h1,h2⟩
 ·obtain⟨i1,r1,p1,_⟩:=I.list h1
  obtain⟨i2,r2,p2,_⟩:=I.list h2;refine SeqAt.eq_listAt p1.isList p2.isList (by simp;rw[<- r1.length,<- r2.length,hl]) (by omega) (wE I r1 r2 hu hi) ⟨.bl _,H,I,rfl,?_⟩;rw[size_toArray,<- r1.length];exact q
 ·obtain⟨i1,r1,p1,_⟩:=I.tuple h1
  obtain⟨i2,r2,p2,_⟩:=I.tuple h2;have z:i1.toArray.size=i2.toArray.size:=by simp;rw[<- r1.length,<- r2.length,hl]
  refine SeqAt.eq_tupleAt (show s.heap.IsTuple a i1.toArray from p1) (show s.heap.IsTuple b i2.toArray from p2) (by omega) (wE I r1 r2 hu hi) ⟨.bl _,H,I,rfl,?_⟩;rw[<- z,min_self,beq_self_eq_true,Bool.and_true,size_toArray,<- r1.length];exact q
theorem vB:OpR X (compareOp .NotEq) (zbW X.K X.A true):=by
 intro pins s σ H x y v u Q I rx ry h;obtain⟨a,b,xs,ys,e,n,rfl,rfl,hq,hl,hu,hi,q⟩:=h;cases rx;cases ry;rcases hq with⟨h1,h2⟩ | ⟨h1,h2⟩
 ·obtain⟨i1,r1,p1,_⟩:=I.list h1
  obtain⟨i2,r2,p2,_⟩:=I.list h2;refine SeqAt.RcNeAt.lists p1.isList p2.isList (by simp;rw[<- r1.length,<- r2.length,hl]) (by omega) (wE I r1 r2 hu hi) _ _ _ _ ⟨.bl _,H,I,rfl,?_⟩;rw[size_toArray,<- r1.length];exact q
 ·obtain⟨i1,r1,p1,_⟩:=I.tuple h1
  obtain⟨i2,r2,p2,_⟩:=I.tuple h2;have z:i1.toArray.size=i2.toArray.size:=by simp;rw[<- r1.length,<- r2.length,hl]
  refine SeqAt.RcNeAt.tuples (show s.heap.IsTuple a i1.toArray from p1) (show s.heap.IsTuple b i2.toArray from p2) (by omega) (wE I r1 r2 hu hi) _ _ _ _ ⟨.bl _,H,I,rfl,?_⟩;rw[<- z,min_self,beq_self_eq_true,Bool.and_true,size_toArray,<- r1.length];exact q
theorem vL{κ:Type}[DecidableEq κ]:∀ {kvs:List (κ×V)}{k:κ}{v:V},(kvs.map (·.1)).Nodup->(k,v)∈kvs->yG kvs k=some v
 |(k',v')::r,k,v,nd,h=>by
  rw[map_cons] at nd;obtain⟨n1,n2⟩:=nodup_cons.mp nd;rcases mem_cons.mp h with e | h
  ·cases e
   exact xL (p:=(k',v')) rfl
  ·have hk:¬ k'=k:=fun z=>n1 (mem_map.mpr ⟨(k,v),h,z.symm⟩)
   rw[xM (p:=(k',v')) hk];exact vL n2 h
theorem Ys:yS X (.type "dict") (fun xs H Q=>∃ a kvs,xs=[V.ref a]/\H a=some (.dK kvs)/\∀ p,H p=none->Q (.ref p) (upd H p (.dK kvs))):=by
 intro pins s σ H xs us Q I r h;obtain⟨a,kvs,rfl,ha,q⟩:=h;obtain⟨u,rfl,ru⟩:=r.one;cases ru;exact WV I (.inl ha) fun p s' hp I'=>⟨.ref p,_,I',rfl,q p hp⟩
end
structure Callee (P:Program) (w:World) (K:W.Frag) (mg:Str->Option Value) (base:Heap) (x:Str) (f:Addr) (fd:FuncData) (ps:List Str) (k:Nat) (sp:Sp):Prop where
 ok:FnOk P w K mg base CX0 k f fd ps sp
 g:mg x=some (.ref f)
 kp:PySem.W.keepIn K (.ref f)=true
 b:Binds K fd ps []
structure Maker (P:Program) (w:World) (K:W.Frag) (mg:Str->Option Value) (base:Heap) (x:Str) (C f:Addr) (fd:FuncData) (ps:List Str) (k:Nat) (sp:Sp):Prop where
 ok:FnOk P w K mg base CX0 k f fd ps sp
 g:mg x=some (.ref C)
 mm:Mk K C f
 b:Binds K fd ps []
section
variable {X:Cx}{k:Nat}{f C:Addr}{fd:FuncData}{ps:List Str}{sp:Sp}{x m:Str}{p pos apos:Pos}{e o:Expr}{es:List Expr}{ta:TE}{t:TA}
theorem Vr(c:Callee X.prog X.w X.K X.mg X.base x f fd ps k sp)(hr:Room k X.A)(ha:PA X (e::es) t)(hg:Gl X x:=by rfl)(hdb:(x == ("__debug__" : Str))=false:=by decide)
  (he:starEach (e::es) X.env=(false,eval e X.env)::starEach es X.env:=by rfl) (hpl:(backTo pos (starEach es X.env)).any (·.1)=false:=by rfl):PE X (.Call (.Name x p) (e::es) [] pos) (u7 sp [] E0 t) :=
 Y0 c.ok hr hg c.g c.kp c.b .nil Wp ha hdb he hpl
theorem YA(c:Maker X.prog X.w X.K X.mg X.base x C f fd ps k sp)(hr:Room (k+1) X.A)(ha:Bx (PA X (e::es) t))(hg:Gl X x:=by rfl)(hdb:(x == ("__debug__" : Str))=false:=by decide)(he:starEach (e::es) X.env=(false,eval e X.env)::starEach es X.env:=by rfl)(hpl:(backTo pos (starEach es X.env)).any (·.1)=false:=by rfl):Bx (PE X (.Call (.Name x p) (e::es) [] pos) (U5 C sp [] E0 t)):=by
 have ha:=ha.of;exact⟨Ul c.mm c.ok hr hg c.g c.b .nil Wp ha hdb he hpl⟩
def uf(X:Cx)(m:Str)(ta:TE)(t:TA):TE:=fun σ H Q=>ta σ H fun x H1=>∃ (a C dx:Addr) (fs:List (Str×V)) (f:Addr) (fd:FuncData) (ps:List Str) (k:Nat) (sp:Sp),x=.ref a/\H1 a=some (.ins C dx fs)/\fs.lookup m=none/\Cls X.K C/\Meth X.K C m f /\
 FnOk X.prog X.w X.K X.mg X.base CX0 k f fd ps sp/\Room k X.A/\Binds X.K fd ps []/\t σ H1 fun vs H2=>sp (x::(vs++[])) H2 Q E0
theorem Wo{pl:Sem Bool}(he:PE X o ta)(ha:PA X (e::es) t)
  (hst:starEach (e::es) X.env=(false,eval e X.env)::starEach es X.env:=by rfl) (hpl:(backTo pos (starEach es X.env)).any (·.1)=false:=by rfl)
  (ht:eval (.Call (.Attribute o m apos) (e::es) [] pos) X.env=(do
   let ov <- eval o X.env
   standAt apos.atName
   let (f,first) <- holding [ov] (getMethod ov m pl)
   callWith pos f first (backTo pos (starEach (e::es) X.env)) (backToKw pos (keywordEach [] X.env))):=by rfl) :
  PE X (.Call (.Attribute o m apos) (e::es) [] pos) (uf X m ta t):=by
 intro pins s σ H Q I h;refine PySem.W.methodCall_KW (pl:=pl) (thn (he pins s σ H _ I h) fun u s1 hq0=>?_) ht;obtain⟨x,H1,I1,rx,a,C,dx,fs,f,fd,ps,k,sp,ex,ea,l,cl,hm,F,hr,hb,q⟩:=hq0;subst ex;obtain rfl:u=Value.ref a:=rx;refine xx I1 ea cl hm l ?_;refine PySem.W.callWith_K (first:=[.ref a]) (h₀:=X.base) I.ok.mod.kin hm.kp (thn (ha pos pins s1 σ H1 _ I1 q) fun us s2 ⟨vs,H2,I2,r,q2⟩=>⟨I2.kIn,?_⟩) hst hpl;exact ZI (us:=.ref a::us) (vs:=.ref a::vs) F hr hb .nil Wp I2 (.cons rfl r) q2
theorem YZ{pl:Sem Bool}(he:PE X o ta)
  (ht:eval (.Call (.Attribute o m apos) [] [] pos) X.env=(do
   let ov <- eval o X.env
   standAt apos.atName
   let (f,first) <- holding [ov] (getMethod ov m pl)
   callWith pos f first (backTo pos (starEach [] X.env)) (backToKw pos (keywordEach [] X.env))):=by rfl) :
  PE X (.Call (.Attribute o m apos) [] [] pos) (uf X m ta Wh):=by
 intro pins s σ H Q I h;refine PySem.W.methodCall_KW (pl:=pl) (thn (he pins s σ H _ I h) fun u s1 hq0=>?_) ht;obtain⟨x,H1,I1,rx,a,C,dx,fs,f,fd,ps,k,sp,ex,ea,l,cl,hm,F,hr,hb,q⟩:=hq0;subst ex;obtain rfl:u=Value.ref a:=rx;refine xx I1 ea cl hm l ?_;exact PySem.W.callWith_K0 (first:=[.ref a]) I1.kIn hm.kp (ZI (us:=[.ref a]) (vs:=[.ref a]) F hr hb .nil Wp I1 (.cons rfl .nil) q)
end
section
variable {X:Cx}{pins:List (Addr×Obj)}{σ:St}{H:Hp}{s:Shared}{a b:Addr}{xs ys:List V}
theorem Inv.turnedLaid{h':Heap}{t':Nat}{ch:List Addr}{T:Addr}{o:HO}(I:Inv X pins σ H s)(hf:∀ b∈ch,FpOk X pins H b)(k:∀ b u,b∉ch->s.heap.get? b=some u->h'.get? b=some u)(hT:s.heap.objs.size<=T)
  (new:ObjOk X.prog X.w (upd H T o) h' T o):Inv X pins σ (upd H T o) { s with heap:=h',toks:=t' }:=by
 have hn:H T=none:=I.hok.fresh hT;have nch:∀ b u,H b=some u->b∉ch:=fun b u e hb=>by rw[(hf b hb).1] at e;cases e
 have neT:∀ b u,s.heap.get? b=some u->b≠T:=fun b u e=>ne_of_lt (lt_of_lt_of_le (Heap.lt_size e) hT);refine I.step (g':=s.gens) (d':=s.drawn) (ch:=ch) (fun b hb=>?_) (fun b u _ _ hc e _=>k b u hc e) (fun b u _ _ hc e _=>⟨u.slots,k b u hc e⟩) (fun b u _ e n=>?_) (fun b u hc e=>⟨u,k b u hc e⟩)
  (fun b zs e=>?_) (fun b ob u e=>?_) (fun b ps e=>⟨#[],?_⟩) (fun m hm=>?_) (fun b u e=>?_) I.bare
 ·exact⟨(hf b hb).2.2.2.1,(hf b hb).2.1,(hf b hb).2.2.2.2.1,(hf b hb).2.2.2.2.2⟩
 ·rw[upd_ne (neT b u e)];exact n
 ·rw[upd_ne (nZ e hn)];exact e
 ·rw[upd_ne (nZ e hn)];exact e
 ·rw[upd_ne (nZ e hn),e];simp
 ·obtain⟨ob,es,ep,ho,r⟩:=hm
  exact⟨ob,es,ep,k _ ob (fun hb=>(hf _ hb).2.1 rfl) ho,r⟩
 ·by_cases hb:b=T
  ·subst hb
   rw[za] at e;cases e;exact new
  ·rw[upd_ne hb] at e
   refine(I.hok b u e).stay (fun c v hc q=>k c v ?_ q) (fun c q=>by rw[upd_ne (nZ q hn)];exact q) fun c zs q=>by rw[upd_ne (nZ q hn)];exact q
   rcases hc with z | z
   ·rw[z];exact nch b u e
   ·exact nch c _ z
end
theorem Wc{X:Cx}{x:Str}{C:Addr}{pos:Pos}(hm:X.mg x=some (.ref C))(hg:Gl X x:=by rfl)(hd:(x == ("__debug__" : Str))=false:=by decide):Bx (PE X (.Name x pos) (tC (.ref C))):=by
 exact⟨Zf hg hm rfl hd⟩
theorem vx{X:Cx}{x:Str}{n:String}{pos:Pos}(hm:X.mg x=none)(hv:bootBuiltins x=some (.type n))(hg:Gl X x:=by rfl)(hn:x ≠ "__name__" := by decide)(hd:(x == ("__debug__" : Str))=false:=by decide):PE X (.Name x pos) (tC (.ty n)):=Uo hg hm hv rfl hn hd
theorem yg:bootBuiltins "len" = some (.builtin "len"):=by decide +kernel
theorem uP:bootBuiltins "int" = some (.type "int"):=by decide +kernel
theorem zbn:bootBuiltins "min" = some (.builtin "min"):=by decide +kernel
theorem zbo:bootBuiltins "max" = some (.builtin "max"):=by decide +kernel
theorem zp:bootBuiltins "isinstance" = some (.builtin "isinstance"):=by decide +kernel
theorem bt_list:bootBuiltins "list" = some (.type "list"):=by decide +kernel
theorem vc:bootBuiltins "dict" = some (.type "dict"):=by decide +kernel
theorem xu:bootBuiltins "sorted" = some (.builtin "sorted"):=by decide +kernel
theorem zbm:bootBuiltins "str" = some (.type "str"):=by decide +kernel
theorem vd:bootBuiltins "bool" = some (.type "bool"):=by decide +kernel
theorem yV:bootBuiltins "tuple" = some (.type "tuple"):=by decide +kernel
end L2
namespace K04
open PySem L2
def Ext(l:Addr)(H H':Hp):Prop:=∀ b o,H b=some o->b≠l->H' b=some o
theorem Ext.refl{l:Addr}{H:Hp}:Ext l H H:=fun _ _ e _=>e
theorem Ext.trans{l:Addr}{H H1 H2:Hp}(a:Ext l H H1)(b:Ext l H1 H2):Ext l H H2:=fun c o e n=>b c o (a c o e n) n
theorem Ext.same{l:Addr}{H H':Hp}(a:Same H H'):Ext l H H':=fun c o e _=>a c o e
theorem Ext.new{l p:Addr}{H:Hp}{o:HO}(h:H p=none):Ext l H (upd H p o):=fun c u e _=>by rw[upd_ne (nZ e h)];exact e
theorem Ext.at{l:Addr}{H:Hp}{o:HO}:Ext l H (upd H l o):=fun c u e n=>by rw[upd_ne n];exact e
theorem sW{p:Addr}{H:Hp}{o:HO}(h:H p=none):Same H (upd H p o):=fun c u e=>by rw[upd_ne (nZ e h)];exact e
theorem WN{i:Nat}{v:V}{τ:St}{H:Hp}{A B:St->Hp->Prop}(h:A (τ.set i (some v)) H):wc i v τ H fun τ2 H4=>zbs τ2 H4 fun b H5=>if b=true then A τ2 H5 else B τ2 H5:=by
 show if true=true then A (τ.set i (some v)) H else B (τ.set i (some v)) H
 exact iteT h
theorem WW{ns:LI}{lo hi:Option Int}{i:Nat}{y:V}(h:(cutV (ns.map V.int) lo hi)[i]?=some y):∃ c,y=.int c:=by
 have hm:=mem_of_getElem? h;unfold cutV at hm;obtain⟨c,_,e⟩:=mem_map.mp (List.mem_of_mem_drop (mem_of_mem_take hm));exact⟨c,e.symm⟩
theorem WE:((1009:Int).natAbs.log2<9000):=by decide
theorem WD:((2003:Int).natAbs.log2<9000):=by decide
end K04
namespace L2
open PySem PySem.Spec PyProof.Rows
section
variable {X:Cx}
theorem vY:∀ {ns:LI}{its:List Value},Vals (ns.map V.int) its->IntsAre its ns
 |[],_,r=>by cases r;exact .nil
 |n::ns,_,r=>by
  cases r with
  |cons h t =>
   obtain⟨k,rfl⟩:=h;exact .cons _ _ (vY t)
theorem Xf:∀ {ns:LI}{its:List Value},IntsAre its ns->Vals (ns.map V.int) its
 |_,_,.nil=>.nil
 |_,_,.cons _ _ t=>.cons ⟨_,rfl⟩ (Xf t)
def zat(K:W.Frag):List V->Hp->VK->Prop:=fun xs H Q=>∃ (a:Addr) (ns:LI),xs=[V.ref a]/\SqL K H a (ns.map V.int)/\ns.length<64/\∀ (p:Addr) (ms:LI),H p=none->ms.Perm ns->ms.Pairwise (· <= ·)->Q (.ref p) (upd H p (.lst (ms.map V.int)))
theorem we:yS X (.builtin "sorted") (zat X.K):=by
 intro pins s σ H xs us Q I r h;obtain⟨a,ns,rfl,ha,h64,q⟩:=h;obtain⟨u,rfl,ru⟩:=r.one;cases ru;obtain⟨its,rv,p,hz⟩:=I.list ha;have hl:=rv.length;rw[length_map] at hl hz;refine sorted_ints p.isList (vY rv) (by omega) fun out ms a1 a2 a3=>?_;have hn:H (s.heap.objs.size+1)=none:=I.hok.fresh (le_succ _);obtain⟨c,hc⟩:=sortedAll_at s.heap its out;refine⟨.ref _,_,I.laid (a:=s.heap.objs.size+1) (o:=.lst (ms.map V.int)) (t':=s.toks) (fun _ _ e=>sortedAll_old e) (le_succ _) ⟨?_,out.toList,c,Xf a1,?_⟩,rfl,q _ ms hn a2 a3⟩
 ·rw[length_map,a2.length_eq];exact hz
 ·exact hc
def zcZ(K:W.Frag)(A:Around):R2:=fun x y H Q=>∃ (a b:Addr) (xs ys:List V),x=.ref a/\y=.ref b/\SqL K H a xs/\SqL K H b ys/\xs.length≠ys.length/\A.units<cLine/\Q (.bl true) H
theorem vC:OpR X (compareOp .NotEq) (zcZ X.K X.A):=by
 intro pins s σ H x y v u Q I rx ry h;obtain⟨a,b,xs,ys,rfl,rfl,h1,h2,hl,hu,q⟩:=h;cases rx;cases ry;obtain⟨i1,r1,p1,_⟩:=I.list h1;obtain⟨i2,r2,p2,_⟩:=I.list h2;exact SeqAt.RcNeAt.lists_lengths p1.isList p2.isList (by simp;rw[<- r1.length,<- r2.length];exact hl) hu _ _ _ _ ⟨.bl _,H,I,rfl,q⟩
end
theorem wQ{X:Cx}{f:Value->Value->Sem Value}{r1 r2:R2}(h1:OpR X f r1)(h2:OpR X f r2):OpR X f (fun x y H Q=>r1 x y H Q\/r2 x y H Q):=by
 intro pins s σ H x y v u Q I rx ry h;rcases h with h | h
 ·exact h1 pins s σ H x y v u Q I rx ry h
 ·exact h2 pins s σ H x y v u Q I rx ry h
def DictAt(a D:Addr)(h:Heap):Prop:=∃ o,h.get? a=some o/\o.dict=some D
def KD(h h':Heap):Prop:=∀ a D,DictAt a D h->DictAt a D h'
def Kp{α:Type}:Sem α->Prop
 |.pure _=>True
 |.raise _=>True
 |.unsupported _=>True
 |.finish _=>True
 |.rule _ k=>Kp (k ())
 |.at _ k=>Kp (k ())
 |.load _ _ k=>∀ o,Kp (k o)
 |.update _ _ f k=>(∀ o,(f o).dict=o.dict/\((f o).data=.freed->o.data=.freed))/\Kp (k ())
 |.alloc _ k=>∀ a,Kp (k a)
 |.loadIfAlive _ k=>∀ o,Kp (k o)
 |.point _ k=>Kp (k ())
 |.register _ _=>True
 |.fresh k=>∀ t,Kp (k t)
 |.ask k=>∀ x,Kp (k x)
 |.choose _ _ k=>∀ n,Kp (k n)
 |.os _ _ k=>∀ r,Kp (k r)
 |.call ..=>False
 |.handled _ k=>∀ o,Kp (k o)
 |.newGen _ k=>∀ n,Kp (k n)
 |.genState _ k=>∀ x,Kp (k x)
 |.resume ..=>False
 |.yield ..=>True
 |.stack k=>∀ l,Kp (k l)
 |.fork ..=>True
 |.thread k=>∀ n,Kp (k n)
 |.await ..=>True
section
variable {α β:Type}
theorem WI(m:Sem α)(f:α->Sem β)(h:Kp m)(k:∀ x,Kp (f x)):Kp (m.bind f):=by
 induction m<;>simp only[Kp,Sem.bind] at h ⊢<;>first | trivial | exact k _ | (rename_i ih;exact ih _ h) | (rename_i ih;exact⟨h.1,ih _ h.2⟩) | (rename_i ih;exact fun x=>ih x (h x))
theorem kp_bind{m:Sem α}{f:α->Sem β}(h:Kp m)(k:∀ x,Kp (f x)):Kp (m >>= f):=WI m f h k
theorem kp_pure{x:α}:Kp (pure x:Sem α):=True.intro
theorem xR{c:Prop}[Decidable c]{a b:Sem α}(h:Kp a)(k:Kp b):Kp (if c then a else b):=by split<;>assumption
theorem DictAt.upd{h:Heap}{a D b:Addr}{f:Obj->Obj}(hf:∀ o,(f o).dict=o.dict/\((f o).data=.freed->o.data=.freed))(x:DictAt a D h):DictAt a D (h.update b f):=by
 obtain⟨o,e,d⟩:=x;by_cases hb:b=a
 ·subst hb
  refine⟨f o,Heap.get?_update_self f e ?_,(hf o).1.trans d⟩;cases q:(f o).isFreed with
  |false=>rfl
  |true =>
   exfalso
   have q1:(f o).data=.freed:=by
    revert q
    generalize f o=u;intro q;obtain⟨c,d',dt,sl⟩:=u;cases dt<;>first | rfl | cases q
   have q2:=(hf o).2 q1;obtain⟨c,d',dt,sl⟩:=o;cases q2;simp only[Heap.get?] at e
   split at e
   ·cases e
   ·rename_i hne
    exact hne _ _ _ e
 ·exact⟨o,(Heap.get?_update_other _ _ hb).trans e,d⟩
theorem DictAt.keeps{h h':Heap}{a D:Addr}(x:DictAt a D h)(k:∀ b o,h.get? b=some o->h'.get? b=some o):DictAt a D h':=let ⟨o,e,d⟩:=x;⟨o,k _ _ e,d⟩
theorem zbz{M:Model}{Γ:PySem.Ctx}(t:Sem α){Q:α->Pos->Shared->Prop}{E:Value->Pos->Shared->Prop}{h0:Heap}(g:Kp t)(p:Pos)(s:Shared)(k:KD h0 s.heap)(h:Sem.wp M Γ t Q E p s) :
  Sem.wp M Γ t (fun a p' s'=>Q a p' s'/\KD h0 s'.heap) E p s:=by
 induction t generalizing p s with
 |pure x=>exact⟨h,k⟩
 |raise v=>exact h
 |unsupported | finish | yield | fork | await | register=>exact h
 |rule _ _ ih | «at» _ _ ih | point _ _ ih=>exact ih _ g _ _ k h
 |loadIfAlive _ _ ih | fresh _ ih | ask _ ih | os _ _ _ ih | handled _ _ ih | newGen _ _ ih | stack _ ih | thread _ ih=>exact ih _ (g _) _ _ k h
 |alloc o _ ih=>exact ih _ (g _) _ _ (fun a D x=>(k a D x).keeps fun b u e=>Heap.get?_push_of_some _ e) h
 |load _ _ _ ih | genState _ _ ih =>
  obtain⟨o,ho,h⟩:=h;exact⟨o,ho,ih _ (g _) _ _ k h⟩
 |choose _ _ _ ih=>exact⟨h.1,ih _ (g _) _ _ k h.2⟩
 |update a _ f _ ih=>exact⟨h.1,ih _ g.2 _ _ (fun b D x=>(k b D x).upd g.1) h.2⟩
 |call=>exact False.elim g
 |resume=>exact False.elim g
theorem X8{M:Model}{A:Around}{t:Sem α}{Q:α->Shared->Prop}{E:Value->Shared->Prop}{s:Shared}(g:Kp t)(h:wpAny M A t Q E s):wpAny M A t (fun a s'=>Q a s'/\KD s.heap s'.heap) E s :=
 fun Γ p hΓ=>zbz t g p s (fun _ _ x=>x) (h Γ p hΓ)
theorem Zn{a:Addr}:Kp (load a):=fun _=>True.intro
theorem Zq{v:Value}:Kp (fieldsOf v):=by
 unfold fieldsOf;cases v<;>first | trivial | skip
 refine kp_bind Zn fun o=>?_
 split<;>trivial
theorem wD{v:Value}{i:Nat}:Kp (field v i):=by
 unfold field;refine kp_bind Zq fun o=>?_
 split<;>trivial
theorem Zp{g:Array Value->Array Value}(o:Obj):(Obj.mapFields g o).dict=o.dict/\((Obj.mapFields g o).data=.freed->o.data=.freed):=by
 obtain⟨c,d,dt,sl⟩:=o;cases dt<;>exact⟨rfl,fun q=>by first | rfl | cases q⟩
theorem vh{a:Addr}{i:Nat}{x:Value}:Kp (updateField a i x):=by
 unfold updateField;refine kp_bind Zn fun o=>?_
 split
 ·refine xR ?_ True.intro
  exact⟨Zp,True.intro⟩
 ·trivial
theorem xi{v:Value}{i:Nat}{x:Value}:Kp (setField v i x):=by
 unfold setField;cases v<;>first | trivial | exact vh
theorem uz{e:Value}{f:Option Addr}:Kp (setFlight e f):=by
 unfold setFlight;exact kp_bind wD fun o=>xR xi kp_pure
theorem Zo{env:Env}{b:Bool}{l:List Env}:Kp (keptBack env b l):=by
 unfold keptBack;cases l with
 |nil =>
  dsimp only;refine xR kp_pure (kp_bind ?_ fun x=>kp_pure);unfold underTheClaimsCaller
  first | exact fun _=>True.intro | exact kp_bind (fun _=>True.intro) fun _=>True.intro
 |cons c l=>exact kp_pure
theorem kp_behind{env:Env}{l:List Env}:Kp (behindIsImport env l):=by
 unfold behindIsImport;refine xR kp_pure (xR kp_pure ?_);exact kp_bind wD fun _=>kp_pure
theorem WH(l:List Env):Kp (readyFrames l):=by
 induction l with
 |nil=>trivial
 |cons env l ih =>
  unfold readyFrames
  split
  ·refine kp_bind Zn fun o=>xR kp_pure (kp_bind kp_behind fun b=>kp_bind Zo fun v=>kp_bind ?_ fun _=>ih)
   exact⟨fun o=>⟨rfl,id⟩,True.intro⟩
  ·trivial
theorem vE{env:Env}:Kp (PySem.frameOf env):=by
 unfold PySem.frameOf;refine kp_bind (kp_bind (fun _=>True.intro) fun _=>True.intro) fun l=>kp_bind ?_ fun o=>?_
 ·generalize l.dropWhile _=l'
  cases l' with
  |nil=>trivial
  |cons c r =>
   unfold frameObject;exact kp_bind (WH _) fun _=>kp_pure
 ·split<;>trivial
theorem xS{f:Addr}{b:Bool}:Kp (entryPlaceOf f b):=by
 unfold entryPlaceOf;refine kp_bind (fun _=>True.intro) fun l=>?_
 split<;>trivial
theorem wW{a b c d e:Value}{pl:List Value}:Kp (EntryCells.newEntry a b c d e pl):=by
 unfold EntryCells.newEntry newFields newObj newObjAsIs;dsimp only;have al:∀ o:Obj,Kp (alloc o):=fun _ _=>True.intro;refine xR ?_ ?_
 ·exact kp_bind (m:=Sem.unsupported _) True.intro fun _=>kp_bind (al _) fun _=>kp_pure
 ·exact kp_bind (al _) fun _=>kp_pure
theorem kp_noteFrame{e:Value}{env:Env}:Kp (noteFrame e env):=by
 unfold noteFrame
 split
 ·refine kp_bind wD fun hd=>?_
  refine xR (kp_bind wD fun _=>xR kp_pure (kp_bind xi fun _=>?_)) ?_
  ·exact kp_bind vE fun _=>kp_bind xS fun _=>kp_bind wW fun _=>xi
  ·exact kp_bind vE fun _=>kp_bind xS fun _=>kp_bind wW fun _=>xi
 ·trivial
theorem Yk{e:Value}{env:Env}:Kp (leaving env e):=by
 unfold leaving;exact kp_bind kp_noteFrame fun _=>uz
end
section
variable {M:Model}{A:Around}{E:Value->Shared->Prop}{s:Shared}{base:Heap}{l:List Env}{env:Env}{outer:List Env}{L e:Addr}{cls a0:Value}{Q:Unit->Shared->Prop}
theorem UA(hfr:A.frames=some (env::outer))(hf:env.frame=some L)(hfl:Heap.FlyingW base (env::outer) e cls a0 s.heap)
  (hQ:∀ h',Heap.FlyingW base outer e cls a0 h'->s.heap.UpToSlots h'->KD s.heap h'->Q () { s with heap:=h' }):wpAny M A (leaving env (.ref e)) Q E s :=
 wpAny_mono (X8 Yk (wpAny_leaves_onW (Q:=fun _ s2=>∃ h',s2={ s with heap:=h' }/\Heap.FlyingW base outer e cls a0 h'/\s.heap.UpToSlots h') hfr hf hfl fun h' a b=>⟨h',rfl,a,b⟩))
  (fun _ s2 ⟨⟨h',q,a,b⟩,k⟩=>by subst q;exact hQ h' a b k) fun _ _ z=>z
end
section
variable {P:Program}{w:World}{H H':Hp}{h h':Heap}{a:Addr}{o:HO}
theorem ObjOk.thr(x:ObjOk P w H h a o):∃ u,h.get? a=some u:=by
 cases o with
 |lst xs=>obtain⟨_,_,_,_,e⟩:=x;exact⟨_,e⟩
 |tup xs=>obtain⟨_,_,_,_,e,_⟩:=x;exact⟨_,e⟩
 |dK kvs=>obtain⟨_,_,_,_,o,_,_,e,_⟩:=x;exact⟨_,e⟩
 |dT kvs=>obtain⟨_,_,_,_,o,_,_,e,_⟩:=x;exact⟨_,e⟩
 |set S n=>obtain⟨o,_,_,_,e,_⟩:=x;exact⟨_,e⟩
 |ins C dx fs=>obtain⟨_,_,_,e,_⟩:=x;exact⟨_,e⟩
 |own y=>obtain⟨_,e⟩:=x;exact⟨_,e⟩
 |xd fs=>obtain⟨_,⟨_,_,_,e,_⟩,_⟩:=x;exact⟨_,e⟩
 |rng lo hi=>obtain⟨_,_,_,e⟩:=x;exact⟨_,e⟩
 |frz ob u=>obtain⟨e,_⟩:=x;exact⟨_,e⟩
 |tbl ps=>exact⟨_,show h.get? a=some _ from x⟩
 |met f y=>exact⟨_,show h.get? a=some _ from x⟩
 |ext φ=>obtain⟨_,⟨_,e⟩,_⟩:=x;exact⟨_,e⟩
theorem HOk.thr(x:HOk P w H h)(e:H a=some o):∃ u,h.get? a=some u:=(x a o e).thr
theorem HOk.keptT(x:HOk P w H h)(k:∀ b u,H b≠none->h.get? b=some u->h'.get? b=some u):HOk P w H h':=fun a o e =>
 (x a o e).stay (fun b u hb q=>k b u (by rcases hb with rfl | hb<;>simp_all) q) (fun _ q=>q) fun _ _ q=>q
end
structure Lies (P:Program) (w:World) (l:List Env) (H:Hp) (s:Shared) (H':Hp) (s':Shared) (B:Heap):Prop where
 os:s'.os=s.os
 bare:AllBare s'.gens
 un:Un (frs l) [] H H' s.heap s'.heap
 hok:HOk P w H' s'.heap
 c1:∀ b o,s.heap.get? b=some o->H b=none->b∉frs l->B.get? b=some o
 c2:∀ b o,H' b≠none->s'.heap.get? b=some o->B.get? b=some o
 c3:∀ b o,s.heap.get? b=some o->b∉frs l->∃ o',B.get? b=some o'
abbrev CX1(P:Program)(w:World):CXT:=fun l H s E e s'=>∃ (a:Addr) (cls a0:Value) (H':Hp) (B:Heap),e=.ref a/\Lies P w l H s H' s' B/\Heap.FlyingW B l a cls a0 s'.heap/\∃ dd:Option Addr,(∀ D,dd=some D->DictAt a D s'.heap)/\E cls dd H'
section
variable {X:Cx}{pins:List (Addr×Obj)}{σ:St}{H H':Hp}{s s':Shared}{B h2:Heap}{t2:Nat}
theorem Lies.un2(I:Inv X pins σ H s)(L:Lies X.prog X.w X.stack H s H' s' B)(st:B.StaysIn h2)(up:s'.heap.UpToSlots h2):Un (frs X.stack) [] H H' s.heap h2:=by
 have sl:∀ b o,s.heap.get? b=some o->b∈frs X.stack->∃ z,h2.get? b=some { o with slots:=z }:=fun b o q hb=>by
  obtain⟨z,e1⟩:=L.un.slot b o q (I.stkFree b hb) hb (by simp);obtain⟨_,o',ho',hd⟩:=I.stack.mem hb;rw[q] at ho';cases ho';obtain⟨z2,e2⟩:=up b _ e1 (fun vs z=>hd vs z);exact⟨z2,e2⟩
 refine⟨fun b o q n hb _=>st b o (L.c1 b o q n hb),fun b o q _ hb _=>sl b o q hb,fun b o q n hx=>L.un.free b o q n hx,fun b o q _=>?_,L.un.tups,L.un.frzs,L.un.tbls⟩;by_cases hb:b∈frs X.stack
 ·obtain⟨z,e⟩:=sl b o q hb
  exact⟨_,e⟩
 ·obtain⟨o',e⟩:=L.c3 b o q hb
  exact⟨o',st b o' e⟩
theorem Lies.ok2{l:List Env}{P:Program}{w:World}(L:Lies P w l H s H' s' B)(st:B.StaysIn h2):HOk P w H' h2:=L.hok.keptT fun b u hb q=>st b u (L.c2 b u hb q)
theorem Lies.inv(I:Inv X pins σ H s)(L:Lies X.prog X.w X.stack H s H' s' B)(st:B.StaysIn h2)(up:s'.heap.UpToSlots h2):Inv X pins σ H' { s' with heap:=h2,toks:=t2 }:=by
 refine I.call' (s':={ s' with heap:=h2,toks:=t2 }) (ch:=[]) L.os (L.un2 I st up) (L.ok2 st) L.bare (fun b z=>absurd z (by simp))
theorem Lies.out(I:Inv X pins σ H s)(L:Lies X.prog X.w X.stack H s H' s' B)(st:B.StaysIn h2)(up:s'.heap.UpToSlots h2)(hx:X.ex=[]):Lies X.prog X.w X.outer X.H₀ X.s₀ H' { s' with heap:=h2 } B:=by
 have J:=Lies.inv (t2:=s'.toks) I L st up;have ns:∀ b o,X.s₀.heap.get? b=some o->b∉frs X.outer->b∉frs X.stack:=fun b o q hb z=>by
  rcases mem_cons.mp (I.stkSub b z) with e | e
  ·exact absurd (lt_of_lt_of_le (Heap.lt_size q) I.ok.above) (by rw[e];exact lt_irrefl _)
  ·exact hb e
 have hn:∀ b:Addr,b∉X.ex:=fun b=>by rw[hx];simp
 refine⟨J.os,J.bare,?_,J.hok,fun b o q n hb=>?_,fun b o hb q=>?_,fun b o q hb=>?_⟩
 ·have:=J.base
  rw[hx] at this;exact this
 ·exact L.c1 b o (I.base.keep b o q n hb (hn b)) (I.base.free b o q n (hn b)) (ns b o q hb)
 ·cases e:H' b with
  |none=>exact absurd e hb
  |some u =>
   obtain⟨v,hv⟩:=L.hok.thr e;have z:=L.c2 b v hb hv;have q':h2.get? b=some o:=q;rw[st b v z] at q';cases q';exact z
 ·obtain⟨o',e⟩:=I.base.there b o q (hn b)
  exact L.c3 b o' e (ns b o q hb)
theorem WF(I:Inv X pins σ H s)(k:∀ b u,s.heap.get? b=some u->h2.get? b=some u):Lies X.prog X.w X.stack H s H { s with heap:=h2 } (PySem.W.hideAll s.heap (frs X.stack)):=by
 refine⟨rfl,I.bare,Un.kept k,I.hok.kept k,fun b o q _ hb=>PySem.W.hideAll_get _ q hb,fun b o hb q=>?_,fun b o q hb=>⟨o,PySem.W.hideAll_get _ q hb⟩⟩;cases e:H b with
 |none=>exact absurd e hb
 |some u =>
  obtain⟨v,hv⟩:=I.hok.thr e;have q':h2.get? b=some o:=q;rw[k b v hv] at q';cases q';exact PySem.W.hideAll_get _ hv fun z=>hb (I.stkFree b z)
end
section
variable {P:Program}{w:World}{K:W.Frag}{mg:Str->Option Value}{base:Heap}{N:List Str}{qual:Str}{scope:Scope}{f:Addr}{cd:Value}{A:Around}{outer:List Env}{s0:Shared}{H0:Hp}{E:XK}
theorem zb1:wq (CX1 P w) (wo (CX1 P w) P w K mg base N qual scope f cd A outer s0 H0 E) E:=by
 rintro pins σ H s e s' I ⟨a,cls,a0,H',B,rfl,L,F,dd,hdd,q⟩;have hfr:=I.ok.frames;refine UA (M:=model P w) (A:=A.deeper (envOfC qual scope s0.heap.objs.size f cd)) (outer:=outer) (L:=s0.heap.objs.size) hfr rfl F fun h2 F2 up kd=>?_;exact⟨a,cls,a0,H',B,rfl,L.out I F2.1 up rfl,F2,dd,fun D e=>kd _ _ (hdd D e),q⟩
theorem za1{pins:List (Addr×Obj)}{σ:St}{H:Hp}{s:Shared}{h':Heap}{e:Addr}{cls:Value}{args:List Value}(I:Inv (wo (CX1 P w) P w K mg base N qual scope f cd A outer s0 H0 E) pins σ H s)
  (hx:Heap.MadeExcOf s.heap h' e cls args) (q:E cls none H):(wo (CX1 P w) P w K mg base N qual scope f cd A outer s0 H0 E).xe (.ref e) { s with heap:=h' }:=by
 have hfr:=I.ok.frames;have L:=WF I hx.keeps;refine wpAny_leaves_madeW (M:=model P w) (A:=A.deeper (envOfC qual scope s0.heap.objs.size f cd)) (s:={ s with heap:=h' }) (outer:=outer) (L:=s0.heap.objs.size) (base:=PySem.W.hideAll s.heap (frs (envOfC qual scope s0.heap.objs.size f cd::outer))) hfr rfl (fun b o q=>PySem.W.of_hideAll _ q)
  (PySem.W.funFrames_hide I.stack fun env he b hb=>mem_filterMap.mpr ⟨env,he,hb⟩) hx fun h2 t F2 _ _ up=>?_
 exact⟨e,cls,.ref t,H,_,rfl,L.out I F2.1 up rfl,F2,none,(fun D e=>nomatch e),q⟩
end
abbrev W6:List Value:=[.type "ValueError",.type "Exception",.type "BaseException",.type "object"]
def XCls(K:W.Frag)(C:Addr):Prop:=PySem.W.excIn K C W6 "ValueError.__new__" = true
def XObj(h:Heap)(C:Addr):Prop:=∃ bm N nm qn bs hd sn sub ab col dd k0 k1 k2 k3 k5 mN,h.get? C=some (excClassObj nm qn C N bs bm hd sn sub ab col dd k0 k1 k2 k3 k5 "ValueError.__new__")/\h.Ns N mN/\mN "__init__" = none/\OwnTail h W6 bm
theorem XCls.obj{K:W.Frag}{C:Addr}(x:XCls K C){h:Heap}(I:K.In h):XObj h C:=by
 unfold XCls PySem.W.excIn at x
 split at x
 case h_2=>cases x
 case h_1 dd cd sl lk =>
  split at x
  case h_2=>cases x
  case h_1 C2 bm k0 k1 k2 k3 nid k5 em es =>
   rw[and_eq_true,and_eq_true,and_eq_true,and_eq_true,and_eq_true] at x;obtain⟨⟨⟨⟨⟨x1,x2⟩,x3⟩,x4⟩,x5⟩,x6⟩:=x;cases (beq_iff_eq.mp x1);cases (beq_iff_eq.mp x2);cases cd with
   |mk nm bs mro ns qn hd sn sub ab col del =>
    have e1:mro=.ref C::bm:=em;have e2:del=false:=by
     cases del with
     |false=>rfl
     |true=>cases x3
    have e3:sl = #[k0,k1,k2,k3,some (.builtin "ValueError.__new__"),k5]:=by
     cases sl with
     |mk l =>
      have e:l=_:=es;rw[e]
    rw[e1,e2,e3] at lk;exact⟨bm,ns,nm,qn,bs,hd,sn,sub,ab,col,dd,k0,k1,k2,k3,k5,_,I _ _ lk,.of_isNs (PySem.W.isNs_of_in I x5),PySem.W.nsMap_none_of_in I x5 (beq_iff_eq.mp x6),PySem.W.tail_of_in I x4⟩
theorem XObj.keeps{h h':Heap}{C:Addr}(x:XObj h C)(k:∀ b o,h.get? b=some o->h'.get? b=some o):XObj h' C:=by
 obtain⟨bm,N,nm,qn,bs,hd,sn,sub,ab,col,dd,k0,k1,k2,k3,k5,mN,h1,h2,h3,h4⟩:=x;exact⟨bm,N,nm,qn,bs,hd,sn,sub,ab,col,dd,k0,k1,k2,k3,k5,mN,k _ _ h1,h2.keeps k,h3,h4.keeps k⟩
section
variable {P:Program}{w:World}{K:W.Frag}{mg:Str->Option Value}{base:Heap}{N:List Str}{qual:Str}{scope:Scope}{f:Addr}{cd:Value}{A:Around}{outer:List Env}{s0:Shared}{H0:Hp}{E:XK}
 {x:Str}{C:Addr}{e:Expr}{es:List Expr}{t:TA}{np cpos pos:Pos}
def tRz(C:Addr)(E:XK)(t:TA):TS:=fun _ σ H=>t σ H fun vs H1=>vs.length<=1000/\E (.ref C) none H1
theorem Z1(hc:(A.deeper (envOfC qual scope s0.heap.objs.size f cd)).handled=none)(c:XCls K C)(hm:mg x=some (.ref C))(ha:Bx (PA (wo (CX1 P w) P w K mg base N qual scope f cd A outer s0 H0 E) (e::es) t))(hg:Gl (wo (CX1 P w) P w K mg base N qual scope f cd A outer s0 H0 E) x:=by rfl)(he:starEach (e::es) (wo (CX1 P w) P w K mg base N qual scope f cd A outer s0 H0 E).env=(false,eval e (wo (CX1 P w) P w K mg base N qual scope f cd A outer s0 H0 E).env)::starEach es (wo (CX1 P w) P w K mg base N qual scope f cd A outer s0 H0 E).env:=by rfl)(hpl:(backTo cpos (starEach es (wo (CX1 P w) P w K mg base N qual scope f cd A outer s0 H0 E).env)).any (·.1)=false:=by rfl)(hdb:(x == ("__debug__" : Str))=false:=by decide):Bx (PS (wo (CX1 P w) P w K mg base N qual scope f cd A outer s0 H0 E) (.Raise (some (.Call (.Name x np) (e::es) [] cpos)) none pos) (tRz C E t)):=by
 have ha:=ha.of;refine⟨?_⟩;intro pins s σ H D I h;obtain⟨bm,Nn,nm,qn,bs,hd,sn,sub,ab,col,dd,k0,k1,k2,k3,k5,mN,h1,h2,h3,h4⟩:=c.obj I.mod.kin;refine wpAny_Raise_call_subT (C:=C) (nm:=nm) (q:=qn) (N:=Nn) (bs:=bs) (bm:=bm) (hdct:=hd) (sn:=sn) (sub:=sub) (ab:=ab) (col:=col) (dd:=dd) (k0:=k0) (k1:=k1) (k2:=k2) (k3:=k3) (k5:=k5) PySem.F.excBase_ValueError (mN:=mN)
  (h4.hasType rfl) hc (by rw[he];exact hpl) h3 (ld_glob I hg hm ⟨rfl,?_⟩ hdb)
 have hA:=ha cpos pins s σ H _ I h;rw[he] at hA ⊢;refine Calls.evalArgs_plain (wpAny_mono hA (fun us s2 hq=>?_) fun _ _ z=>z);obtain⟨vs,H1,I1,r1,hl,q⟩:=hq;refine⟨rfl,?_,I1.bk _ _ h1,h2.keeps I1.bk,h4.keeps I1.bk,fun h' e' hx=>za1 I1 hx q⟩;show us.length<=sizeLine;rw[<- r1.length];exact Nat.le_of_lt (zj hl)
end
def XP(X:Cx)(pins:List (Addr×Obj))(σ:St)(E:XK)(e:Value)(s':Shared):Prop:=∃ H1 s1,Inv X pins σ H1 s1/\CX1 X.prog X.w X.stack H1 s1 E e s'
def PV(X:Cx)(e:Expr)(t:XK->TE):Prop:=∀ (pins:List (Addr×Obj)) (s:Shared) (σ:St) (H:Hp) (Q:VK) (E:XK),Inv X pins σ H s->t E σ H Q->wpAny (model X.prog X.w) X.A (eval e X.env) (EP X pins σ Q) (XP X pins σ E) s
def PX(X:Cx)(b:List Stmt)(t:XK->TS):Prop:=∀ (pins:List (Addr×Obj)) (s:Shared) (σ:St) (H:Hp) (D:Ends) (E:XK),Inv X pins σ H s->t E D σ H->wpAny (model X.prog X.w) X.A (execs b X.env) (SP X pins D) (XP X pins σ E) s
section
variable {X:Cx}{k:Nat}{f C:Addr}{fd:FuncData}{ps:List Str}{sp:Sp}{dvs:List V}{ds:List Value}{x:Str}{p pos:Pos}{e:Expr}{es:List Expr}{t:TA}
theorem V8{E:XK}{pins:List (Addr×Obj)}{σ:St}{H:Hp}{s:Shared}{Q:VK}{us:List Value}{vs:List V}(F:FnOk X.prog X.w X.K X.mg X.base (CX1 X.prog X.w) k f fd ps sp)(hr:Room k X.A)(hb:Binds X.K fd ps ds)(hd:Vals dvs ds)
  (I:Inv X pins σ H s) (r:Vals vs us) (h:sp (vs++dvs) H Q E):wpAny (model X.prog X.w) X.A (call (.ref f) us) (EP X pins σ Q) (XP X pins σ E) s:=by
 have r2:Vals (vs++dvs) (us++ds):=r.append hd;have hl:(us++ds).length=ps.length:=by rw[<- r2.length];exact F.len _ _ _ _ h
 refine wpAny_call (codeAny_mono (F.run X.A X.stack s H ⟨us,[]⟩ (us++ds) (vs++dvs) Q E hr I.env0 (hb s us I.kIn hl) r2 h) fun r s' hq=>?_);cases r with
 |error e=>exact⟨H,s,I,hq⟩
 |ok fl =>
  cases fl with
  |ret u=>exact I.after hq
  |next=>exact False.elim hq
  |brk=>exact False.elim hq
  |cont=>exact False.elim hq
theorem Uh(F:FnOk X.prog X.w X.K X.mg X.base (CX1 X.prog X.w) k f fd ps sp)(hr:Room k X.A)(hm:X.mg x=some (.ref f))(hk:PySem.W.keepIn X.K (.ref f)=true)(hb:Binds X.K fd ps [])
  (ha:PA X.nox (e::es) t) (hg:Gl X x:=by rfl) (hdb:(x == ("__debug__" : Str))=false:=by decide) (he:starEach (e::es) X.env=(false,eval e X.env)::starEach es X.env:=by rfl) (hpl:(backTo pos (starEach es X.env)).any (·.1)=false:=by rfl) :
  PV X (.Call (.Name x p) (e::es) [] pos) (fun E=>u7 sp [] E t):=by
 intro pins s σ H Q E I h;refine wpAny_Call_Name_kw (ld_glob I hg hm ?_ hdb);refine PySem.W.callWith_K (h₀:=X.base) I.ok.mod.kin hk (wpAny_mono (ha pos pins s σ H _ (I.wish _) h) (fun us s1 hq=>?_) (fun _ _ z=>False.elim z)) he hpl;obtain⟨vs,H1,I1,r,q⟩:=hq;exact⟨I1.unwish.kIn,V8 F hr hb .nil I1.unwish r q⟩
theorem X9{i:Nat}{te:XK->TE}{pos':Pos}(hN:X.N.Nodup)(hi:X.N[i]?=some x)(hx:Loc X.env.scope x)(h:Bx (PV X e te))(hs:swapsWith e (some (.Name x pos')) pos.line X.env=pure false:=by rfl)(hf:X.fn x=true\/X.env.scope.names.lookup x=some .local:=by first | exact .inl rfl | exact .inr rfl | assumption):Bx (PX X [.Assign [.Name x pos'] e pos] (fun E=>VZ (te E) (wc i))):=by
 have h:=h.of;refine⟨?_⟩;intro pins s σ H D E I q;refine wpAny_execs_cons (wpAny_Assign_Name (wpAny_mono (h pins s σ H _ E I q) (fun v s1 hq=>?_) fun _ _ z=>z) hs);obtain⟨y,H1,I1,r1,q1⟩:=hq;exact store_ok I1 hN hi hx r1 (fun s2 I2=>wpAny_execs_nil ⟨_,H1,I2,q1⟩) hf
end
abbrev Cx.inH(X:Cx)(a:Addr):Cx:={ X with A:=X.A.mark (some (.ref a)),calm:=false,xe:=fun _ _=>False }
section
variable {X:Cx}{pins:List (Addr×Obj)}{σ:St}{H:Hp}{s:Shared}{a:Addr}
theorem Inv.inH(I:Inv X pins σ H s)(a:Addr):Inv (X.inH a) pins σ H s :=
 ⟨⟨I.ok.mod,I.ok.kind,I.ok.glob,I.ok.blt,I.ok.above,I.ok.inj,I.ok.has,I.ok.cab,(fun z=>nomatch z),I.ok.frames,I.ok.stk,I.ok.exf,I.ok.bs,I.ok.bsz,I.ok.noex,I.ok.exfs,I.ok.funs,I.ok.frf⟩,I.os,I.bare,I.base,I.loc,I.cell,I.free,I.freeC,I.pin,I.hok,I.len⟩
theorem Inv.unH(ok:X.Ok)(I:Inv (X.inH a) pins σ H s):Inv X pins σ H s:=⟨ok,I.os,I.bare,I.base,I.loc,I.cell,I.free,I.freeC,I.pin,I.hok,I.len⟩
theorem SP.unH{D:Ends}{f:Flow}{s':Shared}(ok:X.Ok)(h:SP (X.inH a) pins D f s'):SP X pins D f s':=by
 cases f with
 |next=>obtain⟨σ',H',I,q⟩:=h;exact⟨σ',H',I.unH ok,q⟩
 |brk=>obtain⟨σ',H',I,q⟩:=h;exact⟨σ',H',I.unH ok,q⟩
 |cont=>obtain⟨σ',H',I,q⟩:=h;exact⟨σ',H',I.unH ok,q⟩
 |ret u=>obtain⟨v,σ',H',I,r,q⟩:=h;exact⟨v,σ',H',I.unH ok,r,q⟩
end
def zdf(C:Addr)(tb:XK->TS)(th:TS):TS:=fun D σ H=>tb (fun cls _ H'=>cls=.ref C/\th D σ H') D σ H
theorem Wa{X:Cx}{body suite:List Stmt}{b0:Stmt}{x:Str}{C:Addr}{np hpos pos:Pos}{tb:XK->TS}{th:TS}(hst:X.stack=X.env::X.outer)(hfr:X.env.frame=some X.env.locals)(c:XCls X.K C)(hm:X.mg x=some (.ref C))(hb:Bx (PX X body tb))(hh:∀ a,Bx (PSs (X.inH a) (b0::suite) th))(hg:Gl X x:=by rfl)(hdb:(x == ("__debug__" : Str))=false:=by decide):Bx (PS X (.Try body [.ExceptHandler (some (.Name x np)) none (b0::suite) hpos] [] [] pos) (zdf C tb th)):=by
 have hb:=hb.of;have hh:=fun x0=>(hh x0).of;refine⟨?_⟩;intro pins s σ H D I h;refine wpAny_Try_except (wpAny_mono (hb pins s σ H D _ I h) (fun fl s1 q=>?_) (fun e s1 hx=>?_))
 ·cases fl with
  |next=>exact wpAny_execs_nil q
  |ret v=>exact q
  |brk=>exact q
  |cont=>exact q
 ·obtain⟨H1,s2,I1,a,cls,a0,H',B,rfl,L,F,dd,hdd,rfl,hts⟩:=hx
  obtain⟨sh,sg,sd,stk,sos⟩:=s1;have F':=F;rw[hst] at F';refine wpAny_looks_onW (s:=⟨sh,sg,sd,stk,sos⟩) (outer:=X.outer) (L:=X.env.locals) (by rw[I.ok.frames,hst]) hfr F' fun h4 Hd4 up4=>wpAny_landsW (s:=⟨h4,sg,sd,stk,sos⟩) Hd4 fun h5 F5 up5=>?_;have up:=up4.trans up5;have I5:Inv X pins σ H' ⟨h5,sg,sd,stk,sos⟩:=Lies.inv (t2:=stk) I1 L F5.1 up;have J5:=I5.inH a;refine wpAny_handleBy_cons (codeAny_handlers_test (ld_glob J5 hg hm ?_ hdb)) (by intro q;cases q);obtain⟨bm,Nn,nm,qn,bs,hd,sn,sub,ab,col,dd,k0,k1,k2,k3,k5,mN,h1,h2,h3,h4'⟩:=(c.obj I.mod.kin).keeps I5.bk;obtain⟨ob,hob,hobc⟩:=F5.there;refine wpAny_excMatches_sub_self h1 hob hobc (h4'.hasType rfl) ?_;refine codeAny_handlers_suite (lands_againW (s:=⟨h5,sg,sd,stk,sos⟩) F5 fun h6 F6 up6=>?_);have I6:Inv X pins σ H' ⟨h6,sg,sd,stk,sos⟩:=Lies.inv (t2:=stk) I1 L F6.1 (up.trans up6);exact wpAny_mono (hh a pins _ σ H' D (I6.inH a) hts) (fun fl s7 q=>q.unH I.ok) (fun _ _ z=>False.elim z)
structure Callee1 (P:Program) (w:World) (K:W.Frag) (mg:Str->Option Value) (base:Heap) (x:Str) (f:Addr) (fd:FuncData) (ps:List Str) (k:Nat) (sp:Sp):Prop where
 ok:FnOk P w K mg base (CX1 P w) k f fd ps sp
 g:mg x=some (.ref f)
 kp:PySem.W.keepIn K (.ref f)=true
 b:Binds K fd ps []
section
variable {X:Cx}{k:Nat}{f C:Addr}{fd:FuncData}{ps:List Str}{sp:Sp}{x:Str}{p pos:Pos}{e:Expr}{es:List Expr}{t:TA}
theorem UR(c:Callee1 X.prog X.w X.K X.mg X.base x f fd ps k sp)(hr:Room k X.A)(ha:Bx (PA X.nox (e::es) t))(hg:Gl X x:=by rfl)(hdb:(x == ("__debug__" : Str))=false:=by decide)(he:starEach (e::es) X.env=(false,eval e X.env)::starEach es X.env:=by rfl)(hpl:(backTo pos (starEach es X.env)).any (·.1)=false:=by rfl):Bx (PV X (.Call (.Name x p) (e::es) [] pos) (fun E=>u7 sp [] E t)):=by
 have ha:=ha.of;exact⟨Uh c.ok hr c.g c.kp c.b ha hg hdb he hpl⟩
end
section
variable {P:Program}{w:World}{K:W.Frag}{mg:Str->Option Value}{base:Heap}
theorem Fun.ok1{x qual:Str}{st:Stmt}{f:Addr}{fd:FuncData}{N ps:List Str}{k:Nat}{sp:Sp}(F:Fun K x qual st f fd)(S:FnScope N ps (defScope st))(len:∀ vs H Q E,sp vs H Q E->vs.length=ps.length)
  (hbody:∀ (cdv:Value) (A:Around) (outer:List Env) (s:Shared) (H:Hp) (vs:List V) (Q:VK) (E:XK),Room k (A.deeper (envOfC qual (defScope st) s.heap.objs.size f cdv))->sp vs H Q E ->
   ∃ t,PSs (wo (CX1 P w) P w K mg base N qual (defScope st) f cdv A outer s H E) (defBody st) t/\t { nx:=fun _ H'=>Q .non H',rt:=Q } (start N vs) H):FnOk P w K mg base (CX1 P w) (k+1) f fd ps sp:=by
 obtain⟨oc,od,kV,doc,pm,an,cdv,ct,osl,rfl,lk,hcd⟩:=F.ex;exact zbd lk hcd S len fun A outer s H vs Q E hr hsp=>hbody cdv A outer s H vs Q E hr hsp
end
end L2
namespace L2
open PySem
section
variable {X:Cx}{es:List Expr}{t:TA}{te:TE}
theorem zK{c j pos}(ha:Bx (PE X (.Constant c j pos) te))(hr:Bx (PA X es t)):Bx (PA X (.Constant c j pos::es) (xG te t)):=by
 have ha:=ha.of;have hr:=hr.of;exact⟨xh ha hr rfl⟩
theorem yD{xs c pos}(ha:Bx (PE X (.Tuple xs c pos) te))(hr:Bx (PA X es t)):Bx (PA X (.Tuple xs c pos::es) (xG te t)):=by
 have ha:=ha.of;have hr:=hr.of;exact⟨xh ha hr rfl⟩
theorem zM{f xs ks pos}(ha:Bx (PE X (.Call f xs ks pos) te))(hr:Bx (PA X es t)):Bx (PA X (.Call f xs ks pos::es) (xG te t)):=by
 have ha:=ha.of;have hr:=hr.of;exact⟨xh ha hr rfl⟩
theorem xn{l o r pos}(ha:Bx (PE X (.BinOp l o r pos) te))(hr:Bx (PA X es t)):Bx (PA X (.BinOp l o r pos::es) (xG te t)):=by
 have ha:=ha.of;have hr:=hr.of;exact⟨xh ha hr rfl⟩
theorem W8{o r pos}(ha:Bx (PE X (.UnaryOp o r pos) te))(hr:Bx (PA X es t)):Bx (PA X (.UnaryOp o r pos::es) (xG te t)):=by
 have ha:=ha.of;have hr:=hr.of;exact⟨xh ha hr rfl⟩
theorem wk{x pos}(ha:PE X (.Name x pos) te)(hr:PA X es t):PA X (.Name x pos::es) (xG te t):=xh ha hr rfl
end
end L2
namespace L2
open PySem PySem.Spec PyProof.Rows
section
variable {X:Cx}{tg:Expr}
theorem v7:bootBuiltins "reversed" = some (.type "reversed"):=by decide +kernel
end
def zcA(K:W.Frag)(C C1:Addr):Option Bool:=match K.lookup C with
 |some ⟨_,_,.cls cd,_⟩=>some (cd.mro.contains (.ref C1))
 |_=>none
section
variable {P:Program}{w:World}{K:W.Frag}{mg:Str->Option Value}{base:Heap}{N:List Str}{qual:Str}{scope:Scope}{f:Addr}{cd:Value}{A:Around}{outer:List Env}{s0:Shared}{H0:Hp}{E:XK}
 {k:Nat}{f' C:Addr}{fd:FuncData}{ps:List Str}{sp:Sp}{x:Str}{p pos:Pos}{e:Expr}{es:List Expr}{t:TA}
theorem calm{k:Nat}{f:Addr}{fd:FuncData}{ps:List Str}{sp:Sp}(F:FnOk P w K mg base (CX1 P w) k f fd ps sp):FnOk P w K mg base CX0 k f fd ps (fun vs H Q _=>sp vs H Q E0) :=
 ⟨fun vs H Q E h=>F.len vs H Q E0 h,fun A outer s H args us vs Q E hr e0 hb r h=>codeAny_mono (F.run A outer s H args us vs Q E0 hr e0 hb r h) fun r s' hq=>by
  cases r with
  |error e =>
   obtain⟨_,_,_,_,_,_,_,_,_,_,z⟩:=hq;exact False.elim z
  |ok fl=>cases fl<;>exact hq⟩
end
theorem entry_dul:entryFor table "dict.update.loop" = some Builtin.«dict.update.loop»:=entryFor_of_tree (by kernel_rfl)
theorem plain_dul:plainId "dict.update.loop" = true:=by decide +kernel
theorem Xu:typeLookup (.type "list") "keys" = pure none:=am_miss_of_fast (by kernel_rfl)
section
variable {P:Program}{w:World}{A:Around}{E:Value->Shared->Prop}{s:Shared}
theorem Xg{a:Addr}{xs:Array Value}{Q:Option Value->Shared->Prop}(hl:PlainL s.heap a xs)(hA:A.handled=none)
  (q:∀ h' tk,(∀ b o,s.heap.get? b=some o->h'.get? b=some o)->Q none { s with heap:=h',toks:=tk }):wpAny (model P w) A (getAttr? (.ref a) "keys") Q E s:=by
 obtain⟨o,n,hx,hc,hd,hs⟩:=hl;obtain⟨c,dct,dat,sl⟩:=o;dsimp only at hc hd hs;subst hc hd hs;obtain⟨hp,g,dr,tk0,os⟩:=s;have hT:∀ tk',(⟨hp,g,dr,tk',os⟩:Shared).TypeIs (.ref a) "list" := fun _=>⟨_,hx,rfl⟩;have f1:=sub_AttributeError;have f3:=F.slot_list_getattribute.lookup;have f4:=F.slot_list_getattribute.bind (.ref a);have f5:=am_list_getattr_none;unfold getAttr? getAttrBy? getAttrBy
 repeat (any_goals (first | assumption | exact hT _ | ((with_reducible show wpAny _ _ (call (Value.builtin "list.__getattribute__") _ _) _ _ _);refine call_meets F.slot_list_getattribute (hT _) am_entry_list_getattribute (F.args_list_getattribute_2 _ _) (meets_getattribute_miss_list a xs n sl "keys" _ Xu (by decide +kernel) (by decide +kernel)) ⟨hx,hA,fun h1 tk1 e1 ne=>?_⟩) | wp_step))
 obtain⟨t',u',he⟩:=ne.there;show wpAny _ _ (getattributeRaised _ _ _ _ _ _ _) _ _ _;unfold getattributeRaised hookOrError attributeErrorLeaves
 repeat (any_goals (first | assumption | wp_step))
 exact q _ _ ne.keeps
variable {K:Type} [DecidableEq K]{knd:KeyKind P w K}
theorem zbg{d I:Addr}{fp wr:List Addr}{n:Nat}{Is:Nat->Value->Prop}{St:Nat->Heap->Prop}{R:Except Value Flow->Shared->Prop}(W:Walks P w A.in1 I fp wr n Is St)(nf:d∉fp)(kvs:List (K×Value))(hk:kvs.length=n)(hz:n<=1000)
  (h0:Heap) (hI:∀ i v,Is i v->∃ q k,v=.ref q/\(∃ o x,h0.get? q=some o/\o.cls=.type "tuple" /\ o.data=.seq #[k,(kvs[i]?.map (·.2)).getD .none] x)/\∃ kk,(kvs[i]?.map (·.1))=some kk/\knd.is kk k=true)
  (hq:∀ i v q,Is i v->v=.ref q->q∉wr/\q≠d) :
  ∀ (r j:Nat) (t:Shared) (tk0:Tok),j+r=n->St j t.heap->t.heap.DictOf knd d (merged [] (kvs.take j))->(∀ b o,b∉wr->b≠d->h0.get? b=some o->t.heap.get? b=some o) ->
   (∀ h' tk,h'.DictOf knd d (merged [] kvs)->(∀ b o,b∉wr->b≠d->t.heap.get? b=some o->h'.get? b=some o)->R (.ok (.ret .none)) { t with heap:=h',toks:=tk }) ->
   codeAny (model P w) A (.builtin "dict.update.loop" ⟨[.ref d,.ref I,.int (j:Int) tk0,.none],[]⟩) R t:=by
 have nw:d∉wr:=fun z=>nf (W.sub _ z);intro r
 induction r with
 |zero =>
  intro j t tk0 hj st hd keep fin;have ej:j=n:=by omega
  subst ej;refine codeAny_builtin entry_dul (by
   rw[Around.under_plainId plain_dul _];show wpAny _ A.in1 (pyNext (.ref I) >>= _) _ _ t;refine wpAny_bind (W.done t _ _ st fun h1 tk kk=>?_);show wpAny _ A.in1 (Builtin.Dict.addKeywords d [] >>= _) _ _ _;rw[<- hk,take_length] at hd;obtain⟨o,ho,hdo⟩:=Heap.dictOf_iff.mp hd;exact wpAny_bind (wpAny_pure (wpAny_pure (fin h1 tk (Heap.dictOf_iff.mpr ⟨o,kk d o nw ho,hdo⟩) fun b o n1 _ e=>kk b o n1 e))))
 |succ r ih =>
  intro j t tk0 hj st hd keep fin;refine codeAny_builtin entry_dul (by
   rw[Around.under_plainId plain_dul _];show wpAny _ A.in1 (pyNext (.ref I) >>= _) _ _ t;refine wpAny_bind (W.item j t _ _ (by omega) st fun v h1 tk iv st1 kk=>?_);obtain⟨q,k,rfl,⟨o,x,hq0,hc,hs⟩,kx,hkx,hki⟩:=hI j v iv;obtain⟨nq1,nq2⟩:=hq j _ q iv rfl;have hq1:=kk q o nq1 (keep q o nq1 nq2 hq0);obtain⟨od,hod,hdo⟩:=Heap.dictOf_iff.mp hd;have hd1:h1.DictOf knd d (merged [] (kvs.take j)):=Heap.dictOf_iff.mpr ⟨od,kk d od nw hod,hdo⟩;obtain⟨⟨k2,v2⟩,hkv⟩:∃ kv,kvs[j]?=some kv:=⟨kvs[j]'(by omega),by simp[show j<kvs.length by omega]⟩;rw[hkv] at hs hkx;cases hkx;show wpAny _ A.in1 (holding [Value.ref q] (tryCatch (Builtin.Dict.pairItems (Value.ref q)) _ >>= _) >>= _) _ _ _;refine wpAny_bind (wpAny_holding (wpAny_bind (wpAny_tryCatch ?_)));unfold Builtin.Dict.pairItems;refine wpAny_bind (wpAny_typeOf (T := "tuple") ⟨o,hq1,hc⟩ ?_);rw[if_pos (by decide)];refine wpAny_bind (wpAny_seqItems hq1 hs (wpAny_pure ?_));show wpAny _ A.in1 (holding [k,v2] (dictSet d k v2)) _ _ _;refine wpAny_holding (wpAny_dictSet_pairs hki hd1 (fun h2 hd2 sb=>?_) ?_)
   ·show wpAny _ A.in1 (pure _) _ _ _
    have hm:=merged_take_succ ([]:List (K×Value)) kvs j (k2,v2) hkv;refine wpAny_pure ⟨plainId_quiet plain_dul _,ih (j+1) _ _ (by omega) (W.frame _ _ _ st1 fun b hb o e=>?_) (by rw[hm];exact hd2) (fun b o n1 n2 e=>?_) fun h3 tk3 hd3 kk3=>fin h3 tk3 hd3 fun b o n1 n2 e=>kk3 b o n1 n2 ?_⟩
    ·exact(sb.2 b fun z=>nf (z ▸ hb)).trans e
    ·exact(sb.2 b n2).trans (kk b o n1 (keep b o n1 n2 e))
    ·exact(sb.2 b n2).trans (kk b o n1 e)
   ·have:=merged_length_le ([]:List (K×Value)) (kvs.take j)
    rw[length_take] at this;simp only[length_nil] at this;exact le_trans (show _<=1000 by omega) (by decide))
end
section
variable {X:Cx}
theorem xK:∀ {xs:List V}{us:List Value}{i:Nat}{u:Value},Vals xs us->us[i]?=some u->∃ x,xs[i]?=some x/\RelV x u
 |_,_,0,_,.cons r _,h=>by cases h;exact⟨_,rfl,r⟩
 |_,_,i+1,_,.cons _ t,h=>by
  obtain⟨x,e,r⟩:=xK t (by simpa using h);exact⟨x,by simpa using e,r⟩
theorem ZO{pins:List (Addr×Obj)}{σ:St}{H:Hp}{s:Shared}(I:Inv X pins σ H s):∀ (qs:List Addr) (kvs:List (Key×V)),qs.length=kvs.length->(∀ (i:Nat) (q:Addr) (kv:Key×V),qs[i]?=some q->kvs[i]?=some kv->H q=some (.tup [kV kv.1,kv.2])) ->
  ∃ vs:List (Key×Value),KV kvs vs/\∀ (i:Nat) (q:Addr),qs[i]?=some q->∃ o x k kv,s.heap.get? q=some o/\o.cls=.type "tuple" /\ o.data=.seq #[k,kv.2] x/\vs[i]?=some kv/\(zv X.prog X.w).is kv.1 k=true
 |[],[],_,_=>⟨[],.nil,fun i q h=>by simp at h⟩
 |q::qs,kv::kvs,hl,h=>by
  obtain⟨vs,r,hv⟩:=ZO I qs kvs (by simpa using hl) fun i q' kv' h1 h2=>h (i+1) q' kv' (by simpa using h1) (by simpa using h2);have h0:=h 0 q kv rfl rfl;obtain⟨its,rv,it,_⟩:=I.tuple (sP h0);obtain⟨uk,ux,rfl,rk,rx⟩:∃ uk ux,its=[uk,ux]/\RelV (kV kv.1) uk/\RelV kv.2 ux:=by
   cases rv with | cons r1 rv =>
   cases rv with | cons r2 rv =>
   cases rv;exact⟨_,_,rfl,r1,r2⟩
  obtain⟨o,e,oc,n,od⟩:=it;refine⟨(kv.1,ux)::vs,.cons ⟨rfl,rx⟩ r,fun i q' hi=>?_⟩;cases i with
  |zero =>
   cases hi;exact⟨o,n,uk,(kv.1,ux),e,oc,od,rfl,wv rk⟩
  |succ i=>exact hv i q' (by simpa using hi)
def zaw(K:W.Frag):List V->Hp->VK->Prop:=fun xs H Q=>∃ (a:Addr) (qs:List Addr) (kvs:List (Key×V)),xs=[V.ref a]/\H a=some (.lst (qs.map V.ref))/\qs.length=kvs.length/\kvs.length<=1000/\(∀ (i:Nat) (q:Addr) (kv:Key×V),qs[i]?=some q->kvs[i]?=some kv->H q=some (.tup [kV kv.1,kv.2])) /\
 ∀ p,H p=none->Q (.ref p) (upd H p (.dK (mergeK [] kvs)))
theorem Yr(hc:X.calm=true):yS X (.type "dict") (zaw X.K):=by
 intro pins s σ H xs us Q I r h;obtain⟨a,qs,kvs,rfl,ha,hl,hz,hq,k⟩:=h;obtain⟨u,rfl,ru⟩:=r.one;cases ru;obtain⟨its,rv,pl,_⟩:=I.list (sO ha);have hA:X.A.handled=none:=I.ok.hd hc;refine callType_codes (Q₁:=fun obj s₁=>obj=.ref s.heap.objs.size/\s₁={ s with heap:=s.heap.push { cls:=.type "dict",data:=.dict #[] } }) F.kt_called_dict (F.kt_typeCall_dict_1 _) F.entry_dict_init (kt_code_dict_new _ ⟨rfl,rfl⟩) ?_;rintro obj s₁ ⟨rfl,rfl⟩;have hnew:(s.heap.push { cls:=.type "dict",data:=.dict #[] }).DictOf (zv X.prog X.w) s.heap.objs.size []:=Heap.DictOf.new s.heap;have lt:a<s.heap.objs.size:=by
  obtain⟨_,e,_⟩:=pl.isList;exact Heap.lt_size e
 have pl1:PlainL (s.heap.push { cls:=.type "dict",data:=.dict #[] }) a its.toArray:=by
  obtain⟨o,n,e,r⟩:=pl;exact⟨o,n,Heap.get?_push_of_some _ e,r⟩
 refine⟨hnew.typeIs,F.args_dict_init_2 _ _,?_⟩;unfold Builtin.«dict.__init__»;refine wpAny_bind ?_;unfold Builtin.Dict.selfAndRest;refine wpAny_bind (wpAny_notOrdered_dict hnew.typeIs ?_);show wpAny _ _ (pure (s.heap.objs.size,[Value.ref a])) _ _ _;refine wpAny_pure ?_;show wpAny _ _ (Builtin.Dict.updateFrom "dict.__init__" s.heap.objs.size (.ref a) [] .none) _ _ _;unfold Builtin.Dict.updateFrom;obtain⟨o,n,e,oc,od,os⟩:=pl1;refine wpAny_bind (wpAny_typeOf (T := "list") ⟨o,e,oc⟩ ?_);rw[if_pos (by decide)];refine wpAny_bind (Xg ⟨o,n,e,oc,od,os⟩ hA fun h1 tk1 kk1=>?_);obtain⟨vs,rel,hvs⟩:=ZO I qs kvs hl hq;have hl1:h1.IsList a its.toArray:=⟨o,kk1 _ _ e,oc,n,os⟩;show wpAny _ _ (rule _ >>= _) _ _ _;refine wpAny_bind (wpAny_rule (wpAny_bind (wpAny_pyIter_list hl1 ?_)));have nd0:(s.heap.push { cls:=.type "dict",data:=.dict #[] }).get? s.heap.objs.size=some { cls:=.type "dict",data:=.dict #[] }:=Heap.get?_push_size _ rfl;have nd1:=kk1 _ _ nd0;have ltd:s.heap.objs.size<h1.objs.size:=Heap.lt_size nd1;have lta:a<h1.objs.size:=lt_trans lt ltd;have len:its.toArray.size=vs.length:=by
  have e1:=rv.length;rw[length_map] at e1;have e2:=rel.length;simp;omega
 have lvs:vs.length=kvs.length:=(rel.length).symm;have W:=Walks.list (prog:=X.prog) (w:=X.w) (A:=X.A.in1.in1) hA h1.objs.size a (ne_of_lt lta) its.toArray;have st:((h1.push { cls:=.type "list_iterator",data:=.fields #[.ref a,.int 0 0] }).IsListIter h1.objs.size a 0/\(h1.push { cls:=.type "list_iterator",data:=.fields #[.ref a,.int 0 0] }).IsList a its.toArray):=⟨⟨_,Heap.get?_push_size _ rfl,rfl,rfl⟩,hl1.push _⟩;have nf:s.heap.objs.size∉[h1.objs.size,a]:=by
  intro z;rcases mem_cons.mp z with z | z
  ·exact lt_irrefl _ (z ▸ ltd)
  ·exact lt_irrefl _ ((mem_singleton.mp z) ▸ lt)
 have item:∀ (i:Nat) (v:Value),its.toArray[i]?=some v->∃ q:Addr,v=Value.ref q/\qs[i]?=some q:=fun i v hv=>by
  have hv:its[i]?=some v:=by simpa using hv
  obtain⟨x,hx,rx⟩:=xK rv hv;rw[List.getElem?_map] at hx;obtain⟨q,hq,rfl⟩:=map_eq_some_iff.mp hx;exact⟨q,rx,hq⟩
 have hd0:(h1.push { cls:=.type "list_iterator",data:=.fields #[.ref a,.int 0 0] }).DictOf (zv X.prog X.w) s.heap.objs.size []:=by
  obtain⟨od,hod,hdo⟩:=Heap.dictOf_iff.mp hnew;exact Heap.dictOf_iff.mpr ⟨od,Heap.get?_push_of_some _ (kk1 _ _ hod),hdo⟩
 refine wpAny_pure ⟨plainId_quiet plain_dul _,zbg (A:=X.A.in1) (knd:=zv X.prog X.w) W nf vs len.symm (by omega) s.heap ?_ ?_ its.toArray.size 0 _ 0 (by omega) st hd0 ?_ ?_⟩
 ·intro i v hv
  obtain⟨q,rfl,hq'⟩:=item i v hv;obtain⟨o,x,k',kv,e1,e2,e3,e4,e5⟩:=hvs i q hq';exact⟨q,k',rfl,⟨o,x,e1,e2,by rw[e4];exact e3⟩,kv.1,by rw[e4];rfl,e5⟩
 ·intro i v q hv ev
  obtain⟨q',rfl,hq'⟩:=item i v hv;cases ev;obtain⟨o,x,k',kv,e1,_⟩:=hvs i _ hq';have l1:=Heap.lt_size e1;exact⟨fun z=>by rw[mem_singleton.mp z] at l1;exact lt_irrefl _ (lt_trans l1 ltd),fun z=>by rw[z] at l1;exact lt_irrefl _ l1⟩
 ·intro b o n1 n2 e
  exact Heap.get?_push_of_some _ (kk1 _ _ (Heap.get?_push_of_some _ e))
 ·intro h' tk hd' kk'
  refine⟨rfl,?_⟩;refine⟨.ref s.heap.objs.size,_,I.laid (a:=s.heap.objs.size) (o:=.dK (mergeK [] kvs)) (t':=tk) (fun b o e=>?_) (Nat.le_refl _) (wn ?_ (beq_eq_false_iff_ne.mpr (Ne.symm (ne_of_lt I.big))) (KV.merge rel .nil) hd'),rfl,k _ (I.hok.fresh (Nat.le_refl _))⟩
  ·have l1:=Heap.lt_size e
   refine kk' b o (fun z=>?_) (fun z=>?_) (Heap.get?_push_of_some _ (kk1 _ _ (Heap.get?_push_of_some _ e)))
   ·rw[mem_singleton.mp z] at l1
    exact lt_irrefl _ (lt_trans l1 ltd)
   ·rw[z] at l1
    exact lt_irrefl _ l1
  ·have e1:=(KV.merge rel (.nil:KV ([]:List (Key×V)) [])).length
   have e2:=merged_length_le ([]:List (Key×Value)) vs;simp only[length_nil] at e2;exact le_trans (show _<=1000 by omega) (by decide)
def zdp(K:W.Frag)(A:Around):R2:=fun x y H Q=>∃ (a b:Addr) (xs ys:List V),x=.ref a/\y=.ref b/\SqL K H a xs/\SqL K H b ys/\xs.length≠ys.length/\A.units<cLine/\Q (.bl false) H
theorem zaF:OpR X (compareOp .Eq) (zdp X.K X.A):=by
 intro pins s σ H x y v u Q I rx ry h;obtain⟨a,b,xs,ys,rfl,rfl,h1,h2,hl,hu,q⟩:=h;cases rx;cases ry;obtain⟨i1,r1,p1,_⟩:=I.list h1;obtain⟨i2,r2,p2,_⟩:=I.list h2;exact SeqAt.RcAt.lists_lengths p1.isList p2.isList (by simp;rw[<- r1.length,<- r2.length];exact hl) hu _ _ _ _ ⟨.bl _,H,I,rfl,q⟩
def EqP(X:Cx)(H:Hp)(x y:V)(b:Bool)(n:Nat):Prop:=∀ (pins:List (Addr×Obj)) (σ:St) (s:Shared),Inv X pins σ H s->∀ (A:Around) (u v:Value),A.units+n<cLine->RelV x u->RelV y v->SeqAt.EqAt A s u v b
theorem EqP.of{H:Hp}{x y:V}{b:Bool}{n:Nat}(h:EqD X.K H x y b n):EqP X H x y b n:=fun pins σ s I A u v hu r1 r2=>h.at I A u v hu r1 r2
theorem EqP.same{H:Hp}{a:Addr}{n:Nat}:EqP X H (.ref a) (.ref a) true n:=fun pins σ s I A u v hu rx ry=>by
 cases rx;cases ry;exact SeqAt.EqAt.same _
theorem za6{pins:List (Addr×Obj)}{σ:St}{H:Hp}{s:Shared}{A:Around}{xs ys:List V}{i1 i2:List Value}{e:Nat->Bool}{n:Nat}(I:Inv X pins σ H s)(r1:Vals xs i1)(r2:Vals ys i2)(hu:A.units+n+2<cLine)
  (h:∀ (j:Nat) x y,xs[j]?=some x->ys[j]?=some y->EqP X H x y (e j) n):∀ (j:Nat) (h1:j<i1.toArray.size) (h2:j<i2.toArray.size),SeqAt.EqAt A.in1 s i1.toArray[j] i2.toArray[j] (e j):=fun j h1 h2=>by
 have g1:j<xs.length:=by rw[r1.length];simpa using h1
 have g2:j<ys.length:=by rw[r2.length];simpa using h2
 obtain⟨u1,e1,q1⟩:=r1.get (i:=j) (x:=xs[j]) (by simp[g1]);obtain⟨u2,e2,q2⟩:=r2.get (i:=j) (x:=ys[j]) (by simp[g2]);have f1:i1.toArray[j]=u1:=by
  obtain⟨_,z⟩:=List.getElem?_eq_some_iff.mp e1
  simpa using z
 have f2:i2.toArray[j]=u2:=by
  obtain⟨_,z⟩:=List.getElem?_eq_some_iff.mp e2
  simpa using z
 rw[f1,f2];exact(h j _ _ (by simp[g1]) (by simp[g2])) _ _ _ I A.in1 u1 u2 (by rw[yd];omega) q1 q2
theorem EqP.lst{H:Hp}{a b:Addr}{xs ys:List V}{n:Nat}(ha:SqL X.K H a xs)(hb:SqL X.K H b ys)(hl:xs.length=ys.length)(h:∀ (j:Nat) x y,xs[j]?=some x->ys[j]?=some y->EqP X H x y true n):EqP X H (.ref a) (.ref b) true (n+2):=fun pins σ s I A u v hu rx ry=>by
 by_cases hne:a=b
 ·subst hne;exact EqP.same _ _ _ I A u v hu rx ry
 ·cases rx;cases ry
  obtain⟨i1,r1,p1,_⟩:=I.list ha;obtain⟨i2,r2,p2,_⟩:=I.list hb;have l1:=r1.length;have l2:=r2.length;refine SeqAt.EqAt.of_refs hne ?_;have q:=SeqAt.RcAt.lists (A:=A) (s:=s) (e:=fun _=>true) p1.isList p2.isList (by simp;omega) (by omega) (za6 I r1 r2 (by omega) h);have e:((List.range i1.toArray.size).all fun _=>true)=true:=by simp
  rw[e] at q;exact q
end
section
variable {X:Cx}{pins:List (Addr×Obj)}{σ:St}{H G:Hp}{s:Shared}{d:Addr}{od:Obj}{kvs:List (Key×V)}
theorem Inv.froz(I:Inv X pins σ H s)(e:H d=some (.dK kvs))(q0:s.heap.get? d=some od):Inv X pins σ (upd H d (.frz od (.dK kvs))) s:=by
 have ne:∀ {b:Addr}{o:HO},H b=some o->(∀ kvs,o≠.dK kvs)->upd H d (.frz od (.dK kvs)) b=some o:=fun {b o} q n=>by
  rw[upd_ne (fun z=>by rw[z,e] at q;injection q with q;exact n _ q.symm)];exact q
 have no:∀ {b:Addr},H b=none->upd H d (.frz od (.dK kvs)) b=none:=fun {b} q=>by
  rw[upd_ne (fun z=>by rw[z,e] at q;cases q)];exact q
 refine⟨I.ok,I.os,I.bare,⟨I.base.keep,I.base.slot,fun b o q n x=>no (I.base.free b o q n x),I.base.there,fun b xs q=>ne (I.base.tups b xs q) (fun _ z=>by cases z),fun b o u q=>ne (I.base.frzs b o u q) (fun _ z=>by cases z),fun b ps q=>?_⟩,I.loc,I.cell,no I.free,fun x c q=>no (I.freeC x c q),fun p hp=>?_,fun b o q=>?_,I.len⟩
 ·obtain⟨m,q⟩:=I.base.tbls b ps q
  exact⟨m,ne q (fun _ z=>by cases z)⟩
 ·obtain⟨p1,p2,p3⟩:=I.pin p hp
  exact⟨p1,no p2,p3⟩
 ·have st:∀ {b:Addr}{o:HO},H b=some o->ObjOk X.prog X.w (upd H d (.frz od (.dK kvs))) s.heap b o:=fun {b o} q=>(I.hok b o q).stay (fun c u _ q=>q) (fun c q=>ne q (fun _ z=>by cases z)) fun c xs q=>ne q (fun _ z=>by cases z)
  by_cases c:b=d
  ·subst c
   rw[za] at q;cases q;exact⟨q0,st e⟩
  ·rw[upd_ne c] at q
   exact st q
theorem Inv.thaw(I:Inv X pins σ G s)(S:∀ o u,X.H₀ d≠some (.frz o u))(g:G d=some (.frz od (.dK kvs))):Inv X pins σ (upd G d (.dK kvs)) s:=by
 have ne:∀ {b:Addr}{o:HO},G b=some o->(∀ ob u,o≠.frz ob u)->upd G d (.dK kvs) b=some o:=fun {b o} q n=>by
  rw[upd_ne (fun z=>by rw[z,g] at q;injection q with q;exact n _ _ q.symm)];exact q
 have no:∀ {b:Addr},G b=none->upd G d (.dK kvs) b=none:=fun {b} q=>by
  rw[upd_ne (fun z=>by rw[z,g] at q;cases q)];exact q
 refine⟨I.ok,I.os,I.bare,⟨I.base.keep,I.base.slot,fun b o q n x=>no (I.base.free b o q n x),I.base.there,fun b xs q=>ne (I.base.tups b xs q) (fun _ _ z=>by cases z),fun b o u q=>?_,fun b ps q=>?_⟩,I.loc,I.cell,no I.free,fun x c q=>no (I.freeC x c q),fun p hp=>?_,fun b o q=>?_,I.len⟩
 ·rw[upd_ne (fun(z:b=d)=>S o u (by rw[<- z];exact q))]
  exact I.base.frzs b o u q
 ·obtain⟨m,q⟩:=I.base.tbls b ps q
  exact⟨m,ne q (fun _ _ z=>by cases z)⟩
 ·obtain⟨p1,p2,p3⟩:=I.pin p hp
  exact⟨p1,no p2,p3⟩
 ·have st:∀ {b:Addr}{o:HO},ObjOk X.prog X.w G s.heap b o->ObjOk X.prog X.w (upd G d (.dK kvs)) s.heap b o:=fun {b o} q=>q.stay (fun c u _ q=>q) (fun c q=>ne q (fun _ _ z=>by cases z)) fun c xs q=>ne q (fun _ _ z=>by cases z)
  by_cases c:b=d
  ·subst c
   rw[za] at q;cases q;exact st (I.hok b _ g).2
  ·rw[upd_ne c] at q
   exact st (I.hok b o q)
theorem KV.getAt:∀ {kvs:List (Key×V)}{vs:List (Key×Value)},KV kvs vs->∀ {i:Nat}{p:Key×V},kvs[i]?=some p->∃ u,vs[i]?=some (p.1,u)/\RelV p.2 u
 |_,_,.nil,i,p,h=>by cases h
 |_,_,.cons (b:=q) r t,0,p,h=>by
  cases h;exact⟨q.2,by rw[r.1];rfl,r.2⟩
 |_,_,.cons r t,i+1,p,h=>KV.getAt t (i:=i) h
end
theorem zT{X:Cx}{body:List Stmt}{q:TS->Prop}{t:TS}(h:Bx (PSs X body t))(k:q t):∃ t,PSs X body t/\q t:=⟨t,h.of,k⟩
theorem wf{X:Cx}{e:Expr}{t:TT}(h:Bx (PW X e t)):Bx (PT X e t):=⟨h.of.pt⟩
section
variable {X:Cx}
theorem ze{i j pos}:Bx (PE X (.Constant (.int i) j pos) (tC (.int i))):=⟨xC⟩
theorem zy{b j pos}:Bx (PE X (.Constant (.bool b) j pos) (tC (.bl b))):=⟨vf⟩
variable {a b:Expr}{ta tb:TE}{pos:Pos}
theorem ww{op:CmpOp}{t:TE}(h:Bx (PC X op a b t))(h1:behindInMarks op b=false:=by first | exact nobehind _ (by decide) (by decide) | rfl):Bx (PT X (.Compare a [op] [b] pos) (tB t)):=⟨Vm h.of h1⟩
theorem zA{e:Expr}{t:TE}(h:Bx (PE X e t))(he:∀ whole,isTrue e X.env whole=(do let v <- whole;standAt e.pos;holding [v] (truthy v)):=by intro _;rfl):Bx (PT X e (tB t)):=⟨xA h.of he⟩
variable {a b:Expr}{ta tb:TE}{pos:Pos}
variable {tA tB':TT}{rest:List Expr}
theorem zZ(ha:Bx (PT X a tA)):Bx (PW X (.BoolOp .Or [a] pos) tA):=⟨vv ha.of⟩
theorem yh(ha:Bx (PT X a tA))(hb:Bx (PW X (.BoolOp .Or (b::rest) pos) tB')):Bx (PW X (.BoolOp .Or (a::b::rest) pos) (tOr tA tB')):=⟨ul ha.of hb.of⟩
theorem zE(ha:Bx (PT X a tA)):Bx (PT X (.UnaryOp .Not a pos) (zcC tA)):=⟨xB ha.of⟩
theorem yz{op}{t:TE}(h:Bx (PE X a t)):Bx (PE X (.BoolOp op [a] pos) t):=⟨YY h.of⟩
theorem yA(ha:Bx (PE X a ta))(hb:Bx (PE X (.BoolOp .And (b::rest) pos) tb)):Bx (PE X (.BoolOp .And (a::b::rest) pos) (tAndV ta tb)):=⟨ZN ha.of hb.of⟩
theorem vI(ha:Bx (PE X a ta)):Bx (PE X (.UnaryOp .Not a pos) (U2 ta)):=⟨Vp ha.of⟩
end
section
variable {X:Cx}{st:Stmt}{rest:List Stmt}{t u:TS}{e:Expr}{te:TE}{pos:Pos}
theorem zi  : Bx (PSs X [] VX):=⟨xf⟩
theorem zd(h1:Bx (PS X st t))(h2:Bx (PSs X rest u)):Bx (PSs X (st::rest) (zbC t u)):=⟨zQ h1.of h2.of⟩
theorem w_pss_one(h1:Bx (PS X st t)):Bx (PSs X [st] t):=⟨yi h1.of⟩
theorem w_ps_expr(he:Bx (PE X e te))(hs:swapsWith e none pos.line X.env=pure false:=by rfl):Bx (PS X (.Expr e pos) (U7 te)):=⟨Zc he.of hs⟩
theorem zg(he:Bx (PE X e te)):Bx (PS X (.Return (some e) pos) (zbD te)):=⟨xl he.of⟩
theorem zq{c:Expr}{a b:List Stmt}{tc:TT}(hc:Bx (PT X c tc))(ha:Bx (PSs X a t))(hb:Bx (PSs X b u)):Bx (PS X (.If c a b pos) (zbt tc t u)):=⟨vT hc.of ha.of hb.of⟩
end
section
variable {X:Cx}{pos:Pos}
theorem zm{i:Nat}{x:Str}(hN:X.N.Nodup)(hi:X.N[i]?=some x)(hx:Loc X.env.scope x)(hf:X.fn x=true\/X.env.scope.names.lookup x=some .local:=by first | exact .inl rfl | exact .inr rfl | assumption):Bx (PG X (.Name x pos) (wc i)):=⟨xZ hN hi hx hf⟩
theorem zO  : Bx (PGs X [] gNil):=⟨YW⟩
theorem zr{e:Expr}{es:List Expr}{t:TG}{u:TGs}(h1:Bx (PG X e t))(h2:Bx (PGs X es u))(hs:(assignEach (e::es) X.env).map (·.2)=assign e X.env::(assignEach es X.env).map (·.2):=by rfl):Bx (PGs X (e::es) (zbc t u)):=⟨vV h1.of h2.of hs⟩
theorem yf{es:List Expr}{k:Nat}{t:TGs}{n:Nat}(hc:X.calm=true)(h:Bx (PGs X es t))(hn:(assignEach es X.env).length=n:=by rfl)(hst:(assignEach es X.env).findIdx? (·.1)=none:=by rfl):Bx (PG X (.Tuple es k pos) (zc8 X.K n t)):=⟨Vn hc h.of hn hst⟩
theorem zk{i:Nat}{x:Str}{e:Expr}{te:TE}{pos':Pos}(hN:X.N.Nodup)(hi:X.N[i]?=some x)(hx:Loc X.env.scope x)(he:Bx (PE X e te))(hs:swapsWith e (some (.Name x pos')) pos.line X.env=pure false:=by rfl)(hf:X.fn x=true\/X.env.scope.names.lookup x=some .local:=by first | exact .inl rfl | exact .inr rfl | assumption):Bx (PS X (.Assign [.Name x pos'] e pos) (VZ te (wc i))):=⟨um hN hi hx he.of hs hf⟩
end
section
variable {X:Cx}{tg:Expr}
theorem zB{l:Expr}{tl:TE}(hl:Bx (PE X l tl)):Bx (PI X tg l (za8 X.K tl)):=⟨wN hl.of⟩
theorem zL{iter:Expr}{body:List Stmt}{wi:TI}{g:TG}{tb:TS}{pos:Pos}(hp:PassesOwn (model X.prog X.w) X.A X.env X.xe)(hc:X.calm=true)(hi:Bx (PI X tg iter wi))(hg:Bx (PG X tg g))(hb:Bx (PSs X body tb))(hs:∀ x,foldedSetIterable iter X.env x=pure x:=by intro _;rfl):Bx (PS X (.For tg iter body [] pos) (zcD wi g tb)):=⟨uo hp hc hi.of hg.of hb.of hs⟩
end
section
variable {X:Cx}{a b c:Expr}{ta tb tc:TE}{pos:Pos}
theorem xa{op:UnaryOp}{r:V->Hp->VK->Prop}(ho:UnR X (unaryOp op) r)(ha:Bx (PE X a ta)):Bx (PE X (.UnaryOp op a pos) (tUn r ta)):=⟨zaA ho ha.of⟩
theorem zP{op:CmpOp}{r:R2}(ho:OpR X (compareOp op) r)(ha:Bx (PE X a ta))(hb:Bx (PE X b tb))(hm:behindInMarks op b=false):Bx (PE X (.Compare a [op] [b] pos) (tOp r ta tb)):=⟨vW ho ha.of hb.of hm⟩
theorem zh{op:CmpOp}{r:R2}(ho:OpR X (compareOp op) r)(ha:Bx (PE X a ta))(hb:Bx (PE X b tb))(hm:behindInMarks op b=false):Bx (PT X (.Compare a [op] [b] pos) (VU (tOp r ta tb))):=⟨xX ho ha.of hb.of hm⟩
end
section
variable {X:Cx}{o e value:Expr}{f:Str}{pos pos' tpos:Pos}{ta tv:TE}
theorem ZA(ha:Bx (PE X o ta))(hv:Bx (PE X value tv))(hs:swapsWith value (some (.Attribute o f pos')) pos.line X.env=pure false):Bx (PS X (.Assign [.Attribute o f pos'] value pos) (zcY X.K ta tv f)):=⟨ZK ha.of hv.of hs⟩
end
section
variable {X:Cx}{e:Expr}{es:List Expr}{te:TE}{t:TA}{pos:Pos}
theorem w_pa_nil  : Bx (PA X [] Wh):=⟨yp⟩
theorem w_pa_cons(ha:Bx (PE X e te))(hr:Bx (PA X es t))(hs:starEach (e::es) X.env=(false,eval e X.env)::starEach es X.env:=by rfl):Bx (PA X (e::es) (xG te t)):=⟨xh ha.of hr.of hs⟩
theorem w_pe_lst(h:Bx (PA X es t)):Bx (PE X (.List es pos) (U6 t)):=⟨Vq h.of⟩
end
section
variable {X:Cx}{CX:CXT}{k:Nat}{f C:Addr}{fd:FuncData}{ps:List Str}{sp:Sp}{dvs:List V}{ds:List Value}{E:XK}{x m:Str}{p pos apos:Pos}{e o:Expr}{es:List Expr}{ta:TE}{t:TA}
theorem US {pl:Sem Bool}(he:Bx (PE X o ta)) (c:Cls X.K C) (hm:Meth X.K C m f) (F:FnOk X.prog X.w X.K X.mg X.base CX k f fd ps sp) (hr:Room k X.A) (hb:Binds X.K fd ps ds) (hd:Vals dvs ds) (hx:wq CX X E) (ha:Bx (PA X (e::es) t)) (hst:starEach (e::es) X.env=(false,eval e X.env)::starEach es X.env:=by rfl) (hpl:(backTo pos (starEach es X.env)).any (·.1)=false:=by rfl) (ht:eval (.Call (.Attribute o m apos) (e::es) [] pos) X.env=(do
   let ov <- eval o X.env
   standAt apos.atName
   let (f,first) <- holding [ov] (getMethod ov m pl)
   callWith pos f first (backTo pos (starEach (e::es) X.env)) (backToKw pos (keywordEach [] X.env))):=by rfl):Bx (PE X (.Call (.Attribute o m apos) (e::es) [] pos) (U4 C m sp dvs E ta t)):=⟨Uk he.of c hm F hr hb hd hx ha.of hst hpl ht⟩
end
section
variable {X:Cx}{x:Str}{p pos:Pos}{e:Expr}{es:List Expr}{t:TA}{id T:String}{r:List V->Hp->VK->Prop}
theorem zl(hc:yS X (.builtin id) r)(hg:Gl X x)(hm:X.mg x=none)(hv:bootBuiltins x=some (.builtin id))(ha:Bx (PA X (e::es) t))(hn:x ≠ "__name__" := by decide)(hdb:(x == ("__debug__" : Str))=false:=by decide)(he:starEach (e::es) X.env=(false,eval e X.env)::starEach es X.env:=by rfl)(hpl:(backTo pos (starEach es X.env)).any (·.1)=false:=by rfl):Bx (PE X (.Call (.Name x p) (e::es) [] pos) (tCB r t)):=⟨yB hc hg hm hv ha.of hn hdb he hpl⟩
theorem zU(hc:yS X (.type T) r)(hg:Gl X x)(hm:X.mg x=none)(hv:bootBuiltins x=some (.type T))(ha:Bx (PA X (e::es) t))(hn:x ≠ "__name__" := by decide)(hdb:(x == ("__debug__" : Str))=false:=by decide)(he:starEach (e::es) X.env=(false,eval e X.env)::starEach es X.env:=by rfl)(hpl:(backTo pos (starEach es X.env)).any (·.1)=false:=by rfl):Bx (PE X (.Call (.Name x p) (e::es) [] pos) (tCB r t)):=⟨ut hc hg hm hv ha.of hn hdb he hpl⟩
end
section
variable {X:Cx}{a b:Expr}{ta tb:TE}{pos:Pos}
theorem zx{r:R2}(hr:IxR X r)(ha:Bx (PE X a ta))(hb:Bx (PE X b tb))(hs:X7 b):Bx (PE X (.Subscript a b pos) (tOp r ta tb)):=⟨Ze hr ha.of hb.of hs⟩
variable {o e:Expr}{es:List Expr}{to:TE}{t:TA}{name:Str}{apos cpos:Pos}{T id:String}{r:V->List V->Hp->VK->Prop}
theorem w_pe_bm (pa:PlainAttrs T) (slot:Slot T name id) (hty:typeOf (.builtin id)=pure (.type "method_descriptor")) (hm:MtR X id r) (ho:Bx (PE X o to)) (ha:Bx (PA X (e::es) t)) (hbase:attributeBase o name X.env (eval o X.env)=eval o X.env:=by rfl) (hfew:((backTo cpos (starEach (e::es) X.env)).all (fun x=>!x.1)&&(backToKw cpos (keywordEach [] X.env)).all (fun x=>x.1.isSome)
   && decide ((e::es).length+([]:List Keyword).length+(if ([]:List Keyword).isEmpty then 0 else 1)<30))=true:=by rfl) (hline:(apos.endLine == cpos.line)=true:=by rfl) (hs:starEach (e::es) X.env=(false,eval e X.env)::starEach es X.env:=by rfl) (hplain:(backTo cpos (starEach es X.env)).any (·.1)=false:=by rfl):Bx (PE X (.Call (.Attribute o name apos) (e::es) [] cpos) (tBM X.K T r to t)):=⟨Um pa slot hty hm ho.of ha.of hbase hfew hline hs hplain⟩
end
section
variable {X:Cx}{o i e value:Expr}{pos pos' tpos:Pos}{td ty tv:TE}
theorem yP(hu:X.A.units+1<cLine)(ho:Bx (PE X o td))(hi:Bx (PE X i ty))(hs:zcx i):Bx (PE X (.Subscript o i pos) (zab td ty)):=⟨Zg hu ho.of hi.of hs⟩
theorem vJ(hu:X.A.units+1<cLine)(hi:Bx (PE X i ty))(ho:Bx (PE X o td)):Bx (PC X .In i o (zcE ty td)):=⟨Vs hu hi.of ho.of⟩
theorem w_ps_dput(hu:X.A.units+1<cLine)(ho:Bx (PE X o td))(hi:Bx (PE X i ty))(hv:Bx (PE X value tv))(hs:swapsWith value (some (.Subscript o i pos')) pos.line X.env=pure false):Bx (PS X (.Assign [.Subscript o i pos'] value pos) (zan td ty tv)):=⟨Zd hu ho.of hi.of hv.of hs⟩
end
section
variable {X:Cx}{pos:Pos}
theorem Z4  : Bx (PE X (.Dict [] [] pos) Vf):=⟨ZM⟩
theorem yN  : Bx (PE X (.Dict [] [] pos) Ve):=⟨ZL⟩
end
section
variable {X:Cx}
theorem w_pv(i:Nat){x:Str}{pos:Pos}(hN:X.N[i]?=some x:=by rfl)(hv:Vis X.env.scope x:=by first | exact Or.inl rfl | exact Or.inr (Or.inl rfl) | exact Or.inr (Or.inr rfl))(hd:(x == ("__debug__" : Str))=false:=by decide)(hcd:(x == ("__classdict__" : Str))=false:=by decide):Bx (PE X (.Name x pos) (ZF i)):=⟨pv i hN hv hd hcd⟩
end
section
variable {X:Cx}{k:Nat}{f C:Addr}{fd:FuncData}{ps:List Str}{sp:Sp}{x m:Str}{p pos apos:Pos}{e o:Expr}{es:List Expr}{ta:TE}{t:TA}
theorem zn(c:Callee X.prog X.w X.K X.mg X.base x f fd ps k sp)(hr:Room k X.A)(ha:Bx (PA X (e::es) t))(hg:Gl X x:=by rfl)(hdb:(x == ("__debug__" : Str))=false:=by decide)(he:starEach (e::es) X.env=(false,eval e X.env)::starEach es X.env:=by rfl)(hpl:(backTo pos (starEach es X.env)).any (·.1)=false:=by rfl):Bx (PE X (.Call (.Name x p) (e::es) [] pos) (u7 sp [] E0 t)):=⟨Vr c hr ha.of hg hdb he hpl⟩
theorem zC {pl:Sem Bool}(he:Bx (PE X o ta)) (ha:Bx (PA X (e::es) t)) (hst:starEach (e::es) X.env=(false,eval e X.env)::starEach es X.env:=by rfl) (hpl:(backTo pos (starEach es X.env)).any (·.1)=false:=by rfl) (ht:eval (.Call (.Attribute o m apos) (e::es) [] pos) X.env=(do
   let ov <- eval o X.env
   standAt apos.atName
   let (f,first) <- holding [ov] (getMethod ov m pl)
   callWith pos f first (backTo pos (starEach (e::es) X.env)) (backToKw pos (keywordEach [] X.env))):=by rfl):Bx (PE X (.Call (.Attribute o m apos) (e::es) [] pos) (uf X m ta t)):=⟨Wo he.of ha.of hst hpl ht⟩
theorem yk {pl:Sem Bool}(he:Bx (PE X o ta)) (ht:eval (.Call (.Attribute o m apos) [] [] pos) X.env=(do
   let ov <- eval o X.env
   standAt apos.atName
   let (f,first) <- holding [ov] (getMethod ov m pl)
   callWith pos f first (backTo pos (starEach [] X.env)) (backToKw pos (keywordEach [] X.env))):=by rfl):Bx (PE X (.Call (.Attribute o m apos) [] [] pos) (uf X m ta Wh)):=⟨YZ he.of ht⟩
end
section
theorem ya{X:Cx}{x:Str}{n:String}{pos:Pos}(hm:X.mg x=none)(hv:bootBuiltins x=some (.type n))(hg:Gl X x:=by rfl)(hn:x ≠ "__name__" := by decide)(hd:(x == ("__debug__" : Str))=false:=by decide):Bx (PE X (.Name x pos) (tC (.ty n))):=⟨vx hm hv hg hn hd⟩
end
section
variable {X:Cx}{es:List Expr}{t:TA}{te:TE}
theorem zb{x pos}(ha:Bx (PE X (.Name x pos) te))(hr:Bx (PA X es t)):Bx (PA X (.Name x pos::es) (xG te t)):=⟨wk ha.of hr.of⟩
end
def Th(G:Hp)(Q:Hp->Prop)(H:Hp):Prop:=Q H\/∃ (d:Addr) (od:Obj) (kvs:List (Key×V)),(∀ o u,G d≠some (.frz o u))/\H d=some (.frz od (.dK kvs))/\Q (upd H d (.dK kvs))
def zdh(G:Hp)(t:TE):TE:=fun σ H Q=>t σ H fun v=>Th G (Q v)
def zdg(G:Hp)(t:TS):TS:=fun D σ H=>t ⟨fun σ=>Th G (D.nx σ),fun v=>Th G (D.rt v),fun σ=>Th G (D.bk σ),fun σ=>Th G (D.ct σ)⟩ σ H
section
variable {X:Cx}{pins:List (Addr×Obj)}{σ:St}{H G:Hp}{s:Shared}{d:Addr}{od:Obj}{kvs:List (Key×V)}
theorem Th.inv{Q:Hp->Prop}(I:Inv X pins σ H s)(h:Th X.H₀ Q H):∃ H',Inv X pins σ H' s/\Q H':=by
 rcases h with h | ⟨d,od,kvs,S,g,h⟩
 ·exact⟨_,I,h⟩
 ·exact⟨_,I.thaw S g,h⟩
theorem Yy{e:Expr}{t:TE}(h:Bx (PE X e t)):Bx (PE X e (zdh X.H₀ t)):=by
 have h:=h.of;refine⟨?_⟩;intro pins s σ H Q I q;refine thn (h pins s σ H _ I q) fun u s' hq0=>?_;obtain⟨v,H',I',r,q'⟩:=hq0;obtain⟨H2,I2,q2⟩:=Th.inv I' q';exact⟨v,H2,I2,r,q2⟩
theorem wG{st:Stmt}{t:TS}(h:Bx (PS X st t)):Bx (PS X st (zdg X.H₀ t)):=by
 have h:=h.of;refine⟨?_⟩;intro pins s σ H D I q;refine thn (h pins s σ H _ I q) fun f s' q'=>?_;cases f with
 |next=>obtain⟨σ',H',I',q'⟩:=q';obtain⟨H2,I2,q2⟩:=Th.inv I' q';exact⟨_,_,I2,q2⟩
 |cont=>obtain⟨σ',H',I',q'⟩:=q';obtain⟨H2,I2,q2⟩:=Th.inv I' q';exact⟨_,_,I2,q2⟩
 |brk=>obtain⟨σ',H',I',q'⟩:=q';obtain⟨H2,I2,q2⟩:=Th.inv I' q';exact⟨_,_,I2,q2⟩
 |ret v=>obtain⟨x,σ',H',I',r,q'⟩:=q';obtain⟨H2,I2,q2⟩:=Th.inv I' q';exact⟨_,_,_,I2,r,q2⟩
theorem Zr{P:Program}{w:World}{k:Key}{u:Value}(h:(zv P w).is k u=true):RelV (kV k) u:=by
 rw[wb] at h;cases k with
 |inl i=>cases u<;>simp[wu,Value.isInt] at h<;>(subst h;exact⟨_,rfl⟩)
 |inr x=>cases u<;>simp[wu,Value.isStrOf] at h<;>(subst h;exact⟨_,rfl⟩)
theorem xJ:entryFor table "dict_itemiterator.__iter__" = some Builtin.«dict_keyiterator.__iter__» :=
 entryFor_alias (id' := "dict_keyiterator.__iter__") (by kernel_rfl) rfl (by decide +kernel) (by kernel_rfl)
theorem xq{prog:Program}{w:World}{A:Around}{E:Value->Shared->Prop}{s:Shared}{it d:Addr}{i n ep:Nat}{ok ov:Value}{Q:Value->Shared->Prop}(hit:IsItemIter s.heap it d i n ep ok ov)(h:Q (.ref it) s):wpAny (model prog w) A (pyIter (.ref it)) Q E s:=by
 have ti:s.TypeIs (.ref it) "dict_itemiterator" := ⟨_,hit,rfl⟩;refine wpAny_pyIter_slot ti F.slot_dict_itemiterator_iter (wpAny_call_entry F.slot_dict_itemiterator_iter ti xJ ?_ (F.args_dict_itemiterator_iter_1 _));show wpAny _ _ (ret (.ref it)) _ _ s;exact wpAny_pure ⟨_,rfl, "dict_itemiterator",_,ti,F.slot_dict_itemiterator_next.lookup,h⟩
abbrev YL:=Key×V->V->Hp->Hp->Prop
def yK:YL:=fun kv x H H'=>H'=H/\x=kV kv.1
def yI:YL:=fun kv x H H'=>∃ p,H p=none/\x=.ref p/\H'=upd H p (.tup [kV kv.1,kv.2])
def Itd(yl:YL)(d:Addr)(od:Obj)(kvs:List (Key×V)):It :=
 ⟨fun i H=>H d=some (.frz od (.dK kvs))/\i<kvs.length,fun i H x H'=>∃ kv,kvs[i]?=some kv/\yl kv x H H',fun i H=>H d=some (.frz od (.dK kvs))/\kvs.length<=i⟩
theorem u4{P:Program}{w:World}{K:W.Frag}{es:List Expr}{n:Nat}{tp:Pos}{it d:Addr}{od:Obj}{kvs:List (Key×V)}{vs:List (Key×Value)}{ep:Nat}(rel:KV kvs vs)
  (da:∀ h:Heap,h.get? d=some od->Heap.DictAt (zv P w) h d vs ep):Turn P w K (.Tuple es n tp) (Itd yI d od kvs) [it] it (fun i h=>∃ ok ov,IsItemIter h it d i vs.length ep ok ov) where
 mem:=by simp
 obj:=fun i h ⟨ok,ov,st⟩ b hb=>by
  rw[mem_singleton.mp hb];exact⟨_,st,fun v z=>by
   have z':Data.fields _=Data.cell v:=z;cases z'⟩
 keep:=fun i h h' ⟨ok,ov,st⟩ k=>⟨ok,ov,k it (by simp) _ st⟩
 item:=by
  intro X hP hw hK hc i pins s σ H E I hf st hg;subst hP hw hK;obtain⟨ok,ov,st⟩:=st;have fi:=hf it (by simp);have d3:=(I.hok d _ hg.1).1;have hx:kvs[i]?=some (kvs[i]'hg.2):=List.getElem?_eq_getElem hg.2;obtain⟨u,hu,ru⟩:=rel.getAt hx;refine wpAny_pyNext_items_item st (da _ d3) hu fun key h1 hkey O1 T1 z1 kk=>?_;refine⟨_,rfl,wpAny_letOwnedTupleGo_items (s:={ s with heap:=h1 }) O1 fun h2 E2 sb=>?_⟩;have te:s.heap.objs.size≠it:=(ne_of_lt (Heap.lt_size st)).symm;have T2:=sb.extBut _ _ te T1;have k2:∀ c o,c∉[it]->s.heap.get? c=some o->h2.get? c=some o:=fun c o hc q=>by
   have hc:c≠it:=by simpa using hc
   exact sb.extBut c o hc (kk c o hc q)
  have hn:H s.heap.objs.size=none:=I.fresh;refine⟨.ref s.heap.objs.size,upd H s.heap.objs.size (.tup [kV (kvs[i]'hg.2).1,(kvs[i]'hg.2).2]),I.turnedLaid (t':=s.toks) (ch:=[it]) hf k2 (Nat.le_refl _) ⟨by show 2<=sizeLine;decide,[key,u],.cons (Zr hkey) (.cons ru .nil),⟨_,T2,rfl,_,rfl⟩⟩,rfl,
   ⟨_,hx,_,hn,rfl,rfl⟩,⟨_,_,E2⟩,fun c hc=>?_⟩
  rw[mem_singleton.mp hc,upd_ne te.symm];exact fi.1
 done:=by
  intro X hP hw hK hc i pins s σ H E I hf st hg;subst hP hw hK;obtain⟨ok,ov,st⟩:=st;obtain⟨f0,f1,f2,f3,f4,f5⟩:=hf it (by simp);have d3:=(I.hok d _ hg.1).1;have lv:=rel.length;exact wpAny_pyNext_items_end (I.ok.hd hc) st (da _ d3) (List.getElem?_eq_none (by have:=hg.2;omega)) fun h' kk=>⟨rfl,I.turned (t':=s.toks) (fun b o hb q=>kk b o hb q) f0 f1 f3 f4 f5⟩
 self:=fun _ _ _ _ _ ⟨_,_,st⟩ h=>xq st h
theorem Ya{P:Program}{w:World}{K:W.Frag}{tg:Expr}{it d:Addr}{od:Obj}{kvs:List (Key×V)}{vs:List (Key×Value)}{ep:Nat}(rel:KV kvs vs)
  (da:∀ h:Heap,h.get? d=some od->Heap.DictAt (zv P w) h d vs ep):Turn P w K tg (Itd yK d od kvs) [it] it (fun i h=>h.IsKeyIter it d i vs.length ep) where
 mem:=by simp
 obj:=fun i h ⟨o,o1,o2,o3⟩ b hb=>by
  rw[mem_singleton.mp hb];exact⟨_,o1,fun v z=>by rw[o3] at z;cases z⟩
 keep:=fun i h h' st k=>st.at fun o q=>k it (by simp) o q
 item:=by
  intro X hP hw hK hc i pins s σ H E I hf st hg;subst hP hw hK;obtain⟨f0,f1,f2,f3,f4,f5⟩:=hf it (by simp);have d3:=(I.hok d _ hg.1).1;have hx:kvs[i]?=some (kvs[i]'hg.2):=List.getElem?_eq_getElem hg.2;obtain⟨u,hu,ru⟩:=rel.getAt hx;refine wpAny_pyNext_dict_item st (da _ d3) hu fun key h' hkey st4 sb=>?_;obtain⟨oi,oi1,oi2,oi3⟩:=id st4;exact⟨_,rfl,Yl (s:={ s with heap:=h' }) oi1 oi2 oi3 (by decide) ⟨_,H,I.turned (t':=s.toks) (fun b o hb q=>sb.extBut b o hb q) f0 f1 f3 f4 f5,Zr hkey,⟨_,hx,rfl,rfl⟩,st4,fun b hb=>(hf b hb).1⟩⟩
 done:=by
  intro X hP hw hK hc i pins s σ H E I hf st hg;subst hP hw hK;obtain⟨f0,f1,f2,f3,f4,f5⟩:=hf it (by simp);have d3:=(I.hok d _ hg.1).1;have lv:=rel.length;exact wpAny_pyNext_dict_end (I.ok.hd hc) st (da _ d3) (List.getElem?_eq_none (by have:=hg.2;omega)) fun h' kk=>⟨rfl,I.turned (t':=s.toks) (fun b o hb q=>kk b o hb q) f0 f1 f3 f4 f5⟩
 self:=fun _ _ _ _ _ st h=>wpAny_pyIter_keyiter st h
def zc7(yl:YL)(G:Hp)(td:TE):TI:=fun σ H R=>td σ H fun x H1=>∃ (d:Addr) (kvs:List (Key×V)),x=.ref d/\H1 d=some (.dK kvs)/\∀ od:Obj,(∀ o u,G d≠some (.frz o u))->R (Itd yl d od kvs) (upd H1 d (.frz od (.dK kvs)))
theorem XI{x:Addr}(I:Inv X pins σ H s)(e:H d=some (.dK kvs)):∀ o u,X.H₀ d≠some (.frz o u):=fun o u z=>by
 have:=I.base.frzs d o u z;rw[e] at this;cases this
theorem xF{o:Expr}{es:List Expr}{n:Nat}{tp:Pos}{td:TE}{apos cpos:Pos}(ho:Bx (PE X o td))(hbase:attributeBase o "items" X.env (eval o X.env)=eval o X.env:=by rfl)(hline:(apos.endLine == cpos.line)=true:=by rfl):Bx (PI X (.Tuple es n tp) (.Call (.Attribute o "items" apos) [] [] cpos) (zc7 yI X.H₀ td)):=by
 have ho:=ho.of;refine⟨?_⟩;intro pins s σ H R I h;refine wpAny_Call_method0_late hbase hline (thn (ho pins s σ H _ I h) fun v s1 hq0=>?_);obtain⟨x,H1,I1,rx,d,kvs,ex,e,q⟩:=hq0;subst ex;obtain rfl:v=Value.ref d:=rx;obtain⟨t1,t2,_⟩:=uE I1 (.inl ⟨_,.inl e⟩);obtain⟨z,hd,vs,rel,dd⟩:=vk I1.hok e;refine⟨"dict", "dict.items",PySem.F.plainAttrs_dict,PySem.F.slot_dict_items,PySem.F.type_dict_items,t1,t2,Calls.callWith_builtin rfl (PySem.evalArgs_none ?_)⟩;refine call_meetsIn PySem.F.slot_dict_items dd.typeIs PySem.F.entry_dict_items (PySem.F.args_dict_items_1 _) (meets_dict_items (zv X.prog X.w) d hd) ⟨⟨vs,dd⟩,?_⟩;obtain⟨od,es',ep,q1,q2,q3,q4,q5,q6⟩:=dd;have da:∀ h':Heap,h'.get? d=some od->Heap.DictAt (zv X.prog X.w) h' d vs ep:=fun _ q=>⟨od,es',q,q2,q3,q4,q5,q6⟩;refine wpAny_pyIter_items (s:={ s1 with heap:=s1.heap.push _ }) (d:=d) ⟨_,Heap.get?_push_size _ rfl,rfl,rfl⟩ (da _ (Heap.get?_push_of_some _ q1)) ?_;have hle:s1.heap.objs.size<=(s1.heap.push { cls:=.type "dict_items",data:=.fields #[.ref d] }).objs.size:=by rw[Heap.size_push];exact le_succ _
 have I1f:=I1.froz e q1;refine⟨_,[(s1.heap.push { cls:=.type "dict_items",data:=.fields #[.ref d] }).objs.size],_,_,_,rfl,I1f.kept (t':=s1.toks) fun b u q=>Heap.get?_push_of_some _ (Heap.get?_push_of_some _ q),u4 rel da,⟨_,_,Heap.get?_push_size _ rfl⟩,fun b hb=>?_,q od (XI (x:=d) I1 e)⟩;rw[mem_singleton.mp hb];exact I1f.fpOk hle (I1f.hok.fresh hle)
theorem Z3{tg l:Expr}{td:TE}(hl:Bx (PE X l td)):Bx (PI X tg l (zc7 yK X.H₀ td)):=by
 have hl:=hl.of;refine⟨?_⟩;intro pins s σ H R I h;refine thn (hl pins s σ H _ I h) fun v s1 hq0=>?_;obtain⟨x,H1,I1,rx,d,kvs,ex,e,q⟩:=hq0;subst ex;obtain rfl:v=Value.ref d:=rx;obtain⟨z,hd,vs,rel,dd⟩:=vk I1.hok e;obtain⟨od,es',ep,q1,q2,q3,q4,q5,q6⟩:=dd;have da:∀ h':Heap,h'.get? d=some od->Heap.DictAt (zv X.prog X.w) h' d vs ep:=fun _ q=>⟨od,es',q,q2,q3,q4,q5,q6⟩;refine wpAny_pyIter_dict hd (da _ q1) ?_;have I1f:=I1.froz e q1;refine⟨_,[s1.heap.objs.size],_,_,_,rfl,I1f.kept (t':=s1.toks) fun b u q=>Heap.get?_push_of_some _ q,Ya rel da,⟨_,Heap.get?_push_size _ rfl,rfl,rfl⟩,fun b hb=>?_,q od (XI (x:=d) I1 e)⟩;rw[mem_singleton.mp hb];exact I1f.fpOk (Nat.le_refl _) (I1f.hok.fresh (Nat.le_refl _))
end
theorem ZU{yl:YL}{d:Addr}{od:Obj}{kvs:List (Key×V)}{g:TG}{tb:TS}{D:Ends}{σ:St}{H:Hp}(Pv:Nat->St->Hp->Prop)(h0:Pv 0 σ H)(hf:∀ i σ H,Pv i σ H->H d=some (.frz od (.dK kvs)))
  (hs:∀ i kv x σ H H',kvs[i]?=some kv->Pv i σ H->yl kv x H H'->g x σ H' fun σ2 H2=>tb { D with nx:=Pv (i+1),ct:=Pv (i+1),bk:=D.nx } σ2 H2) (hd:∀ σ H,Pv kvs.length σ H->D.nx σ H) :
  ∃ W:Nat->Nat->St->Hp->Prop,(∃ m,W 0 m σ H)/\∀ i m σ H,W i m σ H ->
   ((Itd yl d od kvs).stop i H/\D.nx σ H)\/((Itd yl d od kvs).go i H/\∃ N:St->Hp->Prop,(∀ σ' H',N σ' H'->∃ m',m'<m/\W (i+1) m' σ' H')/\∀ x H',(Itd yl d od kvs).yld i H x H'->g x σ H' fun σ2 H2=>tb { D with nx:=N,ct:=N,bk:=D.nx } σ2 H2):=by
 refine⟨fun i m σ H=>m=kvs.length-i/\i<=kvs.length/\Pv i σ H,⟨_,rfl,zero_le _,h0⟩,?_⟩;rintro i m σ H ⟨rfl,hi,p⟩;have q:=hf i σ H p;by_cases hlt:i<kvs.length
 ·refine .inr ⟨⟨q,hlt⟩,Pv (i+1),fun σ' H' z=>⟨_,by omega,rfl,hlt,z⟩,fun x H' ⟨kv,hk,y⟩=>hs i kv x σ H H' hk p y⟩
 ·have e:i=kvs.length:=by omega
  subst e;exact .inl ⟨⟨q,Nat.le_refl _⟩,hd σ H p⟩
theorem comp_view{yl:YL}{d:Addr}{od:Obj}{kvs:List (Key×V)}{g:TG}{tc:TT}{te:TE}{Q:VK}{D:Addr}{τ0:St}{H0:Hp}(Pv:Nat->List V->St->Hp->Prop)(h0:Pv 0 [] τ0 H0)(hf:∀ i zs τ H,Pv i zs τ H->H d=some (.frz od (.dK kvs)))
  (hs:∀ i kv x zs τ H H',kvs[i]?=some kv->Pv i zs τ H->yl kv x H H'->g x τ H' fun τ2 H4=>tc τ2 H4 fun b H5 =>
   if b=true then te τ2 H5 fun y H6=>H6 D=some (.lst zs)/\zs.length<sizeLine/\Pv (i+1) (zs++[y]) τ2 (upd H6 D (.lst (zs++[y]))) else Pv (i+1) zs τ2 H5)
  (hd:∀ zs τ H,Pv kvs.length zs τ H->Q (.ref D) H):uU (Itd yl d od kvs) g tc te Q D τ0 H0 :=
 va kvs.length Pv h0 (fun zs τ H p=>⟨⟨hf _ _ _ _ p,Nat.le_refl _⟩,hd zs τ H p⟩) fun i zs τ H hi p=>⟨⟨hf _ _ _ _ p,hi⟩,fun x H3 ⟨kv,hk,y⟩=>hs i kv x zs τ H H3 hk p y⟩
theorem Yv{K:Type}[DecidableEq K]{xs:List (K×Addr×Value)}{k:K}(h:∀ (j:Nat) (p:Addr×Value),xs[j]?≠some (k,p)):atKey xs k=none:=by
 unfold atKey;rw[Option.map_eq_none_iff,List.find?_eq_none];intro x hx e;obtain⟨j,hj⟩:=List.getElem?_of_mem hx;have e:x.1=k:=by simpa using e
 exact h j x.2 (by rw[hj,<- e])
theorem Yu{K:Type}[DecidableEq K]{xs:List (K×Addr×Value)}{k:K}{j:Nat}{p:Addr×Value}(nd:(xs.map (·.1)).Nodup)(h:xs[j]?=some (k,p)):atKey xs k=some p:=by
 unfold atKey;have hm:=mem_of_getElem? h;cases hf:xs.find? (fun x=>decide (x.1=k)) with
 |none =>
  rw[List.find?_eq_none] at hf;exact absurd (hf _ hm) (by simp)
 |some y =>
  have h1:=List.find?_some hf;have h2:=mem_of_find?_eq_some hf;have e:y.1=k:=by simpa using h1
  obtain⟨i,hi⟩:=List.getElem?_of_mem h2;have z:i=j:=by
   have a1:(xs.map (·.1))[i]?=some k:=by rw[List.getElem?_map,hi,<- e];rfl
   have a2:(xs.map (·.1))[j]?=some k:=by rw[List.getElem?_map,h];rfl
   obtain⟨l1,q1⟩:=List.getElem?_eq_some_iff.mp a1;obtain⟨l2,q2⟩:=List.getElem?_eq_some_iff.mp a2;exact(List.getElem?_inj l1 nd).mp (a1.trans a2.symm)
  subst z;rw[hi] at h;cases h;rfl
theorem WT{prog:Program}{w:World}{K:Type}[DecidableEq K]{knd:HeapKind prog w K}{A:Around}{E:Value->Shared->Prop}{s:Shared}{d a:Addr}{xs:List (K×Addr×Value)}{k:K}{v:Value}{Q:Value->Shared->Prop}
  (hr:knd.room A) (hk:knd.is s.heap k a) (hd:Heap.DictOfH knd s.heap d xs)
  (h1:∀ p,atKey xs k=some p->Q p.2 { s with toks:=s.toks+knd.draws k })
  (h2:atKey xs k=none->∀ h',Heap.DictOfH knd h' d (storedH xs k a v)->Heap.SameBut d s.heap h'->Q v { s with heap:=h',toks:=s.toks+knd.draws k })
  (hz:xs.length<=sizeLine):wpAny (model prog w) A (dictSetDefault d (.ref a) v) Q E s:=by
 obtain⟨o,es,ep,ho,ex,hdat,hes,his,nd⟩:=hd;unfold dictSetDefault;refine wpAny_holding (wpAny_bind (knd.pyHash hr hk ?_));refine wpAny_bind (wpAny_dictFind_heap hr (s:={ s with toks:=s.toks+knd.draws k }) hk ho hdat hes his nd (fun hn=>?_) fun j p hj=>?_)
 ·have hn':=Yv hn
  refine wpAny_bind (wpAny_rule (wpAny_bind (wpAny_updateDictKeys (s:={ s with toks:=s.toks+knd.draws k }) ho hdat (wpAny_pure (h2 hn' _ ?_ ?_)) ?_ ?_)))
  ·have sb:Heap.SameBut d s.heap (s.heap.update d (Obj.mapDictKeys fun x=>x.push { hash:=knd.hash k,key:=.ref a,val:=v })):=⟨Heap.size_update _ _ _,fun b hb=>Heap.get?_update_ne _ _ _ _ hb⟩
   refine⟨_,es.push { hash:=knd.hash k,key:=.ref a,val:=v },ep+1,Heap.get?_update_self _ ho (by obtain⟨c,dd,dt,sl⟩:=o;cases hdat;rfl),?_,?_,?_,?_,?_⟩
   ·obtain⟨c,dd,dt,sl⟩:=o
    cases hdat;exact ex
   ·obtain⟨c,dd,dt,sl⟩:=o
    cases hdat;rfl
   ·rw[storedH_new hn',toList_push,hes,map_append]
    rfl
   ·rw[storedH_new hn']
    intro x hx;rcases mem_append.mp hx with z | z
    ·exact knd.keeps (his x z) ho hdat sb
    ·rw[mem_singleton.mp z]
     exact knd.keeps hk ho hdat sb
   ·rw[storedH_new hn',map_append,nodup_append]
    refine⟨nd,by simp,fun x hx y hy e=>?_⟩;have hy:y=k:=by simpa using hy
    obtain⟨z,hz1,hz2⟩:=mem_map.mp hx;obtain⟨j,hj⟩:=List.getElem?_of_mem hz1;exact hn j z.2 (by rw[hj,<- hy,<- e,<- hz2])
  ·exact⟨Heap.size_update _ _ _,fun b hb=>Heap.get?_update_ne _ _ _ _ hb⟩
  ·have:es.size=xs.length:=by
    rw[<- length_toList,hes,length_map]
   omega
  ·simp
 ·have e1:=Yu nd hj
  refine wpAny_bind (wpAny_dictEntries (s:={ s with toks:=s.toks+knd.draws k }) ho hdat ?_);have:es[j]?=some (entryOfKey knd (k,p)):=by
   rw[<- Array.getElem?_toList,hes,List.getElem?_map,hj];rfl
  rw[this];exact wpAny_bind (wpAny_rule (wpAny_pure (h1 p e1)))
theorem xm{prog:Program}{w:World}{K:Type}[DecidableEq K](knd:HeapKind prog w K)(d a:Addr)(hd:(d == sysModules)=false)(v:Value) :
  MeetsIn prog w (Builtin.«dict.setdefault» ⟨[.ref d,.ref a,v],[]⟩) fun A R s=>knd.room A.in1/\s.TypeIs (.ref d) "dict" /\ ∃ k xs,knd.is s.heap k a/\Heap.DictOfH knd s.heap d xs/\xs.length<=sizeLine /\
   (∀ p,atKey xs k=some p->R (.ok (.ret p.2)) { s with toks:=s.toks+knd.draws k }) /\
   (atKey xs k=none->∀ h',Heap.DictOfH knd h' d (storedH xs k a v)->Heap.SameBut d s.heap h'->R (.ok (.ret v)) { s with heap:=h',toks:=s.toks+knd.draws k }):=by
 intro A R s ⟨hr,ht,k,xs,hk,hx,hz,h1,h2⟩;unfold Builtin.«dict.setdefault»;refine wpAny_bind ?_;unfold Builtin.Dict.keyAndDefault;refine wpAny_bind (wpAny_notOrdered_dict ht ?_);show wpAny _ _ (pure (d,Value.ref a,some v)) _ _ _;refine wpAny_pure ?_;show wpAny _ _ (if (d == sysModules)=true then _ else _) _ _ _;rw[if_neg (by rw[hd];simp)];refine wpAny_bind (WT hr hk hx (fun p hp=>?_) (fun hn h' hh sb=>?_) hz)
 ·exact wpAny_pure (h1 p hp)
 ·exact wpAny_pure (h2 hn h' hh sb)
def zcy(H:Hp)(a:Addr)(y v:V)(Q:V->Hp->Prop):Prop :=
 (∃ kvs k,H a=some (.dK kvs)/\y=kV k/\kvs.length<sizeLine/\(∀ x,yG kvs k=some x->Q x H)/\(yG kvs k=none->Q v (upd H a (.dK (putK kvs k v))))) \/
 ∃ kvs k b,H a=some (.dT kvs)/\y=.ref b/\H b=some (.tup (k.map kV))/\kvs.length<sizeLine/\(∀ x,yG kvs k=some x->Q x H)/\(yG kvs k=none->Q v (upd H a (.dT (putK kvs k v))))
section
variable {X:Cx}{pins:List (Addr×Obj)}{σ:St}{H:Hp}{s:Shared}{a:Addr}{y v:V}{u r:Value}{A:Around}{E:Value->Shared->Prop}
theorem WU{Q:Value->Shared->Prop}{C:V->Hp->Prop}(hu:A.units+1<cLine)(I:Inv X pins σ H s)(g:zcy H a y v C)(ry:RelV y u)(rv:RelV v r)(h:∀ x H' w' s',C x H'->Inv X pins σ H' s'->RelV x w'->Q w' s') :
  wpAny (model X.prog X.w) A (call (.builtin "dict.setdefault") [.ref a,u,r]) Q E s:=by
 rcases g with⟨kvs,k,e,ey,l,c1,c2⟩ | ⟨kvs,k,b,e,ey,eb,l,c1,c2⟩
 ·subst ey
  obtain⟨z,hd,vs,rel,dd⟩:=vk I.hok e;have hz:vs.length<=sizeLine:=by rw[<- rel.length];exact z
  have hl:(putK kvs k v).length<=sizeLine:=by have:=yn kvs k v;omega
  refine call_meetsIn PySem.F.slot_dict_setdefault dd.typeIs PySem.F.entry_dict_setdefault (PySem.F.args_dict_setdefault_3 _ _ _) (kt_meets_setdefault (zv X.prog X.w) a (wv ry) hd r) ⟨vs,dd,hz,fun w' hw=>?_,fun hn h' dd' hs=>?_⟩
  ·have q:=rel.val k
   rw[hw] at q;cases hv:yG kvs k with
   |none=>rw[hv] at q;exact False.elim q
   |some x =>
    rw[hv] at q;exact h x H w' _ (c1 x hv) (I.tok _) q
  ·have q:=rel.val k
   rw[hn] at q;cases hv:yG kvs k with
   |some x=>rw[hv] at q;exact False.elim q
   |none =>
    have he:∃ q,h'.get? a=some q:=let ⟨q,_,_,hq,_⟩:=dd';⟨q,hq⟩
    exact h v _ r _ (c2 hv) (yX I (by rw[e];exact True.intro) hs he (wn hl hd (rel.put k rv) dd')) rv
 ·subst ey
  cases (show u=Value.ref b from ry);obtain⟨z,hd,xs,rel,dd⟩:=XM I.hok e;have hz:xs.length<=sizeLine:=by rw[<- Paired.length rel];exact z
  have hl:(putK kvs k v).length<=sizeLine:=by have:=yn kvs k v;omega
  refine call_meetsIn PySem.F.slot_dict_setdefault dd.typeIs PySem.F.entry_dict_setdefault (PySem.F.args_dict_setdefault_3 _ _ _) (xm (tupleKind (zv X.prog X.w)) a b hd r) ⟨tupleKind_room_in1 hu,dd.typeIs,k,xs,xD I.hok eb,dd,hz,fun p hp=>?_,fun hn h' dd' hs=>?_⟩
  ·have q:=rel.val k
   rw[hp] at q;cases hv:yG kvs k with
   |none=>rw[hv] at q;exact False.elim q
   |some x =>
    rw[hv] at q;exact h x H p.2 _ (c1 x hv) (I.tok _) q
  ·have q:=rel.val k
   rw[hn] at q;cases hv:yG kvs k with
   |some x=>rw[hv] at q;exact False.elim q
   |none =>
    obtain⟨q,es,ep,hq,h2,h3,h4,_,h5⟩:=dd';refine h v _ r _ (c2 hv) (yX I (by rw[e];exact True.intro) hs ⟨q,hq⟩ ⟨hl,hd,_,(rel.put k eb rv).keeps fun c ys ec=>?_,q,es,ep,hq,h2,h3,h4,h5⟩) rv;rw[upd_ne (Uv ec e (fun z=>nomatch z))];exact ec
end
def zbH(td ty tx:TE):TE:=fun σ H Q=>td σ H fun x H1=>∃ a,x=.ref a/\IsD H1 a/\ty σ H1 fun y H2=>tx σ H2 fun z H3=>zcy H3 a y z Q
section
variable {X:Cx}{o e f:Expr}{apos cpos:Pos}{td ty tx:TE}
theorem wI(hu:X.A.units+1<cLine)(ho:Bx (PE X o td))(he:Bx (PE X e ty))(hf:Bx (PE X f tx))(m:M2 X o "setdefault" apos e f cpos):Bx (PE X (.Call (.Attribute o "setdefault" apos) [e,f] [] cpos) (zbH td ty tx)):=by
 have ho:=ho.of;have he:=he.of;have hf:=hf.of;refine⟨?_⟩;intro pins s σ H Q I h;refine wpAny_Call_method m.base m.few m.line PySem.F.plainAttrs_dict PySem.F.slot_dict_setdefault PySem.F.type_dict_setdefault (thn (ho pins s σ H _ I h) fun u s1 hq0=>?_);obtain⟨x,H1,I1,rx,a,ex,d,q1⟩:=hq0;subst ex;obtain rfl:u=Value.ref a:=rx;obtain⟨t1,t2,_⟩:=uE I1 d;refine⟨t1,t2,?_⟩;rw[m.trees];refine Calls.callWith_builtin rfl (Calls.evalArgs_plain (Calls.spliced_cons (thn (he pins s1 σ H1 _ I1 q1) fun iv s2 ⟨y,H2,I2,ry,q2⟩ =>
  Calls.spliced_cons (thn (hf pins s2 σ H2 _ I2 q2) fun fv s3 ⟨z,H3,I3,rz,g⟩=>Calls.spliced_nil ?_))))
 exact WU hu I3 g ry rz fun x H' w' s4 c I4 rw'=>⟨x,H',I4,rw',c⟩
end
end L2
namespace L2
namespace Sco
open PySem PyProof.Rows
section
variable {rk:Value->Int}
def kf(rk:Value->Int)(l:List Keyed)(i:Nat):Int:=(l[i]?.map fun x=>rk x.1).getD 0
theorem UC{l:List Keyed}{i:Nat}(h:i<l.length):kf rk l i=rk l[i].1:=by
 unfold kf;rw[List.getElem?_eq_getElem h];rfl
theorem VG{a:Array Keyed}{i:Nat}(h:i<a.size):rk a[i].1=kf rk a.toList i:=by
 rw[UC (by simpa using h)];simp
def SA(rk:Value->Int)(l:List Keyed):Prop:=l.Pairwise fun x y=>rk x.1<=rk y.1
theorem SA.of{l:List Keyed}(h:∀ i j,i<j->j<l.length->kf rk l i<=kf rk l j):SA rk l:=by
 refine List.pairwise_iff_getElem.mpr fun i j hi hj hij=>?_;have:=h i j hij hj;rw[UC hi,UC hj] at this;exact this
end
section
variable {prog:Program}{w:World}{A:Around}{E:Value->Shared->Prop}{s:Shared}{it:List Keyed}{κ:SortKind}{rk:Value->Int}
def Cmp(prog:Program)(w:World)(A:Around)(s:Shared)(it:List Keyed)(κ:SortKind)(rk:Value->Int):Prop :=
 ∀ x∈it,∀ y∈it,∀ (Q:Bool->Shared->Prop) (E:Value->Shared->Prop),Q (decide (rk x.1<rk y.1)) s->wpAny (model prog w) A (keyLt' κ x.1 y.1) Q E s
theorem zdc(C:Cmp prog w A s it κ rk){st:SortSt}(hk:kindOf st=κ){x y:Keyed}(hx:x∈it)(hy:y∈it){Q:Option Bool->SortSt->Prop}(h:Q (some (decide (rk x.1<rk y.1))) st):wpS (model prog w) A E s (lt' x y) Q st:=by
 rw[lt'_eq];refine wpS_bind (wpS_get ?_);rw[hk];refine wpS_bind (wpS_lift (wpAny_attempt (C x hx y hy _ _ ⟨rfl,?_⟩)));exact wpS_pure h
theorem Vd{st:SortSt}{arr:Array Keyed}{i:Nat}(hi:i<arr.size){Q:Keyed->SortSt->Prop}(h:Q arr[i] st):wpS (model prog w) A E s (elem' arr i) Q st:=by
 rw[elem'_eq,getElem?_pos arr i hi];exact wpS_pure h
def In(it:List Keyed)(o:Array Keyed):Prop:=∀ x∈o,x∈it
theorem In.at{o:Array Keyed}{i:Nat}(h:In it o)(hi:i<o.size):o[i]∈it:=h _ (Array.getElem_mem hi)
end
section
variable {prog:Program}{w:World}{A:Around}{E:Value->Shared->Prop}{s:Shared}{it T:List Keyed}{κ:SortKind}{n:Nat}{rk:Value->Int}
structure TB (it T:List Keyed) (κ:SortKind) (n:Nat) (st:SortSt):Prop where
 z:(arrOf st).size=n
 p:(arrOf st).toList.Perm T
 i:In it (arrOf st)
 k:kindOf st=κ
 f:failedOf st=none
theorem TB.perm{st:SortSt}(t:TB it T κ n st){xs:Array Keyed}(p:xs.Perm (arrOf st)):TB it T κ n (setArr st xs) :=
 ⟨p.size_eq.trans t.z,(Array.perm_iff_toList_perm.mp p).trans t.p,fun x hx=>t.i x (mem_def.mpr ((Array.perm_iff_toList_perm.mp p).mem_iff.mp (mem_def.mp hx))),t.k,t.f⟩
def ks(rk:Value->Int)(st:SortSt)(i:Nat):Int:=kf rk (arrOf st).toList i
theorem Xs{st st':SortSt}{i j:Nat}(h:(arrOf st')[i]?=(arrOf st)[j]?):ks rk st' i=ks rk st j:=by
 unfold ks kf;rw[Array.getElem?_toList,Array.getElem?_toList,h]
def Sg(rk:Value->Int)(st:SortSt)(lo hi:Nat):Prop:=∀ i j,lo<=i->i<=j->j<hi->ks rk st i<=ks rk st j
theorem t_ltAt(C:Cmp prog w A s it κ rk){st:SortSt}(t:TB it T κ n st){i j:Nat}(hi:i<n)(hj:j<n){Q:Option Bool->SortSt->Prop}(h:Q (some (decide (ks rk st i<ks rk st j))) st):wpS (model prog w) A E s (ltAt' i j) Q st:=by
 rw[ltAt'_eq];refine wpS_bind (wpS_get ?_);have hi:i<(arrOf st).size:=by rw[t.z];exact hi
 have hj:j<(arrOf st).size:=by rw[t.z];exact hj
 refine wpS_bind (Vd hi (wpS_bind (Vd hj (zdc C t.k (t.i.at hi) (t.i.at hj) ?_))));rw[VG (rk:=rk) hi,VG (rk:=rk) hj];exact h
structure Od (rk:Value->Int) (it T:List Keyed) (κ:SortKind) (n:Nat) (p:Array (Nat×Nat×Nat)) (lo:Nat) (f:Nat->Int) (st:SortSt):Prop where
 t:TB it T κ n st
 p:pendingOf st=p
 l:∀ i,i<lo->ks rk st i=f i
variable {p:Array (Nat×Nat×Nat)}{lo:Nat}{f:Nat->Int}
theorem t_rev{st:SortSt}(o:Od rk it T κ n p lo f st){i j:Nat}(hi:lo<=i)(hj:j<=n){Q:Unit->SortSt->Prop}(h:∀ st',Od rk it T κ n p lo f st'->(∀ k,ks rk st' k=if i<=k/\k<j then ks rk st (i+j-1-k) else ks rk st k)->Q () st'):wpS (model prog w) A E s (reverseSlice' i j) Q st:=by
 rw[reverseSlice'_eq];have hk:∀ k,ks rk (setArr st (mirror (arrOf st) i j ((j-i)/2))) k=if i<=k/\k<j then ks rk st (i+j-1-k) else ks rk st k:=fun k=>by
  have e:=getElem?_mirror_all (xs:=arrOf st) (i:=i) (j:=j) (by rw[o.t.z];exact hj) k;by_cases q:i<=k/\k<j
  ·rw[if_pos q] at e ⊢
   exact Xs e
  ·rw[if_neg q] at e ⊢
   exact Xs e
 refine wpS_modify (h _ ⟨o.t.perm (mirror_perm _ _ _ _),o.p,fun k hk'=>?_⟩ hk);rw[hk k,if_neg (by omega)];exact o.l k hk'
theorem t_move{st:SortSt}(o:Od rk it T κ n p lo f st){i j:Nat}(hj:lo<=j)(hji:j<=i)(hi:i<n){Q:Unit->SortSt->Prop}(h:∀ st',Od rk it T κ n p lo f st'->(∀ k,ks rk st' k=if k=j then ks rk st i else if j<k/\k<=i then ks rk st (k-1) else ks rk st k)->Q () st'):wpS (model prog w) A E s (moveDown' i j) Q st:=by
 rw[moveDown'_eq];have hk:∀ k,ks rk (setArr st (bubble (arrOf st) i (i-j))) k=if k=j then ks rk st i else if j<k/\k<=i then ks rk st (k-1) else ks rk st k:=fun k=>by
  have e:=getElem?_bubble (xs:=arrOf st) (src:=i) (by rw[o.t.z];exact hi) (i-j) (by omega) k;rw[show i-(i-j)=j by omega] at e;by_cases q:k=j
  ·rw[if_pos q] at e ⊢
   exact Xs e
  ·rw[if_neg q] at e ⊢
   by_cases q2:j<k/\k<=i
   ·rw[if_pos q2] at e ⊢
    exact Xs e
   ·rw[if_neg q2] at e ⊢
    exact Xs e
 refine wpS_modify (h _ ⟨o.t.perm (bubble_perm _ _ _),o.p,fun k hk'=>?_⟩ hk);rw[hk k,if_neg (by omega),if_neg (by omega)];exact o.l k hk'
theorem zbB(C:Cmp prog w A s it κ rk){st:SortSt}(o:Od rk it T κ n p lo f st){m ok:Nat}(hm:lo+m<=n)(hok:ok<=m)(hm1:1<=m)(sg:Sg rk st lo (lo+ok)){Q:Bool->SortSt->Prop}(h:∀ st',Od rk it T κ n p lo f st'->Sg rk st' lo (lo+m)->Q true st'):wpS (model prog w) A E s (binarySort' lo m ok) Q st:=by
 rw[binarySort'_eq];refine wpS_bind (wpS_mono (wpS_forRange (I:=fun k c st'=>c=(none,())/\Od rk it T κ n p lo f st'/\Sg rk st' lo (lo+k)) (Q:=fun c st'=>c=(none,())/\Od rk it T κ n p lo f st'/\Sg rk st' lo (lo+m)) ?_ ?_ ⟨rfl,o,?_⟩) ?_)
 ·rintro k c st1 hk1 hk ⟨rfl,o1,sg1⟩
  dsimp only;refine wpS_bind (wpS_mono (wpS_forRange (I:=fun jj c st'=>st'=st1/\∃ l r,c=(none,l,r)/\l<=r/\r<=k/\r<=l+(k-jj)/\(∀ i,i<l->ks rk st1 (lo+i)<=ks rk st1 (lo+k))/\(∀ i,r<=i->i<k->ks rk st1 (lo+k)<=ks rk st1 (lo+i))) (Q:=fun c st'=>st'=st1/\∃ l r,c=(none,l,r)/\l<=k/\(∀ i,i<l->ks rk st1 (lo+i)<=ks rk st1 (lo+k))/\(∀ i,l<=i->i<k->ks rk st1 (lo+k)<=ks rk st1 (lo+i))) ?_ ?_ ⟨rfl,_,_,rfl,by omega,Nat.le_refl _,by omega,fun i hi=>by omega,fun i h1 h2=>by omega⟩) ?_)
  ·rintro j c st2 _ hj ⟨rfl,l,r,rfl,hlr,hr,hf,g1,g2⟩
   dsimp only;by_cases q:l≥r
   ·rw[if_pos q]
    exact wpS_pure ⟨rfl,_,_,rfl,by omega,g1,fun i h1 h2=>g2 i (by omega) h2⟩
   ·rw[if_neg q]
    refine wpS_bind (t_ltAt C o1.t (by omega) (by omega) ?_);by_cases z:ks rk st2 (lo+k)<ks rk st2 (lo+(l+r)/2)
    ·rw[decide_eq_true z]
     refine wpS_pure ⟨rfl,_,_,rfl,by omega,by omega,by omega,g1,fun i h1 h2=>?_⟩;have:=sg1 (lo+(l+r)/2) (lo+i) (by omega) (by omega) (by omega);omega
    ·rw[decide_eq_false z]
     refine wpS_pure ⟨rfl,_,_,rfl,by omega,by omega,by omega,fun i h1=>?_,g2⟩;have:=sg1 (lo+i) (lo+(l+r)/2) (by omega) (by omega) (by omega);omega
  ·rintro c st2 ⟨rfl,l,r,rfl,hlr,hr,hf,g1,g2⟩
   have e:max 0 k=k:=by omega
   rw[e] at hf;exact⟨rfl,_,_,rfl,by omega,g1,fun i h1 h2=>g2 i (by omega) h2⟩
  ·rintro c st2 ⟨rfl,l,r,rfl,hl,g1,g2⟩
   dsimp only;refine wpS_bind (t_move o1 (by omega) (by omega) (by omega) fun st3 o3 e3=>wpS_pure ⟨rfl,o3,fun i j h1 h2 h3=>?_⟩);rw[e3 i,e3 j];have ge:∀ x,lo<=x->x<lo+l->ks rk st2 x<=ks rk st2 (lo+k):=fun x a1 a2=>by
    have:=g1 (x-lo) (by omega);rw[show lo+(x-lo)=x by omega] at this;exact this
   have le:∀ x,lo+l<=x->x<lo+k->ks rk st2 (lo+k)<=ks rk st2 x:=fun x a1 a2=>by
    have:=g2 (x-lo) (by omega) (by omega);rw[show lo+(x-lo)=x by omega] at this;exact this
   by_cases c1:i=lo+l
   ·rw[if_pos c1]
    by_cases c2:j=lo+l
    ·rw[if_pos c2];exact Int.le_refl _
    ·rw[if_neg c2,if_pos (by omega)]
     exact le (j-1) (by omega) (by omega)
   ·rw[if_neg c1]
    by_cases c3:lo+l<i/\i<=lo+k
    ·rw[if_pos c3,if_neg (by omega),if_pos (by omega)]
     exact sg1 _ _ (by omega) (by omega) (by omega)
    ·rw[if_neg c3]
     by_cases c2:j=lo+l
     ·rw[if_pos c2]
      exact ge i h1 (by omega)
     ·rw[if_neg c2]
      by_cases c4:lo+l<j/\j<=lo+k
      ·rw[if_pos c4]
       exact sg1 _ _ h1 (by omega) (by omega)
      ·rw[if_neg c4]
       exact sg1 _ _ h1 h2 (by omega)
 ·rintro c st' ⟨rfl,o1,sg1⟩
  refine⟨rfl,o1,?_⟩;rw[show max (max ok 1) m=m by omega] at sg1;exact sg1
 ·intro i j h1 h2 h3
  by_cases q:ok=0
  ·have:i=j:=by omega
   rw[this];exact Int.le_refl _
  ·exact sg i j h1 h2 (by omega)
 ·rintro c st1 ⟨rfl,o1,sg1⟩
  exact wpS_pure (h st1 o1 sg1)
def Dn(rk:Value->Int)(st:SortSt)(lo m g:Nat):Prop:=(∀ i j,lo<=i->i<=j->j<lo+m->ks rk st j<=ks rk st i)/\g+1<=m/\∀ i,lo+m<=i+g+1->i<lo+m->ks rk st i=ks rk st (lo+m-1)
theorem zcB(C:Cmp prog w A s it κ rk){st:SortSt}(o:Od rk it T κ n p lo f st){m k:Nat}(hm:lo+m<=n)(hk1:1<=k)(hk:k<=m)(sg:Sg rk st lo (lo+k)){c0:Option (Option Nat)×Nat}(hc:c0=(none,k)){g:Nat->Option (Option Nat)×Nat->StateT SortSt Sem (ForInStep (Option (Option Nat)×Nat))}
  (hg:∀ (x i:Nat) (R:ForInStep (Option (Option Nat)×Nat)->SortSt->Prop),1<=i->i<m->(ks rk st (lo+i)<ks rk st (lo+i-1)->R (.done (none,i)) st)->(¬ ks rk st (lo+i)<ks rk st (lo+i-1)->R (.yield (none,i+1)) st)->wpS (model prog w) A E s (g x (none,i)) R st){Q:Option (Option Nat)×Nat->SortSt->Prop}
  (h:∀ j,k<=j->j<=m->Sg rk st lo (lo+j)->(j=m\/ks rk st (lo+j)<ks rk st (lo+j-1))->Q (none,j) st):wpS (model prog w) A E s (forIn [k:m] c0 g) Q st:=by
 subst hc;refine wpS_mono (wpS_forRange (I:=fun i c st'=>st'=st/\c=(none,i)/\Sg rk st lo (lo+i)) (Q:=fun c st'=>st'=st/\∃ j,c=(none,j)/\k<=j/\j<=m/\Sg rk st lo (lo+j)/\(j=m\/ks rk st (lo+j)<ks rk st (lo+j-1))) ?_ ?_ ⟨rfl,rfl,sg⟩) ?_
 ·rintro i c st1 hi1 hi ⟨rfl,rfl,sg1⟩
  refine hg i i _ (by omega) hi (fun z=>⟨rfl,i,rfl,hi1,by omega,sg1,.inr z⟩) fun z=>⟨rfl,rfl,fun a b h1 h2 h3=>?_⟩;by_cases e:b=lo+i
  ·subst e
   by_cases e2:a=lo+i
   ·subst e2;exact Int.le_refl _
   ·have:=sg1 a (lo+i-1) h1 (by omega) (by omega)
    omega
  ·exact sg1 a b h1 h2 (by omega)
 ·rintro c st1 ⟨rfl,rfl,sg1⟩
  rw[show max k m=m by omega] at sg1 ⊢;exact⟨rfl,m,rfl,hk,Nat.le_refl _,sg1,.inl rfl⟩
 ·rintro c st1 ⟨rfl,j,rfl,h1,h2,h3,h4⟩
  exact h j h1 h2 h3 h4
theorem jn3{α:Type}{H:α->Prop}{G:Prop}(h:∃ P:α->Prop,(∀ m,H m->P m)/\((∀ m,H m->P m)->G)):G:=by
 obtain⟨P,J,k⟩:=h;exact k J
theorem VT(C:Cmp prog w A s it κ rk){st:SortSt}(o:Od rk it T κ n p lo f st){m:Nat}(h1:1<=m)(hm:lo+m<=n){Q:Option Nat->SortSt->Prop}(h:∀ k st',1<=k->k<=m->Od rk it T κ n p lo f st'->Sg rk st' lo (lo+k)->Q (some k) st'):wpS (model prog w) A E s (countRun' lo m) Q st:=by
 rw[countRun'_eq];refine wpS_bind (zcB C o hm (Nat.le_refl _) h1 (fun i j a b c=>by rw[show i=j by omega];exact Int.le_refl _) rfl (fun x i R i1 i2 y1 y2=>wpS_bind (t_ltAt C o.t (by omega) (by omega) (by
  dsimp only;by_cases z:ks rk st (lo+i)<ks rk st (lo+i-1)
  ·rw[decide_eq_true z]
   exact wpS_pure (y1 z)
  ·rw[decide_eq_false z]
   exact wpS_pure (y2 z)))) fun k k1 k2 sg k3=>?_)
 dsimp only;by_cases q:(k == m)=true
 ·rw[if_pos q]
  exact wpS_pure (h k st k1 k2 o sg)
 rw[if_neg q];have q:k≠m:=fun z=>q (by simp[z]);have k3:ks rk st (lo+k)<ks rk st (lo+k-1):=k3.resolve_left q;refine jn3 (H:=fun st2=>Od rk it T κ n p lo f st2/\Dn rk st2 lo (k+1) 0) ?_;apply Exists.intro;apply And.intro
 case right =>
  intro J;by_cases qk:k>1
  ·rw[if_pos qk]
   refine wpS_bind (t_ltAt C o.t (by omega) (by omega) ?_);by_cases z:ks rk st lo<ks rk st (lo+k-1)
   ·rw[decide_eq_true z]
    exact wpS_pure (h k st k1 k2 o sg)
   ·rw[decide_eq_false z]
    simp only[false_eq_true,if_false];refine wpS_bind (t_rev o (by omega) (by omega) fun st2 o2 e2=>J st2 ⟨o2,fun i j a1 a2 a3=>?_,by omega,fun i a1 a2=>by rw[show i=lo+(k+1)-1 by omega]⟩);have eq:∀ x,lo<=x->x<lo+k->ks rk st x=ks rk st lo:=fun x b1 b2=>by
     have c1:=sg lo x (Nat.le_refl _) b1 b2;have c2:=sg x (lo+k-1) b1 (by omega) (by omega);omega
    have eq2:∀ x,lo<=x->x<lo+k->ks rk st2 x=ks rk st lo:=fun x b1 b2=>by
     rw[e2 x,if_pos ⟨b1,b2⟩];exact eq _ (by omega) (by omega)
    have e4:ks rk st2 (lo+k)=ks rk st (lo+k):=by rw[e2,if_neg (by omega)]
    have e5:=eq (lo+k-1) (by omega) (by omega);by_cases c:j=lo+k
    ·subst c
     by_cases c2:i=lo+k
     ·subst c2;exact Int.le_refl _
     ·rw[e4,eq2 i a1 (by omega)]
      omega
    ·rw[eq2 j (by omega) (by omega),eq2 i a1 (by omega)]
     exact Int.le_refl _
  ·rw[if_neg qk]
   have:k=1:=by omega
   subst this;refine J st ⟨o,fun i j a1 a2 a3=>?_,by omega,fun i a1 a2=>by rw[show i=lo+(1+1)-1 by omega]⟩;rcases Nat.lt_or_eq_of_le a2 with c | c
   ·rw[show i=lo by omega,show j=lo+1 by omega]
    rw[Nat.add_sub_cancel] at k3;omega
   ·subst c;exact Int.le_refl _
 case left =>
  intro st2 ⟨o2,d2⟩;refine wpS_bind (wpS_lift (wpAny_rule ⟨rfl,?_⟩));refine wpS_bind (wpS_mono (wpS_forRange (I:=fun i c st'=>Od rk it T κ n p lo f st'/\∃ g,c=(none,i,g)/\Dn rk st' lo i g) (Q:=fun c st'=>Od rk it T κ n p lo f st'/\∃ j g,c=(none,j,g)/\k+1<=j/\j<=m/\Dn rk st' lo j g) ?_ ?_ ⟨o2,_,rfl,d2⟩) ?_)
  ·rintro i c st3 hi1 hi ⟨o3,g,rfl,⟨d1,d2,d3⟩⟩
   dsimp only;refine wpS_bind (t_ltAt C o3.t (by omega) (by omega) ?_);by_cases z:ks rk st3 (lo+i)<ks rk st3 (lo+i-1)
   ·rw[decide_eq_true z]
    simp only[if_true];by_cases qg:g>0
    ·rw[if_pos qg]
     refine wpS_bind (t_rev o3 (by omega) (by omega) fun st4 o4 e4=>wpS_pure ⟨o4,_,rfl,?_⟩);have same:∀ x,lo<=x->x<n->ks rk st4 x=ks rk st3 x:=fun x b1 b2=>by
      rw[e4 x];by_cases c:lo+i-(g+1)<=x/\x<lo+i
      ·rw[if_pos c,d3 (lo+i-(g+1)+(lo+i)-1-x) (by omega) (by omega),d3 x (by omega) (by omega)]
      ·rw[if_neg c]
     refine⟨fun a b a1 a2 a3=>?_,by omega,fun x a1 a2=>by rw[show x=lo+(i+1)-1 by omega]⟩;rw[same a a1 (by omega),same b (by omega) (by omega)];by_cases c:b=lo+i
     ·subst c
      by_cases c2:a=lo+i
      ·subst c2;exact Int.le_refl _
      ·have:=d1 a (lo+i-1) a1 (by omega) (by omega)
       omega
     ·exact d1 a b a1 a2 (by omega)
    ·rw[if_neg qg]
     refine wpS_pure ⟨o3,_,rfl,fun a b a1 a2 a3=>?_,by omega,fun x a1 a2=>by rw[show x=lo+(i+1)-1 by omega]⟩;by_cases c:b=lo+i
     ·subst c
      by_cases c2:a=lo+i
      ·subst c2;exact Int.le_refl _
      ·have:=d1 a (lo+i-1) a1 (by omega) (by omega)
       omega
     ·exact d1 a b a1 a2 (by omega)
   ·rw[decide_eq_false z]
    simp only[false_eq_true,if_false];refine wpS_bind (t_ltAt C o3.t (by omega) (by omega) ?_);by_cases z2:ks rk st3 (lo+i-1)<ks rk st3 (lo+i)
    ·rw[decide_eq_true z2]
     exact wpS_pure ⟨o3,_,_,rfl,hi1,by omega,d1,d2,d3⟩
    ·rw[decide_eq_false z2]
     refine wpS_pure ⟨o3,_,rfl,fun a b a1 a2 a3=>?_,by omega,fun x a1 a2=>?_⟩
     ·by_cases c:b=lo+i
      ·subst c
       by_cases c2:a=lo+i
       ·subst c2;exact Int.le_refl _
       ·have:=d1 a (lo+i-1) a1 (by omega) (by omega)
        omega
      ·exact d1 a b a1 a2 (by omega)
     ·rw[show lo+(i+1)-1=lo+i by omega]
      by_cases c:x=lo+i
      ·rw[c]
      ·have:=d3 x (by omega) (by omega)
       omega
  ·rintro c st3 ⟨o3,g,rfl,d3⟩
   rw[show max (k+1) m=m by omega] at d3 ⊢;exact⟨o3,_,_,rfl,by omega,Nat.le_refl _,d3⟩
  ·rintro c st3 ⟨o3,j,g,rfl,j1,j2,d3⟩
   dsimp only;refine jn3 (H:=fun st4=>Od rk it T κ n p lo f st4/\∀ i j',lo<=i->i<=j'->j'<lo+j->ks rk st4 j'<=ks rk st4 i) ?_;apply Exists.intro;apply And.intro
   case right =>
    intro J;by_cases qg:g>0
    ·rw[if_pos qg]
     refine wpS_bind (t_rev o3 (by have:=d3.2.1;omega) (by omega) fun st4 o4 e4=>J st4 ⟨o4,fun a b a1 a2 a3=>?_⟩);have same:∀ x,lo<=x->x<n->ks rk st4 x=ks rk st3 x:=fun x b1 b2=>by
      have:=d3.2.1;rw[e4 x];by_cases c:lo+j-(g+1)<=x/\x<lo+j
      ·rw[if_pos c,d3.2.2 (lo+j-(g+1)+(lo+j)-1-x) (by omega) (by omega),d3.2.2 x (by omega) (by omega)]
      ·rw[if_neg c]
     rw[same a a1 (by omega),same b (by omega) (by omega)];exact d3.1 a b a1 a2 a3
    ·rw[if_neg qg]
     exact J st3 ⟨o3,d3.1⟩
   case left =>
    intro st4 ⟨o4,d4⟩;refine wpS_bind (t_rev o4 (by omega) (by omega) fun st5 o5 e5=>?_);have sg5:Sg rk st5 lo (lo+j):=fun a b a1 a2 a3=>by
     rw[e5 a,e5 b,if_pos ⟨a1,by omega⟩,if_pos ⟨by omega,a3⟩];exact d4 _ _ (by omega) (by omega) (by omega)
    refine wpS_bind (zcB C o5 hm (by omega) j2 sg5 rfl (fun x i R i1 i2 y1 y2=>wpS_bind (t_ltAt C o5.t (by omega) (by omega) (by
     dsimp only;by_cases z:ks rk st5 (lo+i)<ks rk st5 (lo+i-1)
     ·rw[decide_eq_true z]
      exact wpS_pure (y1 z)
     ·rw[decide_eq_false z]
      exact wpS_pure (y2 z)))) fun k' b1 b2 b3 b4=>?_)
    exact wpS_pure (h k' st5 (by omega) b2 o5 b3)
theorem Sg.sa{st:SortSt}(h:Sg rk st 0 (arrOf st).size):SA rk (arrOf st).toList:=SA.of fun i j hij hj=>h i j (zero_le _) (by omega) (by simpa using hj)
end
end Sco
namespace Sco
open PySem PyProof.Rows PySem.W
section
variable {prog:Program}{w:World}{A:Around}{E:Value->Shared->Prop}{s:Shared}{it T:List Keyed}{κ:SortKind}{n:Nat}{rk:Value->Int}
theorem Xm:∀ z,z<=63->2<=z->minRun' z z 0=z:=by decide
theorem UZ(C:Cmp prog w A s it κ rk){st:SortSt}(t:TB it T κ n st)(hp:pendingOf st = #[])(h2:2<=n)(h66:n<=63){Q:Unit->SortSt->Prop}(h:∀ st',TB it T κ n st'->Sg rk st' 0 n->Q () st'):wpS (model prog w) A E s sortRuns' Q st:=by
 have r1:=Xm n h66 h2;rw[sortRuns'_eq];refine wpS_bind (wpS_get ?_);rw[t.z];dsimp only;refine wpS_bind (wpS_mono (wpS_forRange (I:=fun i c st'=>TB it T κ n st'/\∃ lo,c=(none,lo)/\i<=lo/\((lo=0/\pendingOf st' = #[])\/(lo=n/\Sg rk st' 0 n/\∃ p1,pendingOf st' = #[(0,n,p1)])))
  (Q:=fun c st'=>TB it T κ n st'/\∃ lo,c=(none,lo)/\Sg rk st' 0 n/\∃ p1,pendingOf st' = #[(0,n,p1)]) ?_ ?_ ⟨t,0,rfl,Nat.le_refl _,.inl ⟨rfl,hp⟩⟩) ?_)
 ·rintro i c st1 _ hi ⟨t1,lo,rfl,hil,hc⟩
  dsimp only;rcases hc with⟨rfl,hpd⟩ | ⟨rfl,s1,hpd⟩
  ·rw[if_neg (by omega)]
   refine wpS_bind (VT (p:=pendingOf st1) (f:=ks rk st1) C ⟨t1,rfl,fun _ _=>rfl⟩ (by omega) (by omega) fun fd st0 f1 f2 o0 s0=>?_);dsimp only;rw[Nat.zero_add] at s0;rw[r1];by_cases q2:fd<n
   ·rw[if_pos q2]
    refine wpS_bind (wpS_lift (wpAny_rule ⟨rfl,?_⟩));refine wpS_bind (zbB C o0 (by omega) (by omega) (by omega) (by rw[Nat.zero_add];exact s0) fun st2 o2 s2=>?_);simp only[Bool.not_true,false_eq_true,if_false];refine wpS_bind (wpS_get ?_);rw[o2.p,hpd];refine wpS_bind (wpS_modify (wpS_pure ⟨⟨o2.t.z,o2.t.p,o2.t.i,o2.t.k,o2.t.f⟩,_,rfl,by omega,.inr ⟨by omega,?_,0,?_⟩⟩))
    ·have e:0+min (n-0) n=n:=by omega
     rw[e] at s2;exact s2
    ·show(pendingOf st2).push _=_
     rw[o2.p,hpd,Nat.sub_zero,min_self];rfl
   ·rw[if_neg q2]
    have ef:fd=n:=by omega
    refine wpS_bind (wpS_get ?_);rw[o0.p,hpd];refine wpS_bind (wpS_modify (wpS_pure ⟨⟨o0.t.z,o0.t.p,o0.t.i,o0.t.k,o0.t.f⟩,_,rfl,by omega,.inr ⟨by omega,by rw[ef] at s0;exact s0,0,?_⟩⟩));show(pendingOf st0).push _=_;rw[o0.p,hpd,ef];rfl
  ·rw[if_pos (Nat.le_refl _)]
   exact wpS_pure ⟨t1,_,rfl,s1,hpd⟩
 ·rintro c st1 ⟨t1,lo,rfl,hil,hc⟩
  rcases hc with⟨l0,_⟩ | ⟨_,h⟩
  ·omega
  ·exact⟨t1,lo,rfl,h⟩
 ·rintro c st1 ⟨t1,lo,rfl,sf,p1,hpd⟩
  dsimp only;refine wpS_bind (wpS_mono (wpS_forRange (I:=fun i c st'=>st'=st1/\c=(none,())) (Q:=fun c st'=>st'=st1/\c=(none,())) ?_ (fun _ _ h=>h) ⟨rfl,rfl⟩) ?_)
  ·rintro i c st2 _ hi ⟨rfl,rfl⟩
   refine wpS_bind (wpS_get ?_);rw[hpd];exact wpS_pure ⟨rfl,rfl⟩
  ·rintro c st2 ⟨rfl,rfl⟩
   exact wpS_pure (h st2 t1 sf)
end
def PrV(h:Heap)(v:Value)(p:Int×Int):Prop:=∃ x o t u n,v=.ref x/\h.get? x=some o/\o.cls=.type "tuple" /\ o.data=.seq #[.int p.1 t,.int p.2 u] n
def rkP(p:Int×Int):Int:=p.1*1000+p.2
section
variable {prog:Program}{w:World}{A:Around}{E:Value->Shared->Prop}{s:Shared}
theorem zbZ{x y:Value}{p q:Int×Int}(hx:PrV s.heap x p)(hy:PrV s.heap y q)(bp:0<=p.2/\p.2<1000)(bq:0<=q.2/\q.2<1000){Q:Bool->Shared->Prop}(h:Q (decide (rkP p<rkP q)) s):wpAny (model prog w) A (keyLt' (tuples' true) x y) Q E s:=by
 obtain⟨x,o,t,u,n,rfl,ho,_,hd⟩:=hx;obtain⟨y,o',t',u',n',rfl,ho',_,hd'⟩:=hy;unfold rkP at h;refine kat_lt ho hd ho' hd' (kat_cons (wpAny_eqBool_int ?_));by_cases e1:p.1=q.1
 ·refine kat_go (fun _=>kat_yes (kat_cons (wpAny_eqBool_int ?_))) fun z=>absurd e1 (by simpa using z)
  by_cases e2:p.2=q.2
  ·refine kat_go (fun _=>kat_yes (kat_nil ?_)) fun z=>absurd e2 (by simpa using z)
   have e:decide (p.1*1000+p.2<q.1*1000+q.2)=false:=decide_eq_false (by omega);rw[e] at h;exact h
  ·refine kat_go (fun z=>absurd (by simpa using z) e2) fun _=>kat_no (kat_one _ _ (lt_int ?_))
   have e:decide (p.1*1000+p.2<q.1*1000+q.2)=decide (p.2<q.2):=decide_eq_decide.mpr (by omega);rw[e] at h;exact h
 ·refine kat_go (fun z=>absurd (by simpa using z) e1) fun _=>kat_no (oneLt_int ?_)
  have e:decide (p.1*1000+p.2<q.1*1000+q.2)=decide (p.1<q.1):=decide_eq_decide.mpr (by omega);rw[e] at h;exact h
theorem YT:∀ {vs:List Value},(∀ v∈vs,(∃ p,PrV s.heap v p))->∃ fs:List Value,KatTups s.heap vs fs/\fs.length=vs.length/\∀ f∈fs,∃ i t,f=.int i t
 |[],_=>⟨[],.nil,rfl,fun f hf=>by cases hf⟩
 |v::vs,h=>by
  obtain⟨fs,k,hl,hi⟩:=YT (vs:=vs) fun v hv=>h v (mem_cons_of_mem _ hv);obtain⟨⟨i,j⟩,x,o,t,u,n,rfl,ho,hc,hd⟩:=h v mem_cons_self;refine⟨.int i t::fs,.cons ho hc hd rfl k,by simp[hl],fun f hf=>?_⟩;rcases mem_cons.mp hf with rfl | hf
  ·exact⟨i,t,rfl⟩
  ·exact hi f hf
theorem Uj{vs:List Value}(h:∀ v∈vs,(∃ p,PrV s.heap v p))(hne:0<vs.length){Q:SortKind->Shared->Prop}(q:Q (tuples' true) s):wpAny (model prog w) A (keyKind' vs.toArray) Q E s:=by
 obtain⟨fs,k,hl,hi⟩:=YT h;refine kat_kind (T:=.type "int") k (by omega) (fun v hv=>?_) rfl q;obtain⟨i,t,rfl⟩:=hi v hv;exact Looks.of_pure rfl
theorem ZS{vs:List Value}{p:Keyed}(h:p∈vs.toArray.zip vs.toArray):p.1∈vs/\p.2∈vs:=by
 have h:p∈(vs.toArray.zip vs.toArray).toList:=mem_def.mp h;rw[toList_zip] at h;obtain⟨a,b⟩:=p;exact of_mem_zip h
theorem PrV.keeps{h h':Heap}{v:Value}{p:Int×Int}(q:PrV h v p)(k:∀ b o,h.get? b=some o->o.cls=.type "tuple" -> h'.get? b=some o):PrV h' v p:=by
 obtain⟨x,o,t,u,n,e,ho,hc,hd⟩:=q;exact⟨x,o,t,u,n,e,k _ _ ho hc,hc,hd⟩
theorem Yx:∀ vs:List Value,(vs.toArray.zip vs.toArray).toList.map (fun p:Keyed=>p.2)=vs:=fun vs=>by
 rw[toList_zip];exact List.map_snd_zip (Nat.le_refl _)
theorem Zy{vs:List Value}{p:Keyed}(h:p∈(vs.toArray.zip vs.toArray).toList):p.1=p.2:=by
 rw[toList_zip] at h;obtain⟨i,hi,e⟩:=List.getElem_of_mem h;rw[List.getElem_zip] at e;rw[<- e]
theorem Ui{vs:List Value}{val:Value->Int×Int}(h:∀ v∈vs,PrV s.heap v (val v))(hb:∀ v∈vs,0<=(val v).2/\(val v).2<1000)(h2:2<=vs.length)(h66:vs.length<=63){Q:Unit->SortSt->Prop}
  (q:∀ st':SortSt,failedOf st'=none->((arrOf st').map (·.2)).toList.Perm vs->((arrOf st').map (·.2)).toList.Pairwise (fun x y=>rkP (val x)<=rkP (val y))->Q () st') :
  wpS (model prog w) A E s sortRuns' Q (SortSt.mk' (tuples' true) (vs.toArray.zip vs.toArray) #[] 7 none):=by
 have hz:(vs.toArray.zip vs.toArray).size=vs.length:=by simp
 refine UZ (it:=(vs.toArray.zip vs.toArray).toList) (T:=(vs.toArray.zip vs.toArray).toList) (κ:=tuples' true) (n:=vs.length) (rk:=fun v=>rkP (val v)) (fun x hx y hy Q E hq=>?_) ⟨hz,List.Perm.refl _,fun x hx=>mem_def.mp hx,rfl,rfl⟩ rfl h2 h66 fun st' t sg=>q st' t.f ?_ ?_
 ·have mx:=(ZS (mem_def.mpr hx)).1
  have my:=(ZS (mem_def.mpr hy)).1;exact zbZ (h _ mx) (h _ my) (hb _ mx) (hb _ my) hq
 ·rw[toList_map]
  have:=t.p.map (fun p:Keyed=>p.2);rw[Yx] at this;exact this
 ·rw[toList_map,pairwise_map]
  have sa:SA (fun v=>rkP (val v)) (arrOf st').toList:=Sg.sa (by rw[t.z];exact sg);refine sa.imp_of_mem fun {x y} hx hy hxy=>?_;rw[<- Zy (t.p.mem_iff.mp hx),<- Zy (t.p.mem_iff.mp hy)];exact hxy
theorem Yd{a:Addr}{vs:List Value}{n:Nat}{P:PySem.Fin->Shared->Prop}(ho:s.heap.get? a=some (seqObj "list" vs.toArray n)){val:Value->Int×Int}(hp:∀ v∈vs,PrV s.heap v (val v))(hb:∀ v∈vs,0<=(val v).2/\(val v).2<1000)(h66:vs.length<=63)
  (h:∀ o:Array Value,o.toList.Perm vs->o.toList.Pairwise (fun x y=>rkP (val x)<=rkP (val y))->P (.done (.ret .none)) { s with heap:=sortedHeap s.heap a vs o }):wpAny (model prog w) A (Builtin.«list.sort» ⟨[.ref a],[]⟩) P E s:=by
 have big:63<=sizeLine:=by decide
 have ha:=Heap.lt_size ho;rw[list_sort_plain];refine wpAny_bind (listItems_at ho rfl (wpAny_bind (listUpdate_at ho rfl ?_ (by simp;omega) (zero_le _))));have o1:=get?_update_seq ho (fun _=>(#[]:Array Value));refine wpAny_bind (seqEpoch_at o1 rfl (wpAny_bind (wpAny_newTuple (wpAny_bind (wpAny_newList (wpAny_holding ?_) (zero_le _))) (by show vs.length<=_;omega))));generalize hH:Heap.push (Heap.push (s.heap.update a (Obj.mapSeq fun _=>(#[]:Array Value))) (seqObj "tuple" vs.toArray 0)) (seqObj "list" #[] 0)=H6;have hs:∀ o:Array Value,sortedHeap s.heap a vs o=H6.update a (Obj.mapSeq fun _=>o):=fun o=>by rw[<- hH];rfl
 have o6:=Heap.get?_push_of_some (seqObj "list" #[] 0) (Heap.get?_push_of_some (seqObj "tuple" vs.toArray 0) o1);rw[hH] at o6;have hp6:∀ v∈vs,PrV H6 v (val v):=fun v hv=>(hp v hv).keeps fun b o e hc=>by
  have hb:a≠b:=fun z=>by
   rw[<- z,ho] at e;cases e;have hc:Value.type "list" = .type "tuple" := hc;injection hc with hc;exact absurd hc (by decide)
  rw[<- hH];refine Heap.get?_push_of_some _ (Heap.get?_push_of_some _ ?_);rw[Heap.get?_update_other _ _ hb];exact e
 have e6:({ s with heap:=Heap.push (Heap.push (s.heap.update a (Obj.mapSeq fun _=>(#[]:Array Value))) (seqObj "tuple" vs.toArray 0)) (seqObj "list" #[] 0) }:Shared)={ s with heap:=H6 }:=by rw[hH]
 refine(show wpAny (model prog w) A _ P E { s with heap:=H6 } from ?_);dsimp only;have hz0:((vs.toArray.zip vs.toArray).map (fun p:Keyed=>p.2)).size=vs.length:=by simp
 by_cases q:vs.toArray.size<2
 ·rw[if_pos q,if_pos q]
  refine wpAny_bind (wpAny_pure ?_);rw[StateT.run_pure];refine wpAny_bind (wpAny_pure (wpAny_bind (seqEpoch_at o6 rfl (wpAny_bind (listUpdate_at o6 rfl ?_ (zero_le _) (by show((vs.toArray.zip vs.toArray).map (fun p:Keyed=>p.2)).size<=_;omega))))));simp only[bne_self_eq_false,false_eq_true,if_false];refine wpAny_pure ?_;rw[<- hs];have e:((vs.toArray.zip vs.toArray).map (fun p:Keyed=>p.2)).toList=vs:=by rw[toList_map];exact Yx vs
  refine h _ (by rw[e]) ?_;rw[e];have q:vs.length<2:=by simpa using q
  match vs,q with
  |[],_=>exact List.Pairwise.nil
  |[x],_=>exact List.pairwise_singleton _ _
 ·rw[if_neg q,if_neg q]
  have q:2<=vs.length:=by simp at q;omega
  refine wpAny_bind (Uj (fun v hv=>⟨_,hp6 v hv⟩) (by omega) ?_);refine wpAny_bind (wpAny_mono (Ui (s:={ s with heap:=H6 }) hp6 hb q h66 (Q:=fun _ st'=>failedOf st'=none/\((arrOf st').map (·.2)).toList.Perm vs/\((arrOf st').map (·.2)).toList.Pairwise (fun x y=>rkP (val x)<=rkP (val y))) fun st' a1 a2 a3=>⟨a1,a2,a3⟩) ?_ fun _ _ e=>e);rintro⟨⟨⟩,st'⟩ s' ⟨rfl,hf,hz,hm⟩;have hz':((arrOf st').map (·.2)).size=vs.length:=by rw[<- length_toList,hz.length_eq]
  refine wpAny_bind (seqEpoch_at o6 rfl (wpAny_bind (listUpdate_at o6 rfl ?_ (zero_le _) (by show((arrOf st').map (·.2)).size<=_;omega))));rw[hf];simp only[bne_self_eq_false,false_eq_true,if_false];refine wpAny_pure ?_;rw[<- hs];exact h _ hz hm
theorem uh{l:Addr}{vs:List Value}{Q:Value->Shared->Prop}(hl:s.heap.IsList l vs.toArray){val:Value->Int×Int}(hp:∀ v∈vs,PrV s.heap v (val v))(hb:∀ v∈vs,0<=(val v).2/\(val v).2<1000)(h66:vs.length<=63)
  (h:∀ o:Array Value,o.toList.Perm vs->o.toList.Pairwise (fun x y=>rkP (val x)<=rkP (val y))->Q (.ref (s.heap.objs.size+1)) { s with heap:=sortedAll s.heap vs o }):wpAny (model prog w) A (call (.builtin "sorted") [.ref l]) Q E s:=by
 have big:63<=sizeLine:=by decide
 refine Calls.call_function_entry kind_sorted plain_sorted entry_sorted (args_sorted1 _) ?_;unfold Builtin.«sorted»;refine wpAny_bind (m:=checkCount "sorted" 1 1 _) (wpAny_pure (wpAny_bind (collect_list hl (wpAny_bind (wpAny_newList ?_ (by show vs.length<=_;omega))) (by omega))));have hz:(Heap.update (Heap.push s.heap (seqObj "list" #[] 0)) s.heap.objs.size (Obj.mapSeq fun x=>x++vs.toArray)).objs.size=s.heap.objs.size+1:=(Heap.size_update _ _ _).trans (size_push' _ _);have hk:∀ b o,s.heap.get? b=some o->(Heap.push (Heap.update (Heap.push s.heap (seqObj "list" #[] 0)) s.heap.objs.size (Obj.mapSeq fun x=>x++vs.toArray)) (seqObj "list" vs.toArray 0)).get? b=some o:=fun b o e=>by
  refine Heap.get?_push_of_some _ ?_;rw[Heap.get?_update_other _ _ (ne_of_gt (Heap.lt_size e))];exact Heap.get?_push_of_some _ e
 have ho:=Heap.get?_push_size (Heap.update (Heap.push s.heap (seqObj "list" #[] 0)) s.heap.objs.size (Obj.mapSeq fun x=>x++vs.toArray)) (o:=seqObj "list" vs.toArray 0) rfl;refine(show wpAny _ _ _ _ _ { s with heap:=Heap.push (Heap.update (Heap.push s.heap (seqObj "list" #[] 0)) s.heap.objs.size (Obj.mapSeq fun x=>x++vs.toArray)) (seqObj "list" vs.toArray 0) } from ?_);rw[hz] at ho ⊢;refine wpAny_bind (wpAny_holding (wpAny_call_entry slot_list_sort ⟨_,ho,rfl⟩ entry_list_sort ?_ (args_list_sort _)));refine Yd ho (fun v hv=>(hp v hv).keeps fun b o e _=>hk b o e) hb h66 fun o z m=>⟨_,rfl,wpAny_pure ⟨_,rfl,h o z m⟩⟩
end
section
variable {X:Cx}
abbrev PT:=Addr×Int×Int
theorem YX{α β:Type}{f:α->β}:∀ {l m:List β},l.Perm m->∀ ps:List α,ps.map f=m->∃ qs:List α,qs.Perm ps/\qs.map f=l:=by
 intro l m h
 induction h with
 |nil =>
  intro ps e;exact⟨ps,List.Perm.refl _,e⟩
 | @cons x l m _ ih =>
  intro ps e;cases ps with
  |nil=>cases e
  |cons p ps =>
   rw[map_cons] at e;injection e with e1 e2;obtain⟨qs,h1,h2⟩:=ih ps e2;exact⟨p::qs,h1.cons p,by rw[map_cons,h2,e1]⟩
 |swap x y l =>
  intro ps e
  match ps,e with
  |p::q::ps,e =>
   rw[map_cons,map_cons] at e;injection e with e1 e2;injection e2 with e2 e3;exact⟨q::p::ps,List.Perm.swap _ _ _,by rw[map_cons,map_cons,e1,e2,e3]⟩
 |trans _ _ ih1 ih2 =>
  intro ps e;obtain⟨qs,h1,h2⟩:=ih2 ps e;obtain⟨rs,h3,h4⟩:=ih1 qs h2;exact⟨rs,h3.trans h1,h4⟩
def vlH(H:Hp):Value->Int×Int
 |.ref a=>match H a with
  |some (.tup [.int i,.int j])=>(i,j)
  |_=>(0,0)
 |_=>(0,0)
def PsAt(H:Hp)(ps:List PT):Prop:=∀ p∈ps,H p.1=some (.tup [.int p.2.1,.int p.2.2])/\0<=p.2.2/\p.2.2<1000
theorem PsAt.vl{H:Hp}{ps:List PT}(h:PsAt H ps){p:PT}(hp:p∈ps):vlH H (.ref p.1)=p.2:=by
 show(match H p.1 with
  |some (.tup [.int i,.int j])=>(i,j)
  |_=>(0,0))=p.2
 rw[(h p hp).1]
theorem PsAt.prv{pins:List (Addr×Obj)}{σ:St}{H:Hp}{s:Shared}{ps:List PT}(I:Inv X pins σ H s)(h:PsAt H ps):∀ v∈ps.map (fun p=>Value.ref p.1),PrV s.heap v (vlH H v):=fun v hv=>by
 obtain⟨p,hp,rfl⟩:=mem_map.mp hv;rw[h.vl hp];obtain⟨_,vs,rr,ob,e1,e2,n,e3⟩:=(show ObjOk X.prog X.w H s.heap p.1 (.tup [.int p.2.1,.int p.2.2]) from I.hok p.1 _ (h p hp).1);cases rr with
 |cons r1 rr =>
  cases rr with
  |cons r2 rr =>
   cases rr;obtain⟨t1,rfl⟩:=r1;obtain⟨t2,rfl⟩:=r2;exact⟨p.1,ob,t1,t2,n,rfl,e1,e2,e3⟩
theorem uc:∀ {ps:List PT}{us:List Value},Vals (ps.map fun p=>V.ref p.1) us->us=ps.map fun p=>Value.ref p.1
 |[],_,h=>by cases h;rfl
 |p::ps,_,h=>by
  cases h with
  |cons r t =>
   cases r;rw[map_cons,uc t]
theorem uj:∀ (ps:List PT),Vals (ps.map fun p=>V.ref p.1) (ps.map fun p=>Value.ref p.1)
 |[]=>.nil
 |p::ps=>.cons rfl (uj ps)
def zas(K:W.Frag):List V->Hp->VK->Prop:=fun xs H Q=>∃ (a:Addr) (ps:List PT),xs=[V.ref a]/\SqL K H a (ps.map fun p=>V.ref p.1)/\ps.length<=63/\PsAt H ps /\
 ∀ (l:Addr) (qs:List PT),H l=none->qs.Perm ps->qs.Pairwise (fun x y=>rkP x.2<=rkP y.2)->Q (.ref l) (upd H l (.lst (qs.map fun p=>V.ref p.1)))
theorem YM{H:Hp}{ps:List PT}(h:PsAt H ps){o:Array Value}(po:o.toList.Perm (ps.map fun p=>Value.ref p.1))(so:o.toList.Pairwise (fun x y=>rkP (vlH H x)<=rkP (vlH H y))):∃ qs:List PT,qs.Perm ps/\qs.Pairwise (fun x y=>rkP x.2<=rkP y.2)/\o.toList=qs.map fun p=>Value.ref p.1:=by
 obtain⟨qs,h1,h2⟩:=YX po ps rfl;refine⟨qs,h1,?_,h2.symm⟩;rw[<- h2,pairwise_map] at so;refine so.imp_of_mem fun {x y} hx hy hxy=>?_;rw[h.vl (h1.mem_iff.mp hx),h.vl (h1.mem_iff.mp hy)] at hxy;exact hxy
theorem call_sortX:yS X (.builtin "sorted") (zas X.K):=by
 intro pins s σ H xs us Q I r h;obtain⟨a,ps,rfl,ha,h66,hy,q⟩:=h;obtain⟨u,rfl,ru⟩:=r.one;cases ru;obtain⟨its,rv,p,hz⟩:=I.list ha;have hl:=uc rv;subst hl;refine uh p.isList (hy.prv I) (fun v hv=>?_) (by rw[length_map];exact h66) fun o z m=>?_
 ·obtain⟨p,hp,rfl⟩:=mem_map.mp hv
  rw[hy.vl hp];exact(hy p hp).2
 ·obtain⟨qs,h1,h2,h3⟩:=YM hy z m
  have hn:H (s.heap.objs.size+1)=none:=I.hok.fresh (le_succ _);obtain⟨c,hc⟩:=sortedAll_at s.heap (ps.map fun p=>Value.ref p.1) o;refine⟨.ref _,_,I.laid (a:=s.heap.objs.size+1) (o:=.lst (qs.map fun p=>V.ref p.1)) (t':=s.toks) (fun _ _ e=>sortedAll_old e) (le_succ _) ⟨by rw[length_map,h1.length_eq];rw[length_map] at hz;exact hz,o.toList,c,by rw[h3];exact uj qs,hc⟩,rfl,q _ qs hn h1 h2⟩
end
end Sco
end L2
namespace L2
open PySem PySem.Spec PyProof.Rows
def X6(h:Heap)(d:Addr)(es:Array DictEntry)(ep:Nat):Prop:=∃ o,h.get? d=some o/\o.ExactDict/\o.data=.dict es ep
section
variable {X:Cx}
theorem Y8:OpR X (compareOp .IsNot) (fun x y H Q=>∃ b,x=.bl b/\y=.bl true/\Q (.bl (!b)) H):=by
 intro pins s σ H x y v u Q I rx ry h;obtain⟨b,rfl,rfl,q⟩:=h;cases rx;cases ry;have e:compareOp .IsNot (.bool b) (.bool true)=pure (.bool (!b)):=by cases b<;>rfl
 rw[e];exact wpAny_pure ⟨.bl (!b),H,I,rfl,q⟩
end
def KIt(h:Heap)(it d:Addr)(i n ep:Nat):Prop:=h.get? it=some { cls:=.type "dict_keyiterator",data:=.fields #[.ref d,.int i 0,.int n 0,.int ep 0] }
section
variable {prog:Program}{w:World}{A:Around}{E:Value->Shared->Prop}{s:Shared}
theorem VQ{it d:Addr}{i ep:Nat}{es:Array DictEntry}{e:DictEntry}{Q:PySem.Fin->Shared->Prop}(hi:KIt s.heap it d i es.size ep)(hd:X6 s.heap d es ep)(he:es[i]?=some e)
  (h:∀ h',KIt h' it d (i+1) es.size ep->Heap.SameBut it s.heap h'->Q (.done (.ret e.key)) { s with heap:=h' }):wpAny (model prog w) A (Builtin.«dict_keyiterator.__next__» ⟨[.ref it],[]⟩) Q E s:=by
 obtain⟨⟨c,dct,dat,sl⟩,ho,ex,hdat⟩:=hd;cases hdat;have hT:s.TypeIs (.ref it) "dict_keyiterator" := ⟨_,hi,rfl⟩;refine wpAny_bind (m:=Builtin.Dict_items.slot0 "__next__" _) (wpAny_pure ?_);refine wpAny_bind ?_;refine wpAny_bind ?_;have z1:((es.size:Int) != (es.size:Int))=false:=by simp
 have z2:((ep:Int) != (ep:Int))=false:=by simp
 repeat (any_goals (first | assumption | (simp only[z1,z2,false_eq_true,if_false]) | wp_step))
 have z3:(if (i:Int)<0 then none else es[((i:Int)).toNat]?)=some e:=by
  rw[if_neg (by omega)];exact he
 rw[z3];refine wpAny_bind ?_;refine wpAny_bind (m:=typeNameOfWhole (.ref it)) ?_
 repeat (any_goals (first | assumption | wp_step))
 refine h _ ((Heap.get?_update_self _ hi (by kernel_rfl)).trans (congrArg some ?_)) ⟨Heap.size_update _ _ _,fun b hb=>Heap.get?_update_ne _ _ _ _ hb⟩
 kernel_rfl
theorem UU{it d:Addr}{ep:Nat}{es:Array DictEntry}{Q:PySem.Fin->Shared->Prop}(hh:A.handled=none){i:Nat}(hi:KIt s.heap it d i es.size ep)(hle:es.size<=i)(hd:X6 s.heap d es ep)
  (h:∀ h' e,Heap.ExtBut it s.heap h'->(∃ o,h'.get? e=some o/\o.cls=.type "StopIteration")->E (.ref e) { s with heap:=h' }):wpAny (model prog w) A (Builtin.«dict_keyiterator.__next__» ⟨[.ref it],[]⟩) Q E s:=by
 obtain⟨⟨c,dct,dat,sl⟩,ho,ex,hdat⟩:=hd;cases hdat;have hT:s.TypeIs (.ref it) "dict_keyiterator" := ⟨_,hi,rfl⟩;refine wpAny_bind (m:=Builtin.Dict_items.slot0 "__next__" _) (wpAny_pure ?_);refine wpAny_bind ?_;refine wpAny_bind ?_;have z1:((es.size:Int) != (es.size:Int))=false:=by simp
 have z2:((ep:Int) != (ep:Int))=false:=by simp
 repeat (any_goals (first | assumption | (simp only[z1,z2,false_eq_true,if_false]) | wp_step))
 have z3:(if (i:Int)<0 then none else es[((i:Int)).toNat]?)=none:=by
  rw[if_neg (by omega)];show es[i]?=none;simp[hle]
 rw[z3];refine wpAny_bind ?_;refine wpAny_bind (m:=typeNameOfWhole (.ref it)) ?_
 repeat (any_goals (first | assumption | wp_step))
 refine wpAny_raiseNew_none hh ?_;refine h _ _ (fun b o hb e=>?_) ⟨_,Heap.get?_push_size _ rfl,rfl⟩;exact Heap.get?_push_of_some _ (Heap.get?_push_of_some _ ((Heap.get?_update_ne _ _ _ _ hb).trans e))
theorem ub{it d:Addr}{i ep:Nat}{es:Array DictEntry}{e:DictEntry}{Q:Option Value->Shared->Prop}(hi:KIt s.heap it d i es.size ep)(hd:X6 s.heap d es ep)(he:es[i]?=some e)
  (h:∀ h',KIt h' it d (i+1) es.size ep->Heap.SameBut it s.heap h'->Q (some e.key) { s with heap:=h' }):wpAny (model prog w) A (pyNext (.ref it)) Q E s:=by
 have hT:s.TypeIs (.ref it) "dict_keyiterator" := ⟨_,hi,rfl⟩;unfold pyNext;exact wpAny_bind (wpAny_attempt (wpAny_callSpecial?_slot (name:=Str.ofString "__next__") hT F.slot_dict_keyiterator_next (wpAny_call_entry F.slot_dict_keyiterator_next hT F.entry_dict_keyiterator_next (VQ hi hd he fun h' a1 a2=>⟨_,rfl,wpAny_pure (h h' a1 a2)⟩) (F.args_dict_keyiterator_next_1 _))))
theorem ZC{it d:Addr}{ep:Nat}{es:Array DictEntry}{Q:Option Value->Shared->Prop}(hh:A.handled=none){i:Nat}(hi:KIt s.heap it d i es.size ep)(hle:es.size<=i)(hd:X6 s.heap d es ep)
  (h:∀ h',Heap.ExtBut it s.heap h'->Q none { s with heap:=h' }):wpAny (model prog w) A (pyNext (.ref it)) Q E s:=by
 have hT:s.TypeIs (.ref it) "dict_keyiterator" := ⟨_,hi,rfl⟩;unfold pyNext;refine wpAny_bind (wpAny_attempt (wpAny_callSpecial?_slot (name:=Str.ofString "__next__") hT F.slot_dict_keyiterator_next (wpAny_call_entry F.slot_dict_keyiterator_next hT F.entry_dict_keyiterator_next (UU hh hi hle hd fun h' e hk he=>?_) (F.args_dict_keyiterator_next_1 _))));obtain⟨o,ho,hc⟩:=he;exact wpAny_bind (wpAny_isInstance (T := "StopIteration") (b:=true) ⟨o,ho,hc⟩ isSubtype_stop (wpAny_pure (h _ hk)))
theorem uY{d:Addr}{ep:Nat}{es:Array DictEntry}{Q:Value->Shared->Prop}(hd:X6 s.heap d es ep)(hm:(d == sysModules)=false)
  (q:Q (.ref s.heap.objs.size) { s with heap:=s.heap.push { cls:=.type "dict_keyiterator",data:=.fields #[.ref d,.int 0 0,.int es.size 0,.int ep 0] } }):wpAny (model prog w) A (pyIter (.ref d)) Q E s:=by
 obtain⟨⟨c,dct,dat,sl⟩,ho,ex,hdat⟩:=hd;cases hdat;have hT:s.TypeIs (.ref d) "dict" := ⟨_,ho,ex.1⟩;refine wpAny_pyIter_slot hT F.slot_dict_iter (wpAny_call_entry F.slot_dict_iter hT F.entry_dict_iter ?_ (F.args_dict_iter_1 _));unfold Builtin.«dict.__iter__»;refine wpAny_bind ?_;unfold Builtin.Dict.dictSlotNone;refine wpAny_bind (wpAny_notOrdered_dict hT ?_);show wpAny _ _ (pure (Value.ref d)) _ _ _;refine wpAny_pure ?_;have e:Builtin.Dict.showsAll d=pure ():=by
  unfold Builtin.Dict.showsAll;rw[if_neg (by rw[hm];simp)]
 refine wpAny_bind (m:=Builtin.Dict.addrOf (.ref d)) (wpAny_pure ?_);rw[e]
 repeat (any_goals (first | assumption | wp_step))
 refine⟨_,rfl, "dict_keyiterator",_,⟨_,Heap.get?_push_size _ rfl,rfl⟩,F.slot_dict_keyiterator_next.lookup,?_⟩;exact q
end
section
variable {X:Cx}{pins:List (Addr×Obj)}{σ:St}{H G:Hp}{s:Shared}{d:Addr}{od:Obj}{kvs:List (List Key×V)}
theorem Inv.frozT(I:Inv X pins σ H s)(e:H d=some (.dT kvs))(q0:s.heap.get? d=some od):Inv X pins σ (upd H d (.frz od (.dT kvs))) s:=by
 have ne:∀ {b:Addr}{o:HO},H b=some o->(∀ kvs,o≠.dT kvs)->upd H d (.frz od (.dT kvs)) b=some o:=fun {b o} q n=>by
  rw[upd_ne (fun z=>by rw[z,e] at q;injection q with q;exact n _ q.symm)];exact q
 have no:∀ {b:Addr},H b=none->upd H d (.frz od (.dT kvs)) b=none:=fun {b} q=>by
  rw[upd_ne (fun z=>by rw[z,e] at q;cases q)];exact q
 refine⟨I.ok,I.os,I.bare,⟨I.base.keep,I.base.slot,fun b o q n x=>no (I.base.free b o q n x),I.base.there,fun b xs q=>ne (I.base.tups b xs q) (fun _ z=>by cases z),fun b o u q=>ne (I.base.frzs b o u q) (fun _ z=>by cases z),fun b ps q=>?_⟩,I.loc,I.cell,no I.free,fun x c q=>no (I.freeC x c q),fun p hp=>?_,fun b o q=>?_,I.len⟩
 ·obtain⟨m,q⟩:=I.base.tbls b ps q
  exact⟨m,ne q (fun _ z=>by cases z)⟩
 ·obtain⟨p1,p2,p3⟩:=I.pin p hp
  exact⟨p1,no p2,p3⟩
 ·have st:∀ {b:Addr}{o:HO},H b=some o->ObjOk X.prog X.w (upd H d (.frz od (.dT kvs))) s.heap b o:=fun {b o} q=>(I.hok b o q).stay (fun c u _ q=>q) (fun c q=>ne q (fun _ z=>by cases z)) fun c xs q=>ne q (fun _ z=>by cases z)
  by_cases c:b=d
  ·subst c
   rw[za] at q;cases q;exact⟨q0,st e⟩
  ·rw[upd_ne c] at q
   exact st q
def ItT(d:Addr)(od:Obj)(kvs:List (List Key×V)):It :=
 ⟨fun i H=>H d=some (.frz od (.dT kvs))/\i<kvs.length,fun i H x H'=>H'=H/\∃ kv b,kvs[i]?=some kv/\x=.ref b/\H b=some (.tup (kv.1.map kV)),fun i H=>H d=some (.frz od (.dT kvs))/\kvs.length<=i⟩
theorem KT.getAt{H:Hp}:∀ {kvs:List (List Key×V)}{xs:List (List Key×Addr×Value)},KT H kvs xs->∀ {i:Nat}{p:List Key×V},kvs[i]?=some p->∃ x,xs[i]?=some x/\p.1=x.1/\H x.2.1=some (.tup (p.1.map kV))
 |_,_,.cons h t,0,p,e=>by cases e;exact⟨_,rfl,h.1,h.2.1⟩
 |_,_,.cons h t,i+1,p,e=>by
  obtain⟨x,h1,h2⟩:=KT.getAt t (i:=i) (p:=p) (by simpa using e);exact⟨x,by simpa using h1,h2⟩
 |_,_,.nil,i,p,e=>by simp at e
theorem wM{P:Program}{w:World}{K:W.Frag}{tg:Expr}{it d:Addr}{od:Obj}{kvs:List (List Key×V)}{es:Array DictEntry}{ep:Nat}(hed:od.ExactDict)(hda:od.data=.dict es ep)(hle:es.size=kvs.length) :
  Turn P w K tg (ItT d od kvs) [it] it (fun i h=>KIt h it d i es.size ep) where
 mem:=by simp
 obj:=fun i h o1 b hb=>by
  rw[mem_singleton.mp hb];exact⟨_,o1,fun v z=>by
   have z':Data.fields _=Data.cell v:=z;cases z'⟩
 keep:=fun i h h' st k=>k it (by simp) _ st
 item:=by
  intro X hP hw hK hc i pins s σ H E I hf st hg;subst hP hw hK;obtain⟨f0,f1,f2,f3,f4,f5⟩:=hf it (by simp);obtain⟨d3,d4⟩:=I.hok d _ hg.1;have hx:kvs[i]?=some (kvs[i]'hg.2):=List.getElem?_eq_getElem hg.2;obtain⟨z,y,xs,rel,o,es2,ep2,h1,h2,h3,h4,h5⟩:=(show ObjOk X.prog X.w H s.heap d (.dT kvs) from d4);rw[d3] at h1;cases h1;rw[hda] at h3;cases h3;obtain⟨x,hxi,e1,e2⟩:=KT.getAt rel hx;have he:es[i]?=some (entryOfKey (tupleKind (zv X.prog X.w)) x):=by
   rw[<- Array.getElem?_toList,h4,List.getElem?_map,hxi];rfl
  refine ub st ⟨od,d3,hed,hda⟩ he fun h' st4 sb=>?_;refine⟨_,rfl,Yl (s:={ s with heap:=h' }) (n := "dict_keyiterator") st4 rfl rfl (by decide) ⟨.ref x.2.1,H,I.turned (t':=s.toks) (fun b o hb q=>sb.extBut b o hb q) f0 f1 f3 f4 f5,rfl,⟨rfl,_,x.2.1,hx,rfl,e2⟩,st4,fun b hb=>(hf b hb).1⟩⟩
 done:=by
  intro X hP hw hK hc i pins s σ H E I hf st hg;subst hP hw hK;obtain⟨f0,f1,f2,f3,f4,f5⟩:=hf it (by simp);have d3:=(I.hok d _ hg.1).1;exact ZC (I.ok.hd hc) st (by have:=hg.2;omega) ⟨od,d3,hed,hda⟩ fun h' kk=>⟨rfl,I.turned (t':=s.toks) (fun b o hb q=>kk b o hb q) f0 f1 f3 f4 f5⟩
 self:=fun _ i s _ _ st h=>wpAny_pyIter_keyiter (it:=it) (d:=d) (i:=i) (n:=es.size) (ep:=ep) ⟨_,st,rfl,rfl⟩ h
def zdt(td:TE):TI:=fun σ H R=>td σ H fun x H1=>∃ (d:Addr) (kvs:List (List Key×V)),x=.ref d/\H1 d=some (.dT kvs)/\∀ od:Obj,R (ItT d od kvs) (upd H1 d (.frz od (.dT kvs)))
theorem uX{tg l:Expr}{td:TE}(hl:Bx (PE X l td)):Bx (PI X tg l (zdt td)):=by
 have hl:=hl.of;refine⟨?_⟩;intro pins s σ H R I h;refine thn (hl pins s σ H _ I h) fun v s1 hq0=>?_;obtain⟨x,H1,I1,rx,d,kvs,ex,e,q⟩:=hq0;subst ex;obtain rfl:v=Value.ref d:=rx;obtain⟨z,hd,xs,rel,dd⟩:=XM I1.hok e;obtain⟨od,es',ep,q1,q2,q3,q4,q5,q6⟩:=dd;refine uY ⟨od,q1,q2,q3⟩ hd ?_;have I1f:=I1.frozT e q1;have hle:es'.size=kvs.length:=by
  rw[<- length_toList,q4,length_map];exact(Paired.length rel).symm
 refine⟨_,[s1.heap.objs.size],_,_,_,rfl,I1f.kept (t':=s1.toks) fun b u q=>Heap.get?_push_of_some _ q,wM q2 q3 hle,Heap.get?_push_size _ rfl,fun b hb=>?_,q od⟩;rw[mem_singleton.mp hb];exact I1f.fpOk (Nat.le_refl _) (I1f.hok.fresh (Nat.le_refl _))
end
theorem for_keysT{d:Addr}{od:Obj}{kvs:List (List Key×V)}{g:TG}{tb:TS}{D:Ends}{σ:St}{H:Hp}(Pv:Nat->St->Hp->Prop)(h0:Pv 0 σ H)(hf:∀ i σ H,Pv i σ H->H d=some (.frz od (.dT kvs)))
  (hs:∀ i kv b σ H,kvs[i]?=some kv->H b=some (.tup (kv.1.map kV))->Pv i σ H->g (.ref b) σ H fun σ2 H2=>tb { D with nx:=Pv (i+1),ct:=Pv (i+1),bk:=D.nx } σ2 H2) (hd:∀ σ H,Pv kvs.length σ H->D.nx σ H) :
  ∃ W:Nat->Nat->St->Hp->Prop,(∃ m,W 0 m σ H)/\∀ i m σ H,W i m σ H ->
   ((ItT d od kvs).stop i H/\D.nx σ H)\/((ItT d od kvs).go i H/\∃ N:St->Hp->Prop,(∀ σ' H',N σ' H'->∃ m',m'<m/\W (i+1) m' σ' H')/\∀ x H',(ItT d od kvs).yld i H x H'->g x σ H' fun σ2 H2=>tb { D with nx:=N,ct:=N,bk:=D.nx } σ2 H2):=by
 refine⟨fun i m σ H=>m=kvs.length-i/\i<=kvs.length/\Pv i σ H,⟨_,rfl,zero_le _,h0⟩,?_⟩;rintro i m σ H ⟨rfl,hi,p⟩;by_cases hlt:i<kvs.length
 ·refine .inr ⟨⟨hf i σ H p,hlt⟩,Pv (i+1),fun σ' H' p'=>⟨_,by omega,rfl,hlt,p'⟩,fun x H' y=>?_⟩
  obtain⟨rfl,kv,b,hk,rfl,hb⟩:=y;exact hs i kv b σ _ hk hb p
 ·have e:i=kvs.length:=by omega
  subst e;exact .inl ⟨⟨hf _ σ H p,Nat.le_refl _⟩,hd σ H p⟩
section
variable {X:Cx}
theorem Zh{H:Hp}{q t:Addr}{i j i' j':Int}(hq:H q=some (.tup [.int i',.int j']))(ht:H t=some (.tup [.int i,.int j])):EqP X H (.ref q) (.ref t) (decide ((i',j')=(i,j))) 1:=by
 by_cases z:q=t
 ·subst z
  rw[hq] at ht;cases ht;rw[decide_eq_true rfl];exact EqP.same
 ·refine EqP.of ?_
  have e:decide ((i',j')=(i,j))=(List.range 2).all (fun k=>if k=0 then i' == i else j' == j):=by
   show decide ((i',j')=(i,j))=((i' == i)&&((j' == j)&&true));by_cases h1:i'=i
   ·by_cases h2:j'=j
    ·subst h1 h2;simp
    ·subst h1;simp[h2]
   ·simp[h1]
  rw[e];refine EqD.tup (xs:=[.int i',.int j']) (ys:=[.int i,.int j]) (e:=fun k=>if k=0 then i' == i else j' == j) (n:=0) z (sP hq) (sP ht) rfl fun k x y e1 e2=>?_
  match k,e1,e2 with
  |0,e1,e2=>cases e1;cases e2;exact EqD.flat (x:=.int i') (y:=.int i) rfl rfl
  |1,e1,e2=>cases e1;cases e2;exact EqD.flat (x:=.int j') (y:=.int j) rfl rfl
  |_+2,e1,e2=>simp at e1
def prO(ps:List (Addr×Int×Int))(v:Value):Int×Int:=match v with
 |.ref t=>((ps.find? fun p=>p.1=t).map (·.2)).getD (0,0)
 |_=>(0,0)
theorem vw{H:Hp}{ps:List (Addr×Int×Int)}(hy:∀ p∈ps,H p.1=some (.tup [.int p.2.1,.int p.2.2])){p:Addr×Int×Int}(hm:p∈ps):prO ps (.ref p.1)=p.2:=by
 obtain⟨t,i,j⟩:=p;have ht:=hy _ hm;show((ps.find? fun p=>p.1=t).map (·.2)).getD (0,0)=(i,j);cases hf:ps.find? fun p=>p.1=t with
 |none =>
  have:=List.find?_eq_none.mp hf (t,i,j) hm;simp at this
 |some p' =>
  have e1:p'.1=t:=by simpa using List.find?_some hf
  have h2:=hy p' (mem_of_find?_eq_some hf);rw[e1] at h2;rw[h2] at ht;injection ht with ht;injection ht with ht;obtain⟨c,i',j'⟩:=p';simp at ht;simp[ht]
theorem wA:∀ {ps:List (Addr×Int×Int)}{us:List Value},Vals (ps.map fun p=>V.ref p.1) us->us=ps.map fun p=>Value.ref p.1
 |[],_,.nil=>rfl
 |p::ps,_,.cons r t=>by rw[wA t];cases r;rfl
def zc2(K:W.Frag)(A:Around)(neg:Bool):R2:=fun x y H Q=>∃ (l t:Addr) (ps:List (Addr×Int×Int)) (i j:Int),x=.ref t/\y=.ref l/\SqL K H l (ps.map fun p=>V.ref p.1)/\(∀ p∈ps,H p.1=some (.tup [.int p.2.1,.int p.2.2]))/\H t=some (.tup [.int i,.int j])/\A.units+5<cLine /\
 Q (.bl (if neg then !decide ((i,j)∈ps.map (·.2)) else decide ((i,j)∈ps.map (·.2)))) H
theorem XZ{H:Hp}{ps:List (Addr×Int×Int)}{i j:Int}(hps:∀ p∈ps,H p.1=some (.tup [.int p.2.1,.int p.2.2])):((ps.map fun p=>Value.ref p.1).toArray.any fun v=>decide (prO ps v=(i,j)))=decide ((i,j)∈ps.map (·.2)):=by
 rw[Bool.eq_iff_iff,decide_eq_true_eq];simp only[List.any_toArray,any_eq_true,decide_eq_true_eq]
 constructor
 ·rintro⟨v,hv,e⟩
  obtain⟨p,hp,rfl⟩:=mem_map.mp hv;rw[vw hps hp] at e;exact mem_map.mpr ⟨p,hp,e⟩
 ·intro hm
  obtain⟨p,hp,e⟩:=mem_map.mp hm;exact⟨_,mem_map.mpr ⟨p,hp,rfl⟩,by rw[vw hps hp];exact e⟩
theorem zaD:OpR X (compareOp .In) (zc2 X.K X.A false):=by
 intro pins s σ H x y v u Q I rx ry h;obtain⟨l,t,ps,i,j,rfl,rfl,hl,hps,ht,hu,q⟩:=h;cases rx;cases ry;obtain⟨its,r,pl,hz⟩:=I.list hl;obtain rfl:=wA r;refine SeqAt.in_listAt (fun v=>decide (prO ps v=(i,j))) pl.isList (fun w hw=>?_) ⟨.bl _,H,I,rfl,?_⟩
 ·obtain⟨p,hp,rfl⟩:=mem_map.mp (mem_toArray.mp hw)
  rw[vw hps hp];exact Zh (X:=X) (hps p hp) ht pins σ s I X.A.in1 _ _ (by rw[yd];omega) rfl rfl
 ·rw[XZ hps]
  exact q
theorem uu:OpR X (compareOp .NotIn) (zc2 X.K X.A true):=by
 intro pins s σ H x y v u Q I rx ry h;obtain⟨l,t,ps,i,j,rfl,rfl,hl,hps,ht,hu,q⟩:=h;cases rx;cases ry;obtain⟨its,r,pl,hz⟩:=I.list hl;obtain rfl:=wA r;refine SeqAt.notIn_listAt (fun v=>decide (prO ps v=(i,j))) pl.isList (fun w hw=>?_) ⟨.bl _,H,I,rfl,?_⟩
 ·obtain⟨p,hp,rfl⟩:=mem_map.mp (mem_toArray.mp hw)
  rw[vw hps hp];exact Zh (X:=X) (hps p hp) ht pins σ s I X.A.in1 _ _ (by rw[yd];omega) rfl rfl
 ·rw[XZ hps]
  exact q
def zax(X:Cx):V->List V->Hp->VK->Prop:=fun x vs H Q=>∃ (l t:Addr) (ps:List (Addr×Int×Int)) (i j:Int),x=.ref l/\vs=[.ref t]/\H l=some (.lst (ps.map fun p=>V.ref p.1))/\(∀ p∈ps,H p.1=some (.tup [.int p.2.1,.int p.2.2]))/\H t=some (.tup [.int i,.int j])/\X.A.units+5<cLine /\
 Q (.int ((ps.map (·.2)).count (i,j):Nat)) H
theorem UM{H:Hp}{ps qs:List (Addr×Int×Int)}{i j:Int}(hps:∀ p∈ps,H p.1=some (.tup [.int p.2.1,.int p.2.2]))(hq:∀ p∈qs,p∈ps):(qs.map fun p=>Value.ref p.1).countP (fun v=>decide (prO ps v=(i,j)))=(qs.map (·.2)).count (i,j):=by
 induction qs with
 |nil=>rfl
 |cons p qs ih =>
  rw[map_cons,map_cons,List.countP_cons,List.count_cons,ih fun p hp=>hq p (mem_cons_of_mem _ hp),vw hps (hq p mem_cons_self)]
  congr 1
  by_cases z:p.2=(i,j)
  ·simp[z]
  ·simp[z]
theorem Wy:MtM X "list.count" (zax X):=by
 intro pins s σ H x vs v us Q I rx rv h;obtain⟨l,t,ps,i,j,rfl,rfl,hH,hps,ht,hu,q⟩:=h;cases rx;obtain⟨u,rfl,ru⟩:=rv.one;cases ru;obtain⟨z,its,n,r,hl,e⟩:=I.lstM hH;obtain rfl:=wA r;refine call_meets F.slot_list_count ⟨_,e,rfl⟩ F.entry_list_count (F.args_list_count_2 _ _) (SeqAt.list_countAt l _ n _ _ (.ref t) (fun v=>decide (prO ps v=(i,j)))) ⟨e,fun y hy=>?_,?_⟩
 ·obtain⟨p,hp,rfl⟩:=mem_map.mp (mem_toArray.mp hy)
  rw[vw hps hp];exact Zh (X:=X) (hps p hp) ht pins σ s I _ _ _ (by simp only[yd];omega) rfl rfl
 ·refine⟨.int _,H,I.tok _,⟨s.toks,rfl⟩,?_⟩
  rw[show((ps.map fun p=>Value.ref p.1).toArray.toList)=(ps.map fun p=>Value.ref p.1) by simp,UM hps fun p hp=>hp];exact q
end
section
variable {prog:Program}{w:World}{KK:Type} [DecidableEq KK]{knd:HeapKind prog w KK}{A:Around}{E:Value->Shared->Prop}{s:Shared}
theorem YO{nm:String}{a b:Addr}{xs ys:List (KK×Addr×Value)}{Q:Bool->Shared->Prop}(hu:knd.room A)(ha:(a == sysModules)=false)(hb:(b == sysModules)=false)
  (da:s.heap.DictOfH knd a xs) (db:s.heap.DictOfH knd b ys) (hl:xs.length=ys.length) (hits:∀ x∈xs,∃ p,(x.1,p)∈ys/\SeqAt.EqAt A s x.2.2 p.2 true) (h:Q true s) :
  wpAny (model prog w) A (Builtin.Dict.samePairs nm a b) Q E s:=by
 obtain⟨oa,es,ep,hoa,_,hda,hea,hia,hna⟩:=da;obtain⟨ob,es',ep',hob,_,hdb,heb,hib,hnb⟩:=db;have hla:=size_of_entries hea;have hlb:=size_of_entries heb;unfold Builtin.Dict.samePairs Builtin.Dict.showsAll;rw[if_neg (show ¬ (a == sysModules)=true by rw[ha];exact Bool.false_ne_true),if_neg (show ¬ (b == sysModules)=true by rw[hb];exact Bool.false_ne_true)];refine wpAny_bind (wpAny_pure (wpAny_bind (wpAny_pure ?_)));refine wpAny_bind (wpAny_dictEntries hoa hda ?_);dsimp only;refine wpAny_bind (wpAny_dictEntries hob hdb ?_);rw[if_neg (by rw[hla,hlb,hl];simp)];refine wpAny_bind (wpAny_dictEpoch hoa hda ?_);refine wpAny_bind ?_;rw[Std.Legacy.Range.forIn_eq_forIn_range'];simp only[Std.Legacy.Range.size,Nat.sub_zero,Nat.add_sub_cancel,Nat.div_one];refine wpAny_forIn_list _ (fun rest q s'=>s'=s/\q=(none,())/\∃ i,rest=List.range' i (es.size-i)/\i<=es.size) _ ?_ ?_ _ _ ⟨rfl,rfl,0,by simp,zero_le _⟩
 ·rintro x rest q s' ⟨rfl,rfl,i,hr,hi⟩
  have hlt:i<es.size:=by
   rcases Nat.lt_or_ge i es.size with h | h
   ·exact h
   ·rw[Nat.sub_eq_zero_of_le h] at hr;simp at hr
  obtain⟨rfl,hrest⟩:x=i/\rest=List.range' (i+1) (es.size-(i+1)):=by
   have e:es.size-i=(es.size-(i+1))+1:=by omega
   rw[e,List.range'_succ] at hr;injection hr with h1 h2;exact⟨h1,h2⟩
  have hlt':x<xs.length:=by rw[<- hla];exact hlt
  have hxx:xs[x]?=some xs[x]:=List.getElem?_eq_getElem hlt';have hxm:xs[x]∈xs:=getElem_mem hlt';refine wpAny_bind (wpAny_dictEntries hoa hda ?_);rw[entry_at hea x,hxx];generalize xs[x]=y at *;obtain⟨k,ad,v⟩:=y;obtain⟨p,hpm,he⟩:=hits _ hxm;have hkey:=hia _ hxm;dsimp only at hpm he hkey;show wpAny _ _ (holding [Value.ref ad,v] _ >>= _) _ _ _;refine wpAny_bind (wpAny_holding (wpAny_bind (wpAny_dictFind_heap hu hkey hob hdb heb hib hnb ?_ ?_)))
  ·intro hno
   obtain⟨j,hj⟩:=List.getElem?_of_mem hpm;exact absurd hj (hno j p)
  ·intro j p' hj
   have ep:p'=p:=by
    have h1:=atKey_of_get hnb hj;obtain⟨j2,hj2⟩:=List.getElem?_of_mem hpm;have h2:=atKey_of_get hnb hj2;rw[h1] at h2;injection h2
   subst ep;refine wpAny_bind (wpAny_dictEntries hob hdb ?_);rw[entry_at heb j,hj];refine wpAny_holding (he prog w _ _ ?_);show wpAny _ _ (if (!true)=true then _ else _) _ _ _;rw[if_neg (by decide)];refine wpAny_bind (wpAny_dictEpoch hoa hda ?_);rw[if_neg (by simp)];exact wpAny_pure ⟨rfl,rfl,x+1,hrest,hlt⟩
 ·rintro q s' ⟨rfl,rfl,i,hr,hi⟩
  exact wpAny_pure h
end
section
variable {X:Cx}
theorem KT.get1{H:Hp}{kvs:List (List Key×V)}{xs:List (List Key×Addr×Value)}(r:KT H kvs xs):∀ {x},x∈xs->∃ p∈kvs,p.1=x.1/\RelV p.2 x.2.2:=by
 induction r with
 |nil=>intro x hx;exact nomatch hx
 | @cons p q ps qs hq t ih =>
  intro x hx;rcases mem_cons.mp hx with z | z
  ·exact⟨p,mem_cons_self,by rw[z];exact hq.1,by rw[z];exact hq.2.2⟩
  ·obtain⟨p',h1,h2⟩:=ih z
   exact⟨p',mem_cons_of_mem _ h1,h2⟩
theorem KT.get2{H:Hp}{kvs:List (List Key×V)}{xs:List (List Key×Addr×Value)}(r:KT H kvs xs):∀ {p},p∈kvs->∃ x∈xs,p.1=x.1/\RelV p.2 x.2.2:=by
 induction r with
 |nil=>intro x hx;exact nomatch hx
 | @cons p q ps qs hq t ih =>
  intro x hx;rcases mem_cons.mp hx with z | z
  ·exact⟨q,mem_cons_self,by rw[z];exact hq.1,by rw[z];exact hq.2.2⟩
  ·obtain⟨p',h1,h2⟩:=ih z
   exact⟨p',mem_cons_of_mem _ h1,h2⟩
end
section
variable {prog:Program}{w:World}{A:Around}{E:Value->Shared->Prop}{s:Shared}
theorem Wl(d:Addr)(hd:(d == sysModules)=false) :
  MeetsIn prog w (Builtin.«dict.items» ⟨[.ref d],[]⟩) (fun _ R s=>s.TypeIs (.ref d) "dict" /\
   R (.ok (.ret (.ref s.heap.objs.size))) { s with heap:=s.heap.push { cls:=.type "dict_items",data:=.fields #[.ref d] } }) :=
 .of_wp fun A R s ⟨hm,h⟩=>by
  unfold Builtin.«dict.items»;refine wpAny_bind ?_;unfold Builtin.Dict.noArgs;refine wpAny_bind (wpAny_notOrdered_dict hm ?_);show wpAny _ _ (pure d) _ _ s;refine wpAny_pure ?_;show wpAny _ _ (Builtin.Dict.showsAll d >>= _) _ _ s;unfold Builtin.Dict.showsAll;rw[if_neg (by rw[hd];exact Bool.false_ne_true)];refine wpAny_bind (wpAny_pure ?_);exact wpAny_bind (wpAny_newObj_type (wpAny_pure ⟨_,rfl,h⟩))
theorem Ub{v d:Addr}{es:Array DictEntry}{ep:Nat}{Q:Value->Shared->Prop}(hv:s.heap.IsItemsView v d)(hm:X6 s.heap d es ep)
  (hQ:Q (.ref s.heap.objs.size) { s with heap:=s.heap.push { cls:=.type "dict_itemiterator",data:=.fields #[.none,.bool false,.ref d,.int 0 0,.int es.size 0,.int ep 0,.none,.none] } }) :
  wpAny (model prog w) A (pyIter (.ref v)) Q E s:=by
 obtain⟨ov,hov,hcv,hdv⟩:=id hv;obtain⟨o,ho,hc,hdat⟩:=id hm;refine wpAny_pyIter_slot hv.typeIs F.slot_dict_items_iter (wpAny_call_entry F.slot_dict_items_iter hv.typeIs F.entry_dict_items_iter ?_ (F.args_dict_items_iter_1 _));unfold Builtin.«dict_items.__iter__»;refine wpAny_bind (wpAny_pure ?_);refine wpAny_bind ?_;unfold Builtin.Dict_items.dictOf;refine wpAny_bind (wpAny_field hov hdv (x:=.ref d) rfl (wpAny_pure ?_));refine wpAny_bind ?_;unfold Builtin.Dict_items.newIterator;refine wpAny_bind (wpAny_dictEntries ho hdat ?_);refine wpAny_bind (wpAny_dictEpoch ho hdat ?_);have hown:Builtin.Dict_items.ownsTuple "dict_itemiterator" = true:=by decide
 simp only[hown,if_true];refine wpAny_newObj_type (wpAny_pure ⟨_,rfl, "dict_itemiterator",_,⟨_,Heap.get?_push_size _ rfl,rfl⟩,F.slot_dict_itemiterator_next.lookup,?_⟩)
  (by simp only[sizeOk,Builtin.Dict_items.ownedTupleFields,size_toArray,length_append,length_cons,length_nil,sizeLine_eq];omega)
 simpa[rawInt,Builtin.Dict_items.ownedTupleFields] using hQ
theorem Ua{it d:Addr}{i ep:Nat}{es:Array DictEntry}{e:DictEntry}{ok ov:Value}{Q:Option Value->Shared->Prop}(hit:IsItemIter s.heap it d i es.size ep ok ov)
  (hm:X6 s.heap d es ep) (hx:es[i]?=some e)
  (hQ:∀ h',IsItemIterOut h' it d (i+1) es.size ep e.key e.val s.heap.objs.size ->
   h'.get? s.heap.objs.size=some { cls:=.type "tuple",data:=.seq #[e.key,e.val] }->h'.objs.size=s.heap.objs.size+1 ->
   (∀ b o,b≠it->s.heap.get? b=some o->h'.get? b=some o)->Q (some (.ref s.heap.objs.size)) { s with heap:=h' }) :
  wpAny (model prog w) A (pyNext (.ref it)) Q E s:=by
 obtain⟨hp,g,dr,tk,os⟩:=s;obtain⟨od,hod,hcd,hdd⟩:=id hm;have hT:Shared.TypeIs ⟨hp,g,dr,tk,os⟩ (.ref it) "dict_itemiterator" := ⟨_,hit,rfl⟩;unfold pyNext;refine wpAny_bind (wpAny_attempt (wpAny_callSpecial?_slot (name:=Str.ofString "__next__") hT F.slot_dict_itemiterator_next
  (wpAny_call_entry F.slot_dict_itemiterator_next hT F.entry_dict_itemiterator_next ?_ (F.args_dict_itemiterator_next_1 _))))
 refine wpAny_bind (wpAny_pure ?_);refine wpAny_bind ?_;refine wpAny_bind ?_
 first | refine wpAny_bind (wpAny_typeNameOfWhole_itemiter hT (wpAny_pure ?_)) | refine wpAny_bind (wpAny_typeNameOf_itemiter hT (wpAny_pure ?_))
 refine wpAny_bind (wpAny_fieldsOf hit rfl ?_);have hown:Builtin.Dict_items.ownsTuple "dict_itemiterator" = true:=by decide
 simp only[hown,if_true];show wpAny _ _ (if (Value.ref d == Value.none)=true then _ else _) _ _ _;rw[if_neg (show ¬ ((Value.ref d == Value.none)=true) from Bool.false_ne_true)];refine wpAny_bind (wpAny_pure ?_);refine wpAny_bind (wpAny_dictEntries hod hdd ?_);rw[if_neg (by simp)];refine wpAny_bind (wpAny_pure ?_);refine wpAny_bind (wpAny_dictEpoch hod hdd ?_);rw[if_neg (by simp)];refine wpAny_pure ?_;simp only[show ¬ ((i:Int)<0) from by omega,if_false,Int.toNat_natCast,hx];refine wpAny_bind ?_
 first | refine wpAny_bind (wpAny_typeNameOfWhole_itemiter hT (wpAny_pure ?_)) | refine wpAny_bind (wpAny_typeNameOf_itemiter hT (wpAny_pure ?_))
 refine wpAny_bind (wpAny_isOneOf_itemiter hT ?_);show wpAny _ _ (setField (.ref it) 3 (rawInt ((i:Int)+1)) >>= _) _ _ ⟨hp,g,dr,tk,os⟩;refine wpAny_bind (wpAny_setField_rec hit (by simp) fun h₁ he₁ hs₁=>?_)
 replace hs₁:Heap.SameBut it hp h₁:=hs₁
 replace he₁:IsItemIter h₁ it d (i+1) es.size ep ok ov:=by
  have e:((i+1:Nat):Int)=(i:Int)+1:=by omega
  unfold IsItemIter;rw[e];simpa[rawInt] using he₁
 have hT₁:Shared.TypeIs ⟨h₁,g,dr,tk,os⟩ (.ref it) "dict_itemiterator" := ⟨_,he₁,rfl⟩;refine wpAny_bind (wpAny_holding ?_);refine wpAny_bind (wpAny_isOneOf_itemiter hT₁ ?_);refine wpAny_bind (wpAny_isOneOf_itemiter hT₁ ?_);show wpAny _ _ (Builtin.Dict_items.pairFromOwner (.ref it) 6 e.key e.val) _ _ ⟨h₁,g,dr,tk,os⟩;unfold Builtin.Dict_items.pairFromOwner;refine wpAny_bind (wpAny_newTuple ?_);have he₂:IsItemIter (h₁.push { cls:=.type "tuple",data:=.seq #[e.key,e.val] }) it d (i+1) es.size ep ok ov:=Heap.get?_push_of_some _ he₁;generalize hh₂:h₁.push { cls:=.type "tuple",data:=.seq #[e.key,e.val] }=h₂ at he₂;have hz₁:h₁.objs.size=hp.objs.size:=hs₁.1;have hil:it<hp.objs.size:=Heap.lt_size hit;have ht₂:h₂.get? hp.objs.size=some { cls:=.type "tuple",data:=.seq #[e.key,e.val] }:=by rw[<- hh₂,<- hz₁];exact Heap.get?_push_size _ rfl
 have hz₂:h₂.objs.size=hp.objs.size+1:=by rw[<- hh₂,Heap.size_push,hz₁]
 have hk₂:∀ b o,b≠it->hp.get? b=some o->h₂.get? b=some o:=fun b o hb e=>by rw[<- hh₂];exact Heap.get?_push_of_some _ (hs₁.extBut b o hb e)
 show wpAny _ _ (Builtin.Dict_items.ownedTupleIsFree (.ref it) >>= _) _ _ ⟨h₂,g,dr,tk,os⟩;rw[hz₁];clear hh₂ he₁ hs₁ hT₁ hz₁ h₁;refine wpAny_bind ?_;unfold Builtin.Dict_items.ownedTupleIsFree;refine wpAny_bind (wpAny_field he₂ rfl (x:=.none) rfl (wpAny_pure ?_));simp only[if_true];refine wpAny_bind (wpAny_field he₂ rfl (x:=ok) rfl ?_);refine wpAny_bind (wpAny_field he₂ rfl (x:=ov) rfl ?_);refine wpAny_bind (wpAny_setField_rec he₂ (by simp) fun h₃ he₃ hs₃=>?_)
 replace hs₃:Heap.SameBut it h₂ h₃:=hs₃
 replace he₃:IsItemIter h₃ it d (i+1) es.size ep e.key ov:=he₃
 refine wpAny_bind (wpAny_setField_rec he₃ (by simp) fun h₄ he₄ hs₄=>?_)
 replace hs₄:Heap.SameBut it h₃ h₄:=hs₄
 replace he₄:IsItemIter h₄ it d (i+1) es.size ep e.key e.val:=he₄
 refine wpAny_bind (wpAny_setField_rec he₄ (by simp) fun h₅ he₅ hs₅=>?_)
 replace hs₅:Heap.SameBut it h₄ h₅:=hs₅
 replace he₅:IsItemIterOut h₅ it d (i+1) es.size ep e.key e.val hp.objs.size:=he₅
 refine wpAny_bind (wpAny_setField_rec he₅ (by simp) fun h₆ he₆ hs₆=>?_)
 replace hs₆:Heap.SameBut it h₅ h₆:=hs₆
 replace he₆:IsItemIterOut h₆ it d (i+1) es.size ep e.key e.val hp.objs.size:=he₆
 refine wpAny_bind (wpAny_letGo (wpAny_pure (wpAny_pure ⟨_,rfl,wpAny_pure (hQ h₆ he₆ ?_ ?_ ?_)⟩)))
 ·exact hs₆.extBut _ _ (ne_of_gt hil) (hs₅.extBut _ _ (ne_of_gt hil) (hs₄.extBut _ _ (ne_of_gt hil) (hs₃.extBut _ _ (ne_of_gt hil) ht₂)))
 ·show h₆.objs.size=hp.objs.size+1
  rw[hs₆.1,hs₅.1,hs₄.1,hs₃.1,hz₂]
 ·exact fun b o hb e=>hs₆.extBut b o hb (hs₅.extBut b o hb (hs₄.extBut b o hb (hs₃.extBut b o hb (hk₂ b o hb e))))
theorem zao{it d:Addr}{i ep:Nat}{es:Array DictEntry}{ok ov:Value}{Q:Option Value->Shared->Prop}(hh:A.handled=none)(hit:IsItemIter s.heap it d i es.size ep ok ov)
  (hm:X6 s.heap d es ep) (hge:es.size<=i)
  (hQ:∀ h',Heap.ExtBut it s.heap h'->Q none { s with heap:=h' }):wpAny (model prog w) A (pyNext (.ref it)) Q E s:=by
 obtain⟨od,hod,hcd,hdd⟩:=id hm;have hT:s.TypeIs (.ref it) "dict_itemiterator" := ⟨_,hit,rfl⟩;unfold pyNext;refine wpAny_bind (wpAny_attempt (wpAny_callSpecial?_slot (name:=Str.ofString "__next__") hT F.slot_dict_itemiterator_next
  (wpAny_call_entry F.slot_dict_itemiterator_next hT F.entry_dict_itemiterator_next ?_ (F.args_dict_itemiterator_next_1 _))))
 refine wpAny_bind (wpAny_pure ?_);refine wpAny_bind ?_;refine wpAny_bind ?_
 first | refine wpAny_bind (wpAny_typeNameOfWhole_itemiter hT (wpAny_pure ?_)) | refine wpAny_bind (wpAny_typeNameOf_itemiter hT (wpAny_pure ?_))
 refine wpAny_bind (wpAny_fieldsOf hit rfl ?_);have hown:Builtin.Dict_items.ownsTuple "dict_itemiterator" = true:=by decide
 simp only[hown,if_true];show wpAny _ _ (if (Value.ref d == Value.none)=true then _ else _) _ _ s;rw[if_neg (show ¬ ((Value.ref d == Value.none)=true) from Bool.false_ne_true)];refine wpAny_bind (wpAny_pure ?_);refine wpAny_bind (wpAny_dictEntries hod hdd ?_);rw[if_neg (by simp)];refine wpAny_bind (wpAny_pure ?_);refine wpAny_bind (wpAny_dictEpoch hod hdd ?_);rw[if_neg (by simp)];refine wpAny_pure ?_;simp only[show ¬ ((i:Int)<0) from by omega,if_false,Int.toNat_natCast,Array.getElem?_eq_none hge];refine wpAny_bind ?_
 first | refine wpAny_bind (wpAny_typeNameOfWhole_itemiter hT (wpAny_pure ?_)) | refine wpAny_bind (wpAny_typeNameOf_itemiter hT (wpAny_pure ?_))
 show wpAny _ _ (setField (.ref it) 2 .none >>= _) _ _ s;refine wpAny_bind (wpAny_setField hit rfl (by simp) ?_);show wpAny _ _ (newExc (.type "StopIteration") [] >>= _) _ _ _;refine wpAny_bind ?_;simp only[newExc,newTuple];refine wpAny_bind (wpAny_newObj_type ?_ (by size_fits));refine wpAny_bind (m:=firstArgMember _ _) (wpAny_of_eq (a:=Value.none) (by first | rfl | (simp only[firstArgMember];rfl)) ?_);refine wpAny_newObj_type ?_ (by size_fits);simp only[raiseNew];refine wpAny_bind (wpAny_handled ?_);rw[show A.in1.handled=none from hh];refine wpAny_bind (wpAny_pure (wpAny_throw ?_));refine wpAny_bind (wpAny_isInstance (T := "StopIteration") (b:=true) ⟨_,Heap.get?_push_size _ rfl,rfl⟩ isSubtype_stop ?_);exact wpAny_pure (hQ _ (((Heap.SameBut.update ..).extBut.push _).push _))
end
def ThT(G:Hp)(Q:Hp->Prop)(H:Hp):Prop:=Q H\/∃ (d:Addr) (od:Obj) (kvs:List (List Key×V)),(∀ o u,G d≠some (.frz o u))/\H d=some (.frz od (.dT kvs))/\Q (upd H d (.dT kvs))
def zde(G:Hp)(t:TS):TS:=fun D σ H=>t ⟨fun σ=>ThT G (D.nx σ),fun v=>ThT G (D.rt v),fun σ=>ThT G (D.bk σ),fun σ=>ThT G (D.ct σ)⟩ σ H
section
variable {X:Cx}{pins:List (Addr×Obj)}{σ:St}{H G:Hp}{s:Shared}{d:Addr}{od:Obj}{kvs:List (List Key×V)}
theorem Inv.thawT(I:Inv X pins σ G s)(S:∀ o u,X.H₀ d≠some (.frz o u))(g:G d=some (.frz od (.dT kvs))):Inv X pins σ (upd G d (.dT kvs)) s:=by
 have ne:∀ {b:Addr}{o:HO},G b=some o->(∀ ob u,o≠.frz ob u)->upd G d (.dT kvs) b=some o:=fun {b o} q n=>by
  rw[upd_ne (fun z=>by rw[z,g] at q;injection q with q;exact n _ _ q.symm)];exact q
 have no:∀ {b:Addr},G b=none->upd G d (.dT kvs) b=none:=fun {b} q=>by
  rw[upd_ne (fun z=>by rw[z,g] at q;cases q)];exact q
 refine⟨I.ok,I.os,I.bare,⟨I.base.keep,I.base.slot,fun b o q n x=>no (I.base.free b o q n x),I.base.there,fun b xs q=>ne (I.base.tups b xs q) (fun _ _ z=>by cases z),fun b o u q=>?_,fun b ps q=>?_⟩,I.loc,I.cell,no I.free,fun x c q=>no (I.freeC x c q),fun p hp=>?_,fun b o q=>?_,I.len⟩
 ·rw[upd_ne (fun(z:b=d)=>S o u (by rw[<- z];exact q))]
  exact I.base.frzs b o u q
 ·obtain⟨m,q⟩:=I.base.tbls b ps q
  exact⟨m,ne q (fun _ _ z=>by cases z)⟩
 ·obtain⟨p1,p2,p3⟩:=I.pin p hp
  exact⟨p1,no p2,p3⟩
 ·have st:∀ {b:Addr}{o:HO},ObjOk X.prog X.w G s.heap b o->ObjOk X.prog X.w (upd G d (.dT kvs)) s.heap b o:=fun {b o} q=>q.stay (fun c u _ q=>q) (fun c q=>ne q (fun _ _ z=>by cases z)) fun c xs q=>ne q (fun _ _ z=>by cases z)
  by_cases c:b=d
  ·subst c
   rw[za] at q;cases q;exact st (I.hok b _ g).2
  ·rw[upd_ne c] at q
   exact st (I.hok b o q)
theorem ThT.inv{Q:Hp->Prop}(I:Inv X pins σ H s)(h:ThT X.H₀ Q H):∃ H',Inv X pins σ H' s/\Q H':=by
 rcases h with h | ⟨d,od,kvs,S,g,h⟩
 ·exact⟨_,I,h⟩
 ·exact⟨_,I.thawT S g,h⟩
theorem Z0{st:Stmt}{t:TS}(h:Bx (PS X st t)):Bx (PS X st (zde X.H₀ t)):=by
 have h:=h.of;refine⟨?_⟩;intro pins s σ H D I q;refine thn (h pins s σ H _ I q) fun f s' q'=>?_;cases f with
 |next=>obtain⟨σ',H',I',q'⟩:=q';obtain⟨H2,I2,q2⟩:=ThT.inv I' q';exact⟨_,_,I2,q2⟩
 |cont=>obtain⟨σ',H',I',q'⟩:=q';obtain⟨H2,I2,q2⟩:=ThT.inv I' q';exact⟨_,_,I2,q2⟩
 |brk=>obtain⟨σ',H',I',q'⟩:=q';obtain⟨H2,I2,q2⟩:=ThT.inv I' q';exact⟨_,_,I2,q2⟩
 |ret v=>obtain⟨x,σ',H',I',r,q'⟩:=q';obtain⟨H2,I2,q2⟩:=ThT.inv I' q';exact⟨_,_,_,I2,r,q2⟩
theorem WQ(I:Inv X pins σ H s)(e:H d=some (.dT kvs)):∀ o u,X.H₀ d≠some (.frz o u):=fun o u z=>by
 have:=I.base.frzs d o u z;rw[e] at this;cases this
def iKT(G:Hp)(td:TE):TI:=fun σ H R=>td σ H fun x H1=>∃ (d:Addr) (kvs:List (List Key×V)),x=.ref d/\H1 d=some (.dT kvs)/\∀ od:Obj,(∀ o u,G d≠some (.frz o u))->R (ItT d od kvs) (upd H1 d (.frz od (.dT kvs)))
theorem uW{tg l:Expr}{td:TE}(hl:Bx (PE X l td)):Bx (PI X tg l (iKT X.H₀ td)):=by
 have hl:=hl.of;refine⟨?_⟩;intro pins s σ H R I h;refine thn (hl pins s σ H _ I h) fun v s1 hq0=>?_;obtain⟨x,H1,I1,rx,d,kvs,ex,e,q⟩:=hq0;subst ex;obtain rfl:v=Value.ref d:=rx;obtain⟨z,hd,xs,rel,dd⟩:=XM I1.hok e;obtain⟨od,es',ep,q1,q2,q3,q4,q5,q6⟩:=dd;refine uY ⟨od,q1,q2,q3⟩ hd ?_;have I1f:=I1.frozT e q1;have hle:es'.size=kvs.length:=by
  rw[<- length_toList,q4,length_map];exact(Paired.length rel).symm
 refine⟨_,[s1.heap.objs.size],_,_,_,rfl,I1f.kept (t':=s1.toks) fun b u q=>Heap.get?_push_of_some _ q,wM q2 q3 hle,Heap.get?_push_size _ rfl,fun b hb=>?_,q od (WQ I1 e)⟩;rw[mem_singleton.mp hb];exact I1f.fpOk (Nat.le_refl _) (I1f.hok.fresh (Nat.le_refl _))
end
theorem Yj:typeLookup (.type "list_reverseiterator") "__len__" = pure none:=by rw[typeLookup_type,builtinLookup_eq_fast];kernel_rfl
theorem WC:typeLookup (.type "list_reverseiterator") "__length_hint__" = pure (some (.builtin "list_reverseiterator.__length_hint__")):=by rw[typeLookup_type,builtinLookup_eq_fast];kernel_rfl
section
variable {prog:Program}{w:World}{A:Around}{E:Value->Shared->Prop}{s:Shared}
theorem V7{it l:Addr}{i:Int}{Q:Bool->Shared->Prop}(hit:s.heap.IsRevIter it l i)(q:Q false s):wpAny (model prog w) A (Builtin.List.listLengthHint (.ref it)) Q E s:=by
 unfold Builtin.List.listLengthHint;refine wpAny_bind (wpAny_specialOf hit.typeIs Yj ?_);show wpAny _ _ (specialOf (Value.ref it) (Str.ofString "__length_hint__") >>= _) _ _ _;refine wpAny_bind (wpAny_specialOf hit.typeIs WC ?_);generalize hid:("list_reverseiterator.__length_hint__" : String)=id0
 wp_delta
 rw[show splitId id0=some ("list_reverseiterator", "__length_hint__") from by subst hid;decide +kernel];subst hid;refine wpAny_bind (wpAny_isInstance (T := "list_reverseiterator") (b:=true) hit.typeIs (by rw[isSubtype_type];kernel_rfl) ?_);refine wpAny_ite_split (fun hab=>absurd hab (by decide)) (fun _=>?_);refine wpAny_ite_split (fun _=>?_) (fun hab=>absurd (by decide +kernel) hab);refine wpAny_ite_split (fun hab=>absurd hab (by decide +kernel)) (fun _=>?_);exact wpAny_pure q
theorem V6{it l:Addr}{items:Array Value}{Q:Value->Shared->Prop}(hh:A.handled=none)(hne:l≠it)(hit:s.heap.IsRevIter it l ((items.size:Int)-1))(hl:s.heap.IsList l items)(hn:items.size<=sizeLine)
  (hQ:∀ h' tk acc' c',(∀ b o,b≠it->s.heap.get? b=some o->h'.get? b=some o)->h'.get? s.heap.objs.size=some { cls:=.type "list",dict:=none,data:=.seq acc' c',slots:=#[] }->ItemsOf (fun i v=>items[items.size-1-i]?=some v) acc' items.size->Q (.ref s.heap.objs.size) { s with heap:=h',toks:=tk }) :
  wpAny (model prog w) A (call (.type "list") [.ref it]) Q E s:=by
 refine callType_codes (Q₁:=fun obj s₁=>obj=.ref s.heap.objs.size/\s₁={ s with heap:=s.heap.push { cls:=.type "list",data:=.seq #[] } }) PySem.F.called_list (PySem.F.typeCall_list_1 _) PySem.F.entry_list_init
  (code_list_new _ ⟨rfl,rfl⟩) fun obj s₁ h₁=>?_
 obtain⟨rfl,rfl⟩:=h₁;have hS:(s.heap.push { cls:=.type "list",data:=.seq #[] }).get? s.heap.objs.size=some { cls:=.type "list",data:=.seq #[] }:=Heap.get?_push_size _ rfl;have li:it<s.heap.objs.size:=by obtain⟨o,e,_⟩:=hit;exact Heap.lt_size e
 have ll:l<s.heap.objs.size:=by obtain⟨o,e,_⟩:=hl;exact Heap.lt_size e
 have hSI:s.heap.objs.size≠it:=ne_of_gt li;have hSf:s.heap.objs.size∉[it,l]:=by
  simp only[mem_cons,List.not_mem_nil,or_false,not_or];exact⟨hSI,ne_of_gt ll⟩
 refine⟨⟨_,hS,rfl⟩,PySem.F.args_list_init_2 _ _,?_⟩;show wpAny _ _ (do let old <- Builtin.List.listItems (.ref s.heap.objs.size);Builtin.List.listUpdate (.ref s.heap.objs.size) (fun _=>#[]);letGo old.toList.reverse;Builtin.List.listExtendWith (.ref s.heap.objs.size) (.ref it) .none) _ _ _;refine wpAny_bind ?_;unfold Builtin.List.listItems;refine wpAny_bind (wpAny_seqItems hS rfl (wpAny_pure ?_));show wpAny _ _ (updateSeq s.heap.objs.size (fun _=>#[]) >>= fun _=>letGo (#[]:Array Value).toList.reverse >>= fun _=>Builtin.List.listExtendWith (.ref s.heap.objs.size) (.ref it) .none) _ _ _;refine wpAny_bind (wpAny_updateSeq hS rfl ?_);have hS₂:=Heap.get?_update_self (Obj.mapSeq (fun _=>(#[]:Array Value))) hS rfl;have oth:∀ b o,s.heap.get? b=some o->((s.heap.push { cls:=.type "list",data:=.seq #[] }).update s.heap.objs.size (Obj.mapSeq (fun _=>(#[]:Array Value)))).get? b=some o :=
  fun b o e=>(Heap.get?_update_other _ _ (ne_of_gt (Heap.lt_size e))).trans (Heap.get?_push_of_some _ e)
 refine wpAny_bind (wpAny_letGo ?_);generalize hh2:(s.heap.push { cls:=.type "list",data:=.seq #[] }).update s.heap.objs.size (Obj.mapSeq (fun _=>(#[]:Array Value)))=h2 at *;have hit2:h2.IsRevIter it l ((items.size:Int)-1):=hit.at fun o e=>oth _ o e;have hl2:h2.IsList l items:=hl.at fun o e=>oth _ o e;unfold Builtin.List.listExtendWith;refine wpAny_bind (wpAny_typeOf (T := "list_reverseiterator") (s:={ s with heap:=h2 }) hit2.typeIs ?_);have h1:Builtin.List.listSameRef (.ref s.heap.objs.size) (.ref it)=false:=by simp[Builtin.List.listSameRef,hSI]
 have h3:(Value.type "list_reverseiterator" == Value.type "list")=false:=by decide
 have h4:(Value.type "list_reverseiterator" == Value.type "tuple")=false:=by decide
 simp only[h1,h3,h4,Bool.or_false,false_eq_true,if_false];refine wpAny_bind (wpAny_pyIter_revIter (s:={ s with heap:=h2 }) hit2 ?_);refine wpAny_bind (wpAny_holding (V7 (s:={ s with heap:=h2 }) hit2 ?_));refine wpAny_ite_split (fun hab=>absurd hab (by decide +kernel)) (fun _=>?_);have W:=(Walks.listRev (prog:=prog) (w:=w) (A:=A.in1.in1) hh it l hne items).toS;have hst:0<=items.size/\h2.IsRevIter it l ((items.size:Int)-1-((0:Nat):Int))/\h2.IsList l items:=⟨zero_le _,by simpa using hit2,hl2⟩;refine wpAny_pure ⟨plainId_quiet F.plain_extend_loop _,codeAny_extend_loopS W hn _ hSf _ items.size 0 _ _ _ rfl (zero_le _) hst hS₂ (ItemsOf.nil _) fun s' acc' c' hm hS' hacc=>?_⟩;refine⟨rfl,?_⟩;rw[Moved.eq_with hm];refine hQ s'.heap s'.toks acc' c' (fun b o hb e=>hm.heap b o (fun hmem=>?_) (oth b o e)) hS' hacc;rcases mem_cons.mp hmem with e' | hmem
 ·exact absurd (Heap.lt_size e) (by rw[e'];exact lt_irrefl _)
 ·exact hb (mem_singleton.mp hmem)
end
section
variable {X:Cx}
def zbF(K:W.Frag)(ta:TA):TE:=fun σ H Q=>ta σ H fun vs H1=>∃ (a:Addr) (xs:List V),vs=[.ref a]/\SqL K H1 a xs/\∀ l,H1 l=none->Q (.ref l) (upd H1 l (.lst xs.reverse))
theorem zaq{its:List Value}{acc:Array Value}(h:ItemsOf (fun i v=>its.toArray[its.toArray.size-1-i]?=some v) acc its.toArray.size):acc.toList=its.reverse:=by
 refine List.ext_getElem? fun j=>?_;by_cases c:j<its.length
 ·have hj:j<acc.size:=by rw[h.1];simpa using c
  have e:acc.toList[j]?=some acc[j]:=by simp[hj]
  have h2:=h.2 j acc[j] (by simp[hj]);rw[e,List.getElem?_reverse c];simp only[size_toArray,List.getElem?_toArray] at h2;exact h2.symm
 ·rw[List.getElem?_eq_none (by rw[length_toList,h.1];simp;omega),List.getElem?_eq_none (by simp;omega)]
theorem v9{e:Expr}{ta:TA}{p p2 pos cpos:Pos}(hc:X.calm=true)(hgl:Gl X "list")(hm:X.mg "list" = none)(hg:Gl X "reversed")(hm2:X.mg "reversed" = none)(ha:Bx (PA X [e] ta))(hs2:starEach [e] X.env=[(false,eval e X.env)]:=by rfl)(hs:starEach [.Call (.Name "reversed" p2) [e] [] cpos] X.env=[(false,eval (.Call (.Name "reversed" p2) [e] [] cpos) X.env)]:=by rfl):Bx (PE X (.Call (.Name "list" p) [.Call (.Name "reversed" p2) [e] [] cpos] [] pos) (zbF X.K ta)):=by
 have ha:=ha.of;refine⟨?_⟩;intro pins s σ H Q I h;refine wpAny_Call_Name_kw (ld_blt I hgl hm bt_list ?_ (by decide) (by decide));refine PyProof.Rows.callWith_type1 ?_ hs rfl;rw[hs];show wpAny _ _ (spliced ((false,eval (.Call (.Name "reversed" p2) [e] [] cpos) X.env)::backTo pos [])) _ _ s;refine Calls.spliced_cons (Call_ (ld_blt I hg hm2 v7 (PyProof.Rows.callWith_type1 (thn (ha cpos pins s σ H _ I h) fun us s1 hq0=>?_) hs2 rfl)));obtain⟨vs,H1,I1,r1,q1⟩:=hq0;obtain⟨b,xs,ex,hq,q⟩:=q1;subst ex;obtain⟨u,rfl,ru⟩:=r1.one;cases ru;obtain⟨its,rv,pl,hz⟩:=I1.list hq;have hl:=rv.length;refine call_reversed_list pl.isList ?_;refine Calls.spliced_nil ?_;have lb:b<s1.heap.objs.size:=by obtain⟨o,e,_⟩:=pl.isList;exact Heap.lt_size e
 have hle:s1.heap.objs.size<=(s1.heap.push (revObj b ((its.toArray.size:Int)-1))).objs.size:=by rw[Heap.size_push];exact le_succ _
 refine V6 (s:={ s1 with heap:=s1.heap.push (revObj b ((its.toArray.size:Int)-1)) }) (it:=s1.heap.objs.size) (l:=b) (items:=its.toArray) (I1.ok.hd hc) (ne_of_lt lb) ⟨_,Heap.get?_push_size _ rfl,rfl,rfl⟩ (pl.isList.push _) (by rw[size_toArray,<- hl];exact hz) fun h' tk acc c' kp ea hit=>?_;refine⟨.ref _,_,I1.laid (t':=tk) (h':=h') (fun b o e=>kp b o (ne_of_lt (Heap.lt_size e)) (Heap.get?_push_of_some _ e)) hle (show ObjOk X.prog X.w _ h' _ (.lst xs.reverse) from⟨by rw[List.length_reverse];exact hz,acc.toList,c',?_,ea⟩),rfl,q _ (I1.hok.fresh hle)⟩;rw[zaq hit];exact rv.reverse
theorem wz{tg e:Expr}{i1 i2:TI}(h1:Bx (PI X tg e i1))(h2:Bx (PI X tg e i2)):Bx (PI X tg e (fun σ H R=>i1 σ H R\/i2 σ H R)):=by
 have h1:=h1.of;have h2:=h2.of;refine⟨?_⟩;intro pins s σ H R I h;rcases h with h | h
 ·exact h1 pins s σ H R I h
 ·exact h2 pins s σ H R I h
def lsO(ps:List (Addr×LI))(v:Value):LI:=match v with
 |.ref t=>((ps.find? fun p=>p.1=t).map (·.2)).getD []
 |_=>[]
theorem Xn{H:Hp}{ps:List (Addr×LI)}(hy:∀ p∈ps,H p.1=some (.lst (p.2.map V.int))){p:Addr×LI}(hm:p∈ps):lsO ps (.ref p.1)=p.2:=by
 obtain⟨t,ns⟩:=p;have ht:=hy _ hm;show((ps.find? fun p=>p.1=t).map (·.2)).getD []=ns;cases hf:ps.find? fun p=>p.1=t with
 |none =>
  have:=List.find?_eq_none.mp hf (t,ns) hm;simp at this
 |some p' =>
  have e1:p'.1=t:=by simpa using List.find?_some hf
  have h2:=hy p' (mem_of_find?_eq_some hf);rw[e1,ht] at h2;injection h2 with h2;injection h2 with h2;have inj:∀ {as bs:LI},as.map V.int=bs.map V.int->as=bs:=by
   intro as
   induction as with
   |nil=>intro bs h;cases bs with
    |nil=>rfl
    |cons b bs=>simp at h
   |cons a as ih=>intro bs h;cases bs with
    |nil=>simp at h
    |cons b bs =>
     rw[map_cons,map_cons] at h;injection h with h1 h2;injection h1 with h1;rw[h1,ih h2]
  exact(inj h2).symm
theorem ZD{β:Type}:∀ {ps:List (Addr×β)}{us:List Value},Vals (ps.map fun p=>V.ref p.1) us->us=ps.map fun p=>Value.ref p.1
 |[],_,.nil=>rfl
 |p::ps,_,.cons r t=>by rw[ZD t];cases r;rfl
def zdo(K:W.Frag)(A:Around)(neg:Bool):R2:=fun x y H Q=>∃ (l t:Addr) (ps:List (Addr×LI)) (ns:LI),x=.ref t/\y=.ref l/\SqL K H l (ps.map fun p=>V.ref p.1)/\(∀ p∈ps,H p.1=some (.lst (p.2.map V.int)))/\H t=some (.lst (ns.map V.int))/\A.units+70<cLine /\
 Q (.bl (if neg then !decide (ns∈ps.map (·.2)) else decide (ns∈ps.map (·.2)))) H
theorem Y9:OpR X (compareOp .NotIn) (zdo X.K X.A true):=by
 intro pins s σ H x y v u Q I rx ry h;obtain⟨l,t,ps,ns,rfl,rfl,hl,hps,ht,hu,q⟩:=h;cases rx;cases ry;obtain⟨its,r,pl,hz⟩:=I.list hl;obtain rfl:=ZD r;obtain⟨it2,r2,pl2,_⟩:=I.list (sO ht);refine SeqAt.notIn_listAt (fun v=>decide (lsO ps v=ns)) pl.isList (fun w hw=>?_) ⟨.bl _,H,I,rfl,?_⟩
 ·obtain⟨p,hp,rfl⟩:=mem_map.mp (mem_toArray.mp hw)
  rw[Xn hps hp];obtain⟨it3,r3,pl3,_⟩:=I.list (sO (hps p hp));exact PySem.W.keq_ints pl3.isList (vY r3) pl2.isList (vY r2) (by rw[yd];omega)
 ·have e:((ps.map fun p=>Value.ref p.1).toArray.any fun v=>decide (lsO ps v=ns))=decide (ns∈ps.map (·.2)):=by
   rw[Bool.eq_iff_iff,decide_eq_true_eq];simp only[List.any_toArray,any_eq_true,decide_eq_true_eq]
   constructor
   ·rintro⟨v,hv,e⟩
    obtain⟨p,hp,rfl⟩:=mem_map.mp hv;rw[Xn hps hp] at e;exact mem_map.mpr ⟨p,hp,e⟩
   ·intro hm
    obtain⟨p,hp,e⟩:=mem_map.mp hm;exact⟨_,mem_map.mpr ⟨p,hp,rfl⟩,by rw[Xn hps hp];exact e⟩
  rw[e];exact q
end
end L2
namespace L2
open PySem PySem.W PyProof.Rows
structure Fe where
 a:Addr
 n:Str
 q:Str
 s:Stmt
 ps:List Str
 N:List Str
 c:Addr
structure Ce where
 a:Addr
 n:Str
 i:Addr
 fs:List Str
structure Tab where
 f:List Fe
 c:List Ce
 b:List Str
 k:List (Value×Value×Bool)
 m:List (Str×Value)
 t:List (Addr×List Str)
 x:List Addr
 y:List Addr
 u:List (Addr×Addr×Bool)
def dK(K:Frag)(f:Addr):FuncData:=match K.lookup f with
 |some ⟨_,_,.func d,_⟩=>d
 |_=>default
def fnX(e:Fe)(g:FuncData):FuncData:=fnOf e.n e.q (defArgs e.s) (defBody e.s) (defScope e.s) .none g.kwdefaults g.doc g.pyModule g.annotations g.code g.closureTuple
def fnB(K:Frag)(e:Fe):Option Obj:=match K.lookup e.a with
 |some ⟨c,d,.func g,sl⟩=>some ⟨c,d,.func (fnX e g),sl⟩
 |_=>none
def scB(e:Fe):Bool:=decide ((defScope e.s).kind=.function)&&!(defScope e.s).isCoroutine&&!(defScope e.s).isGenerator&&decide e.N.Nodup&&decide (e.N.take e.ps.length=e.ps) &&
 e.ps.all (fun x=>decide ((defScope e.s).names.lookup x=some .local\/(defScope e.s).names.lookup x=some .cell))&&(defScope e.s).names.all fun y=>decide (y.2≠.free)
theorem zdm{e:Fe}(h:scB e=true):FnScope e.N e.ps (defScope e.s):=by
 unfold scB at h;simp only[and_eq_true,decide_eq_true_eq,Bool.not_eq_true',all_eq_true] at h;exact⟨h.1.1.1.1.1.1,h.1.1.1.1.1.2,h.1.1.1.1.2,h.1.1.1.2,h.1.1.2,h.1.2,h.2⟩
def eqv(x y:Option (Option Value)):Bool:=decide (x=y)
def fnC(K:Frag)(e:Fe):Bool:=codeIn K (dK K e.a).code e.q&&keepIn K (.ref e.a)&&isFn K (.ref e.a)&&eqv (if e.c=0 then nsIn K mainGlobals e.n else findIn K (.ref e.c) e.n) (some (some (.ref e.a)))
def clC(K:Frag)(e:Ce):Bool:=plainGet K e.a Str.empty&&hasDictIn K e.a&&plainOver K e.a&&eqv (findIn K (.ref e.a) "__setattr__") (some (some (.builtin "object.__setattr__"))) &&
 eqv (nsIn K mainGlobals e.n) (some (some (.ref e.a)))&&makesIn K e.a&&eqv (findIn K (.ref e.a) "__init__") (some (some (if e.i=0 then .builtin "object.__init__" else .ref e.i)))&&keepIn K (.ref e.a) &&
 eqv (findIn K (.ref e.a) "__class__") (some (some (.builtin "object.__class__")))&&decide (mroIn K e.a (.type "object")=some true)&&e.fs.all (fun f=>eqv (findIn K (.ref e.a) f) (some none))&&(e.i == 0||isFn K (.ref e.i))
def tpC(K:Frag)(p:Addr×List Str):Bool:=match K.lookup p.1 with
 |some ⟨.type "tuple",_,.seq its _,_⟩=>decide (its.toList.map (fun v=>match v with | .str x _=>some x | _=>none)=p.2.map some)
 |_=>false
def xiC(K:Frag)(c:Addr):Bool:=eqv (findIn K (.ref c) "__getattribute__") (some (some (.builtin "BaseException.__getattribute__")))&&eqv (findIn K (.ref c) "__getattr__") (some none)&&eqv (findIn K (.ref c) "__class__") (some (some (.builtin "object.__class__"))) &&
 decide (mroIn K c (.type "object")=some true)&&decide (mroIn K c (.type "BaseException")=some true)&&hasDictIn K c
def chk(t:Tab)(K:Frag):Bool :=
 t.f.all (fnC K)&&t.c.all (clC K)&&t.b.all (fun x=>eqv (nsIn K mainGlobals x) (some none))&&t.k.all (fun p=>decide (kitOne K p.1 p.2.1=some p.2.2))&&t.m.all (fun p=>eqv (nsIn K mainGlobals p.1) (some (some p.2)))&&t.t.all (tpC K) &&
 t.x.all (fun c=>excIn K c W6 "ValueError.__new__")&&t.y.all (xiC K)&&t.u.all (fun p=>decide (zcA K p.1 p.2.1=some p.2.2))&&eqv (specialIn K (.builtin "object.__class__") "__get__") (some (some (.builtin "getset_descriptor.__get__")))&&decide (takesIn K (.builtin "object.__class__")=some true)
abbrev bdA(t:Tab)(g:FuncData)(us:List Value):Prop:=(t.f.filter fun e=>e.ps.length == us.length).map (fun e=>bindArgs (fnX e g) ⟨us,[]⟩)=(t.f.filter fun e=>e.ps.length == us.length).map fun e=>pure (e.ps.zip us)
structure Txt0 (t:Tab) (K:Frag) (mg:Str->Option Value):Prop where
 ck:chk t K=true
 fe:t.f.map (fun e=>K.lookup e.a)=t.f.map (fnB K)
 bd:∀ (g:FuncData) (us:List Value),us.length<=8->bdA t g us
 mg:∀ x v,nsIn K mainGlobals x=some v->mg x=v
theorem VD{α β:Type}{f g:α->β}{l:List α}(h:l.map f=l.map g){i:Nat}{e:α}(hi:l[i]?=some e):f e=g e:=by
 have:=congrArg (fun l=>l[i]?) h
 simpa[List.getElem?_map,hi] using this
theorem yW{α:Type}{f:α->Bool}{l:List α}(h:l.all f=true){i:Nat}{e:α}(hi:l[i]?=some e):f e=true:=all_eq_true.mp h e (mem_of_getElem? hi)
section
variable {t:Tab}{K:Frag}{mg:Str->Option Value}
theorem Txt0.parts(T:Txt0 t K mg):(t.f.all (fnC K)=true/\t.c.all (clC K)=true/\t.b.all (fun x=>eqv (nsIn K mainGlobals x) (some none))=true/\t.k.all (fun p=>decide (kitOne K p.1 p.2.1=some p.2.2))=true)/\(t.m.all (fun p=>eqv (nsIn K mainGlobals p.1) (some (some p.2)))=true/\t.t.all (tpC K)=true /\
  t.x.all (fun c=>excIn K c W6 "ValueError.__new__")=true/\t.y.all (xiC K)=true/\t.u.all (fun p=>decide (zcA K p.1 p.2.1=some p.2.2))=true)/\specialIn K (.builtin "object.__class__") "__get__" = some (some (.builtin "getset_descriptor.__get__"))/\takesIn K (.builtin "object.__class__")=some true:=by
 have h:=T.ck;unfold chk at h;simp only[and_eq_true] at h;obtain⟨⟨⟨⟨⟨⟨⟨⟨⟨⟨h1,h2⟩,h3⟩,h4⟩,h5⟩,h6⟩,h7⟩,h8⟩,h9⟩,h10⟩,h11⟩:=h;exact⟨⟨h1,h2,h3,h4⟩,⟨h5,h6,h7,h8,h9⟩,of_decide_eq_true h10,of_decide_eq_true h11⟩
theorem ZV{e:Fe}(h:fnC K e=true):codeIn K (dK K e.a).code e.q=true/\keepIn K (.ref e.a)=true/\isFn K (.ref e.a)=true/\(if e.c=0 then nsIn K mainGlobals e.n else findIn K (.ref e.c) e.n)=some (some (.ref e.a)):=by
 unfold fnC at h;simp only[and_eq_true] at h;exact⟨h.1.1.1,h.1.1.2,h.1.2,of_decide_eq_true h.2⟩
theorem fnD{e:Fe}(T:Txt0 t K mg){i:Nat}(hi:t.f[i]?=some e):∃ oc od sl,K.lookup e.a=some ⟨oc,od,.func (dK K e.a),sl⟩/\dK K e.a=fnX e (dK K e.a):=by
 have h1:=VD T.fe hi;have hk:=(ZV (yW T.parts.1.1 hi)).2.1;simp only[fnB] at h1;unfold dK
 split at h1
 ·rename_i c d g sl lk
  rw[lk] at h1 ⊢;injection h1 with h1;injection h1 with _ _ h1 _;injection h1 with h1;exact⟨c,d,sl,rfl,h1⟩
 ·unfold keepIn at hk
  simp only[h1] at hk;cases hk
theorem Txt0.fn(T:Txt0 t K mg)(i:Nat){a c:Addr}{n q:Str}{s:Stmt}{ps N:List Str}(hi:t.f[i]?=some ⟨a,n,q,s,ps,N,c⟩:=by rfl):Fun K n q s a (dK K a):=by
 obtain⟨oc,od,sl,h1,h2⟩:=fnD T hi;obtain⟨k1,k2,_⟩:=ZV (yW T.parts.1.1 hi);exact⟨⟨oc,od,(dK K a).kwdefaults,(dK K a).doc,(dK K a).pyModule,(dK K a).annotations,(dK K a).code,(dK K a).closureTuple,sl,h2,h1,k1⟩,k2⟩
theorem Txt0.be(T:Txt0 t K mg)(i:Nat){a c:Addr}{n q:Str}{s:Stmt}{ps N:List Str}(hi:t.f[i]?=some ⟨a,n,q,s,ps,N,c⟩:=by rfl)(h8:ps.length<=8:=by exact Nat.le_of_ble_eq_true rfl)(us:List Value)(hl:us.length=ps.length):bindArgs (dK K a) ⟨us,[]⟩=pure (ps.zip us):=by
 obtain⟨oc,od,sl,h1,h2⟩:=fnD T hi;have hb:=T.bd (dK K a) us (by omega);have hm:(⟨a,n,q,s,ps,N,c⟩:Fe)∈t.f.filter fun e=>e.ps.length == us.length:=mem_filter.mpr ⟨mem_of_getElem? hi,by simp[hl]⟩;obtain⟨j,hj⟩:=List.getElem?_of_mem hm;have:=VD hb hj;rw[<- h2] at this;exact this
theorem Txt0.bi(T:Txt0 t K mg)(i:Nat){a c:Addr}{n q:Str}{s:Stmt}{ps N:List Str}(hi:t.f[i]?=some ⟨a,n,q,s,ps,N,c⟩:=by rfl)(h8:ps.length<=8:=by exact Nat.le_of_ble_eq_true rfl):Binds K (dK K a) ps []:=.all (T.be i hi h8)
theorem Txt0.g(T:Txt0 t K mg)(i:Nat){a:Addr}{n q:Str}{s:Stmt}{ps N:List Str}(hi:t.f[i]?=some ⟨a,n,q,s,ps,N,0⟩:=by rfl):mg n=some (.ref a):=T.mg _ _ (ZV (yW T.parts.1.1 hi)).2.2.2
theorem Txt0.mt(T:Txt0 t K mg)(i:Nat){a c:Addr}{n q:Str}{s:Stmt}{ps N:List Str}(hi:t.f[i]?=some ⟨a,n,q,s,ps,N,c⟩:=by rfl)(hc:c≠0:=by exact Nat.succ_ne_zero _):Meth K c n a:=by
 obtain⟨_,k2,k3,k4⟩:=ZV (yW T.parts.1.1 hi);exact⟨by simpa[hc] using k4,k3,k2⟩
theorem uK{e:Ce}(h:clC K e=true):Cls K e.a/\nsIn K mainGlobals e.n=some (some (.ref e.a))/\makesIn K e.a=true/\findIn K (.ref e.a) "__init__" = some (some (if e.i=0 then .builtin "object.__init__" else .ref e.i))/\keepIn K (.ref e.a)=true/\findIn K (.ref e.a) "__class__" = some (some (.builtin "object.__class__"))/\mroIn K e.a (.type "object")=some true/\(∀ f∈e.fs,findIn K (.ref e.a) f=some none)/\(e.i≠0->isFn K (.ref e.i)=true):=by
 unfold clC at h;simp only[and_eq_true,eqv,decide_eq_true_eq,all_eq_true,or_eq_true,beq_iff_eq] at h;obtain⟨⟨⟨⟨⟨⟨⟨⟨⟨⟨⟨h1,h2⟩,h3⟩,h4⟩,h5⟩,h6⟩,h7⟩,h8⟩,h9⟩,h10⟩,h11⟩,h12⟩:=h;exact⟨⟨h1,h2,h3,h4⟩,h5,h6,h7,h8,h9,h10,h11,fun z=>h12.resolve_left z⟩
theorem Txt0.gc(T:Txt0 t K mg)(i:Nat){a z:Addr}{n:Str}{fs:List Str}(hi:t.c[i]?=some ⟨a,n,z,fs⟩:=by rfl):mg n=some (.ref a):=T.mg _ _ (uK (yW T.parts.1.2.1 hi)).2.1
theorem Txt0.cl(T:Txt0 t K mg)(i:Nat){a z:Addr}{n:Str}{fs:List Str}(hi:t.c[i]?=some ⟨a,n,z,fs⟩:=by rfl):Cls K a:=(uK (yW T.parts.1.2.1 hi)).1
theorem Txt0.mm(T:Txt0 t K mg)(i:Nat){a z:Addr}{n:Str}{fs:List Str}(hi:t.c[i]?=some ⟨a,n,z,fs⟩:=by rfl)(hz:z≠0:=by exact Nat.succ_ne_zero _):Mk K a z:=by
 obtain⟨_,_,h3,h4,h5,_,_,_,h9⟩:=uK (yW T.parts.1.2.1 hi);exact⟨h3,by simpa[hz] using h4,h9 hz,h5⟩
theorem Txt0.ty(T:Txt0 t K mg)(i:Nat){a z:Addr}{n:Str}{fs:List Str}(hi:t.c[i]?=some ⟨a,n,z,fs⟩:=by rfl):∀ (H:Hp) (p dx:Addr) (gs:List (Str×V)),H p=some (.ins a dx gs)->TyOf K H (.ref p) (.ref a):=fun H p dx gs e=>by
 obtain⟨h1,_,_,_,_,h6,h7,_⟩:=uK (yW T.parts.1.2.1 hi);exact .ins e h1 h6 T.parts.2.2.1 T.parts.2.2.2 h7
theorem Txt0.na(T:Txt0 t K mg)(i j:Nat){a z:Addr}{n f:Str}{fs:List Str}(hi:t.c[i]?=some ⟨a,n,z,fs⟩:=by rfl)(hj:fs[j]?=some f:=by rfl):NoAttr K a f:=(uK (yW T.parts.1.2.1 hi)).2.2.2.2.2.2.2.1 f (mem_of_getElem? hj)
theorem Txt0.n(T:Txt0 t K mg)(i:Nat){x:Str}(hi:t.b[i]?=some x:=by rfl):mg x=none:=T.mg _ _ (of_decide_eq_true (yW T.parts.1.2.2.1 hi))
theorem Txt0.k(T:Txt0 t K mg)(i:Nat){x y:Value}{b:Bool}(hi:t.k[i]?=some (x,y,b):=by rfl):kitOne K x y=some b:=of_decide_eq_true (yW T.parts.1.2.2.2 hi)
theorem Txt0.gg(T:Txt0 t K mg)(i:Nat){x:Str}{v:Value}(hi:t.m[i]?=some (x,v):=by rfl):mg x=some v:=T.mg _ _ (of_decide_eq_true (yW T.parts.2.1.1 hi))
theorem Txt0.xc(T:Txt0 t K mg)(i:Nat){a:Addr}(hi:t.x[i]?=some a:=by rfl):XCls K a:=yW T.parts.2.1.2.2.1 hi
end
theorem zcw{t:Tab}(h0:∀ g,bdA t g [])(h1:∀ g a,bdA t g [a])(h2:∀ g a b,bdA t g [a,b])(h3:∀ g a b c,bdA t g [a,b,c])(h4:∀ g a b c d,bdA t g [a,b,c,d])(h5:∀ g a b c d e,bdA t g [a,b,c,d,e])(h6:∀ g a b c d e f,bdA t g [a,b,c,d,e,f])(h7:∀ g a b c d e f i,bdA t g [a,b,c,d,e,f,i])(h8:∀ g a b c d e f i j,bdA t g [a,b,c,d,e,f,i,j]):∀ (g:FuncData) (us:List Value),us.length<=8->bdA t g us
 |g,[],_=>h0 g
 |g,[a],_=>h1 g a
 |g,[a,b],_=>h2 g a b
 |g,[a,b,c],_=>h3 g a b c
 |g,[a,b,c,d],_=>h4 g a b c d
 |g,[a,b,c,d,e],_=>h5 g a b c d e
 |g,[a,b,c,d,e,f],_=>h6 g a b c d e f
 |g,[a,b,c,d,e,f,i],_=>h7 g a b c d e f i
 |g,[a,b,c,d,e,f,i,j],_=>h8 g a b c d e f i j
 |g,_::_::_::_::_::_::_::_::_::_,h=>by simp at h
end L2
namespace L2
open PySem PySem.Spec PyProof.Rows
theorem mtV{X:Cx}{m:Str}{t:TA}{σ:St}{H:Hp}{Q:VK}{i:Nat}{a C dx f:Addr}{fs:List (Str×V)}{fd:FuncData}{ps:List Str}{k:Nat}{sp:Sp}(hv:σ[i]?=some (some (.ref a)))(hp:H a=some (.ins C dx fs))(hl:fs.lookup m=none)(hc:Cls X.K C)(hm:Meth X.K C m f)
  (ok:FnOk X.prog X.w X.K X.mg X.base CX0 k f fd ps sp) (hr:Room k X.A) (hb:Binds X.K fd ps []) (h:t σ H fun vs H2=>sp (.ref a::(vs++[])) H2 Q E0):uf X m (ZF i) t σ H Q:=⟨_,hv,a,C,dx,fs,f,fd,ps,k,sp,rfl,hp,hl,hc,hm,ok,hr,hb,h⟩
theorem ag0{σ:St}{H:Hp}{R:List V->Hp->Prop}(h:R [] H):Wh σ H R:=h
theorem ag1{i:Nat}{σ:St}{H:Hp}{v:V}{R:List V->Hp->Prop}(hv:σ[i]?=some (some v))(h:R [v] H):xG (ZF i) Wh σ H R:=⟨_,hv,h⟩
theorem Yw{K:W.Frag}{x c:V}{t cv:Value}{b:Bool}{i:Nat}{tb te:TS}{D:Ends}{σ:St}{H:Hp}(hv:σ[i]?=some (some x))(hc:zbw c=some cv)(ty:TyOf K H x t)(kk:PySem.W.kitOne K t cv=some b)(h:if b=true then tb D σ H else te D σ H):zbt (tB (tCB (zc1 K) (xG (ZF i) (xG (tC c) Wh)))) tb te D σ H:=⟨_,hv,_,_,_,_,_,rfl,hc,ty,kk,_,rfl,h⟩
section
variable {prog:Program}{w:World}{A:Around}{E:Value->Shared->Prop}{s:Shared}
theorem WB(d:Addr)(hd:(d == sysModules)=false):MeetsIn prog w (Builtin.«dict.__len__» ⟨[.ref d],[]⟩) fun _ R s=>∃ es ep,X6 s.heap d es ep/\R (.ok (.ret (.int es.size s.toks))) { s with toks:=s.toks+1 } :=
 .of_wp fun A R s ⟨es,ep,⟨o,ho,hc,ha⟩,h⟩=>by
  refine wpAny_bind (m:=dictSize d) ?_;unfold dictSize;refine wpAny_bind (wpAny_dictEntries ho ha (wpAny_pure (wpAny_bind (m:=Builtin.Dict.pendingCount d) (wpAny_pendingCount_other hd (wpAny_ret_mkInt ?_)))));rw[Nat.add_zero];exact h
theorem VE{d:Addr}{es:Array DictEntry}{ep:Nat}{Q:Value->Shared->Prop}(hd:(d == sysModules)=false)(hm:X6 s.heap d es ep)(ht:s.TypeIs (.ref d) "dict")(hf:(es.size:Int)<2 ^ 63)
  (h:Q (.int es.size (s.toks+1)) { s with toks:=s.toks+1+1 }):wpAny (model prog w) A (call (.builtin "len") [.ref d]) Q E s:=by
 refine Calls.call_function_entry kind_len plain_len entry_len (args_len1 _) ?_;unfold Builtin.«len»;refine wpAny_bind (m:=oneArg "len" _) (wpAny_pure (wpAny_bind (m:=callSpecial? (.ref d) (Str.ofString "__len__")) (wpAny_callSpecial?_slot (name:=Str.ofString "__len__") ht F.slot_dict_len
  (call_meetsIn F.slot_dict_len ht F.entry_dict_len (F.args_dict_len_1 _) (WB d hd) ⟨es,ep,hm,?_⟩))))
 refine wpAny_bind (s:={ s with toks:=s.toks+1 }) (wpAny_holding (wpAny_pure (wpAny_bind (wpAny_letGo ?_))));show wpAny _ _ (if ((es.size:Nat):Int)<0 then _ else if ((es.size:Nat):Int)≥2 ^ 63 then _ else _) _ _ _;rw[if_neg (by omega),if_neg (by omega)];exact wpAny_bind (wpAny_mkInt (wpAny_pure ⟨_,rfl,h⟩))
end
section
variable {X:Cx}
theorem Yp:yS X (.builtin "len") (fun xs H Q=>∃ a kvs,xs=[V.ref a]/\H a=some (.dT kvs)/\Q (.int kvs.length) H):=by
 intro pins s σ H xs us Q I r h;obtain⟨a,kvs,rfl,ha,q⟩:=h;obtain⟨u,rfl,ru⟩:=r.one;cases ru;obtain⟨z,hd,xs,rel,dd⟩:=XM I.hok ha;have ty:=dd.typeIs;obtain⟨o,es,ep,q1,q2,q3,q4,q5⟩:=dd;have hl:es.size=kvs.length:=by
  rw[<- length_toList,q4,length_map];exact(Paired.length rel).symm
 refine VE (es:=es) (ep:=ep) hd ⟨o,q1,q2,q3⟩ ty (by rw[sizeLine_eq] at z;omega) ?_;rw[hl];exact⟨.int kvs.length,H,I.tok _,⟨_,rfl⟩,q⟩
end
section
variable {prog:Program}{w:World}{A:Around}{E:Value->Shared->Prop}{s:Shared}
theorem Za{Q:Int->Shared->Prop}(h:Q 0xFCA86420 { s with toks:=s.toks+1 }):wpAny (model prog w) A (pyHash .none) Q E s:=by
 unfold pyHash;have hv:[Value.none].any Value.onHeap=false:=rfl;refine wpAny_bind ?_;rw[cRoomFor,if_neg (by rw[hv];exact Bool.false_ne_true)];refine wpAny_pure ?_;refine wpAny_bind (wpAny_specialOf (typeIs_none s) F.slot_NoneType_hash.lookup ?_);show wpAny _ _ (if (some (Value.builtin "NoneType.__hash__") == some Value.none)=true then _ else _) Q E s;rw[if_neg (by rw[beq_builtin_none];exact Bool.false_ne_true)];refine wpAny_bind (wpAny_specialOf (typeIs_none s) F.slot_NoneType_hash.lookup ?_);show wpAny _ _ (callSpecialIfBoundUnlessNone? .none "__hash__" _ >>= _) Q E s;refine wpAny_bind (wpAny_callSpecialIfBoundUnlessNone?_slot (typeIs_none s) F.slot_NoneType_hash
  (wpAny_call_entry F.slot_NoneType_hash (typeIs_none s) F.entry_NoneType_hash
   (show wpAny _ _ (do ret (<- mkInt 0xFCA86420)) _ _ s from wpAny_ret_mkInt ?_) (F.args_NoneType_hash_1 _)))
 exact wpAny_pure h
end
def OdD(od:Obj)(ks:List V):Prop:=od.ExactDict/\∃ es ep,od.data=.dict es ep/\Paired RelV ks (es.toList.map (·.key))
def hOd(d:Addr)(od:Obj):HO:=.frz od (.ext fun h=>∃ o,h.get? d=some o)
def ItO(d:Addr)(od:Obj)(ks:List V):It :=
 ⟨fun i H=>H d=some (hOd d od)/\i<ks.length,fun i H x H'=>H'=H/\ks[i]?=some x,fun i H=>H d=some (hOd d od)/\ks.length<=i⟩
theorem Z9{P:Program}{w:World}{K:W.Frag}{tg:Expr}{it d:Addr}{od:Obj}{ks:List V}{es:Array DictEntry}{ep:Nat}(hed:od.ExactDict)(hda:od.data=.dict es ep)(hp:Paired RelV ks (es.toList.map (·.key))) :
  Turn P w K tg (ItO d od ks) [it] it (fun i h=>KIt h it d i es.size ep) where
 mem:=by simp
 obj:=fun i h o1 b hb=>by
  rw[mem_singleton.mp hb];exact⟨_,o1,fun v z=>by
   have z':Data.fields _=Data.cell v:=z;cases z'⟩
 keep:=fun i h h' st k=>k it (by simp) _ st
 item:=by
  intro X hP hw hK hc i pins s σ H E I hf st hg;subst hP hw hK;obtain⟨f0,f1,f2,f3,f4,f5⟩:=hf it (by simp);have d3:=(I.hok d _ hg.1).1;have hx:ks[i]?=some (ks[i]'hg.2):=List.getElem?_eq_getElem hg.2;obtain⟨u,hu,ru⟩:=Vals.get hp hx;rw[List.getElem?_map] at hu;obtain⟨e,he,rfl⟩:=map_eq_some_iff.mp hu;rw[Array.getElem?_toList] at he;refine ub st ⟨od,d3,hed,hda⟩ he fun h' st4 sb=>?_;exact⟨_,rfl,Yl (s:={ s with heap:=h' }) (n := "dict_keyiterator") st4 rfl rfl (by decide) ⟨ks[i]'hg.2,H,I.turned (t':=s.toks) (fun b o hb q=>sb.extBut b o hb q) f0 f1 f3 f4 f5,ru,⟨rfl,hx⟩,st4,fun b hb=>(hf b hb).1⟩⟩
 done:=by
  intro X hP hw hK hc i pins s σ H E I hf st hg;subst hP hw hK;obtain⟨f0,f1,f2,f3,f4,f5⟩:=hf it (by simp);have d3:=(I.hok d _ hg.1).1;have hle:ks.length=es.size:=by rw[Paired.length hp,length_map,length_toList]
  exact ZC (I.ok.hd hc) st (by have:=hg.2;omega) ⟨od,d3,hed,hda⟩ fun h' kk=>⟨rfl,I.turned (t':=s.toks) (fun b o hb q=>kk b o hb q) f0 f1 f3 f4 f5⟩
 self:=fun _ i s _ _ st h=>wpAny_pyIter_keyiter (it:=it) (d:=d) (i:=i) (n:=es.size) (ep:=ep) ⟨_,st,rfl,rfl⟩ h
def iKO(td:TE):TI:=fun σ H R=>td σ H fun x H1=>∃ (d:Addr) (od:Obj) (ks:List V),x=.ref d/\(d == sysModules)=false/\H1 d=some (hOd d od)/\OdD od ks/\R (ItO d od ks) H1
theorem Z2{X:Cx}{tg l:Expr}{td:TE}(hl:Bx (PE X l td)):Bx (PI X tg l (iKO td)):=by
 have hl:=hl.of;refine⟨?_⟩;intro pins s σ H R I h;refine thn (hl pins s σ H _ I h) fun v s1 hq0=>?_;obtain⟨x,H1,I1,rx,d,od,ks,ex,hm,e,ko,q⟩:=hq0;subst ex;obtain rfl:v=Value.ref d:=rx;obtain⟨hed,es,ep,hda,hp⟩:=ko;refine uY ⟨od,(I1.hok d _ e).1,hed,hda⟩ hm ?_;refine⟨_,[s1.heap.objs.size],_,_,_,rfl,I1.kept (t':=s1.toks) fun b u q=>Heap.get?_push_of_some _ q,Z9 hed hda hp,Heap.get?_push_size _ rfl,fun b hb=>?_,q⟩;rw[mem_singleton.mp hb];exact I1.fpOk (Nat.le_refl _) (I1.hok.fresh (Nat.le_refl _))
theorem XT{X:Cx}{f:Value}{r1 r2:List V->Hp->VK->Prop}(h1:yS X f r1)(h2:yS X f r2):yS X f (fun xs H Q=>r1 xs H Q\/r2 xs H Q):=fun pins s σ H xs us Q I r h=>h.elim (h1 pins s σ H xs us Q I r) (h2 pins s σ H xs us Q I r)
section
variable {prog:Program}{w:World}{A:Around}{E:Value->Shared->Prop}{s:Shared}
theorem v5{d:Addr}{v:Value}{T:String}{Q:Value->Shared->Prop}(hd:s.TypeIs (.ref d) "dict")(hv:s.TypeIs v T)(hs:isSubtype (.type T) (.type "dict")=pure false)(q:Q .notImplemented s) :
  wpAny (model prog w) A (call (.builtin "dict.__eq__") [.ref d,v]) Q E s:=by
 refine wpAny_call_entry PySem.F.slot_dict_eq hd PySem.F.entry_dict_eq ?_ (PySem.F.args_dict_eq_2 _ _);show wpAny _ _ (Builtin.Dict.dictSlotArgs "__eq__" ⟨[.ref d,v],[]⟩ >>= _) _ _ s;refine wpAny_bind ?_;unfold Builtin.Dict.dictSlotArgs;refine wpAny_bind (wpAny_notOrdered_dict hd ?_);show wpAny _ _ (pure (Value.ref d,v)) _ _ s;refine wpAny_pure ?_;refine wpAny_bind (wpAny_isInstance (U := "dict") hv hs ?_);simp only[Bool.not_false,if_true];exact wpAny_bind (wpAny_rule (wpAny_pure ⟨_,rfl,q⟩))
open PySem.SeqAt PySem.MeetsSeq
theorem Yb(l b:Addr)(items:Array Value)(m:Nat)(es:Array DictEntry)(n:Nat)(dd:Option Addr)(sl:Array (Option Value)) :
  Meets (Builtin.«tuple.__eq__» ⟨[.ref l,.ref b],[]⟩) (fun _ R s=>s.heap.get? l=some { cls:=.type "tuple",dict:=dd,data:=.seq items m,slots:=sl }/\s.heap.get? b=some { cls:=.type "dict",data:=.dict es n }/\R (.ok (.ret .notImplemented)) s) :=
 .of_wp fun prog w A R s h=>by obtain⟨hp,g,d,tk,os⟩:=s;obtain⟨hl,hb,h⟩:=h;have f1:=F.sub_dict_tuple;wp_walk using AutoSeq1.wpAny_loadPart' hl,AutoSeq1.wpAny_loadPart' hb;exact⟨_,rfl,h⟩
theorem Xh{l b:Addr}{o:Obj}{es:Array DictEntry}{n:Nat}(hl:s.heap.get? l=some o)(hc:o.cls≠.type "dict")(hb:s.heap.get? b=some { cls:=.type "dict",data:=.dict es n }):l≠b:=fun z=>by
 subst z;rw[hb] at hl;cases hl;exact hc rfl
end
theorem zbk{X:Cx}{pins:List (Addr×Obj)}{σ:St}{H:Hp}{s:Shared}{a:Addr}{kvs:List (Key×V)}(I:Inv X pins σ H s)(e:H a=some (.dK kvs)):(a == sysModules)=false/\∃ es ep,X6 s.heap a es ep/\es.size=kvs.length:=by
 obtain⟨z,hd,vs,r,o,es,ep,d1,d2,d3,d4,d5,d6⟩:=vk I.hok e;have hp:∀ {l:List DictEntry}{vs:List (Key×Value)},Pairs (zv X.prog X.w) l vs->l.length=vs.length:=fun {l vs} h=>by
  induction h with
  |nil=>rfl
  |cons _ _ _ ih=>rw[length_cons,length_cons,ih]
 exact⟨hd,es,ep,⟨o,d1,d2,d3⟩,by rw[<- length_toList,hp d5];exact(Paired.length r).symm⟩
section
variable {X:Cx}{pins:List (Addr×Obj)}{σ:St}{H:Hp}{s:Shared}
def Ud:V->List V->Hp->VK->Prop:=fun x vs H Q=>∃ l xs y,∃ i:Nat,x=.ref l/\vs=[.int i,y]/\H l=some (.lst xs)/\i<=xs.length/\xs.length<1000/\Q .non (upd H l (.lst (xs.take i++y::xs.drop i)))
theorem wT:MtM X "list.insert" Ud:=by
 intro pins s σ H x vs v us Q I rx rv h;obtain⟨l,xs,y,i,rfl,rfl,hH,hi,hz,q⟩:=h;cases rx;obtain⟨u,u2,rfl,⟨tk,rfl⟩,ru⟩:=rv.two;obtain⟨z,its,n,r,hl,e⟩:=I.lstM hH;have big:1000<=sizeLine:=by decide
 have l1:=r.length;have hsz:its.toArray.size<=sizeLine:=by rw[size_toArray,<- l1];omega
 obtain⟨m,hm⟩:∃ m:Int,m=(i:Int):=⟨_,rfl⟩;rw[<- hm];have hfit:¬(!Builtin.List.listFitsIndex m)=true:=by
  have:Builtin.List.listFitsIndex m=true:=by
   unfold Builtin.List.listFitsIndex;simp;omega
  rw[this];exact Bool.false_ne_true
 refine call_meets F.slot_list_insert ⟨_,e,rfl⟩ F.entry_list_insert (F.args_list_insert_3 _ _ _) (AutoSeq1.list_insert_list_int_val_1 l its.toArray n m tk u2 hfit hsz) ⟨e,?_⟩;refine⟨.non,_,I.lset (its':=its.take i++u2::its.drop i) hH e ?_ ((r.take i).append (.cons ru (r.drop i))) ?_,rfl,q⟩
 ·have e1:(if m<0 then(m+(its.toArray.size:Int)).toNat else min m.toNat its.toArray.size)=i:=by
   rw[if_neg (by omega),size_toArray];omega
  show(its.toArray.extract 0 (if m<0 then(m+(its.toArray.size:Int)).toNat else min m.toNat its.toArray.size)).push u2++its.toArray.extract (if m<0 then(m+(its.toArray.size:Int)).toNat else min m.toNat its.toArray.size) its.toArray.size=_;rw[e1];apply Array.toList_inj.mp;simp;rw[take_of_length_le (by rw[length_drop];exact Nat.le_refl _)]
 ·rw[length_append,length_cons,length_take,length_drop]
  omega
theorem uN:yS X (.builtin "len") (fun xs H Q=>∃ a od ks,xs=[V.ref a]/\(a == sysModules)=false/\H a=some (hOd a od)/\OdD od ks/\ks.length<1000/\Q (.int ks.length) H):=by
 intro pins s σ H xs us Q I r h;obtain⟨a,od,ks,rfl,hm,ha,⟨x1,es,ep,x2,x3⟩,hz,q⟩:=h;obtain⟨u,rfl,ru⟩:=r.one;cases ru;have hl:es.size=ks.length:=by rw[Paired.length x3,length_map,length_toList]
 have g:=(I.hok a _ ha).1;refine VE (es:=es) (ep:=ep) hm ⟨od,g,x1,x2⟩ ⟨od,g,x1.1⟩ (by omega) ?_;rw[hl];exact⟨.int _,H,I.tok _,⟨_,rfl⟩,q⟩
theorem za7{ns:LI}{its:List Value}(r:Vals (ns.map V.int) its):∀ (k:Nat) (h:k<its.length),∃ m tk,its[k]=Value.int m tk:=fun k h=>by
 have l2:=r.length;rw[length_map] at l2;have h2:k<ns.length:=by omega
 have hx:(ns.map V.int)[k]?=some (V.int ns[k]):=by rw[List.getElem?_map,List.getElem?_eq_getElem h2];rfl
 obtain⟨u,hu,ru⟩:=r.get hx;rw[List.getElem?_eq_getElem h] at hu;cases hu;obtain⟨tk,e⟩:=ru;exact⟨_,tk,e⟩
end
def boI(b:Bool):Int:=if b then 1 else 0
section
variable {prog:Program}{w:World}{A:Around}{E:Value->Shared->Prop}{s:Shared}
theorem Zb{b:Bool}{Q:Int->Shared->Prop}(h:Q (hashInt (boI b)) { s with toks:=s.toks+1 }):wpAny (model prog w) A (pyHash (.bool b)) Q E s:=by
 unfold pyHash;have hv:[Value.bool b].any Value.onHeap=false:=rfl;have ty:s.TypeIs (.bool b) "bool" := rfl;refine wpAny_bind ?_;rw[cRoomFor,if_neg (by rw[hv];exact Bool.false_ne_true)];refine wpAny_pure ?_;refine wpAny_bind (wpAny_specialOf ty F.slot_bool_hash.lookup ?_);show wpAny _ _ (if (some (Value.builtin "int.__hash__") == some Value.none)=true then _ else _) Q E s;rw[if_neg (by rw[beq_builtin_none];exact Bool.false_ne_true)];refine wpAny_bind (wpAny_specialOf ty F.slot_bool_hash.lookup ?_);show wpAny _ _ (callSpecialIfBoundUnlessNone? (.bool b) "__hash__" _ >>= _) Q E s;cases b with
 |false =>
  refine wpAny_bind (wpAny_callSpecialIfBoundUnlessNone?_slot ty F.slot_bool_hash
   (wpAny_call_entry F.slot_bool_hash ty entry_int_hash
    (show wpAny _ _ (do ret (<- mkInt 0)) _ _ s from wpAny_ret_mkInt ?_) (args_int_hash _)))
  exact wpAny_pure h
 |true =>
  refine wpAny_bind (wpAny_callSpecialIfBoundUnlessNone?_slot ty F.slot_bool_hash
   (wpAny_call_entry F.slot_bool_hash ty entry_int_hash
    (show wpAny _ _ (do ret (<- mkInt 1)) _ _ s from wpAny_ret_mkInt ?_) (args_int_hash _)))
  exact wpAny_pure h
end
def vOf:Value->Option (Option Key)
 |.none=>some none
 |.int i _=>some (some (.inl i))
 |.bool b=>some (some (.inl (boI b)))
 |.str x _=>some (some (.inr x))
 |_=>none
theorem xN{v:Value}{k:Option Key}(h:vOf v=some k):(v=.none/\k=none)\/(∃ i t,v=.int i t/\k=some (.inl i))\/(∃ b,v=.bool b/\k=some (.inl (boI b)))\/∃ x t,v=.str x t/\k=some (.inr x):=by
 cases v<;>cases h
 ·exact .inl ⟨rfl,rfl⟩
 ·exact .inr (.inr (.inl ⟨_,rfl,rfl⟩))
 ·exact .inr (.inl ⟨_,_,rfl,rfl⟩)
 ·exact .inr (.inr (.inr ⟨_,_,rfl,rfl⟩))
theorem v6{a b:Key}:decide (some a=some b)=decide (a=b):=by
 by_cases e:a=b
 ·rw[decide_eq_true e,decide_eq_true (congrArg some e)]
 ·rw[decide_eq_false e,decide_eq_false fun z=>e (Option.some.inj z)]
def wt(prog:Program)(w:World):PySem.KeyKind prog w (Option Key) where
 is:=fun k v=>decide (vOf v=some k)
 hash:=fun k=>match k with | none=>0xFCA86420 | some k=>zc6 w k
 inj:=fun v a b ha hb=>Option.some.inj ((of_decide_eq_true ha).symm.trans (of_decide_eq_true hb))
 byValue:=fun k v h=>by
  rcases xN (of_decide_eq_true h) with⟨rfl,_⟩ | ⟨i,t,rfl,_⟩ | ⟨b,rfl,_⟩ | ⟨x,t,rfl,_⟩<;>rfl
 pyHash:=fun hv h=>by
  rcases xN (of_decide_eq_true hv) with⟨rfl,rfl⟩ | ⟨i,t,rfl,rfl⟩ | ⟨b,rfl,rfl⟩ | ⟨x,t,rfl,rfl⟩
  ·exact Za h
  ·exact wpAny_pyHash_int h
  ·exact Zb h
  ·exact wpAny_pyHash_str h
 eqBool:=fun hu hv h=>by
  rcases xN (of_decide_eq_true hu) with⟨rfl,rfl⟩ | ⟨i,t,rfl,rfl⟩ | ⟨b,rfl,rfl⟩ | ⟨x,t,rfl,rfl⟩ <;>
   rcases xN (of_decide_eq_true hv) with⟨rfl,rfl⟩ | ⟨j,t',rfl,rfl⟩ | ⟨c,rfl,rfl⟩ | ⟨y,t',rfl,rfl⟩
  ·exact SeqAt.EqAt.same .none _ _ _ _ h
  ·exact SeqAt.EqAt.none_int _ _ _ _ _ _ h
  ·exact SeqAt.EqAt.none_bool _ _ _ _ _ h
  ·exact SeqAt.EqAt.none_str _ _ _ _ _ _ h
  ·exact SeqAt.EqAt.int_none _ _ _ _ _ _ h
  ·rw[v6,uA] at h;exact wpAny_eqBool_int h
  ·rw[v6,uA] at h;exact SeqAt.EqAt.int_bool _ _ _ _ _ _ _ h
  ·rw[v6,Xw] at h;exact SeqAt.EqAt.int_str _ _ _ _ _ _ _ _ h
  ·exact SeqAt.EqAt.bool_none _ _ _ _ _ h
  ·rw[v6,uA] at h;exact SeqAt.EqAt.bool_int _ _ _ _ _ _ _ h
  ·rw[v6,uA] at h
   refine SeqAt.EqAt.bool_bool b c _ _ _ _ ?_;have:(b == c)=(boI b == boI c):=by cases b<;>cases c<;>rfl
   rw[this];exact h
  ·rw[v6,Xw] at h;exact SeqAt.EqAt.bool_str _ _ _ _ _ _ _ h
  ·exact SeqAt.EqAt.str_none _ _ _ _ _ _ h
  ·rw[v6,Xv] at h;exact SeqAt.EqAt.str_int _ _ _ _ _ _ _ _ h
  ·rw[v6,Xv] at h;exact SeqAt.EqAt.str_bool _ _ _ _ _ _ _ h
  ·rw[v6,VH] at h;exact wpAny_eqBool_str h
 «strs»:=fun k x t v h=>by
  have e:k=some (.inr x):=(Option.some.inj (of_decide_eq_true h)).symm;subst e;cases v with
  |str y t' =>
   show decide (some (some (Sum.inr y:Key))=some (some (.inr x)))=(Value.str y t').isStr x;rw[show decide (some (some (Sum.inr y:Key))=some (some (.inr x)))=decide (y=x) from ?_]
   ·exact(Bool.eq_iff_iff.mpr ⟨fun z=>by rw[of_decide_eq_true z];exact beq_self_eq_true x,fun z=>decide_eq_true (eq_of_beq z)⟩:decide (y=x)=(y == x))
   ·by_cases e:y=x
    ·subst e;simp
    ·rw[decide_eq_false e,decide_eq_false fun z=>e (by injection z with z;injection z with z;injection z)]
  |_=>rfl
theorem W9{P:Program}{w:World}{es:Array DictEntry}(h:KeysOf (zv P w) es):KeysOf (wt P w) es:=fun e he=>by
 obtain⟨k,hk,hh⟩:=h e he;refine⟨some k,decide_eq_true ?_,hh⟩;rcases zN hk with⟨i,t,rfl,e1⟩ | ⟨x,t,rfl,e1⟩<;>(rw[e1];rfl)
def OdP(od:Obj)(kvs:List (V×V)):Prop:=od.ExactDict/\∃ es ep,od.data=.dict es ep/\Paired (fun(p:V×V) (e:DictEntry)=>RelV p.1 e.key/\RelV p.2 e.val) kvs es.toList
theorem OdP.d{od:Obj}{kvs:List (V×V)}(h:OdP od kvs):OdD od (kvs.map (·.1)):=by
 obtain⟨h1,es,ep,h2,h3⟩:=h;refine⟨h1,es,ep,h2,?_⟩;generalize es.toList=l at h3 ⊢
 induction h3 with
 |nil=>exact .nil
 |cons r _ ih=>exact .cons r.1 ih
theorem kv_pairs{P:Program}{w:World}:∀ {kvs:List (Key×V)}{vs:List (Key×Value)}{es:List DictEntry},KV kvs vs->Pairs (zv P w) es vs->Paired (fun(p:V×V) (e:DictEntry)=>RelV p.1 e.key/\RelV p.2 e.val) (kvs.map fun p=>(kV p.1,p.2)) es
 |_,_,_,.nil,.nil=>.nil
 |_,_,_,.cons r t,.cons hk hv ht=>.cons ⟨by show RelV (kV _) _;rw[r.1];exact Zr hk,by show RelV _ _;rw[hv];exact r.2⟩ (kv_pairs t ht)
section
variable {X:Cx}{pins:List (Addr×Obj)}{σ:St}{H:Hp}{s:Shared}
theorem XG{P:Program}{w:World}{H':Hp}{h':Heap}{a:Addr}{od:Obj}(g:h'.get? a=some od):ObjOk P w H' h' a (hOd a od):=⟨g,⟨od,g⟩,⟨od,g⟩,fun _ _ ⟨o,e⟩ k=>⟨o,k o e⟩⟩
theorem Inv.raw{d:Addr}{kvs:List (Key×V)}(I:Inv X pins σ H s)(e:H d=some (.dK kvs)):∃ od,OdP od (kvs.map fun p=>(kV p.1,p.2))/\(d == sysModules)=false/\Inv X pins σ (upd H d (hOd d od)) s/\s.heap.get? d=some od/\∀ es ep,od.data=.dict es ep->KeysOf (wt X.prog X.w) es:=by
 obtain⟨z,hd,vs,rel,od,es,ep,q1,q2,q3,q4,q5,q6⟩:=vk I.hok e;exact⟨od,⟨q2,es,ep,q3,kv_pairs rel q5⟩,hd,yX I (by rw[e];exact True.intro) ⟨rfl,fun _ _=>rfl⟩ ⟨_,q1⟩ (XG q1),q1,fun es' ep' h=>by rw[q3] at h;cases h;exact W9 q4⟩
end
section
variable {prog:Program}{w:World}{A:Around}{E:Value->Shared->Prop}{s:Shared}
theorem WR{d b:Addr}{ks:List Key}{o:Obj}{es:Array DictEntry}{ep:Nat}{hs:Int}{Q:Option Nat->Shared->Prop}(hkey:(tupleKind (zv prog w)).is s.heap ks b)(hu:A.units<cLine)
  (ho:s.heap.get? d=some o) (hd:o.data=.dict es ep) (hi:∀ e∈es,∃ i t,e.key=.int i t) (hnone:Q none s):wpAny (model prog w) A (dictFind d (.ref b) hs) Q E s:=by
 have hT:s.heap.IsTuple b (Classical.choose (Classical.choose_spec hkey)):=by
  obtain⟨n,t1,t2,t3,_⟩:=Classical.choose_spec (Classical.choose_spec hkey);exact⟨_,t1,t2,n,t3⟩
 unfold dictFind;refine wpAny_holding ?_;refine wpAny_bind (wpAny_dictEntries ho hd ?_);dsimp only;have hst:∀ v∈(placesWithHash es.size (fun i=>es[i]?.map (·.hash)) hs).filterMap (fun i=>es[i]?.map (·.key)),∃ i t,v=.int i t:=by
  intro v hv;obtain⟨i,_,hi'⟩:=mem_filterMap.mp hv;cases hei:es[i]? with
  |none=>rw[hei] at hi';cases hi'
  |some e =>
   rw[hei] at hi';obtain rfl:e.key=v:=by simpa using hi'
   exact hi e (Array.mem_of_getElem? hei)
 generalize placesWithHash es.size (fun i=>es[i]?.map (·.hash)) hs=places at *;generalize places.filterMap (fun i=>es[i]?.map (·.key))=stored at *;rw[if_neg (by rw[all_cons];exact Bool.false_ne_true)];have hany:¬ (es.any fun e=>e.key == Value.ref b&&e.hash != hs)=true:=by
  rw[Array.any_eq_true'];rintro⟨e,he,hc⟩;obtain⟨i,t,e1⟩:=hi e he;rw[e1] at hc;exact nomatch hc
 rw[if_neg hany];have hne:(stored == [Value.ref b])=false:=by
  cases hh:stored == [Value.ref b] with
  |false=>rfl
  |true =>
   have:=eq_of_beq hh;obtain⟨i,t,e⟩:=hst (.ref b) (by rw[this];exact mem_singleton.mpr rfl);cases e
 rw[hne];simp only[false_eq_true,if_false];refine wpAny_bind ?_;have tell:∀ {R:Bool->Shared->Prop},R false s->wpAny (model prog w) A (tableMayTell (.ref b) stored) R E s:=fun {R} h=>by
  unfold tableMayTell
  split
  ·exact wpAny_pure h
  ·refine wpAny_bind ((tupleKind (zv prog w)).quiet hkey ?_)
   simp only[Bool.not_true,false_eq_true,if_false];refine wpAny_bind ?_;refine wpAny_forIn_list _ (fun rest r s'=>s'=s/\r=(none,())/\∀ v∈rest,∃ i t,v=.int i t) _ ?_ ?_ _ _ ⟨rfl,rfl,hst⟩
   ·rintro x rest r s' ⟨rfl,rfl,hr⟩
    obtain⟨i,t,rfl⟩:=hr x mem_cons_self;refine wpAny_bind (wpAny_pure ?_);simp only[Bool.not_true,false_eq_true,if_false];exact wpAny_pure ⟨rfl,rfl,fun v hv=>hr v (mem_cons_of_mem _ hv)⟩
   ·rintro r s' ⟨rfl,rfl,_⟩
    exact wpAny_pure h
 refine tell ?_;rw[if_neg (by simp)];refine wpAny_bind ?_;refine wpAny_forIn_list _ (fun rest b s'=>s'=s/\b=(none,none)) _ ?_ ?_ _ _ ⟨rfl,rfl⟩
 ·rintro x rest r s' ⟨rfl,rfl⟩
  have nx:s'=s'/\((none:Option (Option Nat)),(none:Option Nat))=(none,none):=⟨rfl,rfl⟩;cases hei:es[x]? with
  |none=>exact wpAny_pure nx
  |some e =>
   obtain⟨i,t,e1⟩:=hi e (Array.mem_of_getElem? hei);dsimp only
   split
   ·refine wpAny_bind (wpAny_dictEpoch ho hd (wpAny_bind ?_))
    rw[e1];refine SeqAt.EqAt.int_tuple i t hT hu _ _ _ _ (wpAny_bind (wpAny_dictEpoch ho hd ?_));rw[if_neg (by simp)];simp only[false_eq_true,if_false];refine wpAny_bind (wpAny_rule ?_)
    first
     |exact wpAny_pure nx
     |(rw[if_neg (by simp)];exact wpAny_pure nx)
     |exact wpAny_bind (wpAny_pure (wpAny_pure nx))
   ·exact wpAny_pure nx
 ·rintro r s' ⟨rfl,rfl⟩
  exact wpAny_pure hnone
def NewK(prog:Program)(w:World)(h:Heap)(es:Array DictEntry)(u:Value):Prop:=(∃ k,vOf u=some k/\∀ e∈es,vOf e.key≠some k)\/∃ b ks,u=.ref b/\(tupleKind (zv prog w)).is h ks b/\∀ e∈es,∃ i t,e.key=.int i t
theorem ZH{d:Addr}{o:Obj}{es:Array DictEntry}{ep:Nat}{u r:Value}{Q:Unit->Shared->Prop}(hu:A.units+1<cLine)(ho:s.heap.get? d=some o)(hd:o.data=.dict es ep)(hk:KeysOf (wt prog w) es)(hz:es.size<=1000)(hn:NewK prog w s.heap es u)
  (q:∀ (hs:Int) (tk:Tok),((∃ k,vOf u=some k)->KeysOf (wt prog w) (es.push ⟨hs,u,r⟩))->Q () { s with heap:=s.heap.update d (Obj.mapDictKeys (·.push ⟨hs,u,r⟩)),toks:=tk }):wpAny (model prog w) A (dictSet d u r) Q E s:=by
 have hz':es.size<=sizeLine:=le_trans hz (by decide);unfold dictSet;refine wpAny_holding ?_;rcases hn with⟨k,e,hn⟩ | ⟨b,ks,rfl,hkey,hi⟩
 ·have hkey:(wt prog w).is k u=true:=decide_eq_true e
  refine wpAny_bind ((wt prog w).pyHash hkey ?_);unfold dictSetHashed;refine wpAny_holding ?_;refine wpAny_bind (wpAny_dictFind_of (s:={ s with toks:=s.toks+1 }) hkey ho hd hk ?_);have hf:es.findIdx? (fun e=>(wt prog w).is k e.key)=none:=Array.findIdx?_eq_none_iff.mpr fun e he=>decide_eq_false (hn e he);rw[hf];exact wpAny_bind (wpAny_rule (wpAny_updateDictKeys (s:={ s with toks:=s.toks+1 }) (hz:=hz') ho hd (q _ _ fun _=>hk.push hkey r)))
 ·refine wpAny_bind ((tupleKind (zv prog w)).pyHash (show A.units<cLine by omega) hkey ?_)
  unfold dictSetHashed;refine wpAny_holding ?_;refine wpAny_bind (WR (s:={ s with toks:=s.toks+(tupleKind (zv prog w)).draws ks }) hkey (by omega) ho hd hi ?_);exact wpAny_bind (wpAny_rule (wpAny_updateDictKeys (s:={ s with toks:=s.toks+(tupleKind (zv prog w)).draws ks }) (hz:=hz') ho hd (q _ _ fun⟨k,e⟩=>nomatch e)))
theorem V5{d:Addr}{vs:List (Key×Value)}{b:Bool}{r:Value}{Q:Unit->Shared->Prop}(hm:s.heap.DictOf (zv prog w) d vs)(hin:(.inl (boI b):Key)∈vs.map (·.1))
  (hQ:∀ h',h'.DictOf (zv prog w) d (stored vs (.inl (boI b)) r)->Heap.SameBut d s.heap h'->Q () { s with heap:=h',toks:=s.toks+1 }):wpAny (model prog w) A (dictSet d (.bool b) r) Q E s:=by
 obtain⟨o,es,ep,ho,hc,hd,hk,hp,hn⟩:=hm;unfold dictSet;refine wpAny_holding ?_;have hkey:(wt prog w).is (some (.inl (boI b))) (.bool b)=true:=decide_eq_true rfl;refine wpAny_bind ((wt prog w).pyHash hkey ?_);unfold dictSetHashed;refine wpAny_holding ?_;refine wpAny_bind (wpAny_dictFind_of (s:={ s with toks:=s.toks+1 }) hkey ho hd (W9 hk) ?_);have hf:es.findIdx? (fun e=>(wt prog w).is (some (.inl (boI b))) e.key)=es.findIdx? (fun e=>(zv prog w).is (.inl (boI b)) e.key):=by
  obtain⟨l⟩:=es;simp only[List.findIdx?_toArray];have hk':∀ e∈l,∃ k,wu k e.key=true:=fun e he=>by obtain⟨k,h,_⟩:=hk e (by simpa using he);exact⟨k,h⟩
  clear hp hd hk
  induction l with
  |nil=>rfl
  |cons e l ih =>
   rw[List.findIdx?_cons,List.findIdx?_cons,ih fun e h=>hk' e (mem_cons_of_mem _ h)];have:(wt prog w).is (some (.inl (boI b))) e.key=(zv prog w).is (.inl (boI b)) e.key:=by
    obtain⟨k,h⟩:=hk' e mem_cons_self;rcases zN h with⟨i,t,_,e1⟩ | ⟨x,t,_,e1⟩
    ·rw[e1,wb]
     show decide (some (some (Sum.inl i:Key))=some (some (.inl (boI b))))=wu _ _;by_cases c:i=boI b
     ·rw[c,decide_eq_true rfl,uB]
     ·rw[decide_eq_false fun z=>c (by injection z with z;injection z with z;injection z)]
      cases hh:wu (.inl (boI b)) (.int i t) with
      |false=>rfl
      |true =>
       rcases zN hh with⟨j,u,e2,e3⟩ | ⟨y,u,e2,_⟩
       ·injection e2 with e2;injection e3 with e3 _;exact absurd (e3.trans e2.symm) c
       ·cases e2
    ·rw[e1,wb]
     rfl
   rw[this]
 have hidx:(es.findIdx? fun e=>(zv prog w).is (.inl (boI b)) e.key)=vs.findIdx? fun kv=>decide (kv.1=(.inl (boI b):Key)):=by
  rw[<- hp.findIdx];obtain⟨l⟩:=es;simp
 rw[hf];cases hi:es.findIdx? fun e=>(zv prog w).is (.inl (boI b)) e.key with
 |none=>exact absurd hin (not_mem_of_findIdx_none (hidx ▸ hi))
 |some i =>
  refine wpAny_bind (wpAny_rule (wpAny_bind (wpAny_updateDict (s:={ s with toks:=s.toks+1 }) ho hd (wpAny_point (hQ _ ⟨_,_,ep,Heap.get?_update_self _ ho (Obj.isFreed_of_dict (Obj.data_mapDict hd _)),
   hc.mapDict _,Obj.data_mapDict hd _,hk.modify _ _,?_,?_⟩ (Heap.SameBut.update ..))))))
  ·rw[stored,if_pos (any_of_findIdx_some (hidx ▸ hi))]
   have hl:(es.toList.findIdx? fun e=>(zv prog w).is (.inl (boI b)) e.key)=some i:=by rw[<- hi];obtain⟨l⟩:=es;simp
   have:=hp.modify hn hl r;obtain⟨l⟩:=es
   simpa using this
  ·rw[stored,if_pos (any_of_findIdx_some (hidx ▸ hi)),keys_map_store];exact hn
theorem Vl{a:Addr}{u r:Value}{Q:Unit->Shared->Prop}(ty:s.TypeIs (.ref a) "dict")(h:wpAny (model prog w) A.in1 (dictSet a u r) (fun _ s'=>Q () s') E s):wpAny (model prog w) A (setItem (.ref a) u r) Q E s:=by
 unfold setItem;refine wpAny_holding ?_;refine wpAny_bind (wpAny_sequenceKey ty (by decide) ?_);refine wpAny_bind (wpAny_callSpecial?_slot (name:=Str.ofString "__setitem__") ty slot_dict_setitem
  (wpAny_call_entry slot_dict_setitem ty entry_dict_setitem ?_ (args_dict_setitem _ _ _)))
 show wpAny _ _ (Builtin.Dict.notOrdered "__setitem__" ⟨[.ref a,u,r],[]⟩ >>= _) _ _ s;refine wpAny_bind (wpAny_notOrdered_dict ty ?_);show wpAny _ _ (dictSet a u r >>= _) _ _ s;exact wpAny_bind (wpAny_mono h (fun _ s' q=>wpAny_pure ⟨.none,rfl,wpAny_pure q⟩) fun _ _ x=>x)
theorem Paired.app{α β:Type}{F:α->β->Prop}{as as':List α}{bs bs':List β}(h:Paired F as bs)(h':Paired F as' bs'):Paired F (as++as') (bs++bs'):=by
 induction h with
 |nil=>exact h'
 |cons a _ ih=>exact .cons a ih
abbrev zby(p:V×V)(e:DictEntry):Prop:=RelV p.1 e.key/\RelV p.2 e.val
theorem UI{d I:Addr}{fp wr:List Addr}{n:Nat}{Is:Nat->Value->Prop}{St:Nat->Heap->Prop}{R:Except Value Flow->Shared->Prop}(W:Walks prog w A.in1 I fp wr n Is St)(nf:d∉fp)(kvs:List (V×V))(hk:kvs.length=n)(hz:n<=1000)(hu:A.in1.units+1<cLine)
  (h0:Heap) (hI:∀ i v,Is i v->∃ q k x kv o y,v=.ref q/\kvs[i]?=some kv/\RelV kv.1 k/\RelV kv.2 x/\h0.get? q=some o/\o.cls=.type "tuple" /\ o.data=.seq #[k,x] y)
  (hq:∀ i v q,Is i v->v=.ref q->q∉wr/\q≠d)
  (hN:∀ (j:Nat) (kv:V×V) (k:Value) (es:Array DictEntry) (h:Heap),kvs[j]?=some kv->RelV kv.1 k->Paired zby (kvs.take j) es.toList->(∀ b o,b∉wr->b≠d->h0.get? b=some o->h.get? b=some o)->NewK prog w h es k/\(j+1<n->∃ kk,vOf k=some kk)) :
  ∀ (r j:Nat) (t:Shared) (tk0:Tok),j+r=n->St j t.heap->(∃ o es ep,t.heap.get? d=some o/\o.ExactDict/\o.data=.dict es ep/\Paired zby (kvs.take j) es.toList/\(j<n->KeysOf (wt prog w) es))->(∀ b o,b∉wr->b≠d->h0.get? b=some o->t.heap.get? b=some o) ->
   (∀ h' tk od,OdP od kvs->h'.get? d=some od->(∀ b o,b∉wr->b≠d->t.heap.get? b=some o->h'.get? b=some o)->R (.ok (.ret .none)) { t with heap:=h',toks:=tk }) ->
   codeAny (model prog w) A (.builtin "dict.update.loop" ⟨[.ref d,.ref I,.int (j:Int) tk0,.none],[]⟩) R t:=by
 have nw:d∉wr:=fun z=>nf (W.sub _ z);intro r
 induction r with
 |zero =>
  intro j t tk0 hj st hd keep fin;have ej:j=n:=by omega
  subst ej;refine codeAny_builtin entry_dul (by
   rw[Around.under_plainId plain_dul _];show wpAny _ A.in1 (pyNext (.ref I) >>= _) _ _ t;refine wpAny_bind (W.done t _ _ st fun h1 tk kk=>?_);show wpAny _ A.in1 (Builtin.Dict.addKeywords d [] >>= _) _ _ _;obtain⟨o,es,ep,ho,hc,hda,hp,_⟩:=hd;rw[<- hk,take_length] at hp;exact wpAny_bind (wpAny_pure (wpAny_pure (fin h1 tk o ⟨hc,es,ep,hda,hp⟩ (kk d o nw ho) fun b o n1 _ e=>kk b o n1 e))))
 |succ r ih =>
  intro j t tk0 hj st hd keep fin;refine codeAny_builtin entry_dul (by
   rw[Around.under_plainId plain_dul _];show wpAny _ A.in1 (pyNext (.ref I) >>= _) _ _ t;refine wpAny_bind (W.item j t _ _ (by omega) st fun v h1 tk iv st1 kk=>?_);obtain⟨q,k,x,kv,o,y,rfl,hkv,rk,rx,hq0,hc,hs⟩:=hI j v iv;obtain⟨nq1,nq2⟩:=hq j _ q iv rfl;have hq1:=kk q o nq1 (keep q o nq1 nq2 hq0);obtain⟨od,es,ep,hod,hoc,hda,hp,hks⟩:=hd;have hod1:=kk d od nw hod;have keep1:∀ b o,b∉wr->b≠d->h0.get? b=some o->h1.get? b=some o:=fun b o n1 n2 e=>kk b o n1 (keep b o n1 n2 e);obtain⟨nk,nb⟩:=hN j kv k es h1 hkv rk hp keep1;have les:es.size<=1000:=by
    have e1:=Paired.length hp;rw[length_take] at e1;have e2:es.toList.length=es.size:=length_toList;omega
   show wpAny _ A.in1 (holding [Value.ref q] (tryCatch (Builtin.Dict.pairItems (Value.ref q)) _ >>= _) >>= _) _ _ _;refine wpAny_bind (wpAny_holding (wpAny_bind (wpAny_tryCatch ?_)));unfold Builtin.Dict.pairItems;refine wpAny_bind (wpAny_typeOf (T := "tuple") ⟨o,hq1,hc⟩ ?_);rw[if_pos (by decide)];refine wpAny_bind (wpAny_seqItems hq1 hs (wpAny_pure ?_));show wpAny _ A.in1 (holding [k,x] (dictSet d k x)) _ _ _;refine wpAny_holding (ZH (s:={ t with heap:=h1,toks:=tk }) hu hod1 hda (hks (by omega)) les nk fun hs' tk2 hk2=>?_);show wpAny _ A.in1 (pure _) _ _ _;have sb:=Heap.SameBut.update (h:=h1) (a:=d) (f:=Obj.mapDictKeys (·.push ⟨hs',k,x⟩));have g1:(h1.update d (Obj.mapDictKeys (·.push ⟨hs',k,x⟩))).get? d=some (od.mapDictKeys (·.push ⟨hs',k,x⟩)):=Heap.get?_update_self _ hod1 (Obj.isFreed_of_dict (Obj.data_mapDictKeys hda _));refine wpAny_pure ⟨plainId_quiet plain_dul _,ih (j+1) _ _ (by omega) (W.frame _ _ _ st1 fun b hb o e=>?_) ⟨_,_,_,g1,hoc.mapDictKeys _,Obj.data_mapDictKeys hda _,?_,fun hlt=>hk2 (nb hlt)⟩ (fun b o n1 n2 e=>?_) fun h3 tk3 od3 hd3 g3 kk3=>fin h3 tk3 od3 hd3 g3 fun b o n1 n2 e=>kk3 b o n1 n2 ?_⟩
   ·exact(sb.2 b fun z=>nf (z ▸ hb)).trans e
   ·rw[take_add_one,hkv,toList_push]
    exact Paired.app hp (.cons ⟨rk,rx⟩ .nil)
   ·exact(sb.2 b n2).trans (keep1 b o n1 n2 e)
   ·exact(sb.2 b n2).trans (kk b o n1 e))
end
inductive KyN (H:Hp) (ks:List V):V->Prop where
 |non:KyN H ks .non
 |bl (b:Bool) (h:V.int (boI b)∉ks):KyN H ks (.bl b)
 |int (i:Int) (h:V.int i∉ks):KyN H ks (.int i)
 |str (x:Str):KyN H ks (.str x)
 |tup (b:Addr) (i:Int) (e:H b=some (.tup [.int i])):KyN H ks (.ref b)
section
variable {X:Cx}{pins:List (Addr×Obj)}{σ:St}{H:Hp}{s:Shared}
theorem xU{i:Int}{u:Value}(r:RelV (.int i) u):vOf u=some (some (.inl i)):=by
 obtain⟨t,rfl⟩:=(show ∃ t,u=Value.int i t from r);rfl
theorem vy{α β:Type}{F:α->β->Prop}:∀ {as:List α}{bs:List β},Paired F as bs->∀ b∈bs,∃ a∈as,F a b
 |_,_,.cons h t,b,hb=>by
  rcases mem_cons.mp hb with z | z
  ·rw[z];exact⟨_,mem_cons_self,h⟩
  ·obtain⟨a,h1,h2⟩:=vy t b z
   exact⟨a,mem_cons_of_mem _ h1,h2⟩
theorem KyN.new{kvs:List (V×V)}{es:Array DictEntry}{y:V}{u:Value}{h:Heap}(ky:KyN H (kvs.map (·.1)) y)(hi:∀ k∈kvs.map (·.1),∃ i,k=.int i)(ru:RelV y u)(hp:Paired zby kvs es.toList)(hk:∀ b i,H b=some (.tup [.int i])->(tupleKind (zv X.prog X.w)).is h [.inl i] b):NewK X.prog X.w h es u:=by
 have hs:∀ e∈es,∃ i,V.int i∈kvs.map (·.1)/\RelV (.int i) e.key:=fun e he=>by
  obtain⟨p,h1,h2⟩:=vy hp e (Array.mem_toList_iff.mpr he);have h3:p.1∈kvs.map (·.1):=mem_map.mpr ⟨p,h1,rfl⟩;obtain⟨i,e1⟩:=hi _ h3;exact⟨i,by rw[<- e1];exact h3,by rw[<- e1];exact h2.1⟩
 cases ky with
 |non =>
  cases (show u=Value.none from ru);refine .inl ⟨none,rfl,fun e he z=>?_⟩;obtain⟨i,_,r⟩:=hs e he;rw[xU r] at z;cases z
 |bl b hb =>
  cases (show u=Value.bool b from ru);refine .inl ⟨_,rfl,fun e he z=>?_⟩;obtain⟨i,h1,r⟩:=hs e he;rw[xU r] at z;injection z with z;injection z with z;injection z with z;rw[z] at h1;exact hb h1
 |int i hi' =>
  refine .inl ⟨_,xU ru,fun e he z=>?_⟩;obtain⟨j,h1,r⟩:=hs e he;rw[xU r] at z;injection z with z;injection z with z;injection z with z;rw[z] at h1;exact hi' h1
 |str x =>
  obtain⟨t,rfl⟩:=(show ∃ t,u=Value.str x t from ru);refine .inl ⟨_,rfl,fun e he z=>?_⟩;obtain⟨j,h1,r⟩:=hs e he;rw[xU r] at z;injection z with z;injection z with z;injection z
 |tup b i e =>
  cases (show u=Value.ref b from ru);refine .inr ⟨b,[.inl i],rfl,hk b i e,fun e he=>?_⟩;obtain⟨j,_,r⟩:=hs e he;obtain⟨t,e1⟩:=(show ∃ t,e.key=Value.int j t from r);exact⟨j,t,e1⟩
def zam(td ty tv:TE):TS:=fun D σ H=>tv σ H fun v H1=>td σ H1 fun x H2=>ty σ H2 fun y H3=>∃ a,x=.ref a/\((∃ H4,DPut H3 a y v H4/\D.nx σ H4) \/
 (∃ kvs:List (Key×V),H3 a=some (.dK kvs)/\(∀ p∈kvs,∃ i,p.1=.inl i)/\kvs.length<=1000/\KyN H3 (kvs.map fun p=>kV p.1) y/\∀ od,OdP od ((kvs.map fun p=>(kV p.1,p.2))++[(y,v)])->(a == sysModules)=false->D.nx σ (upd H3 a (hOd a od))) \/
 ∃ (kvs:List (Key×V)) (b:Bool),H3 a=some (.dK kvs)/\y=.bl b/\(.inl (boI b):Key)∈kvs.map (·.1)/\kvs.length<=1000/\D.nx σ (upd H3 a (.dK (putK kvs (.inl (boI b)) v))))
theorem vm{o i value:Expr}{td ty tv:TE}{pos pos':Pos}(hu:X.A.units+2<cLine)(ho:Bx (PE X o td))(hi:Bx (PE X i ty))(hv:Bx (PE X value tv))(hs:swapsWith value (some (.Subscript o i pos')) pos.line X.env=pure false):Bx (PS X (.Assign [.Subscript o i pos'] value pos) (zam td ty tv)):=by
 have ho:=ho.of;have hi:=hi.of;have hv:=hv.of;refine⟨?_⟩;intro pins s σ H D I h;refine wpAny_Assign_Subscript (thn (hv pins s σ H _ I h) fun r s1 ⟨v,H1,I1,rv,q1⟩=>thn (ho pins s1 σ H1 _ I1 q1) fun u s2 ⟨x,H2,I2,rx,q2⟩=>thn (hi pins s2 σ H2 _ I2 q2) fun iv s3 hq0=>?_) hs;obtain⟨y,H3,I3,ry,a,ex,q3⟩:=hq0;subst ex;obtain rfl:u=Value.ref a:=rx;rcases q3 with⟨H4,g,q3⟩ | ⟨kvs,e,hint,hl,ky,q3⟩ | ⟨kvs,b,e,rfl,hin,hl,q3⟩
 ·exact uI (by omega) I3 g ry rv fun s4 I4=>⟨σ,H4,I4,q3⟩
 ·obtain⟨od,⟨o1,es,ep,o2,o3⟩,hd,I4,g0,hks⟩:=I3.raw e
  have ty:s3.TypeIs (.ref a) "dict" := ⟨od,g0,o1.1⟩;have les:es.size=kvs.length:=by
   have e1:=Paired.length o3;rw[length_map] at e1;exact e1.symm
  refine Vl ty (ZH (by rw[yd];omega) g0 o2 (hks es ep o2) (by omega) (KyN.new (X:=X) (H:=H3) (kvs:=kvs.map fun p=>(kV p.1,p.2)) (by rw[map_map];exact ky) (fun k hk=>?_) ry o3 fun b i eb=>xD (ks:=[.inl i]) I3.hok eb) fun hs tk _=>?_)
  ·rw[map_map] at hk
   obtain⟨p,h1,rfl⟩:=mem_map.mp hk;obtain⟨i,h2⟩:=hint p h1;exact⟨i,by show kV p.1=_;rw[h2];rfl⟩
  ·have g1:(s3.heap.update a (Obj.mapDictKeys (·.push ⟨hs,iv,r⟩))).get? a=some (od.mapDictKeys (·.push ⟨hs,iv,r⟩)):=Heap.get?_update_self _ g0 (Obj.isFreed_of_dict (Obj.data_mapDictKeys o2 _))
   refine⟨σ,_,yX I3 (by rw[e];exact True.intro) (Heap.SameBut.update ..) ⟨_,g1⟩ (XG g1),q3 _ ⟨o1.mapDictKeys _,_,_,Obj.data_mapDictKeys o2 _,?_⟩ hd⟩;rw[toList_push];exact Paired.app o3 (.cons ⟨ry,rv⟩ .nil)
 ·obtain⟨z,hd,vs,rel,dd⟩:=vk I3.hok e
  cases (show iv=Value.bool b from ry);refine Vl dd.typeIs (V5 dd ?_ fun h' dd' hs=>?_)
  ·have e1:kvs.map (·.1)=vs.map (·.1):=by
    clear hin q3 hl dd z e
    induction rel with
    |nil=>rfl
    |cons r _ ih=>rw[map_cons,map_cons,ih,r.1]
   rw[<- e1];exact hin
  ·have he:∃ q,h'.get? a=some q:=let ⟨q,_,_,hq,_⟩:=dd';⟨q,hq⟩
   have hl:(putK kvs (.inl (boI b)) v).length<=sizeLine:=by
    have:=yn kvs (.inl (boI b)) v;exact le_trans (show _<=1001 by omega) (by decide)
   exact⟨σ,_,yX I3 (by rw[e];exact True.intro) hs he (wn hl hd (rel.put _ rv) dd'),q3⟩
def KsOk(H:Hp)(ks:List V):Prop:=∀ (j:Nat) (y:V),ks[j]?=some y->(∀ k∈ks.take j,∃ i,k=V.int i)/\KyN H (ks.take j) y
def zav(A:Around):List V->Hp->VK->Prop:=fun xs H Q=>∃ (a:Addr) (qs:List Addr) (kvs:List (V×V)),xs=[V.ref a]/\H a=some (.lst (qs.map V.ref))/\qs.length=kvs.length/\kvs.length<=1000/\A.units+5<cLine/\KsOk H (kvs.map (·.1))/\(∀ (i:Nat) (q:Addr) (kv:V×V),qs[i]?=some q->kvs[i]?=some kv->H q=some (.tup [kv.1,kv.2])) /\
 ∀ p od,H p=none->OdP od kvs->(p == sysModules)=false->Q (.ref p) (upd H p (hOd p od))
theorem Yq(hc:X.calm=true):yS X (.type "dict") (zav X.A):=by
 intro pins s σ H xs us Q I r h;obtain⟨a,qs,kvs,rfl,ha,hl,hz,hun,hks,hq,k⟩:=h;obtain⟨u,rfl,ru⟩:=r.one;cases ru;obtain⟨its,rv,pl,_⟩:=I.list (sO ha);have hA:X.A.handled=none:=I.ok.hd hc;refine callType_codes (Q₁:=fun obj s₁=>obj=.ref s.heap.objs.size/\s₁={ s with heap:=s.heap.push { cls:=.type "dict",data:=.dict #[] } }) F.kt_called_dict (F.kt_typeCall_dict_1 _) F.entry_dict_init (kt_code_dict_new _ ⟨rfl,rfl⟩) ?_;rintro obj s₁ ⟨rfl,rfl⟩;have hnew:(s.heap.push { cls:=.type "dict",data:=.dict #[] }).DictOf (zv X.prog X.w) s.heap.objs.size []:=Heap.DictOf.new s.heap;have lt:a<s.heap.objs.size:=by
  obtain⟨_,e,_⟩:=pl.isList;exact Heap.lt_size e
 have pl1:PlainL (s.heap.push { cls:=.type "dict",data:=.dict #[] }) a its.toArray:=by
  obtain⟨o,n,e,r⟩:=pl;exact⟨o,n,Heap.get?_push_of_some _ e,r⟩
 refine⟨hnew.typeIs,F.args_dict_init_2 _ _,?_⟩;unfold Builtin.«dict.__init__»;refine wpAny_bind ?_;unfold Builtin.Dict.selfAndRest;refine wpAny_bind (wpAny_notOrdered_dict hnew.typeIs ?_);show wpAny _ _ (pure (s.heap.objs.size,[Value.ref a])) _ _ _;refine wpAny_pure ?_;show wpAny _ _ (Builtin.Dict.updateFrom "dict.__init__" s.heap.objs.size (.ref a) [] .none) _ _ _;unfold Builtin.Dict.updateFrom;obtain⟨o,n,e,oc,od,os⟩:=pl1;refine wpAny_bind (wpAny_typeOf (T := "list") ⟨o,e,oc⟩ ?_);rw[if_pos (by decide)];refine wpAny_bind (Xg ⟨o,n,e,oc,od,os⟩ hA fun h1 tk1 kk1=>?_);have hl1:h1.IsList a its.toArray:=⟨o,kk1 _ _ e,oc,n,os⟩;show wpAny _ _ (rule _ >>= _) _ _ _;refine wpAny_bind (wpAny_rule (wpAny_bind (wpAny_pyIter_list hl1 ?_)));have nd0:(s.heap.push { cls:=.type "dict",data:=.dict #[] }).get? s.heap.objs.size=some { cls:=.type "dict",data:=.dict #[] }:=Heap.get?_push_size _ rfl;have nd1:=kk1 _ _ nd0;have ltd:s.heap.objs.size<h1.objs.size:=Heap.lt_size nd1;have lta:a<h1.objs.size:=lt_trans lt ltd;have len:its.toArray.size=kvs.length:=by
  have e1:=rv.length;rw[length_map] at e1;simp;omega
 have W:=Walks.list (prog:=X.prog) (w:=X.w) (A:=X.A.in1.in1) hA h1.objs.size a (ne_of_lt lta) its.toArray;have st:((h1.push { cls:=.type "list_iterator",data:=.fields #[.ref a,.int 0 0] }).IsListIter h1.objs.size a 0/\(h1.push { cls:=.type "list_iterator",data:=.fields #[.ref a,.int 0 0] }).IsList a its.toArray):=⟨⟨_,Heap.get?_push_size _ rfl,rfl,rfl⟩,hl1.push _⟩;have nf:s.heap.objs.size∉[h1.objs.size,a]:=by
  intro z;rcases mem_cons.mp z with z | z
  ·exact lt_irrefl _ (z ▸ ltd)
  ·exact lt_irrefl _ ((mem_singleton.mp z) ▸ lt)
 have item:∀ (i:Nat) (v:Value),its.toArray[i]?=some v->∃ q:Addr,v=Value.ref q/\qs[i]?=some q:=fun i v hv=>by
  have hv:its[i]?=some v:=by simpa using hv
  obtain⟨x,hx,rx⟩:=xK rv hv;rw[List.getElem?_map] at hx;obtain⟨q,hq,rfl⟩:=map_eq_some_iff.mp hx;exact⟨q,rx,hq⟩
 have tup:∀ (i:Nat) (q:Addr),qs[i]?=some q->∃ k x kv o y,kvs[i]?=some kv/\RelV kv.1 k/\RelV kv.2 x/\s.heap.get? q=some o/\o.cls=.type "tuple" /\ o.data=.seq #[k,x] y:=fun i q hi=>by
  have hlt:i<kvs.length:=by rw[<- hl];exact(List.getElem?_eq_some_iff.mp hi).1
  have hkv:=List.getElem?_eq_getElem hlt;obtain⟨its,rv,it,_⟩:=I.tuple (sP (hq i q _ hi hkv));cases rv with | cons r1 rv =>
  cases rv with | cons r2 rv =>
  cases rv;obtain⟨o,e,oc,n,od⟩:=it;exact⟨_,_,_,o,n,hkv,r1,r2,e,oc,od⟩
 refine wpAny_pure ⟨plainId_quiet plain_dul _,UI (A:=X.A.in1) W nf kvs len.symm (by omega) (by rw[yd,yd];omega) s.heap ?_ ?_ ?_ its.toArray.size 0 _ 0 (by omega) st ⟨_,#[],0,Heap.get?_push_of_some _ nd1,?_,rfl,.nil,fun _ e he=>nomatch he⟩ ?_ ?_⟩
 ·intro i v hv
  obtain⟨q,rfl,hq'⟩:=item i v hv;obtain⟨k,x,kv,o,y,h1,h2,h3,h4,h5,h6⟩:=tup i q hq';exact⟨q,k,x,kv,o,y,rfl,h1,h2,h3,h4,h5,h6⟩
 ·intro i v q hv ev
  obtain⟨q',rfl,hq'⟩:=item i v hv;cases ev;obtain⟨k,x,kv,o,y,_,_,_,e1,_⟩:=tup i _ hq';have l1:=Heap.lt_size e1;exact⟨fun z=>by rw[mem_singleton.mp z] at l1;exact lt_irrefl _ (lt_trans l1 ltd),fun z=>by rw[z] at l1;exact lt_irrefl _ l1⟩
 ·intro j kv k es h hkv rk hp keep
  have hj:(kvs.map (·.1))[j]?=some kv.1:=by rw[List.getElem?_map,hkv];rfl
  obtain⟨a1,a2⟩:=hks j _ hj;rw[<- map_take] at a1 a2;refine⟨KyN.new (X:=X) a2 a1 rk hp fun b i eb=>?_,fun hlt=>?_⟩
  ·obtain⟨o,its,n,t1,t2,t3,t4⟩:=xD (ks:=[.inl i]) I.hok eb
   have l1:=Heap.lt_size t1;exact⟨o,its,n,keep b o (fun z=>by rw[mem_singleton.mp z] at l1;exact lt_irrefl _ (lt_trans l1 ltd)) (fun z=>by rw[z] at l1;exact lt_irrefl _ l1) t1,t2,t3,t4⟩
  ·have hj1:j+1<(kvs.map (·.1)).length:=by rw[length_map];omega
   obtain⟨i,e⟩:=(hks (j+1) _ (List.getElem?_eq_getElem hj1)).1 kv.1 (by rw[take_add_one,hj];exact mem_append.mpr (.inr (mem_singleton.mpr rfl)));rw[e] at rk;exact⟨_,xU rk⟩
 ·exact⟨rfl,rfl,rfl⟩
 ·intro b o n1 n2 e
  exact Heap.get?_push_of_some _ (kk1 _ _ (Heap.get?_push_of_some _ e))
 ·intro h' tk od' hd' g' kk'
  refine⟨rfl,?_⟩;refine⟨.ref s.heap.objs.size,_,I.laid (a:=s.heap.objs.size) (o:=hOd s.heap.objs.size od') (t':=tk) (fun b o e=>?_) (Nat.le_refl _) (XG g'),rfl,k _ _ (I.hok.fresh (Nat.le_refl _)) hd' (beq_eq_false_iff_ne.mpr (Ne.symm (ne_of_lt I.big)))⟩;have l1:=Heap.lt_size e;refine kk' b o (fun z=>?_) (fun z=>?_) (Heap.get?_push_of_some _ (kk1 _ _ (Heap.get?_push_of_some _ e)))
  ·rw[mem_singleton.mp z] at l1
   exact lt_irrefl _ (lt_trans l1 ltd)
  ·rw[z] at l1
   exact lt_irrefl _ l1
def ItR(d:Addr)(od:Obj)(kvs:List (V×V)):It :=
 ⟨fun i H=>H d=some (hOd d od)/\i<kvs.length,fun i H x H'=>∃ kv p,kvs[i]?=some kv/\H p=none/\x=.ref p/\H'=upd H p (.tup [kv.1,kv.2]),fun i H=>H d=some (hOd d od)/\kvs.length<=i⟩
theorem yb{α β:Type}{F:α->β->Prop}:∀ {as:List α}{bs:List β},Paired F as bs->∀ {i:Nat}{a:α},as[i]?=some a->∃ b,bs[i]?=some b/\F a b
 |_,_,.cons h _,0,_,e=>by cases e;exact⟨_,rfl,h⟩
 |_,_,.cons _ t,i+1,a,e=>by simpa using yb t (i:=i) (a:=a) (by simpa using e)
 |_,_,.nil,i,_,e=>by simp at e
theorem u3{P:Program}{w:World}{K:W.Frag}{es0:List Expr}{n:Nat}{tp:Pos}{it d:Addr}{od:Obj}{kvs:List (V×V)}{es:Array DictEntry}{ep:Nat}(hed:od.ExactDict)(hda:od.data=.dict es ep)(hp:Paired zby kvs es.toList) :
  Turn P w K (.Tuple es0 n tp) (ItR d od kvs) [it] it (fun i h=>∃ ok ov,IsItemIter h it d i es.size ep ok ov) where
 mem:=by simp
 obj:=fun i h ⟨ok,ov,st⟩ b hb=>by
  rw[mem_singleton.mp hb];exact⟨_,st,fun v z=>by
   have z':Data.fields _=Data.cell v:=z;cases z'⟩
 keep:=fun i h h' ⟨ok,ov,st⟩ k=>⟨ok,ov,k it (by simp) _ st⟩
 item:=by
  intro X hP hw hK hc i pins s σ H E I hf st hg;subst hP hw hK;obtain⟨ok,ov,st⟩:=st;have fi:=hf it (by simp);have d3:=(I.hok d _ hg.1).1;have hx:kvs[i]?=some (kvs[i]'hg.2):=List.getElem?_eq_getElem hg.2;obtain⟨e,he,r1,r2⟩:=yb hp hx;rw[Array.getElem?_toList] at he;refine Ua st ⟨od,d3,hed,hda⟩ he fun h1 O1 T1 z1 kk=>?_;refine⟨_,rfl,wpAny_letOwnedTupleGo_items (s:={ s with heap:=h1 }) O1 fun h2 E2 sb=>?_⟩;have te:s.heap.objs.size≠it:=(ne_of_lt (Heap.lt_size st)).symm;have T2:=sb.extBut _ _ te T1;have k2:∀ c o,c∉[it]->s.heap.get? c=some o->h2.get? c=some o:=fun c o hc q=>by
   have hc:c≠it:=by simpa using hc
   exact sb.extBut c o hc (kk c o hc q)
  have hn:H s.heap.objs.size=none:=I.fresh;refine⟨.ref s.heap.objs.size,upd H s.heap.objs.size (.tup [(kvs[i]'hg.2).1,(kvs[i]'hg.2).2]),I.turnedLaid (t':=s.toks) (ch:=[it]) hf k2 (Nat.le_refl _) ⟨by show 2<=sizeLine;decide,[e.key,e.val],.cons r1 (.cons r2 .nil),⟨_,T2,rfl,_,rfl⟩⟩,rfl,
   ⟨_,_,hx,hn,rfl,rfl⟩,⟨_,_,E2⟩,fun c hc=>?_⟩
  rw[mem_singleton.mp hc,upd_ne te.symm];exact fi.1
 done:=by
  intro X hP hw hK hc i pins s σ H E I hf st hg;subst hP hw hK;obtain⟨ok,ov,st⟩:=st;obtain⟨f0,f1,f2,f3,f4,f5⟩:=hf it (by simp);have d3:=(I.hok d _ hg.1).1;have hle:kvs.length=es.size:=by rw[Paired.length hp,length_toList]
  exact zao (I.ok.hd hc) st ⟨od,d3,hed,hda⟩ (by have:=hg.2;omega) fun h' kk=>⟨rfl,I.turned (t':=s.toks) (fun b o hb q=>kk b o hb q) f0 f1 f3 f4 f5⟩
 self:=fun _ _ _ _ _ ⟨_,_,st⟩ h=>xq st h
def iRw(td:TE):TI:=fun σ H R=>td σ H fun x H1=>∃ (d:Addr) (od:Obj) (kvs:List (V×V)),x=.ref d/\(d == sysModules)=false/\H1 d=some (hOd d od)/\OdP od kvs/\R (ItR d od kvs) H1
theorem wH{o:Expr}{es:List Expr}{n:Nat}{tp:Pos}{td:TE}{apos cpos:Pos}(ho:Bx (PE X o td))(hbase:attributeBase o "items" X.env (eval o X.env)=eval o X.env:=by rfl)(hline:(apos.endLine == cpos.line)=true:=by rfl):Bx (PI X (.Tuple es n tp) (.Call (.Attribute o "items" apos) [] [] cpos) (iRw td)):=by
 have ho:=ho.of;refine⟨?_⟩;intro pins s σ H R I h;refine wpAny_Call_method0_late hbase hline (thn (ho pins s σ H _ I h) fun v s1 ⟨x,H1,I1,rx,d,od,kvs,ex,hd,e,⟨q2,es',ep,q3,hp⟩,q⟩=>?_);subst ex;obtain rfl:v=Value.ref d:=rx;have q1:=(I1.hok d _ e).1;have ty:s1.TypeIs (.ref d) "dict" := ⟨od,q1,q2.1⟩;refine⟨"dict", "dict.items",PySem.F.plainAttrs_dict,PySem.F.slot_dict_items,PySem.F.type_dict_items,ty,?_,Calls.callWith_builtin rfl (PySem.evalArgs_none ?_)⟩
 ·exact fun b q=>by cases q;exact⟨od,q1,q2.2.1⟩
 refine call_meetsIn PySem.F.slot_dict_items ty PySem.F.entry_dict_items (PySem.F.args_dict_items_1 _) (Wl d hd) ⟨ty,?_⟩;refine Ub (s:={ s1 with heap:=s1.heap.push _ }) (d:=d) ⟨_,Heap.get?_push_size _ rfl,rfl,rfl⟩ ⟨od,Heap.get?_push_of_some _ q1,q2,q3⟩ ?_;have hle:s1.heap.objs.size<=(s1.heap.push { cls:=.type "dict_items",data:=.fields #[.ref d] }).objs.size:=by rw[Heap.size_push];exact le_succ _
 refine⟨_,[(s1.heap.push { cls:=.type "dict_items",data:=.fields #[.ref d] }).objs.size],_,_,_,rfl,I1.kept (t':=s1.toks) fun b u q=>Heap.get?_push_of_some _ (Heap.get?_push_of_some _ q),u3 q2 q3 hp,⟨_,_,Heap.get?_push_size _ rfl⟩,fun b hb=>?_,q⟩;rw[mem_singleton.mp hb];exact I1.fpOk hle (I1.hok.fresh hle)
end
theorem Yn{d:Addr}{od:Obj}{kvs:List (V×V)}{g:TG}{tb:TS}{D:Ends}{σ:St}{H:Hp}(Pv:Nat->St->Hp->Prop)(h0:Pv 0 σ H)(hf:∀ i σ H,Pv i σ H->H d=some (hOd d od))
  (hs:∀ i kv p σ H,kvs[i]?=some kv->H p=none->Pv i σ H->g (.ref p) σ (upd H p (.tup [kv.1,kv.2])) fun σ2 H2=>tb { D with nx:=Pv (i+1),ct:=Pv (i+1),bk:=D.nx } σ2 H2) (hd:∀ σ H,Pv kvs.length σ H->D.nx σ H) :
  ∃ W:Nat->Nat->St->Hp->Prop,(∃ m,W 0 m σ H)/\∀ i m σ H,W i m σ H ->
   ((ItR d od kvs).stop i H/\D.nx σ H)\/((ItR d od kvs).go i H/\∃ N:St->Hp->Prop,(∀ σ' H',N σ' H'->∃ m',m'<m/\W (i+1) m' σ' H')/\∀ x H',(ItR d od kvs).yld i H x H'->g x σ H' fun σ2 H2=>tb { D with nx:=N,ct:=N,bk:=D.nx } σ2 H2):=by
 refine⟨fun i m σ H=>m=kvs.length-i/\i<=kvs.length/\Pv i σ H,⟨_,rfl,zero_le _,h0⟩,?_⟩;rintro i m σ H ⟨rfl,hi,p⟩;have q:=hf i σ H p;by_cases hlt:i<kvs.length
 ·refine .inr ⟨⟨q,hlt⟩,Pv (i+1),fun σ' H' z=>⟨_,by omega,rfl,hlt,z⟩,fun x H' ⟨kv,b,hk,hb,ex,eh⟩=>?_⟩
  rw[ex,eh];exact hs i kv b σ H hk hb p
 ·have e:i=kvs.length:=by omega
  subst e;exact .inl ⟨⟨q,Nat.le_refl _⟩,hd σ H p⟩
theorem Zw{d:Addr}{od:Obj}{kvs:List (V×V)}{g:TG}{tc:TT}{te:TE}{Q:VK}{D:Addr}{τ0:St}{H0:Hp}(Pv:Nat->List V->St->Hp->Prop)(h0:Pv 0 [] τ0 H0)(hf:∀ i zs τ H,Pv i zs τ H->H d=some (hOd d od))
  (hs:∀ i kv p zs τ H,kvs[i]?=some kv->H p=none->Pv i zs τ H->g (.ref p) τ (upd H p (.tup [kv.1,kv.2])) fun τ2 H4=>tc τ2 H4 fun b H5 =>
   if b=true then te τ2 H5 fun y H6=>H6 D=some (.lst zs)/\zs.length<sizeLine/\Pv (i+1) (zs++[y]) τ2 (upd H6 D (.lst (zs++[y]))) else Pv (i+1) zs τ2 H5)
  (hd:∀ zs τ H,Pv kvs.length zs τ H->Q (.ref D) H):uU (ItR d od kvs) g tc te Q D τ0 H0 :=
 va kvs.length Pv h0 (fun zs τ H p=>⟨⟨hf _ _ _ _ p,Nat.le_refl _⟩,hd zs τ H p⟩) fun i zs τ H hi p=>⟨⟨hf _ _ _ _ p,hi⟩,fun x H3 ⟨kv,b,hk,hb,ex,eh⟩=>by
  rw[ex,eh];exact hs i kv b zs τ H hk hb p⟩
theorem Yo{d:Addr}{od:Obj}{ks:List V}{g:TG}{tc:TT}{te:TE}{Q:VK}{D:Addr}{τ0:St}{H0:Hp}(Pv:Nat->List V->St->Hp->Prop)(h0:Pv 0 [] τ0 H0)(hf:∀ i zs τ H,Pv i zs τ H->H d=some (hOd d od))
  (hs:∀ i x zs τ H,ks[i]?=some x->Pv i zs τ H->g x τ H fun τ2 H4=>tc τ2 H4 fun b H5 =>
   if b=true then te τ2 H5 fun y H6=>H6 D=some (.lst zs)/\zs.length<sizeLine/\Pv (i+1) (zs++[y]) τ2 (upd H6 D (.lst (zs++[y]))) else Pv (i+1) zs τ2 H5)
  (hd:∀ zs τ H,Pv ks.length zs τ H->Q (.ref D) H):uU (ItO d od ks) g tc te Q D τ0 H0 :=
 va ks.length Pv h0 (fun zs τ H p=>⟨⟨hf _ _ _ _ p,Nat.le_refl _⟩,hd zs τ H p⟩) fun i zs τ H hi p=>⟨⟨hf _ _ _ _ p,hi⟩,fun x H3 ⟨eh,hk⟩=>by
  rw[eh];exact hs i x zs τ H hk p⟩
--NEXT
inductive Cm0 (H:Hp):V->Prop where
 |non:Cm0 H .non
 |int (i:Int):Cm0 H (.int i)
 |bl (b:Bool):Cm0 H (.bl b)
 |str (x:Str):Cm0 H (.str x)
 |lst {a:Addr}{xs:List V}(e:H a=some (.lst xs)):Cm0 H (.ref a)
inductive Cmp (H:Hp):V->Prop where
 |fl {v:V}(h:Cm0 H v):Cmp H v
 |dK {a:Addr}{kvs:List (Key×V)}(e:H a=some (.dK kvs)):Cmp H (.ref a)
 |tup {a:Addr}{xs:List V}(e:H a=some (.tup xs)) (h:∀ x∈xs,Cm0 H x):Cmp H (.ref a)
section
variable {X:Cx}{pins:List (Addr×Obj)}{σ:St}{H:Hp}{s:Shared}{A:Around}
theorem Inv.isl{a:Addr}{xs:List V}(I:Inv X pins σ H s)(e:H a=some (.lst xs)):∃ its:List Value,s.heap.IsList a its.toArray:=by
 obtain⟨_,its,n,_,h1⟩:=(show ObjOk X.prog X.w H s.heap a (.lst xs) from I.hok a _ e);exact⟨its,_,h1,rfl,n,rfl⟩
theorem UN{y:V}{u:Value}{j:Int}{t:Tok}(I:Inv X pins σ H s)(c:Cm0 H y)(r:RelV y u)(hu:A.units<cLine):∃ b,SeqAt.EqAt A s u (.int j t) b:=by
 cases c with
 |non=>cases (show u=Value.none from r);exact⟨_,SeqAt.EqAt.none_int _ _⟩
 |int i=>obtain⟨t',rfl⟩:=(show ∃ t,u=Value.int i t from r);exact⟨_,SeqAt.EqAt.int_int _ _ _ _⟩
 |bl b=>cases (show u=Value.bool b from r);exact⟨_,SeqAt.EqAt.bool_int _ _ _⟩
 |str x=>obtain⟨t',rfl⟩:=(show ∃ t,u=Value.str x t from r);exact⟨_,SeqAt.EqAt.str_int _ _ _ _⟩
 | @lst a xs e =>
  cases (show u=Value.ref a from r);obtain⟨its,h⟩:=I.isl e;exact⟨_,SeqAt.EqAt.list_int _ _ h hu⟩
open PySem.SeqAt in
theorem WY{y:V}{u:Value}{p:Addr}{i j:Int}(I:Inv X pins σ H s)(c:Cmp H y)(r:RelV y u)(hp:H p=some (.tup [.int i,.int j]))(hu:A.units+1<cLine):∃ b,EqAt A s u (.ref p) b:=by
 obtain⟨_,ips,rp,⟨cp,dp,tp,sp⟩,g1,g2,np,g3⟩:=(show ObjOk X.prog X.w H s.heap p (.tup [.int i,.int j]) from I.hok p _ hp);dsimp only at g2 g3;subst g2 g3;have hT:s.heap.IsTuple p ips.toArray:=⟨_,g1,rfl,np,rfl⟩;have tT:s.TypeIs (.ref p) "tuple" := ⟨_,g1,rfl⟩;cases c with
 |fl c =>
  cases c with
  |non=>cases (show u=Value.none from r);exact⟨_,EqAt.none_tuple hT (by omega)⟩
  |int i=>obtain⟨t',rfl⟩:=(show ∃ t,u=Value.int i t from r);exact⟨_,EqAt.int_tuple _ _ hT (by omega)⟩
  |bl b=>cases (show u=Value.bool b from r);exact⟨_,EqAt.bool_tuple _ hT (by omega)⟩
  |str x=>obtain⟨t',rfl⟩:=(show ∃ t,u=Value.str x t from r);exact⟨_,EqAt.str_tuple _ _ hT (by omega)⟩
  | @lst a xs e =>
   cases (show u=Value.ref a from r);obtain⟨its,h⟩:=I.isl e;exact⟨_,EqAt.list_tuple h hT (by omega)⟩
 | @dK a kvs e =>
  cases (show u=Value.ref a from r);obtain⟨ham,es,ep,⟨od,hod,xd,hda⟩,_⟩:=zbk I e;have hod':s.heap.get? a=some { cls:=.type "dict",data:=.dict es ep }:=by
   rw[hod];obtain⟨c,d,dt,sl⟩:=od;obtain⟨x1,x2,x3⟩:=xd;dsimp only at x1 x2 x3 hda;rw[x1,x2,x3,hda]
  have ta:s.TypeIs (.ref a) "dict" := ⟨_,hod',rfl⟩;refine⟨false,EqAt.of_refs (Xh g1 (by simp) hod').symm fun prog w E Q h=>?_⟩;exact rc_eq_decline_or (k:=false) ta tT (by decide) F.sub_tuple_dict F.slot_dict_eq F.slot_tuple_eq_refl
   (fun _ hq=>v5 ta tT F.sub_tuple_dict hq)
   (fun _ hq=>call_meets F.slot_tuple_eq_refl tT F.entry_tuple_eq (F.args_tuple_eq_2 _ _) (Yb p a ips.toArray np es ep dp sp) ⟨g1,hod',hq⟩)
   (fun _ hq=>wpAny_isSame_ref_other (Xh g1 (by simp) hod').symm hod' g1 (by simp) hq) (.inr (by omega)) h
 | @tup a xs e hx =>
  cases (show u=Value.ref a from r);by_cases z:a=p
  ·rw[z];exact⟨_,EqAt.same _⟩
  obtain⟨_,its,ra,h1⟩:=(show ObjOk X.prog X.w H s.heap a (.tup xs) from I.hok a _ e);have hi:∀ k (h1:k<its.toArray.size) (h2:k<ips.toArray.size),∃ b,EqAt A.in1 s its.toArray[k] ips.toArray[k] b:=fun k h1 h2=>by
   have k1:its[k]?=some its.toArray[k]:=by simp at h1;simp[h1]
   obtain⟨x,e1,e2⟩:=xK ra k1;have k2:ips[k]?=some ips.toArray[k]:=by simp at h2;simp[h2]
   obtain⟨m,tk,e3⟩:=za7 (ns:=[i,j]) rp k (by simpa using h2);have e4:ips.toArray[k]=Value.int m tk:=by simpa using e3
   rw[e4];exact UN I (hx x (mem_of_getElem? e1)) e2 (by rw[yd];omega)
  refine⟨_,EqAt.of_refs z (RcAt.tuples (e:=fun k=>if h:k<its.toArray.size/\k<ips.toArray.size then Classical.choose (hi k h.1 h.2) else false) (show s.heap.IsTuple a its.toArray from h1) hT (by omega) fun k h1 h2=>?_)⟩;rw[dif_pos ⟨h1,h2⟩];exact Classical.choose_spec (hi k h1 h2)
def Uf(A:Around):V->List V->Hp->VK->Prop:=fun x vs H Q=>∃ (l t:Addr) (xs:List V) (i j:Int),x=.ref l/\vs=[.ref t]/\H l=some (.lst xs)/\(∀ y∈xs,Cmp H y)/\H t=some (.tup [.int i,.int j])/\A.units+5<cLine/\∀ n:Nat,Q (.int n) H
theorem Xl:MtM X "list.count" (Uf X.A):=by
 intro pins s σ H x vs v us Q I rx rv h;obtain⟨l,t,xs,i,j,rfl,rfl,hH,hc,ht,hu,q⟩:=h;cases rx;obtain⟨u,rfl,ru⟩:=rv.one;cases ru;obtain⟨z,its,n,r,hl,e⟩:=I.lstM hH;have hi:∀ y∈its,∃ b,SeqAt.EqAt X.A.in1 s y (.ref t) b:=fun y hy=>by
  obtain⟨k,hk⟩:=List.getElem?_of_mem hy;obtain⟨x,e1,e2⟩:=xK r hk;exact WY I (hc x (mem_of_getElem? e1)) e2 ht (by simp only[yd];omega)
 refine call_meets F.slot_list_count ⟨_,e,rfl⟩ F.entry_list_count (F.args_list_count_2 _ _) (SeqAt.list_countAt l _ n _ _ (.ref t) (fun y=>open Classical in if h:∃ b,SeqAt.EqAt X.A.in1 s y (.ref t) b then Classical.choose h else false)) ⟨e,fun y hy=>?_,?_⟩
 ·have h:=hi y (mem_toArray.mp hy)
  rw[dif_pos h];exact Classical.choose_spec h
 ·exact⟨.int _,H,I.tok _,⟨s.toks,rfl⟩,q _⟩
theorem zaZ{m:String}{r1 r2:V->List V->Hp->VK->Prop}(h1:MtM X m r1)(h2:MtM X m r2):MtM X m (fun x vs H Q=>r1 x vs H Q\/r2 x vs H Q):=fun pins s σ H x vs v us Q I rx rv h=>h.elim (h1 pins s σ H x vs v us Q I rx rv) (h2 pins s σ H x vs v us Q I rx rv)
end
end L2
namespace K04
open PySem L2
def top(i:Nat):Stmt:=PySem.Challenge.pw_beatless_k28_ways_with_something_wrong.main.body.getD i (.Pass ⟨0,0,0,0⟩)
def inC(i j:Nat):Stmt:=inClass (top i) j
def fnT:List Fe:=[⟨65, "is_whole", "is_whole",top 6,["value"],["value"],0⟩,
 ⟨70, "copied", "copied",top 8,["value"],["value"],0⟩,
 ⟨161, "are_parents", "are_parents",top 10,["web", "parents"],["web", "parents", "hand", "parent"],0⟩,
 ⟨168, "come_to_leaders", "come_to_leaders",top 11,["web", "way"],["web", "way", "hand"],0⟩,
 ⟨175, "is_bridge", "is_bridge",top 12,["web", "way", "bridge"],["web", "way", "bridge"],0⟩,
 ⟨182, "are_bridges", "are_bridges",top 13,["web", "way", "bridges"],["web", "way", "bridges", "seen", "bridge"],0⟩,
 ⟨189, "is_grounded", "is_grounded",top 14,["web", "way"],["web", "way"],0⟩,
 ⟨196, "first_joins", "first_joins",top 15,["way", "lines"],["way", "lines", "found", "one", "other", "leaders"],0⟩,
 ⟨203, "lets", "lets",top 16,["web", "way"],["web", "way", "bridged", "leaders"],0⟩,
 ⟨210, "refuse_unlet", "refuse_unlet",top 17,["web", "way"],["web", "way"],0⟩,
 ⟨217, "road_within", "road_within",top 19,["way", "hand", "neighbour"],["way", "hand", "neighbour", "down"],0⟩,
 ⟨224, "road_over", "road_over",top 20,["way", "hand", "neighbour", "bridge"],["way", "hand", "neighbour", "bridge"],0⟩,
 ⟨231, "bridges_by_leaders", "bridges_by_leaders",top 21,["way"],["way", "found", "one", "other"],0⟩,
 ⟨236, "roads_for", "roads_for",top 22,["way", "bridges", "hand", "neighbour"],["way", "bridges", "hand", "neighbour", "leaders"],0⟩,
 ⟨243, "pairs_of", "pairs_of",top 23,["web"],["web", "pairs", "one", "other"],0⟩,
 ⟨250, "roads", "roads",top 24,["web", "way"],["web", "way", "bridges", "paper", "hand", "neighbour"],0⟩,
 ⟨257, "are_wholes", "are_wholes",top 25,["values"],["values", "value"],0⟩,
 ⟨264, "has_just_pairs", "has_just_pairs",top 26,["paper", "pairs"],["paper", "pairs", "key"],0⟩,
 ⟨271, "holds", "holds",top 27,["web", "way", "paper"],["web", "way", "paper", "pairs", "bridges", "hand", "neighbour", "road"],0⟩,
 ⟨278, "are_hands", "are_hands",top 31,["hands"],["hands", "ahead", "hand"],0⟩,
 ⟨285, "is_line", "is_line",top 32,["line", "hands"],["line", "hands"],0⟩,
 ⟨292, "are_lines", "are_lines",top 33,["lines", "hands"],["lines", "hands", "seen", "line"],0⟩,
 ⟨299, "near_by_hand", "near_by_hand",top 34,["hands", "lines"],["hands", "lines", "near", "hand", "one", "other"],0⟩,
 ⟨376, "_law_cell_at", "_law_cell_at",top 37,["_law_script", "_law_k"],["_law_script", "_law_k"],0⟩,
 ⟨383, "_law_draws", "_law_draws",top 38,["_law_cell", "_law_many"],["_law_cell", "_law_many", "_law_found", "_law_rest", "_law_number", "_law_k", "_law_mixed"],0⟩,
 ⟨390, "_law_take", "_law_take",top 39,["_law_xs", "_law_size"],["_law_xs", "_law_size"],0⟩,
 ⟨395, "_law_hands", "_law_hands",top 40,["_law_xs", "_law_most"],["_law_xs", "_law_most", "_law_hand", "_law_found", "_law_k"],0⟩,
 ⟨402, "_law_lines", "_law_lines",top 41,["_law_xs", "_law_hands_here"],["_law_xs", "_law_hands_here", "_law_way", "_law_found", "_law_j", "_law_k", "_law_near_here", "_law_draw", "_law_at"],0⟩,
 ⟨409, "_law_web_drawn", "_law_web_drawn",top 42,["_law_xs"],["_law_xs", "_law_most", "_law_hands_here", "_law_lines_here"],0⟩,
 ⟨414, "_law_near", "_law_near",top 43,["_law_lines_here", "_law_hand"],["_law_lines_here", "_law_hand", "_law_found"],0⟩,
 ⟨421, "_law_up", "_law_up",top 44,["_law_parents", "_law_hand"],["_law_parents", "_law_hand", "_law_found"],0⟩,
 ⟨428, "_law_both", "_law_both",top 45,["_law_parents", "_law_one", "_law_other"],["_law_parents", "_law_one", "_law_other"],0⟩,
 ⟨433, "_law_drawn_way", "_law_drawn_way",top 46,["_law_xs", "_law_hands_here", "_law_lines_here"],["_law_xs", "_law_hands_here", "_law_lines_here", "_law_parents", "_law_left", "_law_hand", "_law_near_here", "_law_bridges", "_law_joined", "_law_line", "_law_both_here", "_law_at"],0⟩,
 ⟨440, "_law_is_whole", "_law_is_whole",top 47,["_law_thing"],["_law_thing"],0⟩,
 ⟨447, "_law_is_line", "_law_is_line",top 48,["_law_lines_here", "_law_thing"],["_law_lines_here", "_law_thing"],0⟩,
 ⟨452, "_law_lets", "_law_lets",top 49,["_law_hands_here", "_law_lines_here", "_law_parents", "_law_bridges"],["_law_hands_here", "_law_lines_here", "_law_parents", "_law_bridges", "_law_strange", "_law_hand", "_law_near_here", "_law_joined", "_law_one", "_law_other", "_law_both_here"],0⟩,
 ⟨459, "_law_other_parents", "_law_other_parents",top 50,["_law_xs", "_law_way", "_law_hand", "_law_other", "_law_parents"],["_law_xs", "_law_way", "_law_hand", "_law_other", "_law_parents", "_law_odd"],0⟩,
 ⟨464, "_law_other_bridges", "_law_other_bridges",top 51,["_law_xs", "_law_way", "_law_hand", "_law_other", "_law_lines_here", "_law_bridges"],["_law_xs", "_law_way", "_law_hand", "_law_other", "_law_lines_here", "_law_bridges", "_law_at", "_law_line", "_law_odd"],0⟩,
 ⟨471, "_law_otherwise", "_law_otherwise",top 52,["_law_xs", "_law_hands_here", "_law_lines_here", "_law_parents", "_law_bridges"],["_law_xs", "_law_hands_here", "_law_lines_here", "_law_parents", "_law_bridges", "_law_way", "_law_hand", "_law_other", "_law_some"],0⟩,
 ⟨478, "_law_told", "_law_told",top 53,["_law_web", "_law_way"],["_law_web", "_law_way", "_law_told_here"],0⟩,
 ⟨485, "law", "law",top 54,["_law_script"],["_law_script", "_law_xs", "_law_hands_here", "_law_lines_here", "_law_parents", "_law_bridges", "_law_web", "_law_good", "_law_paper", "_law_cell", "_law_some", "_law_more", "_law_other", "_law_found", "_law_told_here"],0⟩,
 ⟨84, "__init__", "Way.__init__",inC 9 0,["self", "parents", "bridges"],["self", "parents", "bridges"],150⟩,
 ⟨91, "parent_of", "Way.parent_of",inC 9 1,["self", "hand"],["self", "hand", "each", "parent"],150⟩,
 ⟨98, "all_parents", "Way.all_parents",inC 9 2,["self"],["self"],150⟩,
 ⟨105, "all_bridges", "Way.all_bridges",inC 9 3,["self"],["self"],150⟩,
 ⟨112, "path_up", "Way.path_up",inC 9 4,["self", "hand"],["self", "hand", "path", "above"],150⟩,
 ⟨119, "leader", "Way.leader",inC 9 5,["self", "hand"],["self", "hand"],150⟩,
 ⟨313, "__init__", "Web.__init__",inC 35 0,["self", "hands", "lines"],["self", "hands", "lines"],365⟩,
 ⟨320, "hands", "Web.hands",inC 35 1,["self"],["self"],365⟩,
 ⟨327, "lines", "Web.lines",inC 35 2,["self"],["self"],365⟩,
 ⟨334, "has_hand", "Web.has_hand",inC 35 3,["self", "hand"],["self", "hand"],365⟩,
 ⟨341, "has_line", "Web.has_line",inC 35 4,["self", "one", "other"],["self", "one", "other"],365⟩]
def tbT:Tab:={ f:=fnT,c:=[⟨150, "Way",84,["own_parents", "own_bridges"]⟩,⟨365, "Web",313,["own_hands", "own_lines", "near"]⟩],b:=["len", "int", "min", "max", "range", "isinstance", "list", "dict", "sorted", "str", "bool", "tuple", "reversed", "ValueError"],k:=[(.type "int",.type "int",true),(.type "int",.type "bool",false),(.type "list",.type "list",true),(.type "tuple",.type "tuple",true),(.type "tuple",.type "list",false),(.type "dict",.type "list",false),(.type "dict",.type "tuple",false),(.type "dict",.type "dict",true),(.type "int",.type "list",false),(.type "int",.type "tuple",false),(.type "int",.type "dict",false),(.type "NoneType",.type "list",false),(.type "NoneType",.type "tuple",false),(.type "NoneType",.type "dict",false),(.type "NoneType",.type "int",false),(.type "str",.type "int",false),(.ref 150,.ref 150,true),(.type "bool",.type "bool",true),(.type "list",.type "dict",false),(.type "tuple",.type "dict",false),(.type "str",.type "dict",false),(.type "bool",.type "dict",false),(.type "str",.type "tuple",false),(.type "tuple",.type "int",false),(.type "bool",.type "list",false),(.type "bool",.type "int",true),(.type "str",.type "list",false),(.type "dict",.type "int",false),(.type "list",.type "int",false),(.type "list",.type "tuple",false),(.type "tuple",.type "bool",false),(.type "str",.type "bool",false),(.type "NoneType",.type "bool",false),(.type "dict",.type "bool",false),(.type "list",.type "bool",false),(.type "bool",.type "tuple",false)],m:=[("MOST_HANDS",.int 12 537),("LAST_HAND",.int 99 539),("NoWay",.ref 56)],t:=[],x:=[56],y:=[],u:=[] }
theorem scA:fnT.all scB=true:=by decide +kernel
theorem scp(i:Nat){a c:Addr}{n q:Str}{s:Stmt}{ps N:List Str}(hi:fnT[i]?=some ⟨a,n,q,s,ps,N,c⟩:=by rfl):FnScope N ps (defScope s):=zdm (yW scA hi)
abbrev Ad:=Unit
abbrev Txt(w:World)(K:W.Frag)(mg:Str->Option Value)(_:Ad):Prop:=Txt0 tbT K mg
theorem cal(P:Program)(base:Heap){w:World}{K:W.Frag}{mg:Str->Option Value}{a:Ad}(T:Txt w K mg a)(i:Nat){f:Addr}{n q:Str}{s:Stmt}{ps N:List Str}{k:Nat}{sp:Sp}(hi:tbT.f[i]?=some ⟨f,n,q,s,ps,N,0⟩)(o:FnOk P w K mg base CX0 k f (dK K f) ps sp)(h8:ps.length<=8:=by exact Nat.le_of_ble_eq_true rfl):Callee P w K mg base n f (dK K f) ps k sp:=⟨o,T.g i hi,(T.fn i hi).kp,T.bi i hi h8⟩
structure Hs (hs:LI):Prop where
 l1:1<=hs.length
 l12:hs.length<=12
 up:hs.Pairwise (· < ·)
 lo:∀ h∈hs,0<=h
 hi:∀ h∈hs,h<=99
structure Ls (hs:LI) (ls:LP):Prop where
 nd:ls.Nodup
 ok:∀ p∈ls,p.1∈hs/\p.2∈hs/\p.1<p.2
 le:ls.length<=66
def Adj(ls:LP)(x y:Int):Prop:=(x,y)∈ls\/(y,x)∈ls
theorem Wd{as:LI}(h:as.Pairwise (· < ·)):as.Nodup:=h.imp fun {a b} z=>by omega
theorem xy:∀ {as bs:LI},as.Nodup->(∀ x∈as,x∈bs)->as.length<=bs.length
 |[],_,_,_=>zero_le _
 |a::as,bs,hn,hs=>by
  rw[nodup_cons] at hn;have ha:=hs a mem_cons_self;have ih:=xy (as:=as) (bs:=bs.erase a) hn.2 fun x hx=>by
   have ne:x≠a:=fun z=>hn.1 (by rw[<- z];exact hx);exact(List.mem_erase_of_ne ne).mpr (hs x (mem_cons_of_mem _ hx))
  rw[List.length_erase_of_mem ha] at ih;have:=length_pos_of_mem ha;rw[length_cons];omega
def nbs(ls:LP)(h:Int):LI:=ls.flatMap fun p=>(if p.1=h then[p.2] else[])++if p.2=h then[p.1] else[]
theorem mem_nbs{ls:LP}{h x:Int}:x∈nbs ls h↔Adj ls h x:=by
 unfold nbs Adj;rw[List.mem_flatMap]
 constructor
 ·rintro⟨⟨u,v⟩,hp,hx⟩
  dsimp only at hx;rw[mem_append] at hx;rcases hx with hx | hx
  ·split at hx
   ·rename_i e;subst e
    rw[mem_singleton] at hx;subst hx;exact .inl hp
   ·cases hx
  ·split at hx
   ·rename_i e;subst e
    rw[mem_singleton] at hx;subst hx;exact .inr hp
   ·cases hx
 ·rintro(h1 | h1)
  ·exact⟨_,h1,by simp⟩
  ·exact⟨_,h1,by simp⟩
theorem Xk{h:Int}:∀ {ls:LP},(nbs ls h).length<=2*ls.length
 |[]=>Nat.le_refl _
 |p::ls=>by
  have ih:=Xk (h:=h) (ls:=ls);unfold nbs at ih ⊢;rw[flatMap_cons,length_append,length_append,length_cons];have h1:(if p.1=h then[p.2] else[]).length<=1:=by split<;>simp
  have h2:(if p.2=h then[p.1] else[]).length<=1:=by split<;>simp
  omega
theorem Wx{ls:LP}{p:Int×Int}{h:Int}:nbs (ls++[p]) h=nbs ls h++((if p.1=h then[p.2] else[])++if p.2=h then[p.1] else[]):=by
 unfold nbs;rw[List.flatMap_append,flatMap_cons,List.flatMap_nil,append_nil]
theorem Ww{ls:LP}{p:Int×Int}{i:Nat}{h:Int}(e:ls[i]?=some p):nbs (ls.take (i+1)) h=nbs (ls.take i) h++((if p.1=h then[p.2] else[])++if p.2=h then[p.1] else[]):=by
 rw[take_add_one,e];exact Wx
def LnAt(H:Hp)(rs:List V)(ls:LP):Prop:=rs.length=ls.length/\∀ (i:Nat) r p,rs[i]?=some r->ls[i]?=some p->∃ q,r=.ref q/\H q=some (.tup [.int p.1,.int p.2])
theorem LnAt.same{H H':Hp}{rs:List V}{ls:LP}(h:LnAt H rs ls)(s:Same H H'):LnAt H' rs ls:=⟨h.1,fun i r p h1 h2=>by
 obtain⟨q,e,t⟩:=h.2 i r p h1 h2;exact⟨q,e,s _ _ t⟩⟩
theorem LnAt.get{H:Hp}{rs:List V}{ls:LP}(h:LnAt H rs ls){i:Nat}{r:V}(e:rs[i]?=some r):∃ p q,ls[i]?=some p/\r=.ref q/\H q=some (.tup [.int p.1,.int p.2]):=by
 have hi:i<ls.length:=by rw[<- h.1];exact(List.getElem?_eq_some_iff.mp e).1
 have hp:ls[i]?=some ls[i]:=by simp[hi]
 obtain⟨q,e1,e2⟩:=h.2 i r _ e hp;exact⟨_,q,hp,e1,e2⟩
theorem yR{x:Int}:∀ {ns:LI},inV (.int x) (ns.map V.int)=decide (x∈ns)
 |[]=>by simp[inV]
 |n::ns=>by
  have ih:=yR (x:=x) (ns:=ns);unfold inV at ih ⊢;rw[map_cons,any_cons,ih];show((n == x)||decide (x∈ns))=decide (x∈n::ns);by_cases e:n=x
  ·simp[e]
  ·have e':¬ x=n:=fun z=>e z.symm
   simp[e,e']
theorem yE(ns:LI):(ns.map V.int).all w4=true:=by
 rw[all_eq_true];intro v hv;obtain⟨x,_,rfl⟩:=mem_map.mp hv;rfl
section
variable {P:Program}{w:World}{K:W.Frag}{mg:Str->Option Value}{base:Heap}{a:Ad}
def u8:Sp:=fun vs H Q _=>∃ i:Int,vs=[.int i]/\Q (.bl true) H
theorem ZQ(T:Txt w K mg a):FnOk P w K mg base CX0 1 65 (dK K 65) ["value"] u8:=by
 refine(T.fn 0 rfl).ok (scp 0 rfl) (fun vs H Q E h=>?_) (fun cdv A outer s H vs Q E hr h=>?_)
 ·obtain⟨i,rfl,_⟩:=h
  rfl
 ·obtain⟨i,rfl,k⟩:=h
  refine⟨_,(yi (xl (ZN (yB zG (by rfl) (T.n 5 rfl) zp (wk (pv 0) (wk (vx (T.n 1 rfl) uP) yp))) (YY (Vp (yB zG (by rfl) (T.n 5 rfl) zp (wk (pv 0) (wk (vx (T.n 10 rfl) vd) yp)))))))),?_⟩;refine⟨_,rfl,_,_,_,_,_,rfl,rfl,.int i,(T.k 0 rfl),_,rfl,iteT ?_⟩;exact⟨_,rfl,_,_,_,_,_,rfl,rfl,.int i,(T.k 1 rfl),_,rfl,k⟩
def YJ:Sp:=fun vs H Q _=>∃ (h:Addr) (hs:LI),vs=[.ref h]/\H h=some (.lst (hs.map V.int))/\Hs hs/\Q (.bl true) H
theorem Wt(T:Txt w K mg a):FnOk P w K mg base CX0 2 278 (dK K 278) ["hands"] YJ:=by
 have c_is_whole:=cal P base T 0 rfl (ZQ T);refine(T.fn 19 rfl).ok (scp 19 rfl) (fun vs H Q E h=>?_) (fun cdv A outer s H vs Q E hr h=>?_)
 ·obtain⟨h,hs,rfl,_⟩:=h
  rfl
 ·obtain⟨h,hs,rfl,hh,W,k⟩:=h
  have w1:=W.l1;have w12:=W.l12;refine⟨_,(zQ (vT (PW.pt (ul (xB (xA (yB zG (by rfl) (T.n 5 rfl) zp (wk (pv 0) (wk (vx (T.n 6 rfl) bt_list) yp))))) (ul (xX Zi (yB zw (by rfl) (T.n 0 rfl) yg (wk (pv 0) yp)) xC (zu _)) (vv (xX Zj (yB zw (by rfl) (T.n 0 rfl) yg (wk (pv 0) yp)) (Zf (v:=.int 12) rfl (T.gg 0 rfl) ⟨_,rfl⟩) (zu _))))))
    (yi (xl vf))
    xf)
   (zQ (um (i:=1) (scp 19 rfl).nd rfl (Or.inl rfl) (zaA xz xC))
   (zQ (uo PassesOwn.never rfl (wN (pv 0)) (xZ (i:=2) (scp 19 rfl).nd rfl (Or.inl rfl))
    (zQ (vT (PW.pt (ul (xB (xA (Vr c_is_whole hr.m (wk (pv 2) yp)))) (ul (xX zb2 (pv 2) (pv 1) (zu _)) (vv (xX Zj (pv 2) (Zf (v:=.int 99) rfl (T.gg 1 rfl) ⟨_,rfl⟩) (zu _))))))
     (yi (xl vf))
     xf)
    (yi (um (i:=1) (scp 19 rfl).nd rfl (Or.inl rfl) (pv 2)))))
   (yi (xl vf))))),?_⟩
  refine⟨_,rfl,_,_,_,_,_,rfl,rfl,.lst hh,(T.k 2 rfl),_,rfl,zF rfl ?_⟩;refine⟨_,rfl,h,_,rfl,.inl (sO hh),_,_,rfl,rfl,_,rfl,zF (decide_eq_false (by rw[length_map];omega)) ?_⟩;refine⟨_,rfl,h,_,rfl,.inl (sO hh),_,_,rfl,rfl,_,rfl,zF (decide_eq_false (by rw[length_map];omega)) ?_⟩;refine⟨1,rfl,_,rfl,h,rfl,⟨_,sO hh⟩,?_⟩;refine for_list (K:=K) (a:=h) (xs:=hs.map V.int) (fun i σ H'=>H'=H/\∃ (m:Int) (o:Option V),σ=[some (.ref h),some (.int m),o]/\-1<=m/\∀ j x,i<=j->hs[j]?=some x->m<x) ?_ ?_ ?_ ?_
  ·refine⟨rfl,-1,none,rfl,Int.le_refl _,fun j x _ hx=>?_⟩
   have:=W.lo x (mem_of_getElem? hx);omega
  ·rintro i σ H' _ ⟨rfl,_⟩
   exact sO hh
  ·rintro i x σ H' hi ⟨rfl,m,o,rfl,hm,hall⟩
   rw[List.getElem?_map] at hi;obtain⟨y,hy,rfl⟩:=map_eq_some_iff.mp hi;have y1:=hall i y (Nat.le_refl _) hy;have y2:=W.hi y (mem_of_getElem? hy);refine⟨_,rfl,y,rfl,_,rfl,zF rfl ?_⟩;refine⟨_,rfl,_,rfl,_,_,rfl,rfl,_,rfl,zF (decide_eq_false (by omega)) ?_⟩;refine⟨_,rfl,_,_,rfl,rfl,_,rfl,zF (decide_eq_false (by omega)) ?_⟩;refine⟨_,rfl,rfl,y,_,rfl,by omega,fun j z hj hz=>?_⟩;have hlt:i<j:=by omega
   obtain⟨b1,e1⟩:=List.getElem?_eq_some_iff.mp hy;obtain⟨b2,e2⟩:=List.getElem?_eq_some_iff.mp hz;rw[<- e1,<- e2];exact List.pairwise_iff_getElem.mp W.up i j b1 b2 hlt
  ·rintro σ H' ⟨rfl,_⟩
   exact k
def spLine:Sp:=fun vs H Q _=>∃ (q h:Addr) (hs:LI) (p:Int×Int),vs=[.ref q,.ref h]/\H q=some (.tup [.int p.1,.int p.2])/\H h=some (.lst (hs.map V.int))/\(p.1∈hs/\p.2∈hs/\p.1<p.2)/\Q (.bl true) H
theorem Ur(T:Txt w K mg a):FnOk P w K mg base CX0 2 285 (dK K 285) ["line", "hands"] spLine:=by
 have c_is_whole:=cal P base T 0 rfl (ZQ T);refine(T.fn 20 rfl).ok (scp 20 rfl) (fun vs H Q E h=>?_) (fun cdv A outer s H vs Q E hr h=>?_)
 ·obtain⟨q,h,hs,p,rfl,_⟩:=h
  rfl
 ·obtain⟨q,h,hs,⟨x,y⟩,rfl,hq,hh,⟨h1,h2,h3⟩,k⟩:=h
  dsimp only at hq h1 h2 h3;refine⟨_,(zQ (vT (PW.pt (ul (xB (xA (yB zG (by rfl) (T.n 5 rfl) zp (wk (pv 0) (wk (vx (T.n 11 rfl) yV) yp))))) (vv (xX wO (yB zw (by rfl) (T.n 0 rfl) yg (wk (pv 0) yp)) xC (zu _)))))
    (yi (xl vf))
    xf)
   (zQ (vT (PW.pt (ul (xB (xA (Vr c_is_whole hr.m (xh (Ze zX (pv 0) xC (fun _ _=>rfl)) yp)))) (vv (xB (xA (Vr c_is_whole hr.m (xh (Ze zX (pv 0) xC (fun _ _=>rfl)) yp)))))))
    (yi (xl vf))
    xf)
   (yi (xl (ZN (vW wP (Ze zX (pv 0) xC (fun _ _=>rfl)) (pv 1) (by with_unfolding_all rfl)) (ZN (vW wP (Ze zX (pv 0) xC (fun _ _=>rfl)) (pv 1) (by with_unfolding_all rfl)) (YY (vW Zi (Ze zX (pv 0) xC (fun _ _=>rfl)) (Ze zX (pv 0) xC (fun _ _=>rfl)) (zu _))))))))),?_⟩
  refine⟨_,rfl,_,_,_,_,_,rfl,rfl,.tup hq,(T.k 3 rfl),_,rfl,zF rfl ?_⟩;refine⟨_,rfl,q,_,rfl,.inr (sP hq),rfl,_,rfl,zF rfl ?_⟩;refine⟨_,rfl,q,_,0,_,rfl,rfl,sP hq,rfl,x,rfl,_,rfl,zF rfl ?_⟩;refine⟨_,rfl,q,_,1,_,rfl,rfl,sP hq,rfl,y,rfl,_,rfl,zF rfl ?_⟩;refine⟨_,rfl,q,_,0,_,rfl,rfl,sP hq,rfl,_,rfl,h,_,rfl,.inl (sO hh),rfl,yE hs,_,rfl,iteB (by show inV (.int x) _=true;rw[yR];exact decide_eq_true h1) ?_⟩;refine⟨_,rfl,q,_,1,_,rfl,rfl,sP hq,rfl,_,rfl,h,_,rfl,.inl (sO hh),rfl,yE hs,_,rfl,iteB (by show inV (.int y) _=true;rw[yR];exact decide_eq_true h2) ?_⟩;refine⟨_,rfl,q,_,0,_,rfl,rfl,sP hq,rfl,_,rfl,q,_,1,_,rfl,rfl,sP hq,rfl,_,_,rfl,rfl,?_⟩;show Q (.bl (decide (x<y))) H;rw[decide_eq_true h3];exact k
section
variable {κ:Type} [DecidableEq κ]
theorem xo{kvs:List (κ×V)}{k:κ}:(yG kvs k).isSome=decide (k∈kvs.map (·.1)):=by
 rw[<- yM];by_cases h:k∈kvs.map (·.1)
 ·rw[decide_eq_true h,any_eq_true]
  obtain⟨p,hp,rfl⟩:=mem_map.mp h;exact⟨p,hp,decide_eq_true rfl⟩
 ·rw[decide_eq_false h,List.any_eq_false]
  intro p hp e;exact h (mem_map.mpr ⟨p,hp,of_decide_eq_true e⟩)
theorem valV_yes{kvs:List (κ×V)}{k:κ}(h:k∈kvs.map (·.1)):(yG kvs k).isSome=true:=by rw[xo];exact decide_eq_true h
theorem wK{kvs:List (κ×V)}{k:κ}(h:k∉kvs.map (·.1)):(yG kvs k).isSome=false:=by rw[xo];exact decide_eq_false h
theorem putK_new{kvs:List (κ×V)}{k:κ}{v:V}(h:k∉kvs.map (·.1)):putK kvs k v=kvs++[(k,v)]:=by
 unfold putK;rw[if_neg];rw[yM,xo,decide_eq_true_iff];exact h
theorem YR{kvs:List (κ×V)}{k:κ}{v:V}(h:k∈kvs.map (·.1)):(putK kvs k v).map (·.1)=kvs.map (·.1):=by
 unfold putK;rw[if_pos (by rw[yM,xo,decide_eq_true_iff];exact h),map_map];refine map_congr_left fun p _=>?_;show(if p.1=k then(p.1,v) else p).1=p.1
 split<;>rfl
end
theorem _root_.L2.Same.updF{p:Addr}{H H':Hp}{o:HO}(x:Same H H')(h:H p=none):Same H (L2.upd H' p o):=fun b u e=>by
 rw[upd_ne (nZ e h)];exact x b u e
abbrev yH(p:Int×Int):List Key:=[Sum.inl p.1,Sum.inl p.2]
theorem xj{p q:Int×Int}(h:yH p=yH q):p=q:=by
 obtain⟨a,b⟩:=p;obtain⟨c,d⟩:=q;simp[yH] at h;rw[h.1,h.2]
theorem wS{α:Type}{xs:List α}{i:Nat}{x:α}(h:xs.Nodup)(e:xs[i]?=some x):x∉xs.take i:=by
 intro m;obtain⟨j,hj,ej⟩:=List.getElem_of_mem m;obtain⟨hi,ei⟩:=List.getElem?_eq_some_iff.mp e;rw[List.getElem_take] at ej;rw[length_take] at hj;have:=(nodup_iff_pairwise_ne.mp h);exact List.pairwise_iff_getElem.mp this j i (by omega) hi (by omega) (ej.trans ei.symm)
def YI:Sp:=fun vs H Q _=>∃ (l h:Addr) (rs:List V) (hs:LI) (ls:LP),vs=[.ref l,.ref h]/\H l=some (.lst rs)/\LnAt H rs ls/\H h=some (.lst (hs.map V.int))/\Ls hs ls/\∀ H',Same H H'->Q (.bl true) H'
theorem Ws(T:Txt w K mg a):FnOk P w K mg base CX0 3 292 (dK K 292) ["lines", "hands"] YI:=by
 have c_is_line:=cal P base T 20 rfl (Ur T);refine(T.fn 21 rfl).ok (scp 21 rfl) (fun vs H Q E h=>?_) (fun cdv A outer s H vs Q E hr h=>?_)
 ·obtain⟨l,h,rs,hs,ls,rfl,_⟩:=h
  rfl
 ·obtain⟨l,h,rs,hs,ls,rfl,hl,hrs,hh,L,k⟩:=h
  have l66:=L.le;have hu:=yY hr;refine⟨_,(zQ (vT (xB (xA (yB zG (by rfl) (T.n 5 rfl) zp (wk (pv 0) (wk (vx (T.n 6 rfl) bt_list) yp)))))
    (yi (xl vf))
    xf)
   (zQ (um (i:=2) (scp 21 rfl).nd rfl (Or.inl rfl) ZL)
   (zQ (uo PassesOwn.never rfl (wN (pv 0)) (xZ (i:=3) (scp 21 rfl).nd rfl (Or.inl rfl))
    (zQ (vT (PW.pt (ul (xB (xA (Vr c_is_line hr.m (wk (pv 3) (wk (pv 1) yp))))) (vv (Vm (Vs hu (pv 3) (pv 2))))))
     (yi (xl vf))
     xf)
    (yi (Zd hu (pv 2) (pv 3) vf rfl))))
   (yi (xl vf))))),?_⟩
  refine⟨_,rfl,_,_,_,_,_,rfl,rfl,.lst hl,(T.k 2 rfl),_,rfl,zF rfl ?_⟩;refine fun d hd=>?_;refine⟨_,rfl,l,rfl,⟨_,sO (sW hd _ _ hl)⟩,?_⟩;refine for_list (K:=K) (a:=l) (xs:=rs) (fun i σ H'=>∃ (kvs:List (List Key×V)) (o:Option V),σ=[some (.ref l),some (.ref h),some (.ref d),o]/\H' d=some (.dT kvs)/\kvs.map (·.1)=(ls.take i).map yH/\Same H H') ?_ ?_ ?_ ?_
  ·exact⟨[],none,rfl,za,by simp,sW hd⟩
  ·rintro i σ H' _ ⟨kvs,o,_,_,_,sm⟩
   exact sO (sm _ _ hl)
  ·rintro i x σ H' hi ⟨kvs,o,rfl,hd',hk,sm⟩
   obtain⟨p,q,hp,rfl,hq⟩:=(hrs.same sm).get hi;have hm:p∈ls:=mem_of_getElem? hp;refine⟨_,rfl,_,rfl,q,h,hs,p,rfl,hq,sm _ _ hh,L.ok p hm,_,rfl,zF rfl ?_⟩;have hnew:yH p∉kvs.map (·.1):=by
    rw[hk];intro z;obtain⟨p',m',e'⟩:=mem_map.mp z;rw[xj e'] at m';exact wS L.nd hp m'
   have hz:kvs.length<=1000:=by
    have:=congrArg List.length hk;rw[length_map,length_map,length_take] at this;omega
   refine⟨_,rfl,_,rfl,d,_,rfl,DGet.t (k:=yH p) hd' hq,_,rfl,zF ?_ ?_⟩
   ·exact wK hnew
   ·refine⟨_,rfl,_,rfl,d,_,rfl,DPut.t (k:=yH p) hd' hq (zj hz),?_⟩
    refine⟨_,_,rfl,za,?_,sm.updF hd⟩;rw[putK_new hnew,map_append,hk,take_add_one,hp,map_append];rfl
  ·rintro σ H' ⟨kvs,o,_,_,_,sm⟩
   exact k H' sm
def tab(ad:Int->Addr)(us:LI):List (Key×V):=us.map fun h=>(Sum.inl h,V.ref (ad h))
theorem ZE{ad:Int->Addr}{us:LI}:(tab ad us).map (·.1)=us.map Sum.inl:=by
 unfold tab;rw[map_map];rfl
theorem YC{ad:Int->Addr}{x:Int}:∀ {us:LI},x∈us->yG (tab ad us) (Sum.inl x:Key)=some (V.ref (ad x))
 |u::us,h=>by
  show yG ((Sum.inl u,V.ref (ad u))::tab ad us) _=_;by_cases e:u=x
  ·subst e;rw[xL rfl]
  ·rw[xM (fun z=>e (by injection z)),YC]
   rcases mem_cons.mp h with z | z
   ·exact absurd z.symm e
   ·exact z
theorem u6{H:Hp}{d:Addr}{ad:Int->Addr}{us:LI}{x:Int}(e:H d=some (.dK (tab ad us)))(h:x∈us):DGet H d (V.int x) (some (V.ref (ad x))):=by
 have:=DGet.k (k:=Sum.inl x) e;rw[YC h] at this;exact this
theorem Zu{x:Int}{us:LI}:(Sum.inl x:Key)∈us.map (Sum.inl:Int->Key)↔x∈us:=by
 rw[mem_map];exact⟨fun⟨y,h,e⟩=>by injection e with e;exact e ▸ h,fun h=>⟨x,h,rfl⟩⟩
def zbu(ad:Int->Addr)(y:Int)(p:Addr):Int->Addr:=fun x=>if x=y then p else ad x
theorem putA_at{ad:Int->Addr}{x y:Int}{p:Addr}(e:x=y):zbu ad y p x=p:=if_pos e
theorem putA_ne{ad:Int->Addr}{x y:Int}{p:Addr}(e:¬ x=y):zbu ad y p x=ad x:=if_neg e
structure Near (H:Hp) (d:Addr) (hs:LI) (ls:LP) (ad:Int->Addr):Prop where
 d:H d=some (.dK (tab ad hs))
 nb:∀ h∈hs,H (ad h)=some (.lst ((nbs ls h).map V.int))
theorem Near.same{H H':Hp}{d:Addr}{hs:LI}{ls:LP}{ad:Int->Addr}(n:Near H d hs ls ad)(s:Same H H'):Near H' d hs ls ad:=⟨s _ _ n.d,fun h m=>s _ _ (n.nb h m)⟩
def Vi:Sp:=fun vs H Q _=>∃ (h l:Addr) (rs:List V) (hs:LI) (ls:LP),vs=[.ref h,.ref l]/\H h=some (.lst (hs.map V.int))/\H l=some (.lst rs)/\LnAt H rs ls/\Hs hs/\Ls hs ls /\
 ∀ (d:Addr) (ad:Int->Addr) H',Same H H'->H d=none->(∀ x∈hs,H (ad x)=none)->Near H' d hs ls ad->Q (.ref d) H'
theorem Uq(T:Txt w K mg a):FnOk P w K mg base CX0 1 299 (dK K 299) ["hands", "lines"] Vi:=by
 refine(T.fn 22 rfl).ok (scp 22 rfl) (fun vs H Q E h=>?_) (fun cdv A outer s H vs Q E hr h=>?_)
 ·obtain⟨h,l,rs,hs,ls,rfl,_⟩:=h
  rfl
 ·obtain⟨h,l,rs,hs,ls,rfl,hh,hl,hrs,W,L,k⟩:=h
  have l66:=L.le;have l12:=W.l12;have hu:=yY hr;refine⟨_,(zQ (um (i:=2) (scp 22 rfl).nd rfl (Or.inl rfl) ZM)
   (zQ (uo PassesOwn.never rfl (wN (pv 0)) (xZ (i:=3) (scp 22 rfl).nd rfl (Or.inl rfl))
    (yi (Zd hu (pv 2) (pv 3) (Vq yp) rfl)))
   (zQ (uo PassesOwn.never rfl (wN (pv 1)) (Vn rfl (vV (xZ (i:=4) (scp 22 rfl).nd rfl (Or.inl rfl)) (vV (xZ (i:=5) (scp 22 rfl).nd rfl (Or.inl rfl)) YW)))
    (zQ (Zc (Um F.plainAttrs_list F.slot_list_append F.type_list_append yc (Zg hu (pv 2) (pv 4) (fun _ _=>rfl)) (wk (pv 5) yp)))
    (yi (Zc (Um F.plainAttrs_list F.slot_list_append F.type_list_append yc (Zg hu (pv 2) (pv 5) (fun _ _=>rfl)) (wk (pv 4) yp))))))
   (yi (xl (pv 2)))))),?_⟩
  refine fun d hd=>?_;refine⟨_,rfl,h,rfl,⟨_,sO (sW hd _ _ hh)⟩,?_⟩;refine for_list (K:=K) (a:=h) (xs:=hs.map V.int) (fun i σ H'=>∃ (ad:Int->Addr) (o:Option V),σ=[some (.ref h),some (.ref l),some (.ref d),o,none,none]/\H' d=some (.dK (tab ad (hs.take i))) /\
   (∀ x∈hs.take i,H' (ad x)=some (.lst [])/\H (ad x)=none)/\(∀ x∈hs.take i,∀ y∈hs.take i,ad x=ad y->x=y)/\Same H H') ?_ ?_ ?_ ?_
  ·exact⟨fun _=>0,none,rfl,za,fun x hx=>by simp at hx,fun x hx=>by simp at hx,sW hd⟩
  ·rintro i σ H' _ ⟨ad,o,_,_,_,_,sm⟩
   exact sO (sm _ _ hh)
  ·rintro i x σ H' hi ⟨ad,o,rfl,hd',hat,hinj,sm⟩
   rw[List.getElem?_map] at hi;obtain⟨y,hy,rfl⟩:=map_eq_some_iff.mp hi;have hnew:y∉hs.take i:=wS (Wd W.up) hy;refine⟨(by show 0<=sizeLine;decide),fun p hp=>?_⟩;have hpd:p≠d:=fun z=>by rw[z,hd'] at hp;cases hp
   have hd2:(upd H' p (.lst [])) d=some (.dK (tab ad (hs.take i))):=by rw[upd_ne hpd.symm];exact hd'
   refine⟨_,rfl,_,rfl,d,_,rfl,DPut.k (k:=Sum.inl y) hd2 (zj ?_),?_⟩
   ·unfold tab
    rw[length_map,length_take];omega
   ·have et:hs.take (i+1)=hs.take i++[y]:=by rw[take_add_one,hy];rfl
    have hp0:H p=none:=sm.free hp;have hne:∀ x∈hs.take i,ad x≠p:=fun x hx z=>by
     have:=(hat x hx).1;rw[z,hp] at this;cases this
    have had:∀ x∈hs.take i,ad x≠d:=fun x hx z=>by
     have:=(hat x hx).1;rw[z,hd'] at this;cases this
    refine⟨zbu ad y p,_,rfl,?_,?_,?_,(sm.updF hp0).updF hd⟩
    ·rw[za,K04.putK_new (by rw[ZE,Zu];exact hnew),et]
     unfold tab;rw[map_append]
     congr 3
     ·refine map_congr_left fun x hx=>?_
      rw[putA_ne (fun z=>hnew (by rw[<- z];exact hx))]
     ·show _=[(Sum.inl y,V.ref (zbu ad y p y))]
      rw[putA_at rfl]
    ·intro x hx
     rw[et,mem_append,mem_singleton] at hx;by_cases e:x=y
     ·rw[putA_at e,upd_ne hpd,za]
      exact⟨rfl,hp0⟩
     ·rw[putA_ne e]
      have hx:=hx.resolve_right e;rw[upd_ne (had x hx),upd_ne (hne x hx)];exact hat x hx
    ·intro x hx z hz
     rw[et,mem_append,mem_singleton] at hx hz;by_cases e1:x=y
     ·by_cases e2:z=y
      ·intro _;rw[e1,e2]
      ·rw[putA_at e1,putA_ne e2]
       intro q;exact absurd q.symm (hne z (hz.resolve_right e2))
     ·by_cases e2:z=y
      ·rw[putA_ne e1,putA_at e2]
       intro q;exact absurd q (hne x (hx.resolve_right e1))
      ·rw[putA_ne e1,putA_ne e2]
       exact hinj x (hx.resolve_right e1) z (hz.resolve_right e2)
  ·rintro σ H1 ⟨ad,o,rfl,hd',hat,hinj,sm⟩
   rw[length_map,take_length] at hd' hat hinj;refine⟨_,rfl,l,rfl,⟨_,sO (sm _ _ hl)⟩,?_⟩;refine for_list (K:=K) (a:=l) (xs:=rs) (fun i σ H'=>∃ (o1 o2:Option V),σ=[some (.ref h),some (.ref l),some (.ref d),o,o1,o2]/\Near H' d hs (ls.take i) ad/\Same H H') ?_ ?_ ?_ ?_
   ·exact⟨none,none,rfl,⟨hd',fun x hx=>by rw[List.take_zero];exact(hat x hx).1⟩,sm⟩
   ·rintro i σ H' _ ⟨o1,o2,_,_,sm'⟩
    exact sO (sm' _ _ hl)
   ·rintro i x σ H' hi ⟨o1,o2,rfl,N,sm'⟩
    obtain⟨⟨x,y⟩,q,hp,rfl,hq⟩:=(hrs.same sm').get hi;obtain⟨hx,hy,hxy⟩:=L.ok _ (mem_of_getElem? hp);dsimp only at hq hx hy hxy;refine⟨q,_,rfl,sP hq,rfl,_,_,rfl,_,_,rfl,rfl,?_⟩;have len:∀ z,((nbs (ls.take i) z).map V.int).length<sizeLine:=fun z=>by
     rw[length_map];have:=Xk (h:=z) (ls:=ls.take i);rw[length_take] at this;exact zj (by omega)
    have hdx:ad x≠d:=fun z=>by
     have:=N.nb x hx;rw[z,N.d] at this;cases this
    have hdy:ad y≠d:=fun z=>by
     have:=N.nb y hy;rw[z,N.d] at this;cases this
    have hne:ad y≠ad x:=fun z=>by have:=hinj y hy x hx z;omega
    refine⟨_,rfl,_,rfl,d,V.ref (ad x),rfl,u6 N.d hx,.inl ⟨rfl,_,sO (N.nb x hx)⟩,_,rfl,_,_,_,rfl,rfl,N.nb x hx,len x,?_⟩;have nd2:(upd H' (ad x) (.lst ((nbs (ls.take i) x).map V.int++[V.int y]))) d=some (.dK (tab ad hs)):=by rw[upd_ne hdx.symm];exact N.d
    have ny2:(upd H' (ad x) (.lst ((nbs (ls.take i) x).map V.int++[V.int y]))) (ad y)=some (.lst ((nbs (ls.take i) y).map V.int)):=by rw[upd_ne hne];exact N.nb y hy
    refine⟨_,rfl,_,rfl,d,V.ref (ad y),rfl,u6 nd2 hy,.inl ⟨rfl,_,sO ny2⟩,_,rfl,_,_,_,rfl,rfl,ny2,len y,?_⟩;refine⟨_,_,rfl,⟨?_,fun z hz=>?_⟩,(sm'.updF (hat x hx).2).updF (hat y hy).2⟩
    ·rw[upd_ne hdy.symm];exact nd2
    ·rw[Ww hp]
     by_cases e2:z=y
     ·subst e2
      rw[za,if_neg (by show ¬ x=z;omega),if_pos rfl,map_append];rfl
     ·rw[upd_ne (fun q=>e2 (hinj z hz y hy q))]
      by_cases e1:z=x
      ·subst e1
       rw[za,if_pos rfl,if_neg (by show ¬ y=z;omega),map_append];rfl
      ·rw[upd_ne (fun q=>e1 (hinj z hz x hx q)),if_neg (fun q=>e1 q.symm),if_neg (fun q=>e2 q.symm),append_nil,append_nil]
       exact N.nb z hz
   ·rintro σ H' ⟨o1,o2,rfl,N,sm'⟩
    rw[hrs.1,take_length] at N;exact⟨_,rfl,k d ad H' sm' hd (fun x hx=>(hat x hx).2) N⟩
theorem Near.ext{H H':Hp}{d p dx C:Addr}{fs:List (Str×V)}{hs:LI}{ls:LP}{ad:Int->Addr}(n:Near H d hs ls ad)(hp:H p=some (.ins C dx fs))(s:Ext p H H'):Near H' d hs ls ad :=
 ⟨s _ _ n.d (fun z=>by rw[<- z,n.d] at hp;cases hp),fun h m=>s _ _ (n.nb h m) (fun z=>by rw[<- z,n.nb h m] at hp;cases hp)⟩
theorem LnAt.ext{H H':Hp}{p dx C:Addr}{fs:List (Str×V)}{rs:List V}{ls:LP}(h:LnAt H rs ls)(hp:H p=some (.ins C dx fs))(s:Ext p H H'):LnAt H' rs ls:=⟨h.1,fun i r q h1 h2=>by
 obtain⟨t,e,ht⟩:=h.2 i r q h1 h2;exact⟨t,e,s _ _ ht fun z=>by rw[<- z,ht] at hp;cases hp⟩⟩
theorem Ext.free{l p:Addr}{H H':Hp}(k:Ext l H H')(n:p≠l)(h:H' p=none):H p=none:=by
 cases e:H p with
 |none=>rfl
 |some o=>have:=k _ _ e n;rw[h] at this;cases this
open Sco
def srt(ls:LP):LP:=ls.mergeSort fun p q=>decide (rkP p<=rkP q)
def Bd(ls:LP):Prop:=∀ p∈ls,0<=p.2/\p.2<1000
theorem srt_perm(ls:LP):(srt ls).Perm ls:=List.mergeSort_perm _ _
theorem zad(ls:LP):(srt ls).Pairwise fun p q=>rkP p<=rkP q:=by
 have:=List.pairwise_mergeSort (le:=fun p q:Int×Int=>decide (rkP p<=rkP q)) (fun a b c h1 h2=>by simp at *;omega) (fun a b=>by simp;omega) ls;exact this.imp fun h=>by simpa using h
theorem V9{p q:Int×Int}(bp:0<=p.2/\p.2<1000)(bq:0<=q.2/\q.2<1000)(h:rkP p=rkP q):p=q:=by
 obtain⟨a,b⟩:=p;obtain⟨c,d⟩:=q;unfold rkP at h;dsimp only at *;have:a=c:=by omega
 subst this;rw[show b=d by omega]
theorem Vb:∀ {as bs:LP},Bd as->as.Perm bs->as.Pairwise (fun p q=>rkP p<=rkP q)->bs.Pairwise (fun p q=>rkP p<=rkP q)->as=bs
 |[],bs,_,pm,_,_=>(List.nil_perm.mp pm).symm
 |x::as,[],_,pm,_,_=>absurd pm.length_eq (by simp)
 |x::as,y::bs,B,pm,u1,u2=>by
  obtain⟨a1,a2⟩:=pairwise_cons.mp u1;obtain⟨b1,b2⟩:=pairwise_cons.mp u2;have hy:y∈x::as:=pm.mem_iff.mpr mem_cons_self;have hx:x∈y::bs:=pm.mem_iff.mp mem_cons_self;have l1:rkP x<=rkP y:=by
   rcases mem_cons.mp hy with z | z
   ·rw[z];exact Int.le_refl _
   ·exact a1 y z
  have l2:rkP y<=rkP x:=by
   rcases mem_cons.mp hx with z | z
   ·rw[z];exact Int.le_refl _
   ·exact b1 x z
  have e:x=y:=V9 (B x mem_cons_self) (B y hy) (by omega);subst e;rw[Vb (fun p hp=>B p (mem_cons_of_mem _ hp)) (List.Perm.cons_inv pm) a2 b2]
theorem zae{as ls:LP}(B:Bd ls)(pm:as.Perm ls)(u:as.Pairwise fun p q=>rkP p<=rkP q):as=srt ls :=
 Vb (fun p hp=>B p (pm.mem_iff.mp hp)) (pm.trans (srt_perm ls).symm) u (zad ls)
theorem LnAt.ps{H:Hp}:∀ {rs:List V}{ls:LP},LnAt H rs ls->Bd ls->∃ ps:List PT,ps.map (fun p=>V.ref p.1)=rs/\ps.map (·.2)=ls/\PsAt H ps
 |[],[],_,_=>⟨[],rfl,rfl,fun p hp=>by cases hp⟩
 |[],_::_,h,_=>absurd h.1 (by simp)
 |_::_,[],h,_=>absurd h.1 (by simp)
 |r::rs,p::ls,h,B=>by
  obtain⟨q,rfl,hq⟩:=h.2 0 r p rfl rfl;obtain⟨ps,e1,e2,e3⟩:=LnAt.ps (H:=H) (rs:=rs) (ls:=ls) ⟨by have:=h.1;simpa using this,fun i r p h1 h2=>h.2 (i+1) r p (by simpa using h1) (by simpa using h2)⟩ fun p hp=>B p (mem_cons_of_mem _ hp);refine⟨(q,p)::ps,by rw[map_cons,e1],by rw[map_cons,e2],fun x hx=>?_⟩;rcases mem_cons.mp hx with z | z
  ·rw[z]
   exact⟨hq,B p mem_cons_self⟩
  ·exact e3 x z
theorem zbY{H:Hp}{qs:List PT}(h:PsAt H qs):LnAt H (qs.map fun p=>V.ref p.1) (qs.map (·.2)):=by
 refine⟨by simp,fun i r p h1 h2=>?_⟩;rw[List.getElem?_map] at h1 h2;obtain⟨q,e1,rfl⟩:=map_eq_some_iff.mp h1;rw[e1] at h2;cases h2;exact⟨q.1,rfl,(h q (mem_of_getElem? e1)).1⟩
theorem _root_.L2.Sco.PsAt.same{H H':Hp}{ps:List PT}(h:PsAt H ps)(s:Same H H'):PsAt H' ps:=fun p hp=>⟨s _ _ (h p hp).1,(h p hp).2⟩
theorem _root_.L2.Sco.PsAt.sub{H:Hp}{ps qs:List PT}(h:PsAt H ps)(s:∀ q∈qs,q∈ps):PsAt H qs:=fun p hp=>h p (s p hp)
theorem YF{H:Hp}{ps qs:List PT}(h:PsAt H ps)(pm:qs.Perm ps)(u:qs.Pairwise fun x y=>rkP x.2<=rkP y.2):LnAt H (qs.map fun p=>V.ref p.1) (srt (ps.map (·.2))):=by
 have e:qs.map (·.2)=srt (ps.map (·.2)):=zae (fun p hp=>by
  obtain⟨x,hx,rfl⟩:=mem_map.mp hp;exact(h x hx).2) (pm.map _) (by rw[pairwise_map];exact u)
 have:=zbY (h.sub fun q hq=>pm.mem_iff.mp hq);rw[e] at this;exact this
theorem Ls.bd{hs:LI}{ls:LP}(W:Hs hs)(L:Ls hs ls):Bd ls:=fun p hp=>by
 have:=(L.ok p hp).2.1;have a1:=W.lo p.2 this;have a2:=W.hi p.2 this;omega
structure WebAt (a:Ad) (H:Hp) (p:Addr) (hs:LI) (ls:LP) (dx oh ol d:Addr) (ad:Int->Addr):Prop where
 p:H p=some (.ins 365 dx [("own_hands",.ref oh),("own_lines",.ref ol),("near",.ref d)])
 oh:H oh=some (.lst (hs.map V.int))
 nr:Near H d hs ls ad
 ol:∃ zs,H ol=some (.lst zs)/\LnAt H zs (srt ls)
theorem WebAt.same{H H':Hp}{p dx oh ol d:Addr}{hs:LI}{ls:LP}{ad:Int->Addr}(w:WebAt a H p hs ls dx oh ol d ad)(s:Same H H'):WebAt a H' p hs ls dx oh ol d ad:=⟨s _ _ w.p,s _ _ w.oh,w.nr.same s,by obtain⟨zs,e1,e2⟩:=w.ol;exact⟨zs,s _ _ e1,e2.same s⟩⟩
def zaf(a:Ad):Sp:=fun vs H Q _=>∃ (p dx h l:Addr) (rs:List V) (hs:LI) (ls:LP),vs=[.ref p,.ref h,.ref l]/\H p=some (.ins 365 dx [])/\H h=some (.lst (hs.map V.int))/\H l=some (.lst rs)/\LnAt H rs ls/\Hs hs/\Ls hs ls/\ls.length<=63 /\
 ∀ (oh ol d:Addr) (ad:Int->Addr) H',H oh=none->H ol=none->H d=none->(∀ x∈hs,H (ad x)=none)->Ext p H H'->WebAt a H' p hs ls dx oh ol d ad->Q .non H'
theorem zaH(T:Txt w K mg a):FnOk P w K mg base CX0 4 313 (dK K 313) ["self", "hands", "lines"] (zaf a):=by
 have c_are_hands:=cal P base T 19 rfl (Wt T);have c_are_lines:=cal P base T 21 rfl (Ws T);have c_near_by_hand:=cal P base T 22 rfl (Uq T);refine(T.fn 47 rfl).ok (scp 47 rfl) (fun vs H Q E h=>?_) (fun cdv A outer s H vs Q E hr h=>?_)
 ·obtain⟨p,dx,h,l,rs,hs,ls,rfl,_⟩:=h
  rfl
 ·obtain⟨p,dx,h,l,rs,hs,ls,rfl,hp,hh,hl,hrs,W,L,l66,k⟩:=h
  have np:∀ {b:Addr}{xs:List V},H b=some (.lst xs)->b≠p:=fun e z=>by rw[z,hp] at e;cases e
  refine⟨_,(zQ (vT (xB (xA (Vr c_are_hands hr.m (wk (pv 1) yp))))
    (yi ZJ)
    xf)
   (zQ (vT (xB (xA (Vr c_are_lines hr.m (wk (pv 2) (wk (pv 1) yp)))))
    (yi ZJ)
    xf)
   (zQ (ZK (pv 0) (ut yF (by rfl) (T.n 6 rfl) bt_list (wk (pv 1) yp)) rfl)
   (zQ (ZK (pv 0) (yB Sco.call_sortX (by rfl) (T.n 8 rfl) xu (wk (pv 2) yp)) rfl)
   (yi (ZK (pv 0) (Vr c_near_by_hand hr.m (wk (pv 1) (wk (pv 2) yp))) rfl)))))),?_⟩
  refine⟨_,rfl,h,hs,rfl,hh,W,_,rfl,zF rfl ?_⟩;refine⟨_,rfl,_,rfl,l,h,rs,hs,ls,rfl,hl,hrs,hh,L,fun H1 s1=>⟨_,rfl,zF rfl ?_⟩⟩;refine⟨_,rfl,h,_,rfl,.inl (sO (s1 _ _ hh)),fun oh hoh=>?_⟩;have ohp:oh≠p:=fun z=>by rw[z,s1 _ _ hp] at hoh;cases hoh
  refine⟨_,rfl,p,365,dx,_,rfl,(upd_ne ohp.symm).trans (s1 _ _ hp),(T.cl 1 rfl),(T.na 1 0 rfl rfl),(by show 0<1000;decide),?_⟩;have x3:=((Ext.same (l:=p) s1).trans (Ext.new (l:=p) (o:=.lst (hs.map V.int)) hoh)).trans (Ext.at (l:=p) (o:=.ins 365 dx [("own_hands",.ref oh)]));obtain⟨ps,e1,e2,e3⟩:=(hrs.ext hp x3).ps (L.bd W);have l67:ps.length<=63:=by
   have:=congrArg List.length e2;rw[length_map] at this;omega
  refine⟨_,rfl,l,ps,rfl,by rw[e1];exact sO (x3 _ _ hl (np hl)),l67,e3,fun ol qs hol pm up=>?_⟩;have hq3:=YF e3 pm up;rw[e2] at hq3;generalize qs.map (fun p=>V.ref p.1)=zs at hq3 ⊢;have olp:ol≠p:=fun z=>by rw[z,za] at hol;cases hol
  refine⟨_,rfl,p,365,dx,_,rfl,(upd_ne olp.symm).trans za,(T.cl 1 rfl),(T.na 1 1 rfl rfl),(by show 1<1000;decide),?_⟩;have x35:=(Ext.new (l:=p) (o:=.lst zs) hol).trans (Ext.at (l:=p) (o:=.ins 365 dx [("own_hands",.ref oh),("own_lines",.ref ol)]));have x5:=x3.trans x35;refine⟨_,rfl,_,rfl,h,l,rs,hs,ls,rfl,x5 _ _ hh (np hh),x5 _ _ hl (np hl),hrs.ext hp x5,W,L,fun d ad H6 s6 hd had N=>?_⟩;have hp6:=s6 _ _ (za (a:=p));refine⟨_,rfl,p,365,dx,_,rfl,hp6,(T.cl 1 rfl),(T.na 1 2 rfl rfl),(by show 2<1000;decide),?_⟩;have nfr:∀ b,(upd (upd (upd (upd H1 oh (.lst (hs.map V.int))) p (.ins 365 dx [("own_hands",.ref oh)])) ol (.lst zs)) p (.ins 365 dx [("own_hands",.ref oh),("own_lines",.ref ol)])) b=none->H b=none:=fun b e=>x5.free (fun z=>by rw[z,za] at e;cases e) e;refine k oh ol d ad _ (s1.free hoh) (x3.free olp hol) (nfr d hd) (fun x hx=>nfr _ (had x hx)) ((x5.trans (Ext.same s6)).trans Ext.at) ⟨za,?_,N.ext hp6 Ext.at,zs,?_,?_⟩
  ·rw[upd_ne ohp]
   exact s6 _ _ (x35 _ _ ((upd_ne ohp).trans za) ohp)
  ·rw[upd_ne olp]
   exact s6 _ _ ((upd_ne olp).trans za)
  ·exact((hq3.ext za x35).same s6).ext hp6 Ext.at
theorem Xj{x:Int}:∀ {ls:LP},ls.Nodup->(∀ p∈ls,p.1<p.2)->(nbs ls x).Nodup
 |[],_,_=>nodup_nil
 |p::ls,nd,ok=>by
  obtain⟨n1,n2⟩:=nodup_cons.mp nd;have ih:=Xj (x:=x) n2 fun q hq=>ok q (mem_cons_of_mem _ hq);have lt:=ok p (mem_cons_self ..);have e:nbs (p::ls) x=((if p.1=x then[p.2] else[])++if p.2=x then[p.1] else[])++nbs ls x:=by unfold nbs;rw[flatMap_cons]
  have no:∀ y,Adj ls x y->y∉((if p.1=x then[p.2] else[])++if p.2=x then[p.1] else[]):=by
   intro y hy hm;have key:∀ q∈ls,q≠p:=fun q hq z=>n1 (z ▸ hq);rcases mem_append.mp hm with h | h
   ·by_cases c:p.1=x
    ·rw[if_pos c] at h
     have ey:y=p.2:=mem_singleton.mp h;rcases hy with z | z
     ·exact key _ z (by rw[ey,<- c])
     ·have:=ok _ (mem_cons_of_mem _ z)
      simp at this;omega
    ·rw[if_neg c] at h;cases h
   ·by_cases c:p.2=x
    ·rw[if_pos c] at h
     have ey:y=p.1:=mem_singleton.mp h;rcases hy with z | z
     ·have:=ok _ (mem_cons_of_mem _ z)
      simp at this;omega
     ·exact key _ z (by rw[ey,<- c])
    ·rw[if_neg c] at h;cases h
  rw[e,nodup_append];refine⟨?_,ih,fun a ha b hb z=>no b (mem_nbs.mp hb) (z ▸ ha)⟩;by_cases c1:p.1=x
  ·have c2:¬ p.2=x:=by omega
   rw[if_pos c1,if_neg c2];simp
  ·rw[if_neg c1]
   by_cases c2:p.2=x
   ·rw[if_pos c2];simp
   ·rw[if_neg c2];simp
theorem Ux{hs:LI}{ls:LP}{x:Int}(W:Hs hs)(L:Ls hs ls):(nbs ls x).length<=12:=by
 have nd:=Xj (x:=x) L.nd fun p hp=>(L.ok p hp).2.2;have sub:∀ y∈nbs ls x,y∈hs:=fun y hy=>by
  rcases mem_nbs.mp hy with z | z
  ·exact(L.ok _ z).2.1
  ·exact(L.ok _ z).1
 have:=xy nd sub;have:=W.l12;omega
theorem Va:∀ {as bs:LI},as.Pairwise (· < ·)->bs.Pairwise (· < ·)->(∀ x,x∈as↔x∈bs)->as=bs
 |[],[],_,_,_=>rfl
 |[],b::bs,_,_,h=>by have:=(h b).mpr (mem_cons_self ..);cases this
 |a::as,[],_,_,h=>by have:=(h a).mp (mem_cons_self ..);cases this
 |a::as,b::bs,ha,hb,h=>by
  obtain⟨a1,a2⟩:=pairwise_cons.mp ha;obtain⟨b1,b2⟩:=pairwise_cons.mp hb;have e:a=b:=by
   rcases mem_cons.mp ((h a).mp (mem_cons_self ..)) with e | e
   ·exact e
   ·rcases mem_cons.mp ((h b).mpr (mem_cons_self ..)) with e' | e'
    ·exact e'.symm
    ·have:=b1 a e
     have:=a1 b e';omega
  subst e;rw[Va a2 b2 fun x=>⟨fun hx=>by
   rcases mem_cons.mp ((h x).mp (mem_cons_of_mem _ hx)) with e | e
   ·have:=a1 x hx;omega
   ·exact e,fun hx=>by
   rcases mem_cons.mp ((h x).mpr (mem_cons_of_mem _ hx)) with e | e
   ·have:=b1 x hx;omega
   ·exact e⟩]
def adB(ls:LP)(x y:Int):Bool:=decide ((x,y)∈ls)||decide ((y,x)∈ls)
theorem X1{ls:LP}{x y:Int}:decide (y∈nbs ls x)=adB ls x y:=by
 unfold adB;rw[Bool.eq_iff_iff,or_eq_true,decide_eq_true_eq,decide_eq_true_eq,decide_eq_true_eq];exact mem_nbs
theorem Wi{hs:LI}{ls:LP}{x:Int}{ms:LI}(W:Hs hs)(L:Ls hs ls)(pm:ms.Perm (nbs ls x))(sd:ms.Pairwise (· <= ·)):ms=hs.filter (adB ls x):=by
 have nd:ms.Nodup:=pm.nodup_iff.mpr (Xj L.nd fun p hp=>(L.ok p hp).2.2);have up:ms.Pairwise (· < ·):=(sd.and (nodup_iff_pairwise_ne.mp nd)).imp fun h=>by
  have h1:=h.1;have h2:=h.2;omega
 refine Va up (W.up.filter _) fun y=>?_;rw[pm.mem_iff,mem_filter,<- X1,decide_eq_true_eq];refine⟨fun h=>⟨?_,h⟩,fun h=>h.2⟩;rcases mem_nbs.mp h with z | z
 ·exact(L.ok _ z).2.1
 ·exact(L.ok _ z).1
def ZG(a:Ad):Sp:=fun vs H Q _=>∃ (p:Addr) (hs:LI) (ls:LP) (dx oh ol d:Addr) (ad:Int->Addr),vs=[.ref p]/\WebAt a H p hs ls dx oh ol d ad/\∀ q,H q=none->Q (.ref q) (upd H q (.lst (hs.map V.int)))
theorem xV{p:Addr}{hs:LI}{ls:LP}{dx oh ol d:Addr}{ad:Int->Addr}{H:Hp}{Q:VK}{E:XK}(W:WebAt a H p hs ls dx oh ol d ad)(k:∀ q,H q=none->Q (.ref q) (upd H q (.lst (hs.map V.int)))):ZG a [.ref p] H Q E:=⟨p,hs,ls,dx,oh,ol,d,ad,rfl,W,k⟩
theorem wR(T:Txt w K mg a):FnOk P w K mg base CX0 1 320 (dK K 320) ["self"] (ZG a):=by
 refine(T.fn 48 rfl).ok (scp 48 rfl) (fun vs H Q E h=>?_) (fun cdv A outer s H vs Q E hr h=>?_)
 ·obtain⟨p,hs,ls,dx,oh,ol,d,ad,rfl,_⟩:=h
  rfl
 ·obtain⟨p,hs,ls,dx,oh,ol,d,ad,rfl,W,k⟩:=h
  refine zT (w_pss_one (zg (zU yF (by rfl) (T.n 6 rfl) bt_list (w_pa_cons (yL (w_pv 0) rfl) w_pa_nil)))) ?_;exact⟨_,rfl,p,_,dx,_,_,rfl,W.p,(T.cl 1 rfl),(T.na 1 0 rfl rfl),rfl,oh,_,rfl,.inl (sO W.oh),k⟩
theorem merge_app:∀ {kvs acc:List (Key×V)},((acc++kvs).map (·.1)).Nodup->mergeK acc kvs=acc++kvs
 |[],acc,_=>by simp[mergeK]
 |kv::kvs,acc,h=>by
  have hn:kv.1∉acc.map (·.1):=by
   rw[map_append,nodup_append] at h;intro z;exact h.2.2 _ z _ (by simp) rfl
  show mergeK (putK acc kv.1 kv.2) kvs=_;rw[putK_new hn,merge_app (by simpa using h)];simp
theorem Wz{kvs:List (Key×V)}(h:(kvs.map (·.1)).Nodup):mergeK [] kvs=kvs:=by
 have:=merge_app (kvs:=kvs) (acc:=[]) (by simpa using h)
 simpa using this
theorem VI{us:LI}(h:us.Nodup):(us.map (Sum.inl:Int->Key)).Nodup:=by
 rw[nodup_iff_pairwise_ne,pairwise_map];exact(nodup_iff_pairwise_ne.mp h).imp fun {a b} n z=>n (by injection z)
theorem WK{hs:LI}(W:Hs hs):hs.Nodup:=nodup_iff_pairwise_ne.mpr (W.up.imp fun {a b} h=>by omega)
theorem LnAt.snoc{H:Hp}{rs:List V}{ls:LP}{q:Addr}{p:Int×Int}(h:LnAt H rs ls)(hq:H q=some (.tup [.int p.1,.int p.2])):LnAt H (rs++[.ref q]) (ls++[p]):=by
 refine⟨by simp[h.1],fun i r p' h1 h2=>?_⟩;have l:=h.1;by_cases hi:i<rs.length
 ·rw[List.getElem?_append_left hi] at h1
  rw[List.getElem?_append_left (by omega)] at h2;exact h.2 i r p' h1 h2
 ·rw[List.getElem?_append_right (by omega)] at h1
  rw[List.getElem?_append_right (by omega),<- l] at h2;obtain⟨n,hn⟩:∃ n,n=i-rs.length:=⟨_,rfl⟩;rw[<- hn] at h1 h2;cases n with
  |zero=>cases h1;cases h2;exact⟨q,rfl,hq⟩
  |succ n=>simp at h1
theorem LnAt.updL{H:Hp}{rs zs:List V}{ls:LP}{p:Addr}{o:HO}(hp:H p=some (.lst zs))(h:LnAt H rs ls):LnAt (L2.upd H p o) rs ls:=⟨h.1,fun n r pr e1 e2=>by
 obtain⟨q,e,t⟩:=h.2 n r pr e1 e2;exact⟨q,e,by rw[upd_ne (Uv t hp (by intro z;cases z))];exact t⟩⟩
theorem at_last{xs:List V}{v:V}:atI (xs++[v]) (-1)=some v:=by
 unfold atI ixN;rw[if_neg (by decide),if_pos (by simp;omega)];simp;have:((-1:Int)+((xs.length:Int)+1)).toNat=xs.length:=by omega
 rw[this];simp
def tabV(f:Int->V)(us:LI):List (Key×V):=us.map fun h=>(Sum.inl h,f h)
theorem xp{f:Int->V}{us:LI}:(tabV f us).map (·.1)=us.map Sum.inl:=by
 unfold tabV;rw[map_map];rfl
theorem tabV_len{f:Int->V}{us:LI}:(tabV f us).length=us.length:=by
 unfold tabV;rw[length_map]
theorem vQ{f:Int->V}{x:Int}:∀ {us:LI},x∈us->yG (tabV f us) (Sum.inl x:Key)=some (f x)
 |u::us,h=>by
  unfold tabV yG;rw[map_cons,List.find?_cons];by_cases e:u=x
  ·subst e;simp
  ·have:¬ ((Sum.inl u:Key)=Sum.inl x):=fun z=>e (by injection z)
   simp only[decide_eq_false this];have:=vQ (f:=f) ((mem_cons.mp h).resolve_left fun z=>e z.symm);unfold tabV yG at this;exact this
theorem Wf{f:Int->V}{us:LI}{x:Int}(h:x∉us):yG (tabV f us) (Sum.inl x:Key)=none:=by
 have z:=wK (kvs:=tabV f us) (k:=(Sum.inl x:Key)) (by rw[xp,Zu];exact h);cases hv:yG (tabV f us) (Sum.inl x:Key) with
 |none=>rfl
 |some v=>rw[hv] at z;cases z
theorem vP{H:Hp}{d:Addr}{f:Int->V}{us:LI}{x:Int}(e:H d=some (.dK (tabV f us)))(h:x∈us):DGet H d (V.int x) (some (f x)):=by
 have:=DGet.k (k:=.inl x) e;rw[vQ h] at this;exact this
theorem VS{H:Hp}{d:Addr}{f:Int->V}{us:LI}{x:Int}(e:H d=some (.dK (tabV f us)))(h:x∉us):DGet H d (V.int x) none:=by
 have:=DGet.k (k:=Sum.inl x) e;rw[Wf h] at this;exact this
theorem vt{f g:Int->V}{us:LI}(h:∀ x∈us,f x=g x):tabV f us=tabV g us:=map_congr_left fun x hx=>by rw[h x hx]
theorem Wg{f:Int->V}{us:LI}{x:Int}{v:V}(h:x∉us):putK (tabV f us) (.inl x) v=tabV (fun y=>if y=x then v else f y) (us++[x]):=by
 rw[putK_new (by rw[xp,Zu];exact h)];unfold tabV;rw[map_append]
 congr 1
 ·exact map_congr_left fun y hy=>by
   show _=(Sum.inl y,if y=x then v else f y);rw[if_neg (fun(e:y=x)=>h (by rw[<- e];exact hy))]
 ·simp
theorem UQ{x:Int}{v y:V}{H H':Hp}(h:yI (Sum.inl x,v) y H H'):∃ p,H p=none/\y=.ref p/\H'=upd H p (.tup [.int x,v]):=h
inductive Fl:V->Prop where
 |int (i:Int):Fl (.int i)
 |non:Fl .non
 |bl (b:Bool):Fl (.bl b)
 |str (x:Str):Fl (.str x)
inductive ShF (α:Type) where
 |fl (v:V):ShF α
 |lst (xs:List α):ShF α
 |tup (xs:List α):ShF α
 |dk (kvs:List (Key×α)):ShF α
 |rw(ks:List V) (xs:List α):ShF α
@[reducible] def Sh:Nat->Type
 |0=>Empty
 |n+1=>ShF (Sh n)
def hd1(l:Addr)(H:Hp):Hp:=fun b=>if b=l then none else H b
theorem zR{l b:Addr}{H:Hp}{o:HO}(h:H b=some o)(n:b≠l):hd1 l H b=some o:=by unfold hd1;rw[if_neg n];exact h
theorem yr{l b:Addr}{H:Hp}{o:HO}(e:hd1 l H b=some o):b≠l/\H b=some o:=by
 unfold hd1 at e;by_cases c:b=l
 ·rw[if_pos c] at e;cases e
 ·rw[if_neg c] at e;exact⟨c,e⟩
theorem yx{l:Addr}{H H':Hp}(x:Ext l H H'):Same (hd1 l H) (hd1 l H'):=fun b o e=>zR (x b o (yr e).2 (yr e).1) (yr e).1
theorem hd1_sub{l:Addr}{H:Hp}:Same (hd1 l H) H:=fun b o e=>(yr e).2
def IsF(H:Hp){α:Type}(R:Hp->V->α->Prop)(v:V):ShF α->Prop
 |.fl u=>v=u/\Fl u
 |.lst xs=>∃ a rs,v=.ref a/\H a=some (.lst rs)/\Paired (R H) rs xs/\rs.length<=200
 |.tup xs=>∃ a rs,v=.ref a/\H a=some (.tup rs)/\Paired (R H) rs xs/\rs.length<=200
 |.dk kvs=>∃ a vs,v=.ref a/\H a=some (.dK vs)/\Paired (fun(p:Key×V) q=>p.1=q.1/\R (hd1 a H) p.2 q.2) vs kvs/\(vs.map (·.1)).Nodup/\vs.length<=200
 |.rw ks xs=>∃ a od vs,v=.ref a/\(a == sysModules)=false/\H a=some (hOd a od)/\OdP od (ks.zip vs)/\ks.length=vs.length/\Paired (R H) vs xs/\KsOk H ks/\ks.length<=200
def IsSh(H:Hp):(n:Nat)->V->Sh n->Prop
 |0,_,_=>False
 |n+1,v,s=>IsF H (fun G=>IsSh G n) v s
theorem KsOk.same{H H':Hp}{ks:List V}(s:Same H H')(h:KsOk H ks):KsOk H' ks:=fun j y hj=>⟨(h j y hj).1,by
 cases (h j y hj).2 with
 |non=>exact .non
 |bl b h=>exact .bl b h
 |int i h=>exact .int i h
 |str x=>exact .str x
 |tup b i e=>exact .tup b i (s _ _ e)⟩
theorem IsF.same{H H':Hp}{α:Type}{R:Hp->V->α->Prop}{v:V}{x:ShF α}(s:Same H H')(r:∀ {G G':Hp} v x,Same G G'->R G v x->R G' v x)(h:IsF H R v x):IsF H' R v x:=by
 cases x with
 |fl u=>exact h
 |lst xs=>obtain⟨a,rs,h1,h2,h3,h4⟩:=h;exact⟨a,rs,h1,s _ _ h2,Paired.mapP h3 fun _ _=>r _ _ s,h4⟩
 |tup xs=>obtain⟨a,rs,h1,h2,h3,h4⟩:=h;exact⟨a,rs,h1,s _ _ h2,Paired.mapP h3 fun _ _=>r _ _ s,h4⟩
 |dk kvs=>obtain⟨a,rs,h1,h2,h3,h4⟩:=h;exact⟨a,rs,h1,s _ _ h2,Paired.mapP h3 fun p q h=>⟨h.1,r _ _ (yx (Ext.same s)) h.2⟩,h4⟩
 |rw ks xs=>obtain⟨a,od,vs,h1,h2,h3,h4,h5,h6,h7,h8⟩:=h;exact⟨a,od,vs,h1,h2,s _ _ h3,h4,h5,Paired.mapP h6 fun _ _=>r _ _ s,K04.KsOk.same s h7,h8⟩
theorem IsSh.same:∀ {n:Nat}{H H':Hp}{v:V}{x:Sh n},Same H H'->IsSh H n v x->IsSh H' n v x
 |0,_,_,_,_,_,h=>h.elim
 |_+1,_,_,_,_,s,h=>IsF.same s (fun _ _=>IsSh.same) h
theorem xg{κ α β:Type}{R:α->β->Prop}{as:List (κ×α)}{bs:List (κ×β)}(h:Paired (fun(p:κ×α) (q:κ×β)=>p.1=q.1/\R p.2 q.2) as bs):as.map (·.1)=bs.map (·.1):=by
 induction h with
 |nil=>rfl
 |cons h _ ih=>rw[map_cons,map_cons,ih,h.1]
def un(G H H':Hp):Hp:=fun b=>match G b with | some o=>some o | none=>if H b=none then H' b else none
section
variable {G H H' F:Hp}{b D:Addr}{o:HO}
theorem Z6(e:un G H H' b=some o):G b=some o\/(G b=none/\H b=none/\H' b=some o):=by
 unfold un at e;cases h:G b with
 |some o'=>rw[h] at e;exact .inl e
 |none =>
  rw[h] at e;by_cases c:H b=none
  ·exact .inr ⟨rfl,c,by simpa[c] using e⟩
  ·simp[c] at e
theorem zbr:Same G (un G H H'):=fun b o e=>by unfold un;rw[e]
theorem wL(s:Same G H)(c:H b=none)(e:H' b=some o):un G H H' b=some o:=by
 unfold un;rw[s.free c];simp only[c,if_true];exact e
theorem yQ(s:Same G H)(m:Same H' F):Same (un G H H') (un G H F):=fun b o e=>by
 rcases Z6 e with h | ⟨_,h1,h2⟩
 ·exact zbr _ _ h
 ·exact wL s h1 (m _ _ h2)
theorem vN{H2:Hp}(sG:Same G H)(s:Same H F)(hD:F D≠none):Same (un G F H2) (un G H (hd1 D H2)):=fun b o e=>by
 rcases Z6 e with h | ⟨_,h1,h2⟩
 ·exact zbr _ _ h
 ·exact wL sG (s.free h1) (zR h2 fun z=>hD (by rw[<- z];exact h1))
theorem UW(s:Same G H'):Same (un G H H') H':=fun b o e=>by
 rcases Z6 e with h | ⟨_,_,h⟩
 ·exact s _ _ h
 ·exact h
end
def UO(n:Nat):Sp:=fun vs H Q _=>∃ (v:V) (x:Sh n) (G:Hp),vs=[v]/\Same G H/\IsSh G n v x/\∀ (v':V) (H':Hp),IsSh (un G H H') n v' x->(∀ a,v'=.ref a->H a=none)->Same H H'->Q v' H'
theorem xt(T:Txt w K mg a):∀ n,FnOk P w K mg base CX0 (n+2) 70 (dK K 70) ["value"] (UO n)
 |0=>⟨fun vs H Q E h=>by
   obtain⟨v,x,G,rfl,_⟩:=h;rfl,fun A outer s H args us vs Q E _ _ _ _ h=>by
   obtain⟨v,x,G,_,_,h,_⟩:=h;exact h.elim⟩
 |n+1=>by
  have c_copied:Callee P w K mg base "copied" 70 (dK K 70) ["value"] (n+2) (UO n):=⟨xt T n,(T.g 1 rfl),(T.fn 1 rfl).kp,(T.bi 1 rfl)⟩;refine(T.fn 1 rfl).ok (scp 1 rfl) (fun vs H Q E h=>?_) (fun cdv A outer s H vs Q E hr h=>?_)
  ·obtain⟨v,x,G,rfl,_⟩:=h
   rfl
  ·obtain⟨v,x,G,rfl,sG,h,k⟩:=h
   have un5:=lt_of_le_of_lt (Nat.add_le_add_left (by decide:5<=64) _) hr.units;refine zT (zd (zq (zA (zl zG (by rfl) (T.n 5 rfl) zp (zb (w_pv 0) (zb (ya (T.n 6 rfl) bt_list) w_pa_nil))))
    (w_pss_one (zg (ym rfl (N':=["each"]) (t:=1) (caps:=[]) ⟨rfl,rfl,rfl⟩ (zB (w_pv 0)) (fun _=>(zm (i:=0) (show(["each"]:List Str).Nodup by decide +kernel) rfl (Or.inl rfl))) (fun _=>yC) (fun _=>(zn c_copied hr.m (zb (w_pv 0) w_pa_nil))))))
    zi)
   (zd (zq (zA (zl zG (by rfl) (T.n 5 rfl) zp (zb (w_pv 0) (zb (ya (T.n 11 rfl) yV) w_pa_nil))))
    (w_pss_one (zg (zU xk (by rfl) (T.n 11 rfl) yV (w_pa_cons (ym rfl (N':=["each"]) (t:=1) (caps:=[]) ⟨rfl,rfl,rfl⟩ (ZB (w_pv 0)) (fun _=>(zm (i:=0) (show(["each"]:List Str).Nodup by decide +kernel) rfl (Or.inl rfl))) (fun _=>yC) (fun _=>(zn c_copied hr.m (zb (w_pv 0) w_pa_nil)))) w_pa_nil))))
    zi)
   (zd (zq (zA (zl zG (by rfl) (T.n 5 rfl) zp (zb (w_pv 0) (zb (ya (T.n 7 rfl) vc) w_pa_nil))))
    (w_pss_one (zg (zU (XT (Yr rfl) (Yq rfl)) (by rfl) (T.n 7 rfl) vc (w_pa_cons (Yy (ym rfl (N':=["key", "each"]) (t:=2) (caps:=[]) ⟨rfl,rfl,rfl⟩ (wz (xF (w_pv 0)) (wH (w_pv 0))) (fun _=>(yf rfl (zr (zm (i:=0) (show(["key", "each"]:List Str).Nodup by decide +kernel) rfl (Or.inl rfl)) (zr (zm (i:=1) (show(["key", "each"]:List Str).Nodup by decide +kernel) rfl (Or.inl rfl)) zO)))) (fun _=>yC) (fun _=>(zD (zb (w_pv 0) (zM (zn c_copied hr.m (zb (w_pv 1) w_pa_nil)) w_pa_nil)))))) w_pa_nil))))
    zi)
   (w_pss_one (zg (w_pv 0)))))) ?_
   cases x with
   |fl u =>
    obtain⟨rfl,hf⟩:=h;obtain⟨t,ty,k1,k2,k3⟩:∃ t,TyOf K H v t/\PySem.W.kitOne K t (.type "list")=some false/\PySem.W.kitOne K t (.type "tuple")=some false/\PySem.W.kitOne K t (.type "dict")=some false:=by
     cases hf with
     |int i=>exact⟨_,.int i,(T.k 8 rfl),(T.k 9 rfl),(T.k 10 rfl)⟩
     |non=>exact⟨_,.non,(T.k 11 rfl),(T.k 12 rfl),(T.k 13 rfl)⟩
     |bl b=>exact⟨_,.bl b,(T.k 24 rfl),(T.k 35 rfl),(T.k 21 rfl)⟩
     |str x=>exact⟨_,.str x,(T.k 26 rfl),(T.k 22 rfl),(T.k 20 rfl)⟩
    refine Yw rfl rfl ty k1 (zF rfl ?_);refine Yw rfl rfl ty k2 (zF rfl ?_);refine Yw rfl rfl ty k3 (zF rfl ?_);exact⟨_,rfl,k v H ⟨rfl,hf⟩ (fun a e=>by cases hf<;>cases e) (sR _)⟩
   |tup xs =>
    obtain⟨t,rs,rfl,ht0,hp,hl⟩:=h;have ht:=sG _ _ ht0;refine Yw rfl rfl (.tup ht) (T.k 4 rfl) (zF rfl ?_);refine Yw rfl rfl (.tup ht) (T.k 3 rfl) (iteT ?_);refine⟨_,rfl,t,rfl,⟨_,sP ht⟩,fun D hD _=>?_⟩;refine WX (K:=K) (a:=t) (xs:=rs) (fun m zs τ F=>∃ (o:Option V),τ=[o]/\zs.length=m/\Paired (fun v x=>IsSh (un G H (hd1 D F)) n v x) zs (xs.take m)/\F D=some (.lst zs)/\Same H F) ?_ ?_ ?_ ?_
    ·exact⟨none,rfl,rfl,.nil,za,sW hD⟩
    ·rintro m zs τ F ⟨o,_,_,_,_,sm⟩
     exact sP (sm _ _ ht)
    ·rintro m v zs τ F hi ⟨o,rfl,lz,hz,hDF,sm⟩
     obtain⟨x,hx,hv⟩:=yb hp hi;have hml:m<rs.length:=(List.getElem?_eq_some_iff.mp hi).1;refine WN ⟨_,rfl,_,x,G,rfl,sG.trans sm,hv,fun v' H2 hv' _ s2=>?_⟩;have hD2:=s2 _ _ hDF;refine⟨hD2,by rw[lz];exact zj (by omega),_,rfl,by simp[lz],?_,za,Same.updF (sm.trans s2) hD⟩;have m2:Same (un G H (hd1 D F)) (un G H (hd1 D (upd H2 D (.lst (zs++[v']))))):=yQ sG (yx ((Ext.same s2).trans Ext.at));rw[take_add_one,hx];refine Paired.app (Paired.mapP hz fun _ _ h=>h.same m2) (.cons ?_ .nil);exact(hv'.same (vN sG sm (by rw[hDF];exact nofun))).same (yQ sG (yx Ext.at))
    ·rintro zs τ F ⟨o,rfl,lz,hz,hDF,sm⟩
     rw[Paired.length hp,take_length] at hz;refine⟨D,_,rfl,.inl ⟨sO hDF,fun t' ht'=>?_⟩⟩;have n1:=sW (o:=HO.tup zs) ht';refine k _ _ ⟨t',zs,rfl,wL sG (sm.free ht') za,Paired.mapP hz fun _ _ h=>h.same (yQ sG (hd1_sub.trans n1)),by omega⟩ (fun a e=>by cases e;exact sm.free ht') (sm.trans n1)
   |lst xs =>
    obtain⟨l,rs,rfl,hl0,hp,hlen⟩:=h;have hl:=sG _ _ hl0;refine Yw rfl rfl (.lst hl) (T.k 2 rfl) (iteT ?_);refine⟨_,rfl,l,rfl,⟨_,sO hl⟩,fun D hD _=>?_⟩;refine comp_list (K:=K) (a:=l) (xs:=rs) (fun m zs τ F=>∃ (o:Option V),τ=[o]/\zs.length=m/\Paired (fun v x=>IsSh (un G H (hd1 D F)) n v x) zs (xs.take m)/\F D=some (.lst zs)/\Same H F) ?_ ?_ ?_ ?_
    ·exact⟨none,rfl,rfl,.nil,za,sW hD⟩
    ·rintro m zs τ F ⟨o,_,_,_,_,sm⟩
     exact sO (sm _ _ hl)
    ·rintro m v zs τ F hi ⟨o,rfl,lz,hz,hDF,sm⟩
     obtain⟨x,hx,hv⟩:=yb hp hi;have hml:m<rs.length:=(List.getElem?_eq_some_iff.mp hi).1;refine WN ⟨_,rfl,_,x,G,rfl,sG.trans sm,hv,fun v' H2 hv' _ s2=>?_⟩;have hD2:=s2 _ _ hDF;refine⟨hD2,by rw[lz];exact zj (by omega),_,rfl,by simp[lz],?_,za,Same.updF (sm.trans s2) hD⟩;have m2:Same (un G H (hd1 D F)) (un G H (hd1 D (upd H2 D (.lst (zs++[v']))))):=yQ sG (yx ((Ext.same s2).trans Ext.at));rw[take_add_one,hx];refine Paired.app (Paired.mapP hz fun _ _ h=>h.same m2) (.cons ?_ .nil);exact(hv'.same (vN sG sm (by rw[hDF];exact nofun))).same (yQ sG (yx Ext.at))
    ·rintro zs τ F ⟨o,rfl,lz,hz,hDF,sm⟩
     rw[Paired.length hp,take_length] at hz;exact k _ _ ⟨D,zs,rfl,wL sG hD hDF,Paired.mapP hz fun _ _ h=>h.same (yQ sG hd1_sub),by omega⟩ (fun a e=>by cases e;exact hD) sm
   |dk kvs =>
    obtain⟨d,vs,rfl,hd0,hp,nd,hlen⟩:=h;have hd:=sG _ _ hd0;have lk:=Paired.length hp;refine Yw rfl rfl (.dK hd) (T.k 5 rfl) (zF rfl ?_);refine Yw rfl rfl (.dK hd) (T.k 6 rfl) (zF rfl ?_);refine Yw rfl rfl (.dK hd) (T.k 7 rfl) (iteT ?_);refine .inl ⟨_,rfl,d,_,rfl,hd,fun od S D hD _=>?_⟩;have hDd:D≠d:=fun z=>by rw[z,za] at hD;cases hD
    have fD:H D=none:=by rw[upd_ne hDd] at hD;exact hD
    generalize hG1:upd H d (HO.frz od (HO.dK vs))=H1 at *;have hq1:H1 d=some (.frz od (.dK vs)):=by rw[<- hG1];exact za
    have x1:Ext d H H1:=by rw[<- hG1];exact Ext.at
    have fr1:∀ {b},H1 b=none->H b=none:=fun {b} e=>by
     have nz:b≠d:=fun z=>by rw[z,hq1] at e;cases e
     rw[<- hG1,upd_ne nz] at e;exact e
    have sG1:Same (hd1 d G) H1:=fun b o e=>x1 _ _ (sG _ _ (yr e).2) (yr e).1;refine comp_view (yl:=yI) (d:=d) (od:=od) (kvs:=vs) (fun i zs τ F=>∃ (o1 o2:Option V) (ms:List (Addr×Key×V)),τ=[o1,o2]/\zs=ms.map (fun m=>V.ref m.1)/\ms.length=i/\Paired (fun(p:Key×V) q=>p.1=q.1/\IsSh (un (hd1 d G) H1 (hd1 D F)) n p.2 q.2) (ms.map (·.2)) (kvs.take i)/\(∀ m∈ms,F m.1=some (.tup [kV m.2.1,m.2.2]))/\F D=some (.lst zs)/\Same H1 F) ?_ ?_ ?_ ?_
    ·exact⟨none,none,[],rfl,rfl,rfl,.nil,(fun m hm=>nomatch hm),za,sW hD⟩
    ·rintro i zs τ F ⟨o1,o2,ms,_,_,_,_,_,_,sm⟩
     exact sm _ _ hq1
    ·rintro i kv v zs τ F F' hkv ⟨o1,o2,ms,rfl,rfl,lm,hz,hm,hDF,sm⟩ ⟨p0,hp0,rfl,rfl⟩
     obtain⟨q,hq,e1,hv⟩:=yb hp hkv;have hil:i<vs.length:=(List.getElem?_eq_some_iff.mp hkv).1;have n1:=sW (o:=HO.tup [kV kv.1,kv.2]) hp0;refine⟨p0,_,rfl,sP za,rfl,_,_,rfl,_,_,rfl,rfl,Zz ?_⟩;generalize upd F p0 (HO.tup [kV kv.1,kv.2])=F1 at *;have sm1:=sm.trans n1;refine⟨_,rfl,_,rfl,_,q.2,hd1 d G,rfl,sG1.trans sm1,hv,fun v' H2 hv' _ s2=>⟨(by show 2<=sizeLine;decide),fun pt hpt=>?_⟩⟩;have n3:=sW (o:=HO.tup [kV kv.1,v']) hpt;have e3:=za (H:=H2) (a:=pt) (o:=HO.tup [kV kv.1,v']);generalize upd H2 pt (HO.tup [kV kv.1,v'])=H3 at *;have s13:=n1.trans (s2.trans n3);have hD3:=s13 _ _ hDF;refine⟨hD3,by rw[length_map];exact zj (by omega),_,_,ms++[(pt,kv.1,v')],rfl,by simp,by simp[lm],?_,fun m hm'=>?_,za,Same.updF (sm.trans s13) hD⟩
     ·have m2:Same (un (hd1 d G) H1 (hd1 D F)) (un (hd1 d G) H1 (hd1 D (upd H3 D (.lst (ms.map (fun m=>V.ref m.1)++[V.ref pt]))))):=yQ sG1 (yx ((Ext.same s13).trans Ext.at))
      rw[map_append,take_add_one,hq];refine Paired.app (Paired.mapP hz fun _ _ h=>⟨h.1,h.2.same m2⟩) (.cons ⟨e1,?_⟩ .nil);exact(hv'.same (vN sG1 sm1 (by rw[n1 _ _ hDF];exact nofun))).same (yQ sG1 (yx ((Ext.same n3).trans Ext.at)))
     ·have tn:∀ {b:Addr}{ys:List V},H3 b=some (.tup ys)->upd H3 D (.lst (ms.map (fun m=>V.ref m.1)++[V.ref pt])) b=some (.tup ys):=fun {b ys} e=>by
       rw[upd_ne fun z=>by rw[z,hD3] at e;cases e];exact e
      rcases mem_append.mp hm' with z | z
      ·exact tn (s13 _ _ (hm m z))
      ·rw[mem_singleton.mp z];exact tn e3
    ·rintro zs τ F ⟨o1,o2,ms,rfl,rfl,lm,hz,hm,hDF,sm⟩
     refine .inr ⟨d,od,vs,S,sm _ _ hq1,?_⟩;rw[lk,take_length] at hz;have sG3:Same H (upd F d (.dK vs)):=fun b o e=>by
      by_cases z:b=d
      ·rw[z,hd] at e;cases e;rw[z];exact za
      ·rw[upd_ne z];exact sm _ _ (x1 _ _ e z)
     have hD3:(upd F d (.dK vs)) D=some (.lst (ms.map fun m=>V.ref m.1)):=by rw[upd_ne hDd];exact hDF
     have hm3:∀ m∈ms,(upd F d (.dK vs)) m.1=some (.tup [kV m.2.1,m.2.2]):=fun m h=>by
      have h3:=hm m h;rw[upd_ne (fun z=>by rw[z,sm _ _ hq1] at h3;cases h3)];exact h3
     have hF3:∀ {b o},F b=some o->b≠d->(upd F d (.dK vs)) b=some o:=fun {b o} e z=>by rw[upd_ne z];exact e
     generalize upd F d (.dK vs)=G3 at *;have ek:(ms.map (·.2)).map (·.1)=vs.map (·.1):=(xg hz).trans (xg hp).symm;refine .inl ⟨D,ms.map (·.1),ms.map (·.2),rfl,by rw[hD3,map_map];rfl,by rw[length_map,length_map],by rw[length_map];omega,fun i q kv h1 h2=>?_,fun d' hd'=>?_⟩
     ·rw[List.getElem?_map] at h1 h2
      obtain⟨m,h3,rfl⟩:=map_eq_some_iff.mp h1;rw[h3] at h2;cases h2;exact hm3 m (mem_of_getElem? h3)
     rw[Wz (by rw[ek];exact nd)];refine k _ _ ⟨d',_,rfl,wL sG (sG3.free hd') za,Paired.mapP hz fun _ _ h=>⟨h.1,h.2.same fun b o e=>?_⟩,by rw[ek];exact nd,by rw[length_map];omega⟩ (fun a e=>by cases e;exact sG3.free hd') (sG3.trans (sW hd'));rcases Z6 e with h | ⟨_,h1,h2⟩
     ·exact zR (zbr _ _ (yr h).2) fun z=>by have:=sG _ _ (yr h).2;rw[z,sG3.free hd'] at this;cases this
     ·have h3:=hF3 (yr h2).2 fun z=>by rw[z,hq1] at h1;cases h1
      have nz:b≠d':=fun z=>by rw[z,hd'] at h3;cases h3
      exact zR (wL sG (fr1 h1) (by rw[upd_ne nz];exact h3)) nz
   |rw ks xs =>
    obtain⟨d,od,vs,rfl,hm0,hd0,odp,lkv,hp,hks,hlen⟩:=h;have hd:=sG _ _ hd0;refine Yw rfl rfl (.odd hd odp.d.1) (T.k 5 rfl) (zF rfl ?_);refine Yw rfl rfl (.odd hd odp.d.1) (T.k 6 rfl) (zF rfl ?_);refine Yw rfl rfl (.odd hd odp.d.1) (T.k 7 rfl) (iteT ?_);refine .inr ⟨_,rfl,d,od,_,rfl,hm0,hd,odp,fun D hD _=>?_⟩;have lzp:(ks.zip vs).length=vs.length:=by rw[length_zip];omega
    refine Zw (d:=d) (od:=od) (kvs:=ks.zip vs) (fun i zs τ F=>∃ (o1 o2:Option V) (ms:List (Addr×V×V)),τ=[o1,o2]/\zs=ms.map (fun m=>V.ref m.1)/\ms.map (·.2.1)=ks.take i/\Paired (fun v x=>IsSh (un G H (hd1 D F)) n v x) (ms.map (·.2.2)) (xs.take i)/\(∀ m∈ms,F m.1=some (.tup [m.2.1,m.2.2]))/\F D=some (.lst zs)/\Same H F) ?_ ?_ ?_ ?_
    ·exact⟨none,none,[],rfl,rfl,rfl,.nil,(fun m hm=>nomatch hm),za,sW hD⟩
    ·rintro i zs τ F ⟨o1,o2,ms,_,_,_,_,_,_,sm⟩
     exact sm _ _ hd
    ·rintro i kv p0 zs τ F hkv hp0 ⟨o1,o2,ms,rfl,rfl,hk,hz,hm,hDF,sm⟩
     obtain⟨hk1,hv1⟩:=List.getElem?_zip_eq_some.mp hkv;obtain⟨x,hx,hv⟩:=yb hp hv1;have lm:ms.length<=200:=by
      have:=congrArg List.length hk;rw[length_map,length_take] at this;omega
     have n1:=sW (o:=HO.tup [kv.1,kv.2]) hp0;refine⟨p0,_,rfl,sP za,rfl,_,_,rfl,_,_,rfl,rfl,Zz ?_⟩;generalize upd F p0 (HO.tup [kv.1,kv.2])=F1 at *;have sm1:=sm.trans n1;refine⟨_,rfl,_,rfl,_,x,G,rfl,sG.trans sm1,hv,fun v' H2 hv' _ s2=>⟨(by show 2<=sizeLine;decide),fun pt hpt=>?_⟩⟩;have n3:=sW (o:=HO.tup [kv.1,v']) hpt;have e3:=za (H:=H2) (a:=pt) (o:=HO.tup [kv.1,v']);generalize upd H2 pt (HO.tup [kv.1,v'])=H3 at *;have s13:=n1.trans (s2.trans n3);have hD3:=s13 _ _ hDF;refine⟨hD3,by rw[length_map];exact zj (by omega),_,_,ms++[(pt,kv.1,v')],rfl,by simp,by rw[map_append,hk,take_add_one,hk1];rfl,?_,fun m hm'=>?_,za,Same.updF (sm.trans s13) hD⟩
     ·have m2:Same (un G H (hd1 D F)) (un G H (hd1 D (upd H3 D (.lst (ms.map (fun m=>V.ref m.1)++[V.ref pt]))))):=yQ sG (yx ((Ext.same s13).trans Ext.at))
      rw[map_append,take_add_one,hx];refine Paired.app (Paired.mapP hz fun _ _ h=>h.same m2) (.cons ?_ .nil);exact(hv'.same (vN sG sm1 (by rw[n1 _ _ hDF];exact nofun))).same (yQ sG (yx ((Ext.same n3).trans Ext.at)))
     ·have tn:∀ {b:Addr}{ys:List V},H3 b=some (.tup ys)->upd H3 D (.lst (ms.map (fun m=>V.ref m.1)++[V.ref pt])) b=some (.tup ys):=fun {b ys} e=>by
       rw[upd_ne fun z=>by rw[z,hD3] at e;cases e];exact e
      rcases mem_append.mp hm' with z | z
      ·exact tn (s13 _ _ (hm m z))
      ·rw[mem_singleton.mp z];exact tn e3
    ·rintro zs τ F ⟨o1,o2,ms,rfl,rfl,hk,hz,hm,hDF,sm⟩
     refine .inl ?_;rw[lzp,<- lkv,take_length] at hk;rw[lzp,Paired.length hp,take_length] at hz;have lm:ms.length=ks.length:=by rw[<- hk,length_map]
     refine .inr ⟨D,ms.map (·.1),ms.map (·.2),rfl,by rw[hDF,map_map];rfl,by rw[length_map,length_map],by rw[length_map];omega,un5,by rw[map_map];rw[show((fun(p:V×V)=>p.1)∘fun(m:Addr×V×V)=>m.2)=fun m=>m.2.1 from rfl,hk];exact K04.KsOk.same (sG.trans sm) hks,fun i q kv h1 h2=>?_,fun d' od' hd' odp' hm'=>?_⟩
     ·rw[List.getElem?_map] at h1 h2
      obtain⟨m,h3,rfl⟩:=map_eq_some_iff.mp h1;rw[h3] at h2;cases h2;exact hm m (mem_of_getElem? h3)
     have ez:ms.map (·.2)=ks.zip (ms.map (·.2.2)):=by
      rw[<- hk,List.zip_map_left,List.zip_map_right,map_map];clear hk hz hm hDF lm odp'
      induction ms with
      |nil=>rfl
      |cons m ms ih=>exact congrArg _ ih
     refine k _ _ ⟨d',od',ms.map (·.2.2),rfl,hm',wL sG (sm.free hd') za,by rw[<- ez];exact odp',by rw[length_map,lm],Paired.mapP hz fun _ _ h=>h.same (yQ sG (hd1_sub.trans (sW hd'))),K04.KsOk.same zbr hks,hlen⟩ (fun a e=>by cases e;exact sm.free hd') (sm.trans (sW hd'))
inductive En (pf:Int->Option Int):Int->LI->Prop
 |z {x:Int}(h:pf x=none):En pf x [x]
 |s {x y:Int}{l:LI}(h:pf x=some y) (t:En pf y l):En pf x (x::l)
variable {pf:Int->Option Int}
theorem En.fn{x:Int}{l:LI}(h:En pf x l):∀ {l':LI},En pf x l'->l=l':=by
 induction h with
 |z h =>
  intro l' h';cases h' with
  |z _=>rfl
  |s h2 _=>rw[h] at h2;cases h2
 |s h t ih =>
  intro l' h';cases h' with
  |z h2=>rw[h] at h2;cases h2
  |s h2 t2 =>
   rw[h] at h2;cases h2;rw[ih t2]
theorem En.hd{x:Int}{l:LI}(h:En pf x l):∃ t,l=x::t:=by
 cases h with
 |z _=>exact⟨_,rfl⟩
 |s _ _=>exact⟨_,rfl⟩
theorem En.suf:∀ {ys:LI}{x v:Int}{zs:LI},En pf x (ys++v::zs)->En pf v (v::zs)
 |[],x,v,zs,h=>by
  obtain⟨t,e⟩:=h.hd;injection e with e1 e2;have h':En pf x (v::zs):=h;rw[<- e1] at h';exact h'
 |y::ys,x,v,zs,h=>by
  have h':En pf x (y::(ys++v::zs)):=h;generalize hl:y::(ys++v::zs)=l at h';cases h' with
  |z _ =>
   injection hl with _ hl;simp at hl
  |s h2 t =>
   injection hl with _ hl;rw[<- hl] at t;exact En.suf t
theorem En.nd{x:Int}{l:LI}(h:En pf x l):l.Nodup:=by
 induction h with
 |z _=>simp
 | @s x y l h t ih =>
  rw[nodup_cons];refine⟨fun hx=>?_,ih⟩;obtain⟨ys,zs,e⟩:=List.append_of_mem hx;rw[e] at t;have h1:=t.suf;have h2:=h1.fn (.s h t);have:=congrArg List.length h2;simp at this;omega
theorem En.mem{us:LI}(C:∀ x∈us,∀ y,pf x=some y->y∈us){x:Int}{l:LI}(h:En pf x l):x∈us->∀ y∈l,y∈us:=by
 induction h with
 |z _ =>
  intro hx y hy;rw[mem_singleton.mp hy];exact hx
 | @s x y l h t ih =>
  intro hx u hu;rcases mem_cons.mp hu with e | e
  ·rw[e];exact hx
  ·exact ih (C x hx y h) u e
def Pre(pf:Int->Option Int)(x:Int)(ys:LI)(z:Int):Prop:=∀ l,En pf x l↔∃ l',En pf z l'/\l=ys++l'
theorem Pre.z{x:Int}:Pre pf x [] x:=fun l=>⟨fun h=>⟨l,h,rfl⟩,fun⟨l',h,e⟩=>by rw[e];exact h⟩
theorem Pre.s{x z y:Int}{ys:LI}(p:Pre pf x ys z)(h:pf z=some y):Pre pf x (ys++[z]) y:=fun l=>by
 rw[p l]
 constructor
 ·rintro⟨l',h1,e⟩
  cases h1 with
  |z h2=>rw[h] at h2;cases h2
  |s h2 t =>
   rw[h] at h2;cases h2;exact⟨_,t,by rw[e];simp⟩
 ·rintro⟨l',h1,e⟩
  exact⟨z::l',.s h h1,by rw[e];simp⟩
theorem Pre.end_{x z:Int}{ys:LI}(p:Pre pf x ys z)(h:pf z=none):En pf x (ys++[z]):=(p _).mpr ⟨[z],.z h,rfl⟩
theorem Pre.ring{x z y:Int}{ys:LI}(p:Pre pf x ys z)(h:pf z=some y)(hy:y∈ys++[z]):¬∃ l,En pf x l:=fun⟨l,hl⟩=>by
 obtain⟨l',h1,e⟩:=((p.s h) l).mp hl;obtain⟨t,e2⟩:=h1.hd;have nd:=hl.nd;rw[e,e2,nodup_append] at nd;exact nd.2.2 y hy y mem_cons_self rfl
theorem Pre.long{us:LI}(C:∀ x∈us,∀ y,pf x=some y->y∈us){x z y:Int}{ys:LI}(hx:x∈us)(p:Pre pf x ys z)(h:pf z=some y)(hl:us.length<(ys++[z]).length+1):¬∃ l,En pf x l:=fun⟨l,hl'⟩=>by
 obtain⟨l',h1,e⟩:=((p.s h) l).mp hl';obtain⟨t,e2⟩:=h1.hd;have h2:=xy hl'.nd (hl'.mem C hx);rw[e,e2,length_append,length_cons] at h2;omega
noncomputable def paO(pf:Int->Option Int)(x:Int):LI:=by
 classical
 exact if h:∃ l,En pf x l then Classical.choose h else[x]
theorem vz{x:Int}{l:LI}(h:En pf x l):paO pf x=l:=by
 unfold paO;rw[dif_pos ⟨l,h⟩];exact(Classical.choose_spec (⟨l,h⟩:∃ l,En pf x l)).fn h
def opV:Option Int->V
 |none=>.non
 |some y=>.int y
theorem Xb(o:Option Int):Fl (opV o):=by
 cases o with
 |none=>exact .non
 |some y=>exact .int y
def UpP(us:LI)(pf:Int->Option Int)(pa:Int->LI):Prop:=∃ sf:Int->Nat,∀ x∈us,(pf x=none/\pa x=[x])\/∃ y,pf x=some y/\y∈us/\pa x=x::pa y/\sf y<sf x
def ldr(pa:Int->LI)(x:Int):Int:=(pa x).getLastD x
theorem za3{us:LI}{pf:Int->Option Int}{pa:Int->LI}{sf:Int->Nat}(U:∀ x∈us,(pf x=none/\pa x=[x])\/∃ y,pf x=some y/\y∈us/\pa x=x::pa y/\sf y<sf x):∀ (n:Nat){x:Int},sf x<=n->x∈us->(∃ ys,pa x=ys++[ldr pa x])/\pf (ldr pa x)=none/\ldr pa x∈us/\(pa x).Nodup/\(∀ y∈pa x,y∈us/\sf y<=sf x):=by
 intro n
 induction n with
 |zero =>
  intro x hn hx;rcases U x hx with⟨h1,h2⟩ | ⟨y,_,_,_,h⟩
  ·have e:ldr pa x=x:=by unfold ldr;rw[h2];rfl
   rw[e,h2];exact⟨⟨[],rfl⟩,h1,hx,by simp,fun y hy=>by rw[mem_singleton.mp hy];exact⟨hx,Nat.le_refl _⟩⟩
  ·omega
 |succ n ih =>
  intro x hn hx;rcases U x hx with⟨h1,h2⟩ | ⟨y,h1,h2,h3,h4⟩
  ·have e:ldr pa x=x:=by unfold ldr;rw[h2];rfl
   rw[e,h2];exact⟨⟨[],rfl⟩,h1,hx,by simp,fun y hy=>by rw[mem_singleton.mp hy];exact⟨hx,Nat.le_refl _⟩⟩
  ·obtain⟨⟨ys,i1⟩,i2,i3,i4,i5⟩:=ih (x:=y) (by omega) h2
   have e:ldr pa x=ldr pa y:=by
    have:(pa x).getLastD x=ldr pa y:=by
     rw[h3,i1,<- List.cons_append,List.getLastD_eq_getLast?,List.getLast?_append];rfl
    exact this
   rw[e,h3];refine⟨⟨x::ys,by rw[List.cons_append,<- i1]⟩,i2,i3,nodup_cons.mpr ⟨fun z=>?_,i4⟩,fun u hu=>?_⟩
   ·have:=(i5 x z).2
    omega
   ·rcases mem_cons.mp hu with z | z
    ·rw[z];exact⟨hx,Nat.le_refl _⟩
    ·have:=i5 u z
     exact⟨this.1,by omega⟩
theorem UpP.ld{us:LI}{pf:Int->Option Int}{pa:Int->LI}(U:UpP us pf pa){x:Int}(hx:x∈us):(∃ ys,pa x=ys++[ldr pa x])/\pf (ldr pa x)=none/\ldr pa x∈us/\(pa x).Nodup/\(∀ y∈pa x,y∈us):=by
 obtain⟨sf,U⟩:=U;obtain⟨h1,h2,h3,h4,h5⟩:=za3 U (sf x) (Nat.le_refl _) hx;exact⟨h1,h2,h3,h4,fun y hy=>(h5 y hy).1⟩
structure WayAt (a:Ad) (H:Hp) (p:Addr) (pf:Int->Option Int) (us:LI) (ls:LP) (dx dp ob:Addr):Prop where
 p:H p=some (.ins 150 dx [("own_parents",.ref dp),("own_bridges",.ref ob)])
 dp:H dp=some (.dK (tabV (fun x=>opV (pf x)) us))
 ob:∃ rs,H ob=some (.lst rs)/\LnAt H rs ls
 nd:us.Nodup
 l12:us.length<=12
 l66:ls.length<=200
theorem WayAt.same{a:Ad}{H H':Hp}{p dx dp ob:Addr}{pf:Int->Option Int}{us:LI}{ls:LP}(w:WayAt a H p pf us ls dx dp ob)(s:Same H H'):WayAt a H' p pf us ls dx dp ob:=⟨s _ _ w.p,s _ _ w.dp,by obtain⟨rs,e1,e2⟩:=w.ob;exact⟨rs,s _ _ e1,e2.same s⟩,w.nd,w.l12,w.l66⟩
structure WayR (a:Ad) (H:Hp) (p:Addr) (pf:Int->Option Int) (us:LI) (dx dp ob:Addr):Prop where
 p:H p=some (.ins 150 dx [("own_parents",.ref dp),("own_bridges",.ref ob)])
 dp:Rd H dp (.dK (tabV (fun x=>opV (pf x)) us))
 l12:us.length<=12
theorem WayAt.r{a:Ad}{H:Hp}{p dx dp ob:Addr}{pf:Int->Option Int}{us:LI}{ls:LP}(w:WayAt a H p pf us ls dx dp ob):WayR a H p pf us dx dp ob:=⟨w.p,.inl w.dp,w.l12⟩
theorem Uc{H H':Hp}{d:Addr}{u:HO}(h:Rd H d u)(s:Same H H'):Rd H' d u:=h.elim (fun e=>.inl (s _ _ e)) fun⟨o,e⟩=>.inr ⟨o,s _ _ e⟩
theorem WayR.same{a:Ad}{H H':Hp}{p dx dp ob:Addr}{pf:Int->Option Int}{us:LI}(w:WayR a H p pf us dx dp ob)(s:Same H H'):WayR a H' p pf us dx dp ob:=⟨s _ _ w.p,Uc w.dp s,w.l12⟩
theorem ue{H:Hp}{d:Addr}{f:Int->V}{us:LI}{x:Int}(e:Rd H d (.dK (tabV f us)))(h:x∈us):DGet H d (V.int x) (some (f x)):=.inl ⟨_,.inl x,e,rfl,(vQ h).symm⟩
def tabS{n:Nat}(pf:Int->Option Int)(us:LI):Sh (n+2):=.dk (us.map fun x=>(Sum.inl x,ShF.fl (opV (pf x))))
def prS{n:Nat}(q:Int×Int):Sh (n+2):=.tup [ShF.fl (.int q.1),ShF.fl (.int q.2)]
structure WyS (a:Ad) (H:Hp) (q:Addr) (s1 s2:Sh 4) (dx:Addr) (v1 v2:V):Prop where
 p:H q=some (.ins 150 dx [("own_parents",v1),("own_bridges",v2)])
 ps:IsSh H 4 v1 s1
 bs:IsSh H 4 v2 s2
theorem WyS.same{H H':Hp}{q dx:Addr}{s1 s2:Sh 4}{v1 v2:V}(w:WyS a H q s1 s2 dx v1 v2)(s:Same H H'):WyS a H' q s1 s2 dx v1 v2:=⟨s _ _ w.p,w.ps.same s,w.bs.same s⟩
theorem wj{H:Hp}{n:Nat}{v:V}{pf:Int->Option Int}{us:LI}(h:IsSh H (n+2) v (tabS pf us)):∃ d,v=.ref d/\H d=some (.dK (tabV (fun x=>opV (pf x)) us))/\us.Nodup:=by
 obtain⟨d,vs,rfl,hd,hp,nd,hl⟩:=h;have e:vs=tabV (fun x=>opV (pf x)) us:=by
  clear nd hd hl
  induction us generalizing vs with
  |nil=>cases hp;rfl
  |cons x us ih =>
   cases hp with
   |cons h t=>rw[ih _ t];exact congrArg (· :: _) (Prod.ext h.1 h.2.1)
 subst e;refine⟨d,rfl,hd,?_⟩;rw[xp] at nd;exact pairwise_map.mp nd |>.imp fun h e=>h (by rw[e])
theorem Vc{H:Hp}{n:Nat}{d:Addr}{pf:Int->Option Int}{us:LI}(hd:H d=some (.dK (tabV (fun x=>opV (pf x)) us)))(nd:us.Nodup)(hl:us.length<=200):IsSh H (n+2) (.ref d) (tabS pf us):=by
 refine⟨d,_,rfl,hd,?_,by rw[xp];exact VI nd,by rw[tabV_len];exact hl⟩;clear hd nd hl
 induction us with
 |nil=>exact .nil
 |cons x us ih=>exact .cons ⟨rfl,rfl,Xb _⟩ ih
theorem V3{H:Hp}{n:Nat}{v:V}{q:Int×Int}(h:IsSh H (n+2) v (prS q)):∃ t,v=.ref t/\H t=some (.tup [.int q.1,.int q.2]):=by
 obtain⟨t,rs,rfl,ht,hp,_⟩:=h;cases hp with | cons h1 hp =>
 cases hp with | cons h2 hp =>
 cases hp;rw[h1.1,h2.1] at ht;exact⟨t,rfl,ht⟩
theorem zay{H:Hp}{n:Nat}{t:Addr}{q:Int×Int}(h:H t=some (.tup [.int q.1,.int q.2])):IsSh H (n+2) (.ref t) (prS q):=⟨t,_,rfl,h,.cons ⟨rfl,.int _⟩ (.cons ⟨rfl,.int _⟩ .nil),(by show 2<=200;decide)⟩
theorem Wj{H:Hp}{n:Nat}:∀ {rs:List V}{ls:LP},Paired (fun v x=>IsSh H (n+2) v x) rs (ls.map prS)->LnAt H rs ls
 |[],[],_=>⟨rfl,fun i r p h=>by simp at h⟩
 |_::_,q::ls,.cons h t=>by
  obtain⟨p,e,hp⟩:=V3 h;have ih:=Wj t;refine⟨by rw[length_cons,length_cons,ih.1],fun i r p' a1 a2=>?_⟩;cases i with
  |zero=>cases a1;cases a2;exact⟨p,e,hp⟩
  |succ i=>exact ih.2 i r p' (by simpa using a1) (by simpa using a2)
theorem Uz{H:Hp}{n:Nat}:∀ {rs:List V}{ls:LP},LnAt H rs ls->Paired (fun v x=>IsSh H (n+2) v x) rs (ls.map prS)
 |[],[],_=>.nil
 |[],_::_,h=>absurd h.1 (by simp)
 |_::_,[],h=>absurd h.1 (by simp)
 |r::rs,q::ls,h=>by
  obtain⟨p,e1,e2⟩:=h.2 0 r q rfl rfl;rw[e1];exact .cons (zay e2) (Uz ⟨by have:=h.1;simpa using this,fun i r p a1 a2=>h.2 (i+1) r p (by simpa using a1) (by simpa using a2)⟩)
def lnS(ls:LP):Sh 4:=.lst (ls.map prS)
theorem WyS.good{H:Hp}{q dx:Addr}{pf:Int->Option Int}{us:LI}{ls:LP}{v1 v2:V}(w:WyS a H q (tabS pf us) (lnS ls) dx v1 v2)(l12:us.length<=12):∃ dp ob,WayAt a H q pf us ls dx dp ob:=by
 obtain⟨dp,rfl,h1,nd⟩:=wj w.ps;obtain⟨ob,rs,rfl,h2,h3,h4⟩:=w.bs;have L:=Wj h3;exact⟨dp,ob,w.p,h1,⟨rs,h2,L⟩,nd,l12,by rw[<- L.1];exact h4⟩
theorem WayAt.wy{H:Hp}{q dx dp ob:Addr}{pf:Int->Option Int}{us:LI}{ls:LP}(w:WayAt a H q pf us ls dx dp ob):WyS a H q (tabS pf us) (lnS ls) dx (.ref dp) (.ref ob):=by
 obtain⟨rs,h1,h2⟩:=w.ob;exact⟨w.p,Vc w.dp w.nd (le_trans w.l12 (by decide)),ob,rs,rfl,h1,Uz h2,by rw[h2.1];exact w.l66⟩
def Vh(a:Ad):Sp:=fun vs H Q _=>∃ (p dx:Addr) (v1 v2:V) (s1 s2:Sh 4),vs=[.ref p,v1,v2]/\H p=some (.ins 150 dx [])/\IsSh (hd1 p H) 4 v1 s1/\IsSh (hd1 p H) 4 v2 s2/\∀ (w1 w2:V) (H':Hp),Ext p H H'->WyS a H' p s1 s2 dx w1 w2->Q .non H'
theorem zaI(T:Txt w K mg a):FnOk P w K mg base CX0 7 84 (dK K 84) ["self", "parents", "bridges"] (Vh a):=by
 have c_copied:Callee P w K mg base "copied" 70 (dK K 70) ["value"] (4+2) (UO 4):=⟨xt T 4,(T.g 1 rfl),(T.fn 1 rfl).kp,(T.bi 1 rfl)⟩;refine(T.fn 41 rfl).ok (scp 41 rfl) (fun vs H Q E h=>?_) (fun cdv A outer s H vs Q E hr h=>?_)
 ·obtain⟨p,dx,v1,v2,s1,s2,rfl,_⟩:=h
  rfl
 ·obtain⟨p,dx,v1,v2,s1,s2,rfl,hp,h1,h2,k⟩:=h
  refine zT (zd (ZA (w_pv 0) (zn c_copied hr.m (zb (w_pv 1) w_pa_nil)) rfl)
   (w_pss_one (ZA (w_pv 0) (zn c_copied hr.m (zb (w_pv 2) w_pa_nil)) rfl))) ?_
  refine⟨_,rfl,_,s1,hd1 p H,rfl,hd1_sub,h1,fun w1 H1 hw1 _ n1=>?_⟩;refine⟨_,rfl,p,150,dx,_,rfl,n1 _ _ hp,(T.cl 0 rfl),(T.na 0 0 rfl rfl),(by show 0<1000;decide),?_⟩;have x1:=(Ext.same (l:=p) n1).trans (Ext.at (l:=p) (o:=.ins 150 dx [("own_parents",w1)]));have hp1:=za (H:=H1) (a:=p) (o:=HO.ins 150 dx [("own_parents",w1)]);have e1:Ext p H1 (upd H1 p (.ins 150 dx [("own_parents",w1)])):=Ext.at;refine⟨_,rfl,_,s2,hd1 p H,rfl,(yx x1).trans hd1_sub,h2,fun w2 H2 hw2 _ n2=>?_⟩;refine⟨_,rfl,p,150,dx,_,rfl,n2 _ _ hp1,(T.cl 0 rfl),(T.na 0 1 rfl rfl),(by show 1<1000;decide),?_⟩;have e2:Ext p H2 (upd H2 p (.ins 150 dx [("own_parents",w1),("own_bridges",w2)])):=Ext.at;refine k w1 w2 _ ((x1.trans (Ext.same n2)).trans e2) ⟨za,hw1.same fun b o e=>?_,hw2.same fun b o e=>?_⟩
  ·have hb:b≠p/\H1 b=some o:=by
    rcases Z6 e with h | ⟨_,h3,h4⟩
    ·exact⟨(yr h).1,n1 _ _ (yr h).2⟩
    ·exact⟨fun z=>(by rw[z,hp] at h3;cases h3),h4⟩
   exact e2 _ _ (n2 _ _ (e1 _ _ hb.2 hb.1)) hb.1
  ·have hb:b≠p/\H2 b=some o:=by
    rcases Z6 e with h | ⟨_,h3,h4⟩
    ·exact⟨(yr h).1,n2 _ _ (x1 _ _ (yr h).2 (yr h).1)⟩
    ·exact⟨fun z=>(by rw[z,za] at h3;cases h3),h4⟩
   exact e2 _ _ hb.2 hb.1
def zbT(a:Ad):Sp:=fun vs H Q _=>∃ (p dx:Addr) (s1 s2:Sh 4) (v1 v2:V),vs=[.ref p]/\WyS a H p s1 s2 dx v1 v2/\∀ (v:V) (H':Hp),IsSh H' 4 v s1->Same H H'->(∀ a,v=.ref a->H a=none)->Q v H'
theorem zaW(T:Txt w K mg a):FnOk P w K mg base CX0 7 98 (dK K 98) ["self"] (zbT a):=by
 have c_copied:Callee P w K mg base "copied" 70 (dK K 70) ["value"] (4+2) (UO 4):=⟨xt T 4,(T.g 1 rfl),(T.fn 1 rfl).kp,(T.bi 1 rfl)⟩;refine(T.fn 43 rfl).ok (scp 43 rfl) (fun vs H Q E h=>?_) (fun cdv A outer s H vs Q E hr h=>?_)
 ·obtain⟨p,dx,s1,s2,v1,v2,rfl,_⟩:=h
  rfl
 ·obtain⟨p,dx,s1,s2,v1,v2,rfl,W,k⟩:=h
  refine zT (w_pss_one (zg (zn c_copied hr.m (w_pa_cons (yL (w_pv 0) rfl) w_pa_nil)))) ?_;exact⟨_,rfl,p,_,dx,_,_,rfl,W.p,(T.cl 0 rfl),(T.na 0 0 rfl rfl),rfl,v1,s1,H,rfl,sR _,W.ps,fun v H' hv hf s=>k v H' (hv.same (UW s)) s hf⟩
def zbU(a:Ad):Sp:=fun vs H Q _=>∃ (p dx:Addr) (s1 s2:Sh 4) (v1 v2:V),vs=[.ref p]/\WyS a H p s1 s2 dx v1 v2/\∀ (v:V) (H':Hp),IsSh H' 4 v s2->Same H H'->(∀ a,v=.ref a->H a=none)->Q v H'
theorem VB(T:Txt w K mg a):FnOk P w K mg base CX0 7 105 (dK K 105) ["self"] (zbU a):=by
 have c_copied:Callee P w K mg base "copied" 70 (dK K 70) ["value"] (4+2) (UO 4):=⟨xt T 4,(T.g 1 rfl),(T.fn 1 rfl).kp,(T.bi 1 rfl)⟩;refine(T.fn 44 rfl).ok (scp 44 rfl) (fun vs H Q E h=>?_) (fun cdv A outer s H vs Q E hr h=>?_)
 ·obtain⟨p,dx,s1,s2,v1,v2,rfl,_⟩:=h
  rfl
 ·obtain⟨p,dx,s1,s2,v1,v2,rfl,W,k⟩:=h
  refine zT (w_pss_one (zg (zn c_copied hr.m (w_pa_cons (yL (w_pv 0) rfl) w_pa_nil)))) ?_;exact⟨_,rfl,p,_,dx,_,_,rfl,W.p,(T.cl 0 rfl),(T.na 0 1 rfl rfl),rfl,v2,s2,H,rfl,sR _,W.bs,fun v H' hv hf s=>k v H' (hv.same (UW s)) s hf⟩
def zcW(a:Ad):Sp:=fun vs H Q _=>∃ (p dx dp ob:Addr) (pf:Int->Option Int) (us:LI) (ls:LP),vs=[.ref p]/\WayAt a H p pf us ls dx dp ob/\∀ (l:Addr) (rs:List V) (H':Hp),H l=none->H' l=some (.lst rs)->LnAt H' rs ls->Same H H'->Q (.ref l) H'
theorem Vk{p dx dp ob:Addr}{pf:Int->Option Int}{us:LI}{ls:LP}{H:Hp}{Q:VK}{E:XK}(W:WayAt a H p pf us ls dx dp ob)(k:∀ (l:Addr) (rs:List V) (H':Hp),H l=none->H' l=some (.lst rs)->LnAt H' rs ls->Same H H'->Q (.ref l) H'):zcW a [.ref p] H Q E:=⟨p,dx,dp,ob,pf,us,ls,rfl,W,k⟩
theorem ok_ab(T:Txt w K mg a):FnOk P w K mg base CX0 7 105 (dK K 105) ["self"] (zcW a):=(VB T).imp fun vs H Q E h=>by
 obtain⟨p,dx,dp,ob,pf,us,ls,rfl,W,k⟩:=h;refine⟨p,dx,_,_,_,_,rfl,W.wy,fun v H' hv s hf=>?_⟩;obtain⟨l,rs,rfl,h1,h2,_⟩:=hv;exact k l rs H' (hf l rfl) h1 (Wj h2) s
def Cl(us:LI)(pf:Int->Option Int):Prop:=∀ x∈us,∀ y,pf x=some y->y∈us
def zdk(a:Ad):Sp:=fun vs H Q _=>∃ (p dx dp ob:Addr) (pf:Int->Option Int) (us:LI) (x:Int),vs=[.ref p,.int x]/\WayR a H p pf us dx dp ob/\Cl us pf/\x∈us /\
 ∀ (l:Addr) (ys:LI) (z:Int),H l=none->z∈us->((pf z=none/\En pf x (ys++[z]))\/(pf z≠none/\¬∃ l,En pf x l))->Q (.ref l) (upd H l (.lst ((ys++[z]).map V.int)))
theorem zaM(T:Txt w K mg a):FnOk P w K mg base CX0 1 112 (dK K 112) ["self", "hand"] (zdk a):=by
 refine(T.fn 45 rfl).ok (scp 45 rfl) (fun vs H Q E h=>?_) (fun cdv A outer s H vs Q E hr h=>?_)
 ·obtain⟨p,dx,dp,ob,pf,us,x,rfl,_⟩:=h
  rfl
 ·obtain⟨p,dx,dp,ob,pf,us,x,rfl,W,C,hx,k⟩:=h
  have hu:=yY hr;refine zT (zd (zk (i:=2) (scp 45 rfl).nd rfl (Or.inl rfl) (w_pe_lst (zb (w_pv 1) w_pa_nil)))
   (zd (zk (i:=3) (scp 45 rfl).nd rfl (Or.inl rfl) (vp hu (yL (w_pv 0) rfl) (w_pv 1) ⟨rfl,rfl,rfl,rfl⟩))
   (zd (xv PassesOwn.never (wf (yJ (zh wa (w_pv 3) zW (zu _)) (yt (zh xr (w_pv 3) (w_pv 2) (by with_unfolding_all rfl)))))
    (zd (w_ps_expr (w_pe_bm F.plainAttrs_list F.slot_list_append F.type_list_append yc (w_pv 2) (zb (w_pv 3) w_pa_nil)))
    (w_pss_one (zk (i:=3) (scp 45 rfl).nd rfl (Or.inl rfl) (vp hu (yL (w_pv 0) rfl) (w_pv 3) ⟨rfl,rfl,rfl,rfl⟩)))))
   (w_pss_one (zg (w_pv 2)))))) ?_
  refine⟨_,rfl,(by show 1<=sizeLine;decide),fun l hl=>?_⟩;have sm:∀ o,Same H (upd H l o):=fun o=>sW hl;refine⟨_,rfl,p,_,dx,_,_,rfl,(W.same (sm _)).p,(T.cl 0 rfl),(T.na 0 0 rfl rfl),rfl,dp,rfl,.inl ⟨_,(W.same (sm _)).dp⟩,_,rfl,some (opV (pf x)),ue (W.same (sm _)).dp hx,?_⟩;refine⟨fun m σ H'=>∃ (ys:LI) (z:Int),m+(ys++[z]).length=us.length/\σ=[some (.ref p),some (.int x),some (.ref l),some (opV (pf z))]/\H'=upd H l (.lst ((ys++[z]).map V.int))/\z∈us/\Pre pf x ys z/\(ys++[z]).Nodup/\∀ y∈ys,y∈us,⟨us.length-1,[],x,by have:=length_pos_of_mem hx;simp;omega,rfl,rfl,hx,Pre.z,(by simp),(fun y hy=>(nomatch hy))⟩,?_⟩;rintro m σ H' ⟨ys,z,hm,rfl,rfl,hz,hp,nd,hsub⟩;have hlen:(ys++[z]).length<=12:=le_trans (by omega) W.l12;cases h1:pf z with
  |none =>
   refine⟨_,rfl,rfl,_,rfl,zF rfl ?_⟩;refine⟨_,rfl,?_⟩;exact k l ys z hl hz (.inl ⟨h1,hp.end_ h1⟩)
  |some y =>
   refine⟨_,rfl,rfl,_,rfl,iteT ?_⟩;have h2:=C z hz y h1;by_cases hny:y∈ys++[z]
   ·refine⟨_,rfl,_,rfl,l,_,rfl,.inl (sO za),rfl,yE _,_,rfl,zF (by show(!inV (.int y) _)=false;rw[yR,decide_eq_true hny];rfl) ?_⟩
    refine⟨_,rfl,?_⟩;exact k l ys z hl hz (.inr ⟨by rw[h1];simp,hp.ring h1 hny⟩)
   ·refine⟨_,rfl,_,rfl,l,_,rfl,.inl (sO za),rfl,yE _,_,rfl,iteB (by show(!inV (.int y) _)=true;rw[yR,decide_eq_false hny];rfl) ?_⟩
    refine⟨_,fun σ' H' h=>h,?_⟩;refine⟨_,rfl,.inl ⟨rfl,_,sO za⟩,_,rfl,l,_,_,rfl,rfl,za,(by rw[length_map];exact zj (by omega)),?_⟩;rw[vM];refine⟨_,rfl,p,_,dx,_,_,rfl,(W.same (sm _)).p,(T.cl 0 rfl),(T.na 0 0 rfl rfl),rfl,dp,rfl,.inl ⟨_,(W.same (sm _)).dp⟩,_,rfl,some (opV (pf y)),ue (W.same (sm _)).dp h2,?_⟩;have nd2:(ys++[z]++[y]).Nodup:=by
     rw[nodup_append];exact⟨nd,by simp,fun u hu v hv e=>hny (by rw[mem_singleton.mp hv] at e;rw[<- e];exact hu)⟩
    have hs2:∀ u∈ys++[z],u∈us:=fun u hu=>(mem_append.mp hu).elim (hsub u) fun q=>by rw[mem_singleton.mp q];exact hz
    have hn2:=xy nd2 fun u hu=>(mem_append.mp hu).elim (hs2 u) fun q=>by rw[mem_singleton.mp q];exact h2
    have e2:(ys++[z]++[y]).length=(ys++[z]).length+1:=by simp
    refine⟨m-1,by omega,ys++[z],y,by omega,rfl,?_,h2,hp.s h1,nd2,hs2⟩;rw[map_append (l₂:=[y])];rfl
def zbO(a:Ad):Sp:=fun vs H Q _=>∃ (p dx dp ob:Addr) (pf:Int->Option Int) (us:LI) (x:Int),vs=[.ref p,.int x]/\WayR a H p pf us dx dp ob/\Cl us pf/\x∈us/\∀ (ys:LI) (z:Int) (H':Hp),Same H H'->z∈us->((pf z=none/\En pf x (ys++[z]))\/(pf z≠none/\¬∃ l,En pf x l))->Q (.int z) H'
theorem Vy(T:Txt w K mg a):FnOk P w K mg base CX0 2 119 (dK K 119) ["self", "hand"] (zbO a):=by
 refine(T.fn 46 rfl).ok (scp 46 rfl) (fun vs H Q E h=>?_) (fun cdv A outer s H vs Q E hr h=>?_)
 ·obtain⟨p,dx,dp,ob,pf,us,x,rfl,_⟩:=h
  rfl
 ·obtain⟨p,dx,dp,ob,pf,us,x,rfl,W,C,hx,k⟩:=h
  refine zT (w_pss_one (zg (zx zY (zC (w_pv 0) (zb (w_pv 1) w_pa_nil)) (xa xz ze) (fun _ _=>rfl)))) ?_;refine mtV rfl W.p rfl (T.cl 0 rfl) (T.mt 45 rfl) (zaM (P:=P) (w:=w) T) hr.m (T.bi 45 rfl) ⟨_,rfl,p,dx,dp,ob,pf,us,x,rfl,W,C,hx,fun l ys z hl hz hor=>?_⟩;refine⟨_,rfl,l,_,-1,_,rfl,rfl,sO za,?_,k ys z _ (sW hl) hz hor⟩;rw[map_append];exact at_last
theorem UpP.cl{us:LI}{pf:Int->Option Int}{pa:Int->LI}(U:UpP us pf pa):Cl us pf:=fun x hx y h=>by
 obtain⟨sf,U⟩:=U;rcases U x hx with⟨h1,_⟩ | ⟨y',h1,h2,_⟩
 ·rw[h] at h1;cases h1
 ·rw[h] at h1;cases h1;exact h2
theorem UpP.en{us:LI}{pf:Int->Option Int}{pa:Int->LI}(U:UpP us pf pa){x:Int}(hx:x∈us):En pf x (pa x):=by
 obtain⟨sf,U⟩:=U;have go:∀ (n:Nat){x:Int},sf x<=n->x∈us->En pf x (pa x):=by
  intro n
  induction n with
  |zero =>
   intro x hn hx;rcases U x hx with⟨h1,h2⟩ | ⟨y,_,_,_,h⟩
   ·rw[h2];exact .z h1
   ·omega
  |succ n ih =>
   intro x hn hx;rcases U x hx with⟨h1,h2⟩ | ⟨y,h1,h2,h3,h4⟩
   ·rw[h2];exact .z h1
   ·rw[h3];exact .s h1 (ih (by omega) h2)
 exact go _ (Nat.le_refl _) hx
theorem UpP.of{us:LI}{pf:Int->Option Int}(C:Cl us pf)(h:∀ x∈us,∃ l,En pf x l):UpP us pf (paO pf):=⟨fun x=>(paO pf x).length,fun x hx=>by
 obtain⟨l,hl⟩:=h x hx;cases hl with
 |z h1=>exact .inl ⟨h1,vz (.z h1)⟩
 | @s _ y l h1 t=>exact .inr ⟨y,h1,C x hx y h1,by rw[vz (.s h1 t),vz t],by show(paO pf y).length<(paO pf x).length;rw[vz (.s h1 t),vz t];simp⟩⟩
def zcQ(a:Ad):Sp:=fun vs H Q _=>∃ (p dx dp ob:Addr) (pf:Int->Option Int) (pa:Int->LI) (us:LI) (x:Int),vs=[.ref p,.int x]/\WayR a H p pf us dx dp ob/\UpP us pf pa/\x∈us/\∀ (H':Hp),Same H H'->Q (.int (ldr pa x)) H'
theorem wg{p dx dp ob:Addr}{pf:Int->Option Int}{pa:Int->LI}{us:LI}{x:Int}{H:Hp}{Q:VK}{E:XK}(W:WayR a H p pf us dx dp ob)(U:UpP us pf pa)(hx:x∈us)(k:∀ (H':Hp),Same H H'->Q (.int (ldr pa x)) H'):zcQ a [.ref p,.int x] H Q E:=⟨p,dx,dp,ob,pf,pa,us,x,rfl,W,U,hx,k⟩
theorem vg(T:Txt w K mg a):FnOk P w K mg base CX0 2 119 (dK K 119) ["self", "hand"] (zcQ a):=(Vy T).imp fun vs H Q E h=>by
 obtain⟨p,dx,dp,ob,pf,pa,us,x,rfl,W,U,hx,k⟩:=h;refine⟨p,dx,dp,ob,pf,us,x,rfl,W,U.cl,hx,fun ys z H' s hz hor=>?_⟩;rcases hor with⟨_,h⟩ | ⟨_,h⟩
 ·have e:ldr pa x=z:=by
   unfold ldr;rw[(U.en hx).fn h,List.getLastD_eq_getLast?,List.getLast?_append];simp
  rw[<- e];exact k _ s
 ·exact absurd ⟨_,U.en hx⟩ h
open L2.Sco (PT PsAt)
def jk(lf:Int->Int)(p:Int×Int):Int×Int:=(min (lf p.1) (lf p.2),max (lf p.1) (lf p.2))
def jst(lf:Int->Int)(acc:List ((Int×Int)×(Int×Int)))(p:Int×Int):List ((Int×Int)×(Int×Int)) :=
 if lf p.1=lf p.2 then acc else if jk lf p∈acc.map (·.1) then acc else acc++[(jk lf p,p)]
def jn(lf:Int->Int)(ls:LP):List ((Int×Int)×(Int×Int)):=ls.foldl (jst lf) []
theorem Zs{lf:Int->Int}{ls:LP}{p:Int×Int}:jn lf (ls++[p])=jst lf (jn lf ls) p:=by
 unfold jn;rw[List.foldl_append];rfl
theorem UD{lf:Int->Int}{acc:List ((Int×Int)×(Int×Int))}{p:Int×Int}:(jst lf acc p).length<=acc.length+1:=by
 unfold jst
 split
 ·omega
 ·split
  ·omega
  ·simp
theorem za5{lf:Int->Int}{ls:LP}:(jn lf ls).length<=ls.length:=by
 suffices ∀ (acc:List ((Int×Int)×(Int×Int))),(ls.foldl (jst lf) acc).length<=acc.length+ls.length by
  have:=this [];unfold jn
  simpa using this
 induction ls with
 |nil=>intro acc;simp
 |cons p ls ih =>
  intro acc;have h1:=ih (jst lf acc p);have h2:=UD (lf:=lf) (acc:=acc) (p:=p);rw[List.foldl_cons,length_cons];omega
theorem vq{x y:Int}{ms:LI}(pm:ms.Perm [x,y])(sd:ms.Pairwise (· <= ·)):ms=[min x y,max x y]:=by
 have hl:=pm.length_eq
 match ms,hl with
 |[u,v],_ =>
  have h1:u<=v:=(pairwise_cons.mp sd).1 v (by simp);have hu:u=x\/u=y:=by simpa using pm.mem_iff.mp (show u∈[u,v] by simp)
  have hx:x=u\/x=v:=by simpa using pm.mem_iff.mpr (show x∈[x,y] by simp)
  have hy:y=u\/y=v:=by simpa using pm.mem_iff.mpr (show y∈[x,y] by simp)
  have hv:v=x\/v=y:=by simpa using pm.mem_iff.mp (show v∈[u,v] by simp)
  have e1:u=min x y:=by omega
  have e2:v=max x y:=by omega
  rw[e1,e2]
def kvJ(js:List ((Int×Int)×PT)):List (List Key×V):=js.map fun j=>([Sum.inl j.1.1,Sum.inl j.1.2],V.ref j.2.1)
def tlJ(js:List ((Int×Int)×PT)):List ((Int×Int)×(Int×Int)):=js.map fun j=>(j.1,j.2.2)
theorem Xr{js:List ((Int×Int)×PT)}{k:Int×Int}:(yG (kvJ js) ([Sum.inl k.1,Sum.inl k.2]:List Key)).isSome=decide (k∈js.map (·.1)):=by
 rw[xo];apply decide_eq_decide.mpr;unfold kvJ;rw[map_map]
 constructor
 ·intro h
  obtain⟨j,hj,e⟩:=mem_map.mp h;refine mem_map.mpr ⟨j,hj,?_⟩;have e:([Sum.inl j.1.1,Sum.inl j.1.2]:List Key)=[Sum.inl k.1,Sum.inl k.2]:=e;injection e with e1 e2;injection e2 with e2 _;injection e1 with e1;injection e2 with e2;exact Prod.ext e1 e2
 ·intro h
  obtain⟨j,hj,e⟩:=mem_map.mp h;exact mem_map.mpr ⟨j,hj,by rw[<- e];rfl⟩
def zcT(a:Ad):Sp:=fun vs H Q _=>∃ (p dx dp ob l:Addr) (pf:Int->Option Int) (pa:Int->LI) (us:LI) (bs ls:LP) (rs:List V),vs=[.ref p,.ref l]/\WayAt a H p pf us bs dx dp ob/\UpP us pf pa/\H l=some (.lst rs)/\LnAt H rs ls/\Bd ls/\ls.length<=66/\(∀ q∈ls,q.1∈us/\q.2∈us) /\
 ∀ (d:Addr) (js:List ((Int×Int)×PT)) (H':Hp),H d=none->H' d=some (.dT (kvJ js))->tlJ js=jn (ldr pa) ls->PsAt H' (js.map (·.2))->Same H H'->Q (.ref d) H'
theorem zcj(T:Txt w K mg a):FnOk P w K mg base CX0 3 196 (dK K 196) ["way", "lines"] (zcT a):=by
 refine(T.fn 7 rfl).ok (scp 7 rfl) (fun vs H Q E h=>?_) (fun cdv A outer s H vs Q E hr h=>?_)
 ·obtain⟨p,dx,dp,ob,l,pf,pa,us,bs,ls,rs,rfl,_⟩:=h
  rfl
 ·obtain⟨p,dx,dp,ob,l,pf,pa,us,bs,ls,rs,rfl,W,U,hl,L,B,l66,hin,k⟩:=h
  have hu:=yY hr;generalize hlf:ldr pa=lf at *;refine zT (zd (zk (i:=2) (scp 7 rfl).nd rfl (Or.inl rfl) yN)
   (zd (zL PassesOwn.never rfl (zB (w_pv 1)) (yf rfl (zr (zm (i:=3) (scp 7 rfl).nd rfl (Or.inl rfl)) (zr (zm (i:=4) (scp 7 rfl).nd rfl (Or.inl rfl)) zO)))
    (zd (zk (i:=5) (scp 7 rfl).nd rfl (Or.inl rfl) (zU xk (by rfl) (T.n 11 rfl) yV (zM (zl we (by rfl) (T.n 8 rfl) xu (w_pa_cons (w_pe_lst (zM (zC (w_pv 0) (zb (w_pv 3) w_pa_nil)) (zM (zC (w_pv 0) (zb (w_pv 4) w_pa_nil)) w_pa_nil))) w_pa_nil)) w_pa_nil)))
    (w_pss_one (zq (zh wO (zx zX (w_pv 5) ze (fun _ _=>rfl)) (zx zX (w_pv 5) ze (fun _ _=>rfl)) (zu _))
     (w_pss_one (w_ps_expr (wI hu (w_pv 2) (w_pv 5) (zD (zb (w_pv 3) (zb (w_pv 4) w_pa_nil))) ⟨rfl,rfl,rfl,rfl⟩)))
     zi))))
   (w_pss_one (zg (w_pv 2))))) ?_
  refine fun d hd=>?_;have lr:=L.1;refine⟨_,rfl,l,rfl,⟨_,sO (sW hd _ _ hl)⟩,?_⟩;refine for_list (xs:=rs) (fun i σ H'=>∃ (js:List ((Int×Int)×PT)) (o3 o4 o5:Option V),σ=[some (.ref p),some (.ref l),some (.ref d),o3,o4,o5]/\H' d=some (.dT (kvJ js))/\tlJ js=jn lf (ls.take i)/\PsAt H' (js.map (·.2))/\Same H H') ?_ ?_ ?_ ?_
  ·exact⟨[],none,none,none,rfl,za,rfl,(fun p hp=>(nomatch hp)),sW hd⟩
  ·rintro i σ H' hi ⟨js,o3,o4,o5,_,_,_,_,sm⟩
   exact sO (sm _ _ hl)
  ·rintro i v σ H1 hi ⟨js,o3,o4,o5,rfl,hd1,ej,ps,sm⟩
   obtain⟨⟨x,y⟩,q,hp,rfl,hq⟩:=L.get hi;have hpm:=mem_of_getElem? hp;obtain⟨hx,hy⟩:=hin _ hpm;have hbd:=B _ hpm;dsimp only at hx hy hbd hq;have ljs:js.length<=66:=by
    have h1:=congrArg List.length ej;unfold tlJ at h1;rw[length_map] at h1;have h2:=za5 (lf:=lf) (ls:=ls.take i);rw[length_take] at h2;omega
   refine⟨q,_,rfl,sP (sm _ _ hq),rfl,_,_,rfl,_,_,rfl,rfl,?_⟩;refine mtV rfl (sm _ _ W.p) rfl (T.cl 0 rfl) (T.mt 46 rfl) (vg (P:=P) (w:=w) T) hr.m (T.bi 46 rfl) (ag1 rfl (wg ((W.same sm).r) U hx (fun H2 s2=>?_)));rw[hlf];have sm2:=sm.trans s2;refine mtV rfl (sm2 _ _ W.p) rfl (T.cl 0 rfl) (T.mt 46 rfl) (vg (P:=P) (w:=w) T) hr.m (T.bi 46 rfl) (ag1 rfl (wg ((W.same sm2).r) U hy (fun H3 s3=>?_)));rw[hlf];have sm3:=sm2.trans s3;refine⟨(by show 2<=sizeLine;decide),fun pl hpl=>?_⟩;have s4:=sW (o:=HO.lst [V.int (lf x),V.int (lf y)]) hpl;refine⟨pl,[lf x,lf y],rfl,sO za,(by show 2<64;decide),fun pm ms hpm' pmm sd=>?_⟩;rw[vq pmm sd];have s5:=s4.trans (sW (o:=HO.lst ([min (lf x) (lf y),max (lf x) (lf y)].map V.int)) hpm');refine⟨pm,_,rfl,.inl ⟨sO za,fun pt hpt=>?_⟩⟩;have s6:=s5.trans (sW (o:=HO.tup ([min (lf x) (lf y),max (lf x) (lf y)].map V.int)) hpt);have ht6:=za (H:=(upd (upd H3 pl (HO.lst [V.int (lf x),V.int (lf y)])) pm (HO.lst ([min (lf x) (lf y),max (lf x) (lf y)].map V.int)))) (a:=pt) (o:=HO.tup ([min (lf x) (lf y),max (lf x) (lf y)].map V.int));generalize upd (upd (upd H3 pl (HO.lst [V.int (lf x),V.int (lf y)])) pm (HO.lst ([min (lf x) (lf y),max (lf x) (lf y)].map V.int))) pt (HO.tup ([min (lf x) (lf y),max (lf x) (lf y)].map V.int))=H6 at *;have t6:=(s2.trans s3).trans s6;have sm6:=sm.trans t6;refine⟨_,rfl,pt,_,0,_,rfl,rfl,sP ht6,rfl,_,rfl,pt,_,1,_,rfl,rfl,sP ht6,rfl,rfl,_,rfl,?_⟩;have etk:ls.take (i+1)=ls.take i++[(x,y)]:=by rw[take_add_one,hp];rfl
   by_cases c:lf x=lf y
   ·refine zF (by rw[c];simp) ?_
    refine⟨js,_,_,_,rfl,t6 _ _ hd1,?_,ps.same t6,sm6⟩;rw[etk,Zs];unfold jst;rw[if_pos c];exact ej
   ·refine iteB (by simp;omega) ?_
    refine⟨_,rfl,d,rfl,.inr ⟨_,.inl (t6 _ _ hd1)⟩,_,rfl,_,rfl,_,rfl,(by show 2<=sizeLine;decide),fun pr hpr=>?_⟩;have s7:=sW (o:=HO.tup [V.int x,V.int y]) hpr;have t7:=t6.trans s7;have hd7:=t7 _ _ hd1;have npd:pr≠d:=fun z=>by rw[z,t6 _ _ hd1] at hpr;cases hpr
    have key:(yG (kvJ js) ([Sum.inl (min (lf x) (lf y)),Sum.inl (max (lf x) (lf y))]:List Key)).isSome=decide (jk lf (x,y)∈js.map (·.1)):=Xr (js:=js) (k:=jk lf (x,y));have emp:(tlJ js).map (·.1)=js.map (·.1):=by unfold tlJ;rw[map_map];rfl
    refine .inr ⟨kvJ js,[Sum.inl (min (lf x) (lf y)),Sum.inl (max (lf x) (lf y))],pt,hd7,rfl,s7 _ _ ht6,by unfold kvJ;rw[length_map];exact zj (by omega),fun u hu'=>?_,fun hn=>?_⟩
    ·rw[hu'] at key
     have hk:jk lf (x,y)∈js.map (·.1):=of_decide_eq_true key.symm;refine⟨js,_,_,_,rfl,hd7,?_,ps.same t7,sm.trans t7⟩;rw[etk,Zs,<- ej];unfold jst;rw[if_neg c,if_pos (by rw[emp];exact hk)]
    ·rw[hn] at key
     have hk:jk lf (x,y)∉js.map (·.1):=of_decide_eq_false key.symm;refine⟨js++[(jk lf (x,y),(pr,x,y))],_,_,_,rfl,?_,?_,?_,Same.updF (sm.trans t7) hd⟩
     ·rw[za]
      rw[L2.putK_new _ hn];unfold kvJ;rw[map_append];rfl
     ·rw[etk,Zs,<- ej]
      unfold jst;rw[if_neg c,if_neg (by rw[emp];exact hk)];unfold tlJ;rw[map_append];rfl
     ·have hnd:∀ b xs,(upd H6 pr (HO.tup [V.int x,V.int y])) b=some (.tup xs)->b≠d:=fun b xs e z=>by rw[z,hd7] at e;cases e
      rw[map_append];intro q' hq';rcases mem_append.mp hq' with z | z
      ·have h1:=ps.same t7 q' z
       exact⟨by rw[upd_ne (hnd _ _ h1.1)];exact h1.1,h1.2⟩
      ·rw[mem_singleton.mp z]
       exact⟨by rw[upd_ne npd];exact za,hbd⟩
  ·rintro σ H1 ⟨js,o3,o4,o5,rfl,hd1,ej,ps,sm⟩
   rw[take_of_length_le (by omega)] at ej;exact⟨_,rfl,k d js H1 hd hd1 ej ps sm⟩
structure WayP (a:Ad) (H:Hp) (p:Addr) (pf:Int->Option Int) (us:LI) (dx dp ob:Addr):Prop where
 p:H p=some (.ins 150 dx [("own_parents",.ref dp),("own_bridges",.ref ob)])
 dp:H dp=some (.dK (tabV (fun x=>opV (pf x)) us))
 nd:us.Nodup
 l12:us.length<=12
theorem WayP.same{a:Ad}{H H':Hp}{p dx dp ob:Addr}{pf:Int->Option Int}{us:LI}(w:WayP a H p pf us dx dp ob)(s:Same H H'):WayP a H' p pf us dx dp ob:=⟨s _ _ w.p,s _ _ w.dp,w.nd,w.l12⟩
theorem WayP.r{a:Ad}{H:Hp}{p dx dp ob:Addr}{pf:Int->Option Int}{us:LI}(w:WayP a H p pf us dx dp ob):WayR a H p pf us dx dp ob:=⟨w.p,.inl w.dp,w.l12⟩
inductive WhV:V->Bool->Prop where
 |int (i:Int):WhV (.int i) true
 |non:WhV .non false
 |str (x:Str):WhV (.str x) false
def vR:Sp:=fun vs H Q _=>∃ v b,vs=[v]/\WhV v b/\Q (.bl b) H
theorem uw(T:Txt w K mg a):FnOk P w K mg base CX0 1 65 (dK K 65) ["value"] vR:=by
 refine(T.fn 0 rfl).ok (scp 0 rfl) (fun vs H Q E h=>?_) (fun cdv A outer s H vs Q E hr h=>?_)
 ·obtain⟨v,b,rfl,_⟩:=h
  rfl
 ·obtain⟨v,b,rfl,hv,k⟩:=h
  refine zT (w_pss_one (zg (yA (zl zG (by rfl) (T.n 5 rfl) zp (zb (w_pv 0) (zb (ya (T.n 1 rfl) uP) w_pa_nil))) (yz (vI (zl zG (by rfl) (T.n 5 rfl) zp (zb (w_pv 0) (zb (ya (T.n 10 rfl) vd) w_pa_nil)))))))) ?_;cases hv with
  |int i =>
   refine⟨_,rfl,_,_,_,_,_,rfl,rfl,.int i,(T.k 0 rfl),_,rfl,iteT ?_⟩;exact⟨_,rfl,_,_,_,_,_,rfl,rfl,.int i,(T.k 1 rfl),_,rfl,k⟩
  |non=>exact⟨_,rfl,_,_,_,_,_,rfl,rfl,.non,(T.k 14 rfl),_,rfl,zF rfl k⟩
  |str x=>exact⟨_,rfl,_,_,_,_,_,rfl,rfl,.str x,(T.k 15 rfl),_,rfl,zF rfl k⟩
def poV(us:LI)(pf:Int->Option Int):V->V
 |.int x=>if x∈us then opV (pf x) else .non
 |_=>.non
def zdl(a:Ad):Sp:=fun vs H Q _=>∃ (p dx dp ob:Addr) (pf:Int->Option Int) (us:LI) (v:V) (b:Bool),vs=[.ref p,v]/\WayP a H p pf us dx dp ob/\WhV v b/\∀ H',Same H H'->Q (poV us pf v) H'
theorem zb9(T:Txt w K mg a):FnOk P w K mg base CX0 6 91 (dK K 91) ["self", "hand"] (zdl a):=by
 have c_is_whole:=cal P base T 0 rfl (uw T);have c_copied:Callee P w K mg base "copied" 70 (dK K 70) ["value"] (3+2) (UO 3):=⟨xt T 3,(T.g 1 rfl),(T.fn 1 rfl).kp,(T.bi 1 rfl)⟩;refine(T.fn 42 rfl).ok (scp 42 rfl) (fun vs H Q E h=>?_) (fun cdv A outer s H vs Q E hr h=>?_)
 ·obtain⟨p,dx,dp,ob,pf,us,v,b,rfl,_⟩:=h
  rfl
 ·obtain⟨p,dx,dp,ob,pf,us,v,b,rfl,W,hv,k⟩:=h
  refine zT (zd (wG (zL PassesOwn.never rfl (xF (yL (w_pv 0) rfl)) (yf rfl (zr (zm (i:=2) (scp 42 rfl).nd rfl (Or.inl rfl)) (zr (zm (i:=3) (scp 42 rfl).nd rfl (Or.inl rfl)) zO)))
    (w_pss_one (zq (wf (yJ (zh yu (zn c_is_whole hr.m (zb (w_pv 2) w_pa_nil)) (zn c_is_whole hr.m (zb (w_pv 1) w_pa_nil)) (zu _)) (yt (zh yu (w_pv 2) (w_pv 1) (zu _)))))
     (w_pss_one (zg (zn c_copied hr.m (zb (w_pv 3) w_pa_nil))))
     zi))))
   (w_pss_one (zg zW))) ?_
  refine⟨_,rfl,p,_,dx,_,_,rfl,W.p,(T.cl 0 rfl),(T.na 0 0 rfl rfl),rfl,dp,_,rfl,W.dp,fun od S=>?_⟩;have hz1:=za (H:=H) (a:=dp) (o:=HO.frz od (HO.dK (tabV (fun x=>opV (pf x)) us)));have x1:Ext dp H (upd H dp (HO.frz od (HO.dK (tabV (fun x=>opV (pf x)) us)))):=Ext.at;generalize upd H dp (HO.frz od (HO.dK (tabV (fun x=>opV (pf x)) us)))=H1 at *;have back:∀ {G:Hp},Same H1 G->Same H (upd G dp (HO.dK (tabV (fun x=>opV (pf x)) us))):=fun {G} sm b o e=>by
   by_cases z:b=dp
   ·rw[z,W.dp] at e;cases e;rw[z];exact za
   ·rw[upd_ne z];exact sm _ _ (x1 _ _ e z)
  refine ZU (yl:=yI) (d:=dp) (od:=od) (kvs:=tabV (fun x=>opV (pf x)) us) (fun i σ H'=>∃ (o2 o3:Option V),σ=[some (.ref p),some v,o2,o3]/\Same H1 H'/\∀ x,v=.int x->x∉us.take i) ?_ ?_ ?_ ?_
  ·exact⟨none,none,rfl,fun _ _ h=>h,fun x _=>by simp⟩
  ·rintro i σ H' ⟨o2,o3,_,sm,_⟩
   exact sm _ _ hz1
  ·rintro i kv u σ G G' hkv ⟨o2,o3,rfl,sm,hni⟩ hy
   obtain⟨x,hx,rfl⟩:∃ x,us[i]?=some x/\kv=(Sum.inl x,opV (pf x)):=by
    unfold tabV at hkv;rw[List.getElem?_map] at hkv;obtain⟨x,h1,h2⟩:=map_eq_some_iff.mp hkv;exact⟨x,h1,h2.symm⟩
   obtain⟨p0,hp0,rfl,rfl⟩:=UQ hy;have etk:us.take (i+1)=us.take i++[x]:=by rw[take_add_one,hx];rfl
   have hxu:=mem_of_getElem? hx;have n1:=sW (o:=HO.tup [V.int x,opV (pf x)]) hp0;have sm2:=sm.trans n1;refine⟨p0,_,rfl,sP za,rfl,_,_,rfl,_,_,rfl,rfl,?_⟩;generalize upd G p0 (HO.tup [V.int x,opV (pf x)])=G2 at *;refine⟨_,rfl,_,true,rfl,.int x,_,rfl,v,b,rfl,hv,rfl,_,rfl,?_⟩;cases hv with
   |non=>exact zF (by rfl) ⟨_,_,rfl,sm2,fun y hy=>(nomatch hy)⟩
   |str s=>exact zF (by rfl) ⟨_,_,rfl,sm2,fun y hy=>(nomatch hy)⟩
   |int j =>
    refine iteB (by rfl) ?_;refine⟨_,rfl,_,rfl,rfl,_,rfl,?_⟩;by_cases c:x=j
    ·subst c
     refine iteB (by simp) ?_;refine⟨_,rfl,_,ShF.fl (opV (pf x)),_,rfl,sR _,⟨rfl,Xb _⟩,fun v' H2 hv' _ s2=>?_⟩;obtain rfl:v'=opV (pf x):=hv'.1;have sm2:=sm2.trans s2;refine .inr ⟨dp,od,_,S,sm2 _ _ hz1,?_⟩;have e:poV us pf (.int x)=opV (pf x):=if_pos hxu;have:=k _ (back sm2);rw[e] at this;exact this
    ·refine zF (by simp[c]) ⟨_,_,rfl,sm2,fun y hy=>?_⟩
     cases hy;rw[etk];exact fun z=>(mem_append.mp z).elim (hni j rfl) fun e=>c (mem_singleton.mp e).symm
  ·rintro σ H' ⟨o2,o3,rfl,sm,hni⟩
   rw[tabV_len,take_length] at hni;refine .inr ⟨dp,od,_,S,sm _ _ hz1,?_⟩;have e:poV us pf v=.non:=by
    cases hv with
    |int i=>exact if_neg (hni i rfl)
    |non=>rfl
    |str x=>rfl
   have:=k _ (back sm);rw[e] at this;exact this
open L2.Sco (PT PsAt)
structure WbP (a:Ad) (H:Hp) (p:Addr) (hs:LI) (ls:LP):Prop where
 wh:Hs hs
 wl:Ls hs ls
 l63:ls.length<=63
 at_:∃ dx oh ol d ad,WebAt a H p hs ls dx oh ol d ad
theorem WbP.same{H H':Hp}{p:Addr}{hs:LI}{ls:LP}(h:WbP a H p hs ls)(s:Same H H'):WbP a H' p hs ls:=⟨h.wh,h.wl,h.l63,let ⟨dx,oh,ol,d,ad,W⟩:=h.at_;⟨dx,oh,ol,d,ad,W.same s⟩⟩
def zag(a:Ad):Sp:=fun vs H Q _=>∃ (p:Addr) (hs:LI) (ls:LP) (dx oh ol d:Addr) (ad:Int->Addr),vs=[.ref p]/\WebAt a H p hs ls dx oh ol d ad/\∀ q zs,H q=none->LnAt H zs (srt ls)->Q (.ref q) (upd H q (.lst zs))
theorem YH{p:Addr}{hs:LI}{ls:LP}{dx oh ol d:Addr}{ad:Int->Addr}{H:Hp}{Q:VK}{E:XK}(W:WebAt a H p hs ls dx oh ol d ad)(k:∀ q zs,H q=none->LnAt H zs (srt ls)->Q (.ref q) (upd H q (.lst zs))):zag a [.ref p] H Q E:=⟨p,hs,ls,dx,oh,ol,d,ad,rfl,W,k⟩
theorem Vx(T:Txt w K mg a):FnOk P w K mg base CX0 1 327 (dK K 327) ["self"] (zag a):=by
 refine(T.fn 49 rfl).ok (scp 49 rfl) (fun vs H Q E h=>?_) (fun cdv A outer s H vs Q E hr h=>?_)
 ·obtain⟨p,hs,ls,dx,oh,ol,d,ad,rfl,_⟩:=h
  rfl
 ·obtain⟨p,hs,ls,dx,oh,ol,d,ad,rfl,W,k⟩:=h
  refine zT (w_pss_one (zg (zU yF (by rfl) (T.n 6 rfl) bt_list (w_pa_cons (yL (w_pv 0) rfl) w_pa_nil)))) ?_;obtain⟨zs,h1,h2⟩:=W.ol;exact⟨_,rfl,p,_,dx,_,_,rfl,W.p,(T.cl 1 rfl),(T.na 1 1 rfl rfl),rfl,ol,_,rfl,.inl (sO h1),fun q hq=>k q zs hq h2⟩
theorem uS{hs:LI}{ls:LP}{x y:Int}(L:Ls hs ls)(h:adB ls x y=true):y∈hs:=by
 unfold adB at h;rw[or_eq_true,decide_eq_true_eq,decide_eq_true_eq] at h;rcases h with h | h
 ·exact(L.ok _ h).2.1
 ·exact(L.ok _ h).1
theorem W7{ls:LP}{x y:Int}:adB ls x y=adB ls y x:=by
 unfold adB;rw[Bool.or_comm]
def isI:V->Bool
 |.int _=>true
 |_=>false
def inH(hs:LI):V->Bool
 |.int x=>decide (x∈hs)
 |_=>false
def WhK(K:W.Frag)(H:Hp)(v:V):Prop:=(∃ i,v=.int i)\/(∃ b,v=.bl b)\/(isI v=false/\∃ t,TyOf K H v t/\PySem.W.kitOne K t (.type "int")=some false)
theorem TyOf.same{K:W.Frag}{H H':Hp}{v:V}{t:Value}(s:Same H H')(h:TyOf K H v t):TyOf K H' v t:=by
 cases h with
 |non=>exact .non
 |bl x=>exact .bl x
 |int i=>exact .int i
 |str x=>exact .str x
 |flt x=>exact .flt x
 |lst e=>exact .lst (s _ _ e)
 |frz e=>exact .frz (s _ _ e)
 |tup e=>exact .tup (s _ _ e)
 |dK e=>exact .dK (s _ _ e)
 |dT e=>exact .dT (s _ _ e)
 |ins e a b c d f=>exact .ins (s _ _ e) a b c d f
 |odd e x=>exact .odd (s _ _ e) x
theorem WhK.same{K:W.Frag}{H H':Hp}{v:V}(s:Same H H')(h:WhK K H v):WhK K H' v:=by
 rcases h with h | h | ⟨h,t,h1,h2⟩
 ·exact .inl h
 ·exact .inr (.inl h)
 ·exact .inr (.inr ⟨h,t,TyOf.same s h1,h2⟩)
theorem zcr(T:Txt w K mg a){H:Hp}{v:V}(h:Fl v):WhK K H v:=by
 cases h with
 |int i=>exact .inl ⟨i,rfl⟩
 |non=>exact .inr (.inr ⟨rfl,_,.non,(T.k 14 rfl)⟩)
 |bl b=>exact .inr (.inl ⟨b,rfl⟩)
 |str x=>exact .inr (.inr ⟨rfl,_,.str x,(T.k 15 rfl)⟩)
theorem u9(T:Txt w K mg a){H:Hp}{n:Nat}{v:V}{x:Sh n}(h:IsSh H n v x):WhK K H v:=by
 cases n with
 |zero=>exact h.elim
 |succ n =>
  cases x with
  |fl u=>rw[h.1];exact zcr T h.2
  |lst xs=>obtain⟨b,rs,rfl,e,_⟩:=h;exact .inr (.inr ⟨rfl,_,.lst e,(T.k 28 rfl)⟩)
  |tup xs=>obtain⟨b,rs,rfl,e,_⟩:=h;exact .inr (.inr ⟨rfl,_,.tup e,(T.k 23 rfl)⟩)
  |dk xs=>obtain⟨b,rs,rfl,e,_⟩:=h;exact .inr (.inr ⟨rfl,_,.dK e,(T.k 27 rfl)⟩)
  |rw ks xs=>obtain⟨b,od,rs,rfl,_,e,o,_⟩:=h;exact .inr (.inr ⟨rfl,_,.odd e o.d.1,(T.k 27 rfl)⟩)
theorem za4(T:Txt w K mg a){H:Hp}{ks:List V}{v:V}(h:KyN H ks v):WhK K H v:=by
 cases h with
 |non=>exact .inr (.inr ⟨rfl,_,.non,(T.k 14 rfl)⟩)
 |bl b _=>exact .inr (.inl ⟨b,rfl⟩)
 |int i _=>exact .inl ⟨i,rfl⟩
 |str x=>exact .inr (.inr ⟨rfl,_,.str x,(T.k 15 rfl)⟩)
 |tup b i e=>exact .inr (.inr ⟨rfl,_,.tup e,(T.k 23 rfl)⟩)
def YG(K:W.Frag):Sp:=fun vs H Q _=>∃ v,vs=[v]/\WhK K H v/\Q (.bl (isI v)) H
theorem zaG(T:Txt w K mg a):FnOk P w K mg base CX0 1 65 (dK K 65) ["value"] (YG K):=by
 refine(T.fn 0 rfl).ok (scp 0 rfl) (fun vs H Q E h=>?_) (fun cdv A outer s H vs Q E hr h=>?_)
 ·obtain⟨v,rfl,_⟩:=h
  rfl
 ·obtain⟨v,rfl,hv,k⟩:=h
  refine zT (w_pss_one (zg (yA (zl zG (by rfl) (T.n 5 rfl) zp (zb (w_pv 0) (zb (ya (T.n 1 rfl) uP) w_pa_nil))) (yz (vI (zl zG (by rfl) (T.n 5 rfl) zp (zb (w_pv 0) (zb (ya (T.n 10 rfl) vd) w_pa_nil)))))))) ?_;rcases hv with⟨i,rfl⟩ | ⟨b,rfl⟩ | ⟨h,t,ty,kk⟩
  ·refine⟨_,rfl,_,_,_,_,_,rfl,rfl,.int i,(T.k 0 rfl),_,rfl,iteT ?_⟩
   exact⟨_,rfl,_,_,_,_,_,rfl,rfl,.int i,(T.k 1 rfl),_,rfl,k⟩
  ·refine⟨_,rfl,_,_,_,_,_,rfl,rfl,.bl b,(T.k 25 rfl),_,rfl,iteT ?_⟩
   exact⟨_,rfl,_,_,_,_,_,rfl,rfl,.bl b,(T.k 17 rfl),_,rfl,k⟩
  ·rw[h] at k
   exact⟨_,rfl,_,_,_,_,_,rfl,rfl,ty,kk,_,rfl,zF rfl k⟩
theorem VJ{hs:LI}{v:V}(h:isI v=false):inH hs v=false:=by
 cases v<;>first | rfl | cases h
def zai(K:W.Frag)(a:Ad):Sp:=fun vs H Q _=>∃ (p:Addr) (v:V) (hs:LI) (ls:LP) (dx oh ol d:Addr) (ad:Int->Addr),vs=[.ref p,v]/\WebAt a H p hs ls dx oh ol d ad/\WhK K H v/\Q (.bl (inH hs v)) H
theorem vX(T:Txt w K mg a):FnOk P w K mg base CX0 2 334 (dK K 334) ["self", "hand"] (zai K a):=by
 have c_is_whole:=cal P base T 0 rfl (zaG T);refine(T.fn 50 rfl).ok (scp 50 rfl) (fun vs H Q E h=>?_) (fun cdv A outer s H vs Q E hr h=>?_)
 ·obtain⟨p,x,hs,ls,dx,oh,ol,d,ad,rfl,_⟩:=h
  rfl
 ·obtain⟨p,v,hs,ls,dx,oh,ol,d,ad,rfl,W,hv,k⟩:=h
  have hu:=yY hr;refine zT (w_pss_one (zg (yA (zn c_is_whole hr.m (zb (w_pv 1) w_pa_nil)) (yz (Wb (vJ hu (w_pv 1) (yL (w_pv 0) rfl))))))) ?_;refine⟨_,rfl,v,rfl,hv,_,rfl,?_⟩;cases hi:isI v with
  |false=>exact zF rfl (by rw[VJ hi] at k;exact k)
  |true =>
   obtain⟨x,rfl⟩:∃ x,v=.int x:=by cases v<;>first | exact⟨_,rfl⟩ | cases hi
   refine iteT ⟨_,rfl,_,rfl,p,_,dx,_,_,rfl,W.p,(T.cl 1 rfl),(T.na 1 2 rfl rfl),rfl,d,yG (tab ad hs) (.inl x),rfl,DGet.k (k:=.inl x) W.nr.d,?_⟩;have e:(yG (tab ad hs) (.inl x)).isSome=inH hs (.int x):=by
    by_cases c:x∈hs
    ·rw[YC c];exact(decide_eq_true c).symm
    ·rw[wK (by rw[ZE];intro z;obtain⟨y,h1,h2⟩:=mem_map.mp z;injection h2 with h2;rw[h2] at h1;exact c h1)];exact(decide_eq_false c).symm
   rw[e];exact k
def hlB(hs:LI)(ls:LP)(u v:V):Bool:=inH hs u&&inH hs v&&match u,v with | .int x,.int y=>adB ls x y | _,_=>false
def zbP(K:W.Frag)(a:Ad):Sp:=fun vs H Q _=>∃ (p:Addr) (u v:V) (hs:LI) (ls:LP) (dx oh ol d:Addr) (ad:Int->Addr),vs=[.ref p,u,v]/\WebAt a H p hs ls dx oh ol d ad/\WhK K H u/\WhK K H v/\Q (.bl (hlB hs ls u v)) H
theorem Xd(T:Txt w K mg a):FnOk P w K mg base CX0 3 341 (dK K 341) ["self", "one", "other"] (zbP K a):=by
 refine(T.fn 51 rfl).ok (scp 51 rfl) (fun vs H Q E h=>?_) (fun cdv A outer s H vs Q E hr h=>?_)
 ·obtain⟨p,u,v,hs,ls,dx,oh,ol,d,ad,rfl,_⟩:=h
  rfl
 ·obtain⟨p,u,v,hs,ls,dx,oh,ol,d,ad,rfl,W,hu1,hv1,k⟩:=h
  have hu:=yY hr;refine zT (w_pss_one (zg (yA (zC (w_pv 0) (zb (w_pv 1) w_pa_nil)) (yA (zC (w_pv 0) (zb (w_pv 2) w_pa_nil)) (yz (zP wP (w_pv 2) (yP hu (yL (w_pv 0) rfl) (w_pv 1) (fun _ _=>rfl)) (by with_unfolding_all rfl))))))) ?_;unfold hlB at k;refine mtV rfl W.p rfl (T.cl 1 rfl) (T.mt 50 rfl) (vX (P:=P) (w:=w) T) hr.m (T.bi 50 rfl) ⟨_,rfl,p,u,hs,ls,dx,oh,ol,d,ad,rfl,W,hu1,_,rfl,?_⟩;cases h1:inH hs u with
  |false=>exact zF rfl (by rw[h1] at k;exact k)
  |true =>
  refine iteT ?_;refine mtV rfl W.p rfl (T.cl 1 rfl) (T.mt 50 rfl) (vX (P:=P) (w:=w) T) hr.m (T.bi 50 rfl) ⟨_,rfl,p,v,hs,ls,dx,oh,ol,d,ad,rfl,W,hv1,_,rfl,?_⟩;cases h2:inH hs v with
  |false=>exact zF rfl (by rw[h1,h2] at k;exact k)
  |true =>
  refine iteT ?_;obtain⟨x,rfl,hx⟩:∃ x,u=.int x/\x∈hs:=by cases u<;>first | exact⟨_,rfl,of_decide_eq_true h1⟩ | cases h1
  obtain⟨y,rfl,hy⟩:∃ y,v=.int y/\y∈hs:=by cases v<;>first | exact⟨_,rfl,of_decide_eq_true h2⟩ | cases h2
  rw[h1,h2] at k;refine⟨_,rfl,_,rfl,p,_,dx,_,_,rfl,W.p,(T.cl 1 rfl),(T.na 1 2 rfl rfl),rfl,_,rfl,d,V.ref (ad x),rfl,u6 W.nr.d hx,ad x,_,rfl,.inl (sO (W.nr.nb x hx)),rfl,yE _,?_⟩;have e:inV (.int y) ((nbs ls x).map V.int)=adB ls x y:=by rw[yR,X1]
  rw[e];exact k
structure Brs (hs:LI) (bs:LP):Prop where
 nd:bs.Nodup
 ok:∀ p∈bs,p.1∈hs/\p.2∈hs/\p.1<p.2
theorem xb{H:Hp}{n:Nat}{v:V}{x:Sh (n+1)}(h:IsSh H (n+1) v x)(nr:∀ a,v≠.ref a):x=ShF.fl v:=by
 cases x with
 |fl u=>rw[h.1]
 |lst xs=>obtain⟨a,_,e,_⟩:=h;exact absurd e (nr a)
 |tup xs=>obtain⟨a,_,e,_⟩:=h;exact absurd e (nr a)
 |dk xs=>obtain⟨a,_,e,_⟩:=h;exact absurd e (nr a)
 |rw ks xs=>obtain⟨a,_,_,e,_⟩:=h;exact absurd e (nr a)
def uT(hs:LI)(ls:LP)(k:V)(x:Sh 3):Prop:=∃ i∈hs,k=.int i/\(x=ShF.fl .non\/∃ y∈hs,x=ShF.fl (.int y)/\adB ls i y=true)
theorem XA{hs:LI}{ls:LP}{k:V}{x:Sh 3}(h:uT hs ls k x):inH hs k=true:=by
 obtain⟨i,hi,rfl,_⟩:=h;exact decide_eq_true hi
theorem Xz{H:Hp}{hs:LI}{ls:LP}{k v:V}{x:Sh 3}(hx:IsSh H 3 v x)(h:uT hs ls k x)(n:v≠.non):hlB hs ls k v=true:=by
 obtain⟨i,hi,rfl,h | ⟨y,hy,h,ad⟩⟩:=h
 ·rw[h] at hx;exact absurd hx.1 n
 ·rw[h] at hx
  rw[show v=.int y from hx.1];show(decide (i∈hs)&&decide (y∈hs)&&adB ls i y)=true;rw[decide_eq_true hi,decide_eq_true hy];exact ad
theorem xT{hs:LI}{v:V}(h:inH hs v=true):∃ x∈hs,v=.int x:=by cases v<;>first | exact⟨_,of_decide_eq_true h,rfl⟩ | cases h
theorem Xp{H:Hp}{hs:LI}{ls:LP}{k v:V}{x:Sh 3}(hx:IsSh H 3 v x)(h:hlB hs ls k v=true):uT hs ls k x:=by
 unfold hlB at h;rw[and_eq_true,and_eq_true] at h;obtain⟨i,hi,rfl⟩:=xT h.1.1;obtain⟨y,hy,rfl⟩:=xT h.1.2;exact⟨i,hi,rfl,.inr ⟨y,hy,xb hx fun _ z=>(nomatch z),h.2⟩⟩
def WJ:Sh 4->List (V×Sh 3)
 |.dk kvs=>kvs.map fun p=>(kV p.1,p.2)
 |.rw ks xs=>ks.zip xs
 |_=>[]
def OkP(hs:LI)(ls:LP)(s:Sh 4):Prop:=(WJ s).length=hs.length/\∀ p∈WJ s,uT hs ls p.1 p.2
def isD:Sh 4->Prop
 |.dk _=>True
 |.rw _ _=>True
 |_=>False
def zak(a:Ad):Sp:=fun vs H Q _=>∃ (p:Addr) (v:V) (Hw:Hp) (s:Sh 4) (hs:LI) (ls:LP),vs=[.ref p,v]/\WbP a Hw p hs ls/\Same Hw H/\(∀ a,v=.ref a->Hw a=none)/\IsSh H 4 v s/\isD s/\∀ (b:Bool) (H':Hp),(b=true↔OkP hs ls s)->Same H H'->Q (.bl b) H'
theorem zaV(T:Txt w K mg a):FnOk P w K mg base CX0 4 161 (dK K 161) ["web", "parents"] (zak a):=by
 refine(T.fn 2 rfl).ok (scp 2 rfl) (fun vs H Q E h=>?_) (fun cdv A outer s H vs Q E hr h=>?_)
 ·obtain⟨p,v,Hw,x,hs,ls,rfl,_⟩:=h
  rfl
 ·obtain⟨p,v,Hw,x,hs,ls,rfl,WP,sw,fv,hv,hD,k⟩:=h
  obtain⟨wdx,oh,ol,d0,ad,W0⟩:=WP.at_;have W:=W0.same sw;have no:∀ {H'},Same H H'->¬OkP hs ls x->Q (.bl false) H':=fun s h=>k false _ ⟨(fun z=>nomatch z),fun z=>absurd z h⟩ s;refine zT (zd (zq (wf (yh (zE (zA (zl zG (by rfl) (T.n 5 rfl) zp (zb (w_pv 1) (zb (ya (T.n 7 rfl) vc) w_pa_nil))))) (zZ (zh wO (zl (XT vb uN) (by rfl) (T.n 0 rfl) yg (zb (w_pv 1) w_pa_nil)) (zl zw (by rfl) (T.n 0 rfl) yg (zM (yk (w_pv 0)) w_pa_nil)) (zu _)))))
    (w_pss_one (zg zy))
    zi)
   (zd (wG (zL PassesOwn.never rfl (wz (xF (w_pv 1)) (wH (w_pv 1))) (yf rfl (zr (zm (i:=2) (scp 2 rfl).nd rfl (Or.inl rfl)) (zr (zm (i:=3) (scp 2 rfl).nd rfl (Or.inl rfl)) zO)))
    (zd (zq (zE (zA (zC (w_pv 0) (zb (w_pv 2) w_pa_nil))))
     (w_pss_one (zg zy))
     zi)
    (w_pss_one (zq (wf (yJ (zh wa (w_pv 3) zW (zu _)) (yt (zE (zA (zC (w_pv 0) (zb (w_pv 2) (zb (w_pv 3) w_pa_nil))))))))
     (w_pss_one (zg zy))
     zi)))))
   (w_pss_one (zg zy)))) ?_
  cases x with
  |fl u=>exact hD.elim
  |lst xs=>exact hD.elim
  |tup xs=>exact hD.elim
  |dk kvs =>
   obtain⟨d,vs,rfl,hd,hp,nd,hl⟩:=hv;have lk:=Paired.length hp;have fd:=fv d rfl;refine⟨_,rfl,_,_,_,_,_,rfl,rfl,.dK hd,(T.k 7 rfl),_,rfl,zF rfl ?_⟩;refine⟨_,rfl,.inl ⟨d,_,rfl,hd,?_⟩⟩;refine mtV rfl W.p rfl (T.cl 1 rfl) (T.mt 48 rfl) (wR (P:=P) (w:=w) T) hr.m (T.bi 48 rfl) (ag0 (xV W (fun l hl=>?_)));have s1:=sW (o:=HO.lst (hs.map V.int)) hl;have hl1:=za (H:=H) (a:=l) (o:=HO.lst (hs.map V.int));generalize upd H l (HO.lst (hs.map V.int))=H1 at *;refine⟨l,_,rfl,.inl (sO hl1),rfl,_,rfl,?_⟩;have eit:(WJ (.dk kvs)).length=vs.length:=by show(kvs.map _).length=_;rw[length_map,lk]
   by_cases c:vs.length=hs.length
   case neg=>exact iteB (by rw[length_map];simp;omega) (no s1 fun h=>c (eit.symm.trans h.1))
   refine zF (by rw[length_map,c];simp) ?_;have hd1':=s1 _ _ hd;refine .inl ⟨_,rfl,d,_,rfl,hd1',fun od S=>?_⟩;have hz1:=za (H:=H1) (a:=d) (o:=HO.frz od (HO.dK vs));have x1:Ext d H1 (upd H1 d (HO.frz od (HO.dK vs))):=Ext.at;have sw1:Same Hw (upd H1 d (HO.frz od (HO.dK vs))):=fun b o e=>x1 _ _ (s1 _ _ (sw _ _ e)) fun z=>by rw[z,fd] at e;cases e
   have sh1:Same (hd1 d H) (upd H1 d (HO.frz od (HO.dK vs))):=fun b o e=>x1 _ _ (s1 _ _ (yr e).2) (yr e).1;generalize upd H1 d (HO.frz od (HO.dK vs))=G1 at *;have back:∀ {G:Hp},Same G1 G->Same H (upd G d (HO.dK vs)):=fun {G} sm b o e=>by
    by_cases z:b=d
    ·rw[z,hd] at e;cases e;rw[z];exact za
    ·rw[upd_ne z];exact sm _ _ (x1 _ _ (s1 _ _ e) z)
   refine ZU (yl:=yI) (d:=d) (od:=od) (kvs:=vs) (fun i σ H'=>∃ (o2 o3:Option V),σ=[some (.ref p),some (.ref d),o2,o3]/\Same G1 H'/\∀ q∈kvs.take i,uT hs ls (kV q.1) q.2) ?_ ?_ ?_ ?_
   ·exact⟨none,none,rfl,fun _ _ h=>h,fun x hx=>by simp at hx⟩
   ·rintro i σ H' ⟨o2,o3,_,sm,_⟩
    exact sm _ _ hz1
   ·rintro i kv u σ G G' hkv ⟨o2,o3,rfl,sm,gd⟩ ⟨p0,hp0,rfl,rfl⟩
    obtain⟨q,hq,e1,hsh⟩:=yb hp hkv;have hqi:(kV q.1,q.2)∈WJ (.dk kvs):=mem_map.mpr ⟨q,mem_of_getElem? hq,rfl⟩;have gd2:uT hs ls (kV q.1) q.2->∀ q∈kvs.take (i+1),uT hs ls (kV q.1) q.2:=fun h u hu=>by
     rw[take_add_one,hq] at hu;rcases mem_append.mp hu with e | e
     ·exact gd u e
     ·rw[mem_singleton.mp e];exact h
    have n1:=sW (o:=HO.tup [kV kv.1,kv.2]) hp0;refine⟨p0,_,rfl,sP za,rfl,_,_,rfl,_,_,rfl,rfl,?_⟩;have sm2:=sm.trans n1;generalize upd G p0 (HO.tup [kV kv.1,kv.2])=G2 at *;have W2:=W0.same (sw1.trans sm2);have hx2:IsSh G2 3 kv.2 q.2:=hsh.same (sh1.trans sm2);have bad:¬uT hs ls (kV q.1) q.2->Th H (fun H=>Q (.bl false) H) G2:=fun h=>.inr ⟨d,od,_,S,sm2 _ _ hz1,no (back sm2) fun z=>h (z.2 _ hqi)⟩;rw[<- e1] at gd2 bad;have hw1:WhK K G2 (kV kv.1):=by
     cases kv.1 with
     |inl i=>exact .inl ⟨i,rfl⟩
     |inr x=>exact .inr (.inr ⟨rfl,_,.str x,(T.k 15 rfl)⟩)
    refine mtV rfl W2.p rfl (T.cl 1 rfl) (T.mt 50 rfl) (vX (P:=P) (w:=w) T) hr.m (T.bi 50 rfl) ⟨_,rfl,p,_,hs,ls,wdx,oh,ol,d0,ad,rfl,W2,hw1,_,rfl,?_⟩;cases h1:inH hs (kV kv.1) with
    |false=>exact iteT (bad fun z=>by rw[XA z] at h1;cases h1)
    |true =>
    refine zF rfl ?_;obtain⟨i',hi,ei⟩:=xT h1;by_cases hn:kv.2=.non
    ·refine⟨_,rfl,rfl,_,rfl,zF (by rw[decide_eq_true hn];rfl) ⟨_,_,rfl,sm2,gd2 ⟨i',hi,ei,.inl ?_⟩⟩⟩
     rw[hn] at hx2;exact xb hx2 fun _ z=>nomatch z
    refine⟨_,rfl,rfl,_,rfl,iteB (by rw[decide_eq_false hn];rfl) ?_⟩;refine mtV rfl W2.p rfl (T.cl 1 rfl) (T.mt 51 rfl) (Xd (P:=P) (w:=w) T) hr.m (T.bi 51 rfl) ⟨_,rfl,_,rfl,p,_,_,hs,ls,wdx,oh,ol,d0,ad,rfl,W2,hw1,u9 T hx2,_,rfl,?_⟩;cases h2:hlB hs ls (kV kv.1) kv.2 with
    |true=>exact zF rfl ⟨_,_,rfl,sm2,gd2 (Xp hx2 h2)⟩
    |false=>exact iteT (bad fun z=>by rw[Xz hx2 z hn] at h2;cases h2)
   ·rintro σ H' ⟨o2,o3,rfl,sm,gd⟩
    rw[lk,take_length] at gd;refine .inr ⟨d,od,_,S,sm _ _ hz1,k true _ ⟨fun _=>⟨eit.trans c,fun q hq=>?_⟩,fun _=>rfl⟩ (back sm)⟩;obtain⟨q',h1,rfl⟩:=mem_map.mp hq;exact gd q' h1
  |rw ks xs =>
   obtain⟨d,od,vs,rfl,hm0,hd,odp,lkv,hp,hks,hl⟩:=hv;have lk:=Paired.length hp;have lz:(ks.zip vs).length=ks.length:=by rw[length_zip];omega
   refine⟨_,rfl,_,_,_,_,_,rfl,rfl,.odd hd odp.d.1,(T.k 7 rfl),_,rfl,zF rfl ?_⟩;refine⟨_,rfl,.inr ⟨d,od,_,rfl,hm0,hd,odp.d,by rw[length_map,lz];omega,?_⟩⟩;refine mtV rfl W.p rfl (T.cl 1 rfl) (T.mt 48 rfl) (wR (P:=P) (w:=w) T) hr.m (T.bi 48 rfl) (ag0 (xV W (fun l hl=>?_)));have s1:=sW (o:=HO.lst (hs.map V.int)) hl;have hl1:=za (H:=H) (a:=l) (o:=HO.lst (hs.map V.int));generalize upd H l (HO.lst (hs.map V.int))=H1 at *;refine⟨l,_,rfl,.inl (sO hl1),rfl,_,rfl,?_⟩;have eit:(WJ (.rw ks xs)).length=ks.length:=by show(ks.zip xs).length=_;rw[length_zip];omega
   by_cases c:ks.length=hs.length
   case neg=>exact iteB (by rw[length_map,length_map,lz];simp;omega) (no s1 fun h=>c (eit.symm.trans h.1))
   refine zF (by rw[length_map,length_map,lz,c];simp) ?_;refine .inr ⟨_,rfl,d,od,_,rfl,hm0,s1 _ _ hd,odp,?_⟩;refine Yn (d:=d) (od:=od) (kvs:=ks.zip vs) (fun i σ H'=>∃ (o2 o3:Option V),σ=[some (.ref p),some (.ref d),o2,o3]/\Same H1 H'/\∀ q∈(ks.zip xs).take i,uT hs ls q.1 q.2) ?_ ?_ ?_ ?_
   ·exact⟨none,none,rfl,fun _ _ h=>h,fun x hx=>by simp at hx⟩
   ·rintro i σ H' ⟨o2,o3,_,sm,_⟩
    exact sm _ _ (s1 _ _ hd)
   ·rintro i kv p0 σ G hkv hp0 ⟨o2,o3,rfl,sm,gd⟩
    obtain⟨hk1,hv1⟩:=List.getElem?_zip_eq_some.mp hkv;obtain⟨x,hx,hsh⟩:=yb hp hv1;have hq:(ks.zip xs)[i]?=some (kv.1,x):=List.getElem?_zip_eq_some.mpr ⟨hk1,hx⟩;have hqi:(kv.1,x)∈WJ (.rw ks xs):=mem_of_getElem? hq;have gd2:uT hs ls kv.1 x->∀ q∈(ks.zip xs).take (i+1),uT hs ls q.1 q.2:=fun h u hu=>by
     rw[take_add_one,hq] at hu;rcases mem_append.mp hu with e | e
     ·exact gd u e
     ·rw[mem_singleton.mp e];exact h
    have n1:=sW (o:=HO.tup [kv.1,kv.2]) hp0;refine⟨p0,_,rfl,sP za,rfl,_,_,rfl,_,_,rfl,rfl,?_⟩;have sm2:=sm.trans n1;generalize upd G p0 (HO.tup [kv.1,kv.2])=G2 at *;have s02:=s1.trans sm2;have W2:=W.same s02;have hx2:IsSh G2 3 kv.2 x:=hsh.same s02;have bad:¬uT hs ls kv.1 x->Th H (fun H=>Q (.bl false) H) G2:=fun h=>.inl (no s02 fun z=>h (z.2 _ hqi));have hw1:WhK K G2 kv.1:=(za4 T (hks i _ hk1).2).same s02;refine mtV rfl W2.p rfl (T.cl 1 rfl) (T.mt 50 rfl) (vX (P:=P) (w:=w) T) hr.m (T.bi 50 rfl) ⟨_,rfl,p,_,hs,ls,wdx,oh,ol,d0,ad,rfl,W2,hw1,_,rfl,?_⟩;cases h1:inH hs kv.1 with
    |false=>exact iteT (bad fun z=>by rw[XA z] at h1;cases h1)
    |true =>
    refine zF rfl ?_;obtain⟨i',hi,ei⟩:=xT h1;by_cases hn:kv.2=.non
    ·refine⟨_,rfl,rfl,_,rfl,zF (by rw[decide_eq_true hn];rfl) ⟨_,_,rfl,sm2,gd2 ⟨i',hi,ei,.inl ?_⟩⟩⟩
     rw[hn] at hx2;exact xb hx2 fun _ z=>nomatch z
    refine⟨_,rfl,rfl,_,rfl,iteB (by rw[decide_eq_false hn];rfl) ?_⟩;refine mtV rfl W2.p rfl (T.cl 1 rfl) (T.mt 51 rfl) (Xd (P:=P) (w:=w) T) hr.m (T.bi 51 rfl) ⟨_,rfl,_,rfl,p,_,_,hs,ls,wdx,oh,ol,d0,ad,rfl,W2,hw1,u9 T hx2,_,rfl,?_⟩;cases h2:hlB hs ls kv.1 kv.2 with
    |true=>exact zF rfl ⟨_,_,rfl,sm2,gd2 (Xp hx2 h2)⟩
    |false=>exact iteT (bad fun z=>by rw[Xz hx2 z hn] at h2;cases h2)
   ·rintro σ H' ⟨o2,o3,rfl,sm,gd⟩
    rw[lz,take_of_length_le (by rw[length_zip];omega)] at gd;exact .inl (k true _ ⟨fun _=>⟨eit.trans c,gd⟩,fun _=>rfl⟩ (s1.trans sm))
open L2.Sco (PT PsAt)
def zcV(a:Ad):Sp:=fun vs H Q _=>∃ (p q dx dp ob:Addr) (hs us:LI) (ls:LP) (pf:Int->Option Int),vs=[.ref p,.ref q]/\WbP a H p hs ls/\WayP a H q pf us dx dp ob/\(∀ x,x∈us↔x∈hs)/\Cl us pf/\∀ (b:Bool) (H':Hp),(b=true↔∀ x∈us,∃ l,En pf x l)->Same H H'->Q (.bl b) H'
theorem zcl(T:Txt w K mg a):FnOk P w K mg base CX0 7 168 (dK K 168) ["web", "way"] (zcV a):=by
 refine(T.fn 3 rfl).ok (scp 3 rfl) (fun vs H Q E h=>?_) (fun cdv A outer s H vs Q E hr h=>?_)
 ·obtain⟨p,q,dx,dp,ob,hs,us,ls,pf,rfl,_⟩:=h
  rfl
 ·obtain⟨p,q,dx,dp,ob,hs,us,ls,pf,rfl,WP,Y,hm,C,k⟩:=h
  obtain⟨wdx,oh,ol,d0,ad,W⟩:=WP.at_;refine zT (zd (zL PassesOwn.never rfl (zB (yk (w_pv 0))) (zm (i:=2) (scp 3 rfl).nd rfl (Or.inl rfl))
    (w_pss_one (zq (zh wa (zC (w_pv 1) (zM (zC (w_pv 1) (zb (w_pv 2) w_pa_nil)) w_pa_nil)) zW (zu _))
     (w_pss_one (zg zy))
     zi)))
   (w_pss_one (zg zy))) ?_
  refine mtV rfl W.p rfl (T.cl 1 rfl) (T.mt 48 rfl) (wR (P:=P) (w:=w) T) hr.m (T.bi 48 rfl) (ag0 (xV W (fun l hl=>?_)));have s1:=sW (o:=HO.lst (hs.map V.int)) hl;have hl1:=za (H:=H) (a:=l) (o:=HO.lst (hs.map V.int));generalize upd H l (HO.lst (hs.map V.int))=H1 at *;refine⟨l,rfl,⟨_,sO hl1⟩,?_⟩;refine for_list (xs:=hs.map V.int) (fun i σ H'=>∃ (o2:Option V),σ=[some (.ref p),some (.ref q),o2]/\Same H1 H'/\∀ x∈hs.take i,∃ l,En pf x l) ?_ ?_ ?_ ?_
  ·exact⟨none,rfl,fun _ _ h=>h,fun x hx=>by simp at hx⟩
  ·rintro i σ H' hi ⟨o2,_,sm,_⟩
   exact sO (sm _ _ hl1)
  ·rintro i v σ G hi ⟨o2,rfl,sm,gd⟩
   rw[List.getElem?_map] at hi;obtain⟨x,hx,rfl⟩:=map_eq_some_iff.mp hi;have hxu:=(hm x).mpr (mem_of_getElem? hx);have etk:hs.take (i+1)=hs.take i++[x]:=by rw[take_add_one,hx];rfl
   have Y1:=(Y.same s1).same sm;refine mtV rfl Y1.p rfl (T.cl 0 rfl) (T.mt 42 rfl) (zb9 (P:=P) (w:=w) T) hr.m (T.bi 42 rfl) (mtV rfl Y1.p rfl (T.cl 0 rfl) (T.mt 46 rfl) (Vy (P:=P) (w:=w) T) hr.m (T.bi 46 rfl) ⟨_,rfl,q,dx,dp,ob,pf,us,x,rfl,Y1.r,C,hxu,fun ys z G2 s2 hz hor=>?_⟩);refine⟨q,dx,dp,ob,pf,us,.int z,true,rfl,Y1.same s2,.int _,fun G3 s3=>?_⟩;have e:poV us pf (.int z)=opV (pf z):=if_pos hz;rw[e];rcases hor with⟨h1,h2⟩ | ⟨h1,h2⟩
   ·rw[h1]
    refine⟨rfl,_,rfl,zF rfl ⟨_,rfl,sm.trans (s2.trans s3),fun u hu=>?_⟩⟩;rw[etk] at hu;rcases mem_append.mp hu with e | e
    ·exact gd u e
    ·rw[mem_singleton.mp e];exact⟨_,h2⟩
   ·cases hpz:pf z with
    |none=>exact absurd hpz h1
    |some y =>
     refine⟨rfl,_,rfl,iteT ?_⟩;exact k false _ ⟨fun z=>(nomatch z),fun h=>absurd (h x hxu) h2⟩ (s1.trans (sm.trans (s2.trans s3)))
  ·rintro σ G ⟨o2,rfl,sm,gd⟩
   rw[length_map,take_length] at gd;exact k true _ ⟨fun _ x hx=>gd x ((hm x).mp hx),fun _=>rfl⟩ (s1.trans sm)
theorem xY{n:Nat}{q r:Int×Int}(h:(prS q:Sh (n+2))=prS r):q=r:=by
 unfold prS at h;injection h with h;injection h with h1 h2;injection h2 with h2 _;injection h1 with h1;injection h2 with h2;injection h1 with h1;injection h2 with h2;exact Prod.ext h1 h2
theorem vU{n:Nat}:∀ {as bs:LP},as.map (prS (n:=n))=bs.map prS->as=bs
 |[],[],_=>rfl
 |[],_::_,h=>by cases h
 |_::_,[],h=>by cases h
 |a::as,b::bs,h=>by
  rw[map_cons,map_cons] at h;injection h with h1 h2;rw[xY h1,vU h2]
def zah(a:Ad):Sp:=fun vs H Q _=>∃ (p q dx dp ob:Addr) (v:V) (x:Sh 3) (hs us:LI) (ls:LP) (pf:Int->Option Int) (pa:Int->LI),vs=[.ref p,.ref q,v]/\WbP a H p hs ls/\WayP a H q pf us dx dp ob/\(∀ x,x∈us↔x∈hs)/\UpP us pf pa/\IsSh H 3 v x/\∀ (b:Bool) (H':Hp),(b=true↔∃ q:Int×Int,x=prS q/\adB ls q.1 q.2=true/\q.1<=q.2/\ldr pa q.1≠ldr pa q.2)->Same H H'->Q (.bl b) H'
theorem zaQ(T:Txt w K mg a):FnOk P w K mg base CX0 4 175 (dK K 175) ["web", "way", "bridge"] (zah a):=by
 refine(T.fn 4 rfl).ok (scp 4 rfl) (fun vs H Q E h=>?_) (fun cdv A outer s H vs Q E hr h=>?_)
 ·obtain⟨p,q,dx,dp,ob,v,x,hs,us,ls,pf,pa,rfl,_⟩:=h
  rfl
 ·obtain⟨p,q,dx,dp,ob,v,sh,hs,us,ls,pf,pa,rfl,WP,Y,hm,U,hv,k⟩:=h
  obtain⟨wdx,oh,ol,d0,ad,W⟩:=WP.at_;have no:∀ {H'},Same H H'->(∀ q:Int×Int,sh=prS q->¬(adB ls q.1 q.2=true/\q.1<=q.2/\ldr pa q.1≠ldr pa q.2))->Q (.bl false) H':=fun s h=>k false _ ⟨(fun z=>nomatch z),fun⟨q,e,z⟩=>absurd z (h q e)⟩ s;refine zT (zd (zq (wf (yh (zE (zA (zl zG (by rfl) (T.n 5 rfl) zp (zb (w_pv 2) (zb (ya (T.n 11 rfl) yV) w_pa_nil))))) (zZ (zh wO (zl zw (by rfl) (T.n 0 rfl) yg (zb (w_pv 2) w_pa_nil)) ze (zu _)))))
    (w_pss_one (zg zy))
    zi)
   (zd (zq (wf (yh (zE (zA (zC (w_pv 0) (w_pa_cons (zx zX (w_pv 2) ze (fun _ _=>rfl)) (w_pa_cons (zx zX (w_pv 2) ze (fun _ _=>rfl)) w_pa_nil))))) (zZ (zh Zj (zx zX (w_pv 2) ze (fun _ _=>rfl)) (zx zX (w_pv 2) ze (fun _ _=>rfl)) (zu _)))))
    (w_pss_one (zg zy))
    zi)
   (w_pss_one (zg (zP wO (zC (w_pv 1) (w_pa_cons (zx zX (w_pv 2) ze (fun _ _=>rfl)) w_pa_nil)) (zC (w_pv 1) (w_pa_cons (zx zX (w_pv 2) ze (fun _ _=>rfl)) w_pa_nil)) (zu _)))))) ?_
  have nt:∀ {t:Value},TyOf K H v t->PySem.W.kitOne K t (.type "tuple")=some false->(∀ q:Int×Int,sh≠prS q)->TyOf K H v t/\PySem.W.kitOne K t (.type "tuple")=some false/\Q (.bl false) H:=fun h1 h2 h3=>⟨h1,h2,no (sR _) fun q e=>absurd e (h3 q)⟩;by_cases ht:∃ ys,sh=ShF.tup ys
  case neg =>
   obtain⟨t,h1,h2,h3⟩:∃ t,TyOf K H v t/\PySem.W.kitOne K t (.type "tuple")=some false/\Q (.bl false) H:=by
    cases sh with
    |fl u =>
     obtain⟨rfl,hf⟩:=hv;cases hf with
     |int i=>exact⟨_,nt (.int i) (T.k 9 rfl) fun q z=>nomatch z⟩
     |non=>exact⟨_,nt .non (T.k 12 rfl) fun q z=>nomatch z⟩
     |bl b=>exact⟨_,nt (.bl b) (T.k 35 rfl) fun q z=>nomatch z⟩
     |str x=>exact⟨_,nt (.str x) (T.k 22 rfl) fun q z=>nomatch z⟩
    |lst xs=>obtain⟨b,rs,rfl,e,_⟩:=hv;exact⟨_,nt (.lst e) (T.k 29 rfl) fun q z=>nomatch z⟩
    |tup xs=>exact absurd ⟨xs,rfl⟩ ht
    |dk xs=>obtain⟨b,rs,rfl,e,_⟩:=hv;exact⟨_,nt (.dK e) (T.k 6 rfl) fun q z=>nomatch z⟩
    |rw ks xs=>obtain⟨b,od,rs,rfl,_,e,o,_⟩:=hv;exact⟨_,nt (.odd e o.d.1) (T.k 6 rfl) fun q z=>nomatch z⟩
   exact⟨_,rfl,_,_,_,_,_,rfl,rfl,h1,h2,_,rfl,iteT h3⟩
  obtain⟨ys,rfl⟩:=ht;obtain⟨t,rs,rfl,ht,hp,_⟩:=hv;refine⟨_,rfl,_,_,_,_,_,rfl,rfl,.tup ht,(T.k 3 rfl),_,rfl,zF rfl ?_⟩;by_cases l2:rs.length=2
  case neg =>
   refine⟨_,rfl,t,_,rfl,.inr (sP ht),rfl,_,rfl,iteB (by simp;omega) (no (sR _) fun q e=>?_)⟩;injection e with e;rw[e] at hp;exact absurd (Paired.length hp) l2
  obtain⟨u0,u1,rfl⟩:∃ u0 u1,rs=[u0,u1]:=by
   match rs,l2 with
   |[u0,u1],_=>exact⟨u0,u1,rfl⟩
  cases hp with | @cons _ y0 _ _ h0 hp =>
  cases hp with | @cons _ y1 _ _ h1 hp =>
  cases hp;refine⟨_,rfl,t,_,rfl,.inr (sP ht),rfl,_,rfl,zF rfl ?_⟩;refine mtV rfl W.p rfl (T.cl 1 rfl) (T.mt 51 rfl) (Xd (P:=P) (w:=w) T) hr.m (T.bi 51 rfl) ⟨_,rfl,t,_,0,_,rfl,rfl,sP ht,rfl,_,rfl,t,_,1,_,rfl,rfl,sP ht,rfl,p,u0,u1,hs,ls,wdx,oh,ol,d0,ad,rfl,W,u9 T h0,u9 T h1,_,rfl,?_⟩;have fl01:∀ q:Int×Int,(ShF.tup [y0,y1]:Sh 3)=prS q->u0=.int q.1/\u1=.int q.2:=fun q e=>by
   injection e with e;injection e with e1 e2;injection e2 with e2 _;rw[e1] at h0;rw[e2] at h1;exact⟨h0.1,h1.1⟩
  cases hadj:hlB hs ls u0 u1 with
  |false =>
   refine iteB rfl (no (sR _) fun q e ⟨z,_⟩=>?_);obtain⟨e0,e1⟩:=fl01 q e;have hh:q.1∈hs/\q.2∈hs:=⟨uS WP.wl (by rw[W7];exact z),uS WP.wl z⟩;rw[e0,e1,show hlB hs ls (.int q.1) (.int q.2)=(decide (q.1∈hs)&&decide (q.2∈hs)&&adB ls q.1 q.2) from rfl,decide_eq_true hh.1,decide_eq_true hh.2,z] at hadj;cases hadj
  |true =>
  unfold hlB at hadj;rw[and_eq_true,and_eq_true] at hadj;obtain⟨x,hxh,rfl⟩:=xT hadj.1.1;obtain⟨y,hyh,rfl⟩:=xT hadj.1.2;have hadj:adB ls x y=true:=hadj.2;have hx:=(hm x).mpr hxh;have hy:=(hm y).mpr hyh;have esh:(ShF.tup [y0,y1]:Sh 3)=prS (x,y):=by rw[xb h0 fun _ z=>(nomatch z),xb h1 fun _ z=>(nomatch z)];rfl
  refine zF rfl ?_;by_cases c:x>y
  ·refine⟨_,rfl,t,_,0,_,rfl,rfl,sP ht,rfl,_,rfl,t,_,1,_,rfl,rfl,sP ht,rfl,_,_,rfl,rfl,_,rfl,iteB (by simp;omega) (no (sR _) fun q e ⟨_,z,_⟩=>?_)⟩
   have:=xY (esh.symm.trans e);rw[<- this] at z;exact absurd z (by show ¬x<=y;omega)
  refine⟨_,rfl,t,_,0,_,rfl,rfl,sP ht,rfl,_,rfl,t,_,1,_,rfl,rfl,sP ht,rfl,_,_,rfl,rfl,_,rfl,zF (by simp;omega) ?_⟩;refine mtV rfl Y.p rfl (T.cl 0 rfl) (T.mt 46 rfl) (vg (P:=P) (w:=w) T) hr.m (T.bi 46 rfl) ⟨_,rfl,t,_,0,_,rfl,rfl,sP ht,rfl,q,dx,dp,ob,pf,pa,us,x,rfl,Y.r,U,hx,fun G2 s2=>?_⟩;refine mtV rfl (s2 _ _ Y.p) rfl (T.cl 0 rfl) (T.mt 46 rfl) (vg (P:=P) (w:=w) T) hr.m (T.bi 46 rfl) ⟨_,rfl,t,_,1,_,rfl,rfl,sP (s2 _ _ ht),rfl,q,dx,dp,ob,pf,pa,us,y,rfl,(Y.same s2).r,U,hy,fun G3 s3=>?_⟩;refine⟨rfl,?_⟩;refine k _ _ ?_ (s2.trans s3);rw[esh]
  constructor
  ·intro z
   exact⟨(x,y),rfl,hadj,by show x<=y;omega,fun e=>by rw[show ldr pa x=ldr pa y from e] at z;simp at z⟩
  ·rintro⟨q,e,_,_,z⟩
   rw[<- xY e] at z;have e:decide (V.int (ldr pa x)=V.int (ldr pa y))=false:=decide_eq_false fun e=>z (by injection e);rw[e];rfl
def GdB(ls:LP)(lf:Int->Int)(bs:LP):Prop:=(∀ b∈bs,adB ls b.1 b.2=true/\b.1<=b.2/\lf b.1≠lf b.2)/\bs.Nodup
def zaj(a:Ad):Sp:=fun vs H Q _=>∃ (p q l dx dp ob:Addr) (hs us:LI) (ls:LP) (rs:List V) (xs:List (Sh 3)) (pf:Int->Option Int) (pa:Int->LI),vs=[.ref p,.ref q,.ref l]/\WbP a H p hs ls/\WayP a H q pf us dx dp ob/\(∀ x,x∈us↔x∈hs)/\UpP us pf pa/\H l=some (.lst rs)/\Paired (fun v x=>IsSh H 3 v x) rs xs/\rs.length<=200/\∀ (b:Bool) (H':Hp),(b=true↔∃ bs,xs=bs.map prS/\GdB ls (ldr pa) bs)->Same H H'->Q (.bl b) H'
theorem zaU(T:Txt w K mg a):FnOk P w K mg base CX0 5 182 (dK K 182) ["web", "way", "bridges"] (zaj a):=by
 have c_is_bridge:=cal P base T 4 rfl (zaQ T);refine(T.fn 5 rfl).ok (scp 5 rfl) (fun vs H Q E h=>?_) (fun cdv A outer s H vs Q E hr h=>?_)
 ·obtain⟨p,q,l,dx,dp,ob,hs,us,ls,rs,xs,pf,pa,rfl,_⟩:=h
  rfl
 ·obtain⟨p,q,l,dx,dp,ob,hs,us,ls,rs,xs,pf,pa,rfl,WP,Y,hm,U,hl,hrs,l66,k⟩:=h
  have hu:=yY hr;have no:∀ {H'},Same H H'->(∀ bs,xs=bs.map prS->¬GdB ls (ldr pa) bs)->Q (.bl false) H':=fun s h=>k false _ ⟨(fun z=>nomatch z),fun⟨bs,e,z⟩=>absurd z (h bs e)⟩ s;have lx:=Paired.length hrs;refine zT (zd (zq (zE (zA (zl zG (by rfl) (T.n 5 rfl) zp (zb (w_pv 2) (zb (ya (T.n 6 rfl) bt_list) w_pa_nil)))))
    (w_pss_one (zg zy))
    zi)
   (zd (zk (i:=3) (scp 5 rfl).nd rfl (Or.inl rfl) yN)
   (zd (zL PassesOwn.never rfl (zB (w_pv 2)) (zm (i:=4) (scp 5 rfl).nd rfl (Or.inl rfl))
    (zd (zq (wf (yh (zE (zA (zn c_is_bridge hr.m (zb (w_pv 0) (zb (w_pv 1) (zb (w_pv 4) w_pa_nil)))))) (zZ (ww (vJ hu (w_pv 4) (w_pv 3))))))
     (w_pss_one (zg zy))
     zi)
    (w_pss_one (w_ps_dput hu (w_pv 3) (w_pv 4) zy rfl))))
   (w_pss_one (zg zy))))) ?_
  refine⟨_,rfl,_,_,_,_,_,rfl,rfl,.lst hl,(T.k 2 rfl),_,rfl,zF rfl ?_⟩;refine fun d hd=>?_;refine⟨_,rfl,l,rfl,⟨_,sO (sW hd _ _ hl)⟩,?_⟩;refine for_list (K:=K) (a:=l) (xs:=rs) (fun i σ H'=>∃ (kvs:List (List Key×V)) (o:Option V) (cs:LP),σ=[some (.ref p),some (.ref q),some (.ref l),some (.ref d),o]/\H' d=some (.dT kvs)/\xs.take i=cs.map prS/\kvs.map (·.1)=cs.map yH/\Same H H'/\GdB ls (ldr pa) cs) ?_ ?_ ?_ ?_
  ·exact⟨[],none,[],rfl,za,rfl,rfl,sW hd,by simp[GdB]⟩
  ·rintro i σ H' _ ⟨kvs,o,cs,_,_,_,_,sm,_⟩
   exact sO (sm _ _ hl)
  ·rintro i v σ H' hi ⟨kvs,o,cs,rfl,hd',hcs,hk,sm,gd⟩
   obtain⟨x,hx,hv⟩:=yb hrs hi;have etk:xs.take (i+1)=cs.map prS++[x]:=by rw[take_add_one,hx,hcs];rfl
   have xbs:∀ bs:LP,xs=bs.map prS->∃ b,bs[i]?=some b/\x=prS b/\bs.take i=cs:=fun bs e=>by
    have h1:=hx;rw[e,List.getElem?_map] at h1;obtain⟨b,h2,h3⟩:=map_eq_some_iff.mp h1;refine⟨b,h2,h3.symm,vU (n:=1) ?_⟩;rw[<- hcs,e,map_take]
   refine⟨_,rfl,_,rfl,_,rfl,p,q,dx,dp,ob,v,x,hs,us,ls,pf,pa,rfl,WP.same sm,Y.same sm,hm,U,hv.same sm,fun bb H2 hbb s2=>⟨_,rfl,?_⟩⟩;cases hbc:bb with
   |false =>
    refine iteT (no (sm.trans s2) fun bs e h=>?_);obtain⟨b,h1,h2,_⟩:=xbs bs e;have:=hbb.mpr ⟨b,h2,h.1 b (mem_of_getElem? h1)⟩;rw[hbc] at this;cases this
   |true =>
   obtain⟨b,rfl,gb⟩:=hbb.mp hbc;obtain⟨t,rfl,ht⟩:=V3 (hv.same sm);refine zF rfl ?_;have hd2:=s2 _ _ hd';have ht2:=s2 _ _ ht;by_cases hin:b∈cs
   ·have hs':(yG kvs (yH b)).isSome=true:=by
     rw[<- yM];have h1:yH b∈kvs.map (·.1):=by rw[hk];exact List.mem_map_of_mem hin
     obtain⟨kv,h2,h3⟩:=mem_map.mp h1;exact any_eq_true.mpr ⟨kv,h2,decide_eq_true h3⟩
    refine⟨_,rfl,_,rfl,d,_,rfl,DGet.t (k:=yH b) hd2 ht2,_,rfl,iteB hs' (no (sm.trans s2) fun bs e h=>?_)⟩;obtain⟨b',h1,h2,h3⟩:=xbs bs e;rw[xY h2,<- h3] at hin;exact absurd hin (wS h.2 h1)
   have hnew:yH b∉kvs.map (·.1):=by
    rw[hk];intro z;obtain⟨p',m',e'⟩:=mem_map.mp z;rw[xj e'] at m';exact hin m'
   have hz:kvs.length<=1000:=by
    have h1:=congrArg List.length hk;have h2:=congrArg List.length hcs;rw[length_map,length_map] at h1;rw[length_map,length_take] at h2;omega
   refine⟨_,rfl,_,rfl,d,_,rfl,DGet.t (k:=yH b) hd2 ht2,_,rfl,zF ?_ ?_⟩
   ·exact wK hnew
   ·refine⟨_,rfl,_,rfl,d,_,rfl,DPut.t (k:=yH b) hd2 ht2 (zj hz),?_⟩
    refine⟨_,_,cs++[b],rfl,za,by rw[etk,map_append];rfl,?_,(sm.trans s2).updF hd,?_⟩
    ·rw[putK_new hnew,map_append,hk,map_append]
     rfl
    ·refine⟨fun c hc=>?_,?_⟩
     ·rcases mem_append.mp hc with e | e
      ·exact gd.1 c e
      ·rw[mem_singleton.mp e];exact gb
     ·rw[nodup_append]
      exact⟨gd.2,by simp,fun u hu v hv e=>hin (by rw[mem_singleton.mp hv] at e;rw[<- e];exact hu)⟩
  ·rintro σ H' ⟨kvs,o,cs,_,_,hcs,_,sm,gd⟩
   rw[lx,take_length] at hcs;exact k true H' ⟨fun _=>⟨cs,hcs,gd⟩,fun _=>rfl⟩ sm
structure GrB (us:LI) (ls:LP) (pf:Int->Option Int) (bs:LP):Prop where
 ad:∀ x∈us,∀ y,pf x=some y->adB ls x y=true
 en:∀ x∈us,∃ l,En pf x l
 gd:GdB ls (ldr (paO pf)) bs
structure GdW (hs:LI) (s1 s2:Sh 4) (us:LI) (pf:Int->Option Int) (bs:LP):Prop where
 e1:s1=tabS pf us
 e2:s2=lnS bs
 m:∀ x,x∈us↔x∈hs
 cl:Cl us pf
 cn:∀ x,x∉us->pf x=none
theorem wB{us us':LI}{pf pf':Int->Option Int}(h:(tabS pf us:Sh 4)=tabS pf' us')(cn:∀ x,x∉us->pf x=none)(cn':∀ x,x∉us'->pf' x=none):us=us'/\pf=pf':=by
 injection h with h;have hu:us=us':=by
  have:=congrArg (List.map (·.1)) h;rw[map_map,map_map] at this;exact List.map_inj_right (f:=(Sum.inl:Int->Key)) (fun _ _ e=>by injection e) |>.mp this
 subst hu;refine⟨rfl,funext fun x=>?_⟩;by_cases c:x∈us
 ·have:=List.map_inj_left.mp h x c
  injection this with _ this;injection this with this;cases h1:pf x with
  |none=>rw[h1] at this;cases h2:pf' x with
   |none=>rfl
   |some y=>rw[h2] at this;cases this
  |some z=>rw[h1] at this;cases h2:pf' x with
   |none=>rw[h2] at this;cases this
   |some y=>rw[h2] at this;injection this with this;rw[this]
 ·rw[cn x c,cn' x c]
theorem GdW.uniq{hs:LI}{s1 s2:Sh 4}{us us':LI}{pf pf':Int->Option Int}{bs bs':LP}(g:GdW hs s1 s2 us pf bs)(g':GdW hs s1 s2 us' pf' bs'):us=us'/\pf=pf'/\bs=bs':=by
 obtain⟨h1,h2⟩:=wB (g.e1.symm.trans g'.e1) g.cn g'.cn;have e:=g.e2.symm.trans g'.e2;injection e with e;exact⟨h1,h2,vU e⟩
structure OkW (s1 s2:Sh 4):Prop where
 d:isD s1
 od:∀ ks xs,s1=ShF.rw ks xs->∃ k∈ks,∀ i,k≠V.int i
 br:∃ xs,s2=ShF.lst xs
theorem zbb{hs us:LI}{ls:LP}{pf:Int->Option Int}(wl:Ls hs ls)(hn:hs.Nodup)(nd:us.Nodup)(m:∀ x,x∈us↔x∈hs)(ad:∀ x∈us,∀ y,pf x=some y->adB ls x y=true):OkP hs ls (tabS pf us):=by
 have e:WJ (tabS pf us)=us.map fun x=>(V.int x,(ShF.fl (opV (pf x)):Sh 3)):=by
  show(us.map _).map _=_;rw[map_map];rfl
 refine⟨?_,fun p hp=>?_⟩
 ·rw[e,length_map]
  exact Nat.le_antisymm (xy nd fun x hx=>(m x).mp hx) (xy hn fun x hx=>(m x).mpr hx)
 ·rw[e] at hp
  obtain⟨x,hx,rfl⟩:=mem_map.mp hp;refine⟨x,(m x).mp hx,rfl,?_⟩;cases h:pf x with
  |none=>exact .inl rfl
  |some y=>exact .inr ⟨y,uS wl (ad x hx y h),rfl,ad x hx y h⟩
theorem uF{α β:Type}{f:α->β}:∀ {xs:List α},(xs.map f).Nodup->∀ {u v},u∈xs->v∈xs->f u=f v->u=v:=by
 intro xs
 induction xs with
 |nil=>intro _ u v hu;cases hu
 |cons x xs ih =>
  intro hn u v hu hv e;rw[map_cons,nodup_cons] at hn;rcases mem_cons.mp hu with a1 | a1<;>rcases mem_cons.mp hv with a2 | a2
  ·rw[a1,a2]
  ·exact absurd (mem_map.mpr ⟨v,a2,by rw[<- e,a1]⟩) hn.1
  ·exact absurd (mem_map.mpr ⟨u,a1,by rw[e,a2]⟩) hn.1
  ·exact ih hn.2 a1 a2 e
def pfG(gs:List (Int×Option Int))(x:Int):Option Int:=(gs.find? fun g=>decide (g.1=x)).bind (·.2)
theorem Vo{gs:List (Int×Option Int)}(nd:(gs.map (·.1)).Nodup){g:Int×Option Int}(hg:g∈gs):pfG gs g.1=g.2:=by
 unfold pfG;obtain⟨g',h1⟩:∃ g',gs.find? (fun g'=>decide (g'.1=g.1))=some g':=isSome_iff_exists.mp (List.find?_isSome.mpr ⟨g,hg,decide_eq_true rfl⟩);have h2:decide (g'.1=g.1)=true:=List.find?_some (p:=fun g':Int×Option Int=>decide (g'.1=g.1)) h1;rw[h1,uF nd (mem_of_find?_eq_some h1) hg (of_decide_eq_true h2)];rfl
theorem Us{H:Hp}{v:V}{hs:LI}{ls:LP}{s1 s2:Sh 4}(W:OkW s1 s2)(hv:IsSh H 4 v s1)(hn:hs.Nodup)(h:OkP hs ls s1):∃ us pf,s1=tabS pf us/\(∀ x,x∈us↔x∈hs)/\Cl us pf/\(∀ x,x∉us->pf x=none)/\∀ x∈us,∀ y,pf x=some y->adB ls x y=true:=by
 cases s1 with
 |fl u=>exact W.d.elim
 |lst xs=>exact W.d.elim
 |tup xs=>exact W.d.elim
 |rw ks xs =>
  obtain⟨k,hk,ni⟩:=W.od ks xs rfl;obtain⟨d,od,vs,_,_,_,_,l1,hp,_⟩:=hv;obtain⟨i,hi⟩:=List.getElem?_of_mem hk;have lt:i<xs.length:=by
   have:=Paired.length hp;have:=(List.getElem?_eq_some_iff.mp hi).1;omega
  obtain⟨j,_,e,_⟩:=h.2 (k,xs[i]) (mem_of_getElem? (i:=i) (List.getElem?_zip_eq_some.mpr ⟨hi,List.getElem?_eq_getElem lt⟩));exact absurd e (ni j)
 |dk kvs =>
  obtain⟨d,vs,_,_,hp,nd,_⟩:=hv;rw[xg hp] at nd;have hit:∀ q∈kvs,uT hs ls (kV q.1) q.2:=fun q hq=>h.2 (kV q.1,q.2) (mem_map.mpr ⟨q,hq,rfl⟩);have hlen:kvs.length=hs.length:=by have:=h.1;rw[show WJ (ShF.dk kvs)=kvs.map fun p=>(kV p.1,p.2) from rfl,length_map] at this;exact this
  obtain⟨gs,eg⟩:∃ gs:List (Int×Option Int),kvs=gs.map fun g=>((Sum.inl g.1:Key),(ShF.fl (opV g.2):Sh 3)):=by
   clear hp nd hlen h W
   induction kvs with
   |nil=>exact⟨[],rfl⟩
   |cons q kvs ih =>
    obtain⟨gs,e⟩:=ih fun q hq=>hit q (mem_cons_of_mem _ hq);obtain⟨i,_,e1,e2⟩:=hit q mem_cons_self;have ek:q.1=.inl i:=by
     cases hq:q.1 with
     |inl j=>rw[hq] at e1;injection e1 with e1;rw[e1]
     |inr x=>rw[hq] at e1;cases e1
    rcases e2 with e2 | ⟨y,_,e2,_⟩
    ·exact⟨(i,none)::gs,by rw[map_cons,<- e];exact congrArg (· :: kvs) (Prod.ext ek e2)⟩
    ·exact⟨(i,some y)::gs,by rw[map_cons,<- e];exact congrArg (· :: kvs) (Prod.ext ek e2)⟩
  subst eg;have ndg:(gs.map (·.1)).Nodup:=by
   rw[map_map] at nd;exact pairwise_map.mpr ((pairwise_map.mp nd).imp fun h e=>h (congrArg Sum.inl e))
  have hin1:∀ x∈gs.map (·.1),x∈hs:=fun x hx=>by
   obtain⟨g,hg,rfl⟩:=mem_map.mp hx;obtain⟨i,hi,e,_⟩:=hit _ (mem_map.mpr ⟨g,hg,rfl⟩);injection e with e;rw[e];exact hi
  have hin:∀ x∈hs,x∈gs.map (·.1):=fun x hx=>by
   by_cases c:x∈gs.map (·.1)
   ·exact c
   ·have:=xy (as:=x::gs.map (·.1)) (bs:=hs) (nodup_cons.mpr ⟨c,ndg⟩) fun y hy=>by
     rcases mem_cons.mp hy with z | z
     ·rw[z];exact hx
     ·exact hin1 y z
    rw[length_cons,length_map] at this;rw[length_map] at hlen;omega
  refine⟨gs.map (·.1),pfG gs,?_,fun x=>⟨hin1 x,hin x⟩,fun x hx y hy=>?_,fun x hx=>?_,fun x hx y hy=>?_⟩
  case refine_3 =>
   unfold pfG;rw[List.find?_eq_none.mpr fun g hg=>?_]
   ·rfl
   ·exact fun z=>hx (mem_map.mpr ⟨g,hg,of_decide_eq_true z⟩)
  ·show ShF.dk _=ShF.dk _
   rw[map_map]
   congr 1
   refine map_congr_left fun g hg=>?_;show _=((Sum.inl g.1:Key),(ShF.fl (opV (pfG gs g.1)):Sh 3));rw[Vo ndg hg]
  all_goals
   obtain⟨g,hg,rfl⟩:=mem_map.mp hx;rw[Vo ndg hg] at hy;obtain⟨i,hi,e,h3⟩:=hit _ (mem_map.mpr ⟨g,hg,rfl⟩);injection e with e;rcases h3 with h3 | ⟨z,hz,h3,ad⟩
   ·injection h3 with h3;rw[hy] at h3;cases h3
   injection h3 with h3;rw[hy] at h3;injection h3 with h3
  ·rw[<- h3] at hz;exact hin _ hz
  ·rw[e,h3];exact ad
def V2(a:Ad):Sp:=fun vs H Q _=>∃ (p q dx:Addr) (s1 s2:Sh 4) (v1 v2:V) (hs:LI) (ls:LP),vs=[.ref p,.ref q]/\WbP a H p hs ls/\WyS a H q s1 s2 dx v1 v2/\OkW s1 s2/\∀ (b:Bool) (H':Hp),(b=true↔∃ us pf bs,GdW hs s1 s2 us pf bs/\GrB us ls pf bs)->Same H H'->Q (.bl b) H'
theorem VA(T:Txt w K mg a):FnOk P w K mg base CX0 8 189 (dK K 189) ["web", "way"] (V2 a):=by
 have c_are_parents:=cal P base T 2 rfl (zaV T);have c_come_to_leaders:=cal P base T 3 rfl (zcl T);have c_are_bridges:=cal P base T 5 rfl (zaU T);refine(T.fn 6 rfl).ok (scp 6 rfl) (fun vs H Q E h=>?_) (fun cdv A outer s H vs Q E hr h=>?_)
 ·obtain⟨p,q,dx,s1,s2,v1,v2,hs,ls,rfl,_⟩:=h
  rfl
 ·obtain⟨p,q,dx,s1,s2,v1,v2,hs,ls,rfl,WP,Y,W,k⟩:=h
  have no:∀ {H'},Same H H'->(∀ us pf bs,GdW hs s1 s2 us pf bs->¬GrB us ls pf bs)->Q (.bl false) H':=fun s h=>k false _ ⟨(fun z=>nomatch z),fun⟨us,pf,bs,h1,h2⟩=>absurd h2 (h us pf bs h1)⟩ s;have hn:=WK WP.wh;refine zT (zd (zq (wf (yh (zE (zA (zl zG (by rfl) (T.n 5 rfl) zp (zb (w_pv 1) (zb (Wc (T.gc 0 rfl)) w_pa_nil))))) (zZ (zE (zA (zn c_are_parents hr.m (zb (w_pv 0) (zM (yk (w_pv 1)) w_pa_nil))))))))
    (w_pss_one (zg zy))
    zi)
   (w_pss_one (zg (yA (zn c_come_to_leaders hr.m (zb (w_pv 0) (zb (w_pv 1) w_pa_nil))) (yz (zn c_are_bridges hr.m (zb (w_pv 0) (zb (w_pv 1) (zM (yk (w_pv 1)) w_pa_nil))))))))) ?_
  refine⟨_,rfl,_,_,_,_,_,rfl,rfl,(T.ty 0 rfl) H q dx _ Y.p,(T.k 16 rfl),_,rfl,zF rfl ?_⟩;refine⟨_,rfl,mtV rfl Y.p rfl (T.cl 0 rfl) (T.mt 43 rfl) (zaW (P:=P) (w:=w) T) hr.m (T.bi 43 rfl) (ag0 ⟨q,dx,s1,s2,v1,v2,rfl,Y,fun v H1 hv n1 hf=>?_⟩)⟩;refine⟨p,v,H,s1,hs,ls,rfl,WP,n1,hf,hv,W.d,fun b1 H2 hb1 n2=>⟨_,rfl,?_⟩⟩;have s02:=n1.trans n2;cases hc1:b1 with
  |false =>
   refine iteT (no s02 fun us pf bs g r=>?_);have nd:us.Nodup:=by
    have:=Y.ps;rw[g.e1] at this;obtain⟨_,_,_,nd⟩:=wj this;exact nd
   have:=hb1.mpr (by rw[g.e1];exact zbb WP.wl hn nd g.m r.ad);rw[hc1] at this;cases this
  |true =>
  obtain⟨us,pf,e1,hm,C,cn,hadj⟩:=Us W Y.ps hn (hb1.mp hc1);subst e1;obtain⟨dp,rfl,hdp,nd⟩:=wj Y.ps;obtain⟨xs,e2⟩:=W.br;subst e2;obtain⟨ob,rs0,rfl,_⟩:=Y.bs;have l12:us.length<=12:=le_trans (xy nd fun x hx=>(hm x).mp hx) WP.wh.l12;have YP:WayP a H q pf us dx dp ob:=⟨Y.p,hdp,nd,l12⟩;have same:∀ {us' pf' bs},GdW hs (tabS pf us) (ShF.lst xs) us' pf' bs->us=us'/\pf=pf':=fun g=>wB g.e1 cn g.cn;refine zF rfl ?_;refine⟨_,rfl,_,rfl,p,q,dx,dp,ob,hs,us,ls,pf,rfl,WP.same s02,YP.same s02,hm,C,fun b2 H3 hb2 s3=>⟨_,rfl,?_⟩⟩;have s03:=s02.trans s3;cases hc2:b2 with
  |false =>
   refine zF rfl (no s03 fun us' pf' bs g r=>?_);obtain⟨rfl,rfl⟩:=same g;have:=hb2.mpr r.en;rw[hc2] at this;cases this
  |true =>
  refine iteT ?_;have en:=hb2.mp hc2;have U:=UpP.of C en;refine⟨_,rfl,_,rfl,mtV rfl (s03 _ _ Y.p) rfl (T.cl 0 rfl) (T.mt 44 rfl) (VB (P:=P) (w:=w) T) hr.m (T.bi 44 rfl) (ag0 ⟨q,dx,_,_,_,_,rfl,Y.same s03,fun v4 H4 hv4 s4 _=>?_⟩)⟩;obtain⟨l,rs,rfl,hl,hp,hlen⟩:=hv4;have s04:=s03.trans s4;refine⟨p,q,l,dx,dp,ob,hs,us,ls,rs,xs,pf,paO pf,rfl,WP.same s04,YP.same s04,hm,U,hl,hp,hlen,fun b3 H5 hb3 s5=>k _ _ ?_ (s04.trans s5)⟩;rw[hb3]
  constructor
  ·rintro⟨bs,rfl,g⟩
   exact⟨us,pf,bs,⟨rfl,rfl,hm,C,cn⟩,hadj,en,g⟩
  ·rintro⟨us',pf',bs,g,r⟩
   obtain⟨rfl,rfl⟩:=same g;have e:=g.e2;injection e with e;exact⟨bs,e,r.gd⟩
theorem Xy{lf:Int->Int}:∀ {ls:LP}{acc:List ((Int×Int)×(Int×Int))}{k:Int×Int},k∈(ls.foldl (jst lf) acc).map (·.1)↔k∈acc.map (·.1)\/∃ p∈ls,lf p.1≠lf p.2/\jk lf p=k
 |[],acc,k=>by simp
 |p::ls,acc,k=>by
  rw[List.foldl_cons,Xy (ls:=ls)];have hst:k∈(jst lf acc p).map (·.1)↔k∈acc.map (·.1)\/(lf p.1≠lf p.2/\jk lf p=k):=by
   unfold jst;by_cases c:lf p.1=lf p.2
   ·rw[if_pos c]
    simp[c]
   ·rw[if_neg c]
    by_cases c2:jk lf p∈acc.map (·.1)
    ·rw[if_pos c2]
     constructor
     ·exact .inl
     ·rintro(h | ⟨_,h⟩)
      ·exact h
      ·rw[<- h];exact c2
    ·rw[if_neg c2,map_append,mem_append]
     constructor
     ·rintro(h | h)
      ·exact .inl h
      ·exact .inr ⟨c,(mem_singleton.mp h).symm⟩
     ·rintro(h | ⟨_,h⟩)
      ·exact .inl h
      ·exact .inr (by rw[<- h];simp)
  rw[hst]
  constructor
  ·rintro((h | h) | ⟨q,hq,h⟩)
   ·exact .inl h
   ·exact .inr ⟨p,mem_cons_self,h⟩
   ·exact .inr ⟨q,mem_cons_of_mem _ hq,h⟩
  ·rintro(h | ⟨q,hq,h⟩)
   ·exact .inl (.inl h)
   ·rcases mem_cons.mp hq with e | e
    ·rw[e] at h;exact .inl (.inr h)
    ·exact .inr ⟨q,e,h⟩
structure GG (us:LI) (ls:LP) (pf:Int->Option Int) (bs:LP):Prop where
 g:GrB us ls pf bs
 cov:∀ p∈ls,ldr (paO pf) p.1≠ldr (paO pf) p.2->∃ b∈bs,jk (ldr (paO pf)) b=jk (ldr (paO pf)) p
theorem vD:∀ {as bs:LP},as.Nodup->(∀ x∈as,x∈bs)->as.length<=bs.length
 |[],_,_,_=>zero_le _
 |a::as,bs,hn,hs=>by
  rw[nodup_cons] at hn;have ha:=hs a mem_cons_self;have ih:=vD (as:=as) (bs:=bs.erase a) hn.2 fun x hx=>by
   have ne:x≠a:=fun z=>hn.1 (by rw[<- z];exact hx);exact(List.mem_erase_of_ne ne).mpr (hs x (mem_cons_of_mem _ hx))
  rw[List.length_erase_of_mem ha] at ih;have:=length_pos_of_mem ha;rw[length_cons];omega
theorem zbx{hs:LI}{ls:LP}{b:Int×Int}(wl:Ls hs ls)(h1:adB ls b.1 b.2=true)(h2:b.1<=b.2):b∈ls:=by
 unfold adB at h1;rw[or_eq_true,decide_eq_true_eq,decide_eq_true_eq] at h1;rcases h1 with h1 | h1
 ·exact h1
 ·have:=(wl.ok _ h1).2.2
  dsimp only at this;omega
def V1(a:Ad):Sp:=fun vs H Q _=>∃ (p q dx:Addr) (s1 s2:Sh 4) (v1 v2:V) (hs:LI) (ls:LP),vs=[.ref p,.ref q]/\WbP a H p hs ls/\WyS a H q s1 s2 dx v1 v2/\OkW s1 s2/\∀ (b:Bool) (H':Hp),(b=true↔∃ us pf bs,GdW hs s1 s2 us pf bs/\GG us ls pf bs)->Same H H'->Q (.bl b) H'
theorem Vw(T:Txt w K mg a):FnOk P w K mg base CX0 9 203 (dK K 203) ["web", "way"] (V1 a):=by
 have c_is_grounded:=cal P base T 6 rfl (VA T);have c_first_joins:=cal P base T 7 rfl (zcj T);refine(T.fn 8 rfl).ok (scp 8 rfl) (fun vs H Q E h=>?_) (fun cdv A outer s H vs Q E hr h=>?_)
 ·obtain⟨p,q,dx,s1,s2,v1,v2,hs,ls,rfl,_⟩:=h
  rfl
 ·obtain⟨p,q,dx,s1,s2,v1,v2,hs,ls,rfl,WP,YS,OW,k0⟩:=h
  have hu:=yY hr;refine zT (zd (zq (zE (zA (zn c_is_grounded hr.m (zb (w_pv 0) (zb (w_pv 1) w_pa_nil)))))
    (w_pss_one (zg zy))
    zi)
   (zd (zk (i:=2) (scp 8 rfl).nd rfl (Or.inl rfl) (zn c_first_joins hr.m (zb (w_pv 1) (zM (yk (w_pv 1)) w_pa_nil))))
   (zd (zL PassesOwn.never rfl (uX (zn c_first_joins hr.m (zb (w_pv 1) (zM (yk (w_pv 0)) w_pa_nil)))) (zm (i:=3) (scp 8 rfl).nd rfl (Or.inl rfl))
    (w_pss_one (zq (ww (wJ hu (w_pv 3) (w_pv 2)))
     (w_pss_one (zg zy))
     zi)))
   (w_pss_one (zg zy))))) ?_
  refine⟨_,rfl,_,rfl,p,q,dx,s1,s2,v1,v2,hs,ls,rfl,WP,YS,OW,fun b1 H1 hb1 s1'=>⟨_,rfl,?_⟩⟩;cases hc1:b1 with
  |false=>exact iteT (k0 false _ ⟨(fun z=>nomatch z),fun⟨us,pf,bs,h1,h2⟩=>by have:=hb1.mpr ⟨us,pf,bs,h1,h2.g⟩;rw[hc1] at this;cases this⟩ s1')
  |true =>
  refine zF rfl ?_;obtain⟨us,pf,bs,gw,g⟩:=hb1.mp hc1;have k:∀ (b:Bool) (H':Hp),(b=true↔GG us ls pf bs)->Same H H'->Q (.bl b) H':=fun b H' hb s=>k0 b H' (hb.trans ⟨fun h=>⟨us,pf,bs,gw,h⟩,fun⟨us',pf',bs',g',h⟩=>by
   obtain⟨e1,e2,e3⟩:=gw.uniq g';rw[e1,e2,e3];exact h⟩) s
  have hm:=gw.m;have C:=gw.cl;have s1:=s1';obtain⟨dp,ob,Y⟩:∃ dp ob,WayAt a H q pf us bs dx dp ob:=by
   rw[gw.e1,gw.e2] at YS;obtain⟨_,_,_,nd⟩:=wj YS.ps;exact YS.good (le_trans (xy nd fun x hx=>(hm x).mp hx) WP.wh.l12)
  have U:=UpP.of C g.en;have inl:∀ b∈bs,b∈ls:=fun b hb=>zbx WP.wl (g.gd.1 b hb).1 (g.gd.1 b hb).2.1;have l66:bs.length<=66:=le_trans (vD g.gd.2 inl) WP.wl.le;have Y1:=Y.same s1;refine⟨_,rfl,mtV rfl Y1.p rfl (T.cl 0 rfl) (T.mt 44 rfl) (ok_ab (P:=P) (w:=w) T) hr.m (T.bi 44 rfl) (ag0 (Vk Y1 (fun l rs H2 hl hl2 L2' s2=>?_)))⟩;have Y2:=Y1.same s2;have Bb:Bd bs:=fun b hb=>(WP.wl.bd WP.wh) b (inl b hb);have bin:∀ b∈bs,b.1∈us/\b.2∈us:=fun b hb=>⟨(hm _).mpr (WP.wl.ok b (inl b hb)).1,(hm _).mpr (WP.wl.ok b (inl b hb)).2.1⟩;refine⟨q,dx,dp,ob,l,pf,paO pf,us,bs,bs,rs,rfl,Y2,U,hl2,L2',Bb,l66,bin,fun jd js H3 hjd hj3 ej ps3 s3=>?_⟩;have s03:=s1.trans (s2.trans s3);have Y3:=Y2.same s3;obtain⟨wdx,oh,ol,d0,ad,W⟩:=(WP.same s03).at_;refine⟨_,rfl,mtV rfl W.p rfl (T.cl 1 rfl) (T.mt 49 rfl) (Vx (P:=P) (w:=w) T) hr.m (T.bi 49 rfl) (ag0 (YH W (fun lq zs hlq Lz=>?_)))⟩;have s4:=sW (o:=HO.lst zs) hlq;have hsm:∀ {x:Int×Int},x∈srt ls↔x∈ls:=fun {x}=>(srt_perm ls).mem_iff;have hsl:(srt ls).length=ls.length:=(srt_perm ls).length_eq;refine⟨q,dx,dp,ob,lq,pf,paO pf,us,bs,srt ls,zs,rfl,Y3.same s4,U,za,Lz.same s4,fun x hx=>(WP.wl.bd WP.wh) x (hsm.mp hx),by rw[hsl];exact WP.wl.le,fun x hx=>⟨(hm _).mpr (WP.wl.ok x (hsm.mp hx)).1,(hm _).mpr (WP.wl.ok x (hsm.mp hx)).2.1⟩,fun kd ks H5 hkd hk5 ek ps5 s5=>?_⟩;have s05:=s03.trans (s4.trans s5);have hj5:=s5 _ _ (s4 _ _ hj3);have nkj:jd≠kd:=fun z=>by rw[<- z,s4 _ _ hj3] at hkd;cases hkd
  have fkd:H kd=none:=(s03.trans s4).free hkd;have jK:∀ {k:Int×Int},k∈js.map (·.1)↔∃ b∈bs,jk (ldr (paO pf)) b=k:=fun {k}=>by
   have h1:js.map (·.1)=(jn (ldr (paO pf)) bs).map (·.1):=by
    rw[<- ej];unfold tlJ;rw[map_map];rfl
   rw[h1];unfold jn;rw[Xy]
   constructor
   ·rintro(h | ⟨b,hb,_,e⟩)
    ·cases h
    ·exact⟨b,hb,e⟩
   ·rintro⟨b,hb,e⟩
    exact .inr ⟨b,hb,(g.gd.1 b hb).2.2,e⟩
  have kK:∀ {k:Int×Int},k∈ks.map (·.1)↔∃ p∈ls,ldr (paO pf) p.1≠ldr (paO pf) p.2/\jk (ldr (paO pf)) p=k:=fun {k}=>by
   have h1:ks.map (·.1)=(jn (ldr (paO pf)) (srt ls)).map (·.1):=by
    rw[<- ek];unfold tlJ;rw[map_map];rfl
   rw[h1];unfold jn;rw[Xy]
   constructor
   ·rintro(h | ⟨b,hb,e⟩)
    ·cases h
    ·exact⟨b,hsm.mp hb,e⟩
   ·rintro⟨b,hb,e⟩
    exact .inr ⟨b,hsm.mpr hb,e⟩
  refine⟨kd,kvJ ks,rfl,hk5,fun od=>?_⟩;have hz6:=za (H:=H5) (a:=kd) (o:=HO.frz od (HO.dT (kvJ ks)));have hj6:(upd H5 kd (HO.frz od (HO.dT (kvJ ks)))) jd=some (.dT (kvJ js)):=(upd_ne nkj).trans hj5;have s06:Same H (upd H5 kd (HO.frz od (HO.dT (kvJ ks)))):=Same.updF s05 fkd;generalize upd H5 kd (HO.frz od (HO.dT (kvJ ks)))=H6 at *;refine for_keysT (d:=kd) (od:=od) (kvs:=kvJ ks) (fun i σ H'=>∃ (o3:Option V),σ=[some (.ref p),some (.ref q),some (.ref jd),o3]/\H'=H6/\∀ j∈ks.take i,j.1∈js.map (·.1)) ?_ ?_ ?_ ?_
  ·exact⟨none,rfl,rfl,fun j hj=>by simp at hj⟩
  ·rintro i σ H' ⟨o3,_,rfl,_⟩
   exact hz6
  ·rintro i kv b σ H' hkv hb ⟨o3,rfl,rfl,gd⟩
   unfold kvJ at hkv;rw[List.getElem?_map] at hkv;obtain⟨jx,hjx,e⟩:=map_eq_some_iff.mp hkv;subst e;have etk:ks.take (i+1)=ks.take i++[jx]:=by rw[take_add_one,hjx];rfl
   have key:=Xr (js:=js) (k:=jx.1);by_cases hin:jx.1∈js.map (·.1)
   ·rw[decide_eq_true hin] at key
    refine⟨_,rfl,_,rfl,jd,_,rfl,DGet.t (k:=[Sum.inl jx.1.1,Sum.inl jx.1.2]) hj6 hb,_,rfl,zF (by rw[key];rfl) ⟨_,rfl,rfl,fun j hj=>?_⟩⟩;rw[etk] at hj;rcases mem_append.mp hj with e | e
    ·exact gd j e
    ·rw[mem_singleton.mp e];exact hin
   ·rw[decide_eq_false hin] at key
    refine⟨_,rfl,_,rfl,jd,_,rfl,DGet.t (k:=[Sum.inl jx.1.1,Sum.inl jx.1.2]) hj6 hb,_,rfl,iteB (by rw[key];rfl) ?_⟩;refine k false _ ⟨fun z=>(nomatch z),fun h=>?_⟩ s06;obtain⟨pp,hpp,h2,h3⟩:=kK.mp (mem_map.mpr ⟨jx,mem_of_getElem? hjx,rfl⟩);obtain⟨bb,hbb,h4⟩:=h.cov pp hpp h2;exact absurd (jK.mpr ⟨bb,hbb,h4.trans h3⟩) hin
  ·rintro σ H' ⟨o3,rfl,rfl,gd⟩
   have hlk:(kvJ ks).length=ks.length:=by unfold kvJ;rw[length_map]
   rw[hlk,take_length] at gd;refine k true _ ⟨fun _=>⟨g,fun pp hpp h2=>?_⟩,fun _=>rfl⟩ s06;obtain⟨jx,h1,h3⟩:=mem_map.mp (kK.mpr ⟨pp,hpp,h2,rfl⟩);have h4:=gd jx h1;rw[h3] at h4;exact jK.mp h4
def XsAt(H:Hp)(l:Addr):Prop:=∃ ns:LI,H l=some (.lst (ns.map V.int))/\(∀ n∈ns,0<=n)/\ns.length<=400
theorem XsAt.ne{H:Hp}{l p:Addr}(s:XsAt H l)(h:H p=none):p≠l:=fun z=>by
 obtain⟨ns,e,_⟩:=s;rw[<- z,h] at e;cases e
theorem XsAt.same{H H':Hp}{l:Addr}(s:XsAt H l)(k:Same H H'):XsAt H' l:=by
 obtain⟨ns,e,h⟩:=s;exact⟨ns,k _ _ e,h⟩
theorem XsAt.new{H:Hp}{l p:Addr}{o:HO}(s:XsAt H l)(h:H p=none):XsAt (upd H p o) l:=s.same (sW h)
theorem XsAt.upd{H:Hp}{l p:Addr}{o:HO}(s:XsAt H l)(h:p≠l):XsAt (upd H p o) l:=by
 obtain⟨ns,e,h'⟩:=s;exact⟨ns,by rw[upd_ne h.symm];exact e,h'⟩
def Vj(K:W.Frag):Sp:=fun vs H Q _=>∃ (l:Addr) (ns:LI) (k:Int),vs=[.ref l,.int k]/\SqL K H l (ns.map V.int)/\0<=k/\∀ i:Int,Q (.int i) H
theorem Ut(T:Txt w K mg a):FnOk P w K mg base CX0 1 376 (dK K 376) ["_law_script", "_law_k"] (Vj K):=by
 refine(T.fn 23 rfl).ok (scp 23 rfl) (fun vs H Q E h=>?_) (fun cdv A outer s H vs Q E hr h=>?_)
 ·obtain⟨l,ns,k,rfl,_⟩:=h
  rfl
 ·obtain⟨l,ns,k,rfl,hl,k0,q⟩:=h
  refine zT (zd (zq (zh Zi (w_pv 1) (zl zw (by rfl) (T.n 0 rfl) yg (zb (w_pv 0) w_pa_nil)) (zu _))
    (w_pss_one (zg (zx zY (w_pv 0) (w_pv 1) (fun _ _=>rfl))))
    zi)
   (w_pss_one (zg ze))) ?_
  refine⟨_,rfl,_,rfl,l,_,rfl,.inl hl,_,_,rfl,rfl,_,rfl,?_⟩;rw[length_map];refine ite2 (fun z=>?_) (fun z=>?_)
  ·have z:k<ns.length:=of_decide_eq_true z
   obtain⟨n,rfl⟩:∃ n:Nat,k=n:=⟨k.toNat,by omega⟩;have hn:n<ns.length:=by omega
   refine⟨_,rfl,_,rfl,l,_,_,V.int ns[n],rfl,rfl,hl,zV (by simp[hn]),?_⟩;exact q _
  ·exact q 0
def xO:Sp:=fun vs H Q _=>∃ (l:Addr) (n:Int),vs=[.ref l,.int n]/\XsAt H l/\0<n/\∀ (d:Int) (H':Hp),0<=d->d<n->XsAt H' l->Ext l H H'->Q (.int d) H'
theorem xH(T:Txt w K mg a):FnOk P w K mg base CX0 1 390 (dK K 390) ["_law_xs", "_law_size"] xO:=by
 refine(T.fn 25 rfl).ok (scp 25 rfl) (fun vs H Q E h=>?_) (fun cdv A outer s H vs Q E hr h=>?_)
 ·obtain⟨l,n,rfl,_⟩:=h
  rfl
 ·obtain⟨l,n,rfl,⟨ns,hl,h0,hlen⟩,hn,k⟩:=h
  have un:∀ n:Nat,n<=3->(A.deeper (PyProof.Rows.envOfC "_law_take" (defScope (top 39)) s.heap.objs.size 390 cdv)).units+n+2<cLine:=fun n hn=>by
   have:=hr.units;omega
  refine zT (zd (zq (zh (wQ zaE zaF) (w_pv 0) (w_pe_lst w_pa_nil) (zu _))
    (w_pss_one (zg ze))
    zi)
   (w_pss_one (zg (zo wm (w_pe_bm F.plainAttrs_list F.slot_list_pop F.type_list_pop ZR (w_pv 0) (zK ze w_pa_nil)) (w_pv 1))))) ?_
  refine⟨_,rfl,(by show 0<=sizeLine;decide),fun q hq=>?_⟩;have hql:q≠l:=fun z=>by rw[z,hl] at hq;cases hq
  have hl1:(L2.upd H q (.lst [])) l=_:=(upd_ne hql.symm).trans hl;cases ns with
  |nil =>
   refine .inl ⟨l,q,_,_,fun _=>true,0,rfl,rfl,.inl ⟨sO hl1,sO za⟩,rfl,?_,?_,?_⟩
   ·exact un 0 (by decide)
   ·intro j x y hx
    cases hx
   ·refine⟨_,rfl,iteB rfl ?_⟩
    exact k 0 _ (Int.le_refl _) hn ⟨[],hl1,h0,hlen⟩ (Ext.new hq)
  |cons n0 ns =>
   refine .inr ⟨l,q,_,_,rfl,rfl,sO hl1,sO za,(by simp),?_,?_⟩
   ·exact lt_of_le_of_lt (Nat.le_add_right _ 2) (un 0 (by decide))
   ·refine⟨_,rfl,zF rfl ?_⟩
    refine⟨_,rfl,.inl ⟨rfl,_,sO hl1⟩,l,_,0,0,_,rfl,rfl,hl1,by decide,by decide,(by simp[seqIndex?]),rfl,?_⟩;refine⟨_,rfl,_,_,rfl,rfl,hn,?_⟩;refine k _ _ (emod_nonneg _ (Int.ne_of_gt hn)) (Int.emod_lt_of_pos _ hn) ⟨ns,za,fun x hx=>h0 x (mem_cons_of_mem _ hx),?_⟩ ((Ext.new hq).trans Ext.at);have:ns.length+1<=400:=hlen;omega
def YK:Sp:=fun vs H Q _=>∃ (c:Int) (m:Nat),vs=[.int c,.int (m:Int)]/\m<=400/\∀ (q:Addr) (H':Hp),H q=none->XsAt H' q->Same H H'->Q (.ref q) H'
theorem Wu(T:Txt w K mg a):FnOk P w K mg base CX0 1 383 (dK K 383) ["_law_cell", "_law_many"] YK:=by
 refine(T.fn 24 rfl).ok (scp 24 rfl) (fun vs H Q E h=>?_) (fun cdv A outer s H vs Q E hr h=>?_)
 ·obtain⟨c,m,rfl,_⟩:=h
  rfl
 ·obtain⟨c,m,rfl,hm,k⟩:=h
  refine zT (zd (zk (i:=2) (scp 24 rfl).nd rfl (Or.inl rfl) (w_pe_lst w_pa_nil))
   (zd (zk (i:=3) (scp 24 rfl).nd rfl (Or.inl rfl) ze)
   (zJ (zq (zh zb3 (w_pv 0) (zo ZP ze ze) (zu _))
    (w_pss_one (zk (i:=3) (scp 24 rfl).nd rfl (Or.inl rfl) (zo vA (w_pv 0) (zo ZP ze ze))))
    zi)
   (zd (xv PassesOwn.never (wf (yJ (zh Zj (w_pv 3) ze (zu _)) (yt (zh Zi (zl zw (by rfl) (T.n 0 rfl) yg (zb (w_pv 2) w_pa_nil)) (w_pv 1) (zu _)))))
    (zd (w_ps_expr (w_pe_bm F.plainAttrs_list F.slot_list_append F.type_list_append yc (w_pv 2) (xn (zo wm (w_pv 3) (zo ZP ze ze)) w_pa_nil)))
    (w_pss_one (zk (i:=3) (scp 24 rfl).nd rfl (Or.inl rfl) (zo wC (w_pv 3) (zo ZP ze ze))))))
   (zd (zk (i:=4) (scp 24 rfl).nd rfl (Or.inl rfl) (zo wm (zo uv (zo yw (zo wm (w_pv 0) ze) ze) ze) ze))
   (zd (zL PassesOwn.never rfl (yZ rfl (T.n 4 rfl) (xn (zo vA (w_pv 1) (zl zw (by rfl) (T.n 0 rfl) yg (zb (w_pv 2) w_pa_nil))) w_pa_nil)) (zm (i:=5) (scp 24 rfl).nd rfl (Or.inl rfl))
    (zd (zk (i:=4) (scp 24 rfl).nd rfl (Or.inl rfl) (zo wm (zo uv (zo yw (zo yw (w_pv 4) (zo uv ze (w_pv 5))) ze) ze) ze))
    (zd (zk (i:=6) (scp 24 rfl).nd rfl (Or.inl rfl) (zo wm (zo uv (w_pv 4) (zo yw (zo wC (w_pv 4) ze) ze)) ze))
    (w_pss_one (w_ps_expr (w_pe_bm F.plainAttrs_list F.slot_list_append F.type_list_append yc (w_pv 2) (xn (zo wm (zo uv (w_pv 6) (zo yw (zo wC (w_pv 6) ze) ze)) ze) w_pa_nil)))))))
   (w_pss_one (zg (w_pv 2))))))))) ?_
  refine⟨(by show 0<=sizeLine;decide),fun p hp=>?_⟩;refine⟨fun σ' H'=>∃ rest:Int,σ'=[some (.int c),some (.int m),some (.ref p),some (.int rest),none,none,none]/\H'=L2.upd H p (.lst []),?_,?_⟩
  ·refine⟨_,rfl,_,_,rfl,rfl,⟨by decide,by decide,by decide⟩,_,_,rfl,rfl,_,rfl,?_⟩
   refine ite2 (fun _=>?_) (fun _=>?_)
   ·exact⟨_,rfl,_,_,rfl,rfl,⟨by decide,by decide,by decide⟩,_,_,rfl,rfl,_,rfl,rfl⟩
   ·exact⟨_,rfl,rfl⟩
  ·rintro σ' H' ⟨rest,rfl,rfl⟩
   refine⟨fun μ σ H'=>∃ (ns:LI) (rest:Int),μ=m-ns.length/\σ=[some (.int c),some (.int m),some (.ref p),some (.int rest),none,none,none]/\H' p=some (.lst (ns.map V.int))/\Same H H'/\(∀ n∈ns,0<=n)/\ns.length<=m,⟨_,[],rest,rfl,rfl,za,sW hp,(fun n hn=>nomatch hn),zero_le _⟩,?_⟩;rintro μ σ H1 ⟨ns,rest,rfl,rfl,hp1,s1,h0,hlen⟩;refine⟨_,rfl,_,_,rfl,rfl,_,rfl,?_⟩;refine(fun hB=>ite2 (fun _=>⟨_,rfl,p,_,rfl,.inl (sO hp1),_,rfl,_,_,rfl,rfl,_,rfl,ite2 (fun z=>?gC) (fun _=>hB)⟩) (fun _=>hB)) ?gB
   case gC =>
    have z:(ns.length:Int)<m:=by
     have z:=of_decide_eq_true z;rw[length_map] at z;exact z
    refine⟨_,fun σ' H' h=>h,?_⟩;refine⟨_,rfl,.inl ⟨rfl,_,sO hp1⟩,_,rfl,_,_,rfl,rfl,⟨by decide,by decide,by decide⟩,_,_,rfl,rfl,(by show(0:Int)<10 ^ Int.toNat 6;decide),p,_,_,rfl,rfl,hp1,(by rw[length_map];exact zj (by omega)),?_⟩;refine⟨_,rfl,_,_,rfl,rfl,⟨by decide,by decide,by decide⟩,_,_,rfl,rfl,⟨(by show(0:Int)<10 ^ Int.toNat 6;decide),(by show(10 ^ Int.toNat 6:Int).natAbs.log2<9000;decide)⟩,?_⟩;refine⟨m-(ns.length+1),by omega,ns++[rest%10 ^ Int.toNat 6],_,by simp,rfl,?_,Same.updF s1 hp,?_,by simp;omega⟩
    ·rw[za,map_append]
     rfl
    ·intro n hn
     rcases mem_append.mp hn with h | h
     ·exact h0 n h
     ·rw[mem_singleton.mp h]
      exact emod_nonneg _ (by decide)
   case gB =>
    refine⟨_,rfl,_,_,rfl,rfl,(by show(0:Int)<2147483647;decide),_,_,rfl,rfl,_,_,rfl,rfl,.inr ⟨by decide,by decide⟩,_,_,rfl,rfl,(by show(0:Int)<2147483647;decide),?_⟩;refine⟨_,rfl,_,rfl,p,_,rfl,.inl (sO hp1),_,_,rfl,rfl,?_⟩;rw[length_map];refine⟨(m:Int)-ns.length,rfl,by omega,by omega,?_⟩;generalize ((c%2147483647+1)*48271%2147483647)=x0;refine for_range (lo:=0) (fun i σ H'=>∃ (ns':LI) (x:Int) (o5 o6:Option V),σ=[some (.int c),some (.int m),some (.ref p),some (.int rest),some (.int x),o5,o6]/\H' p=some (.lst (ns'.map V.int))/\Same H H'/\(∀ n∈ns',0<=n)/\ns'.length=ns.length+i) ?_ ?_ ?_
    ·exact⟨ns,_,none,none,rfl,hp1,s1,h0,rfl⟩
    ·rintro i σ H2 hi ⟨ns',x,o5,o6,rfl,hp2,s2,h2,hl2⟩
     refine⟨_,rfl,_,rfl,_,_,rfl,rfl,.inl ⟨by decide,by decide⟩,_,_,rfl,rfl,_,_,rfl,rfl,_,_,rfl,rfl,.inr ⟨by decide,by decide⟩,_,_,rfl,rfl,(by show(0:Int)<2147483647;decide),?_⟩;generalize hv:(x+7919*(0+(i:Int))+1)*48271%2147483647=v;have v1:0<=v:=by rw[<- hv];exact emod_nonneg _ (by decide)
     have v2:v<2147483647:=by rw[<- hv];exact Int.emod_lt_of_pos _ (by decide)
     refine⟨_,rfl,_,rfl,_,_,rfl,rfl,⟨by show(0:Int)<1009;decide,WE⟩,_,_,rfl,rfl,_,_,rfl,rfl,.inl ⟨by omega,by omega⟩,_,_,rfl,rfl,(by show(0:Int)<2147483647;decide),?_⟩;generalize hu:v*(v/1009+65537)%2147483647=u;have u1:0<=u:=by rw[<- hu];exact emod_nonneg _ (by decide)
     have u2:u<2147483647:=by rw[<- hu];exact Int.emod_lt_of_pos _ (by decide)
     refine⟨_,rfl,.inl ⟨rfl,_,sO hp2⟩,_,rfl,_,rfl,_,_,rfl,rfl,⟨by show(0:Int)<2003;decide,WD⟩,_,_,rfl,rfl,_,_,rfl,rfl,.inl ⟨by omega,by omega⟩,_,_,rfl,rfl,(by show(0:Int)<2147483399;decide),p,_,_,rfl,rfl,hp2,(by rw[length_map];exact zj (by omega)),?_⟩;refine⟨ns'++[u*(u/2003+40697)%2147483399],v,some (.int (0+(i:Int))),some (.int u),(by rw[<- hu,<- hv];rfl),?_,Same.updF s2 hp,?_,by simp;omega⟩
     ·rw[za,map_append,<- hu,<- hv]
      rfl
     ·intro n hn
      rcases mem_append.mp hn with h | h
      ·exact h2 n h
      ·rw[mem_singleton.mp h]
       exact emod_nonneg _ (by decide)
    ·rintro σ H2 ⟨ns',x,o5,o6,rfl,hp2,s2,h2,hl2⟩
     exact⟨_,rfl,k p H2 hp ⟨ns',hp2,h2,by omega⟩ s2⟩
def ot1(ls:LP)(x:Int):LI:=(ls.filter fun p=>decide (p.1=x)).map (·.2)
def ot2(ls:LP)(x:Int):LI:=(ls.filter fun p=>decide (p.2=x)).map (·.1)
theorem Wr{ls:LP}{p:Int×Int}{x:Int}:ot1 (ls++[p]) x=ot1 ls x++if p.1=x then[p.2] else[]:=by
 unfold ot1;rw[filter_append,map_append];by_cases c:p.1=x<;>simp[c]
theorem Wq{ls:LP}{p:Int×Int}{x:Int}:ot2 (ls++[p]) x=ot2 ls x++if p.2=x then[p.1] else[]:=by
 unfold ot2;rw[filter_append,map_append];by_cases c:p.2=x<;>simp[c]
theorem Y7{x:Int}:∀ {ls:LP},(ot1 ls x++ot2 ls x).Perm (nbs ls x)
 |[]=>List.Perm.refl _
 |p::ls=>by
  have e:nbs (p::ls) x=((if p.1=x then[p.2] else[])++if p.2=x then[p.1] else[])++nbs ls x:=by unfold nbs;rw[flatMap_cons]
  have e1:ot1 (p::ls) x=(if p.1=x then[p.2] else[])++ot1 ls x:=by unfold ot1;by_cases c:p.1=x<;>simp[c]
  have e2:ot2 (p::ls) x=(if p.2=x then[p.1] else[])++ot2 ls x:=by unfold ot2;by_cases c:p.2=x<;>simp[c]
  rw[e,e1,e2];refine List.Perm.trans ?_ (List.Perm.append_left _ (Y7 (ls:=ls)));rw[append_assoc,append_assoc];refine List.Perm.append_left _ ?_;rw[<- append_assoc,<- append_assoc];exact List.Perm.append_right _ List.perm_append_comm
theorem Vt{ls:LP}{x:Int}:(ot1 ls x).length<=ls.length/\(ot2 ls x).length<=ls.length:=by
 unfold ot1 ot2;rw[length_map,length_map];exact⟨length_filter_le _ _,length_filter_le _ _⟩
def zbN:Sp:=fun vs H Q _=>∃ (q:Addr) (x:Int) (rs:List V) (hs:LI) (ls:LP),vs=[.ref q,.int x]/\H q=some (.lst rs)/\LnAt H rs ls/\Hs hs/\Ls hs ls /\
 ∀ (p:Addr) (H':Hp),H p=none->Same H H'->H' p=some (.lst ((hs.filter (adB ls x)).map V.int))->Q (.ref p) H'
theorem zaO(T:Txt w K mg a):FnOk P w K mg base CX0 1 414 (dK K 414) ["_law_lines_here", "_law_hand"] zbN:=by
 refine(T.fn 29 rfl).ok (scp 29 rfl) (fun vs H Q E h=>?_) (fun cdv A outer s H vs Q E hr h=>?_)
 ·obtain⟨q,x,rs,hs,ls,rfl,_⟩:=h
  rfl
 ·obtain⟨q,x,rs,hs,ls,rfl,hq,L,wh,wl,k⟩:=h
  have hu:=yY hr;have l66:=wl.le;refine zT (zd (yT (i:=2) rfl (scp 29 rfl).nd rfl (Or.inl rfl) (N':=["_law_one", "_law_other", "_law_hand"]) (t:=2) (caps:=[1]) ⟨rfl,rfl,rfl⟩ (zB (w_pv 0)) (fun _=>(yf rfl (zr (zm (i:=0) (show(["_law_one", "_law_other", "_law_hand"]:List Str).Nodup by decide +kernel) rfl (Or.inl rfl)) (zr (zm (i:=1) (show(["_law_one", "_law_other", "_law_hand"]:List Str).Nodup by decide +kernel) rfl (Or.inl rfl)) zO)))) (fun _=>(yO (zh yu (w_pv 0) (w_pv 2) (zu _)))) (fun _=>(w_pv 1)))
   (w_pss_one (zg (zl we (by rfl) (T.n 8 rfl) xu (xn (zo yU (w_pv 2) (ym rfl (N':=["_law_one", "_law_other", "_law_hand"]) (t:=2) (caps:=[1]) ⟨rfl,rfl,rfl⟩ (zB (w_pv 0)) (fun _=>(yf rfl (zr (zm (i:=0) (show(["_law_one", "_law_other", "_law_hand"]:List Str).Nodup by decide +kernel) rfl (Or.inl rfl)) (zr (zm (i:=1) (show(["_law_one", "_law_other", "_law_hand"]:List Str).Nodup by decide +kernel) rfl (Or.inl rfl)) zO)))) (fun _=>(yO (zh yu (w_pv 1) (w_pv 2) (zu _)))) (fun _=>(w_pv 0)))) w_pa_nil))))) ?_
  refine⟨_,rfl,q,rfl,⟨_,sO hq⟩,fun D hD _=>?_⟩;refine comp_list (K:=K) (a:=q) (xs:=rs) (fun j zs τ H'=>∃ o1 o2,τ=[o1,o2,some (.int x)]/\zs=(ot1 (ls.take j) x).map V.int/\H' D=some (.lst zs)/\Same H H') ?_ ?_ ?_ ?_
  ·exact⟨none,none,rfl,rfl,za,sW hD⟩
  ·rintro j zs τ H' ⟨o1,o2,_,_,_,sm⟩
   exact sO (sm _ _ hq)
  ·rintro j v zs τ H' hj ⟨o1,o2,rfl,rfl,hD',sm⟩
   obtain⟨pr,r,hpr,rfl,hr'⟩:=L.get hj;refine⟨r,_,rfl,sP (sm _ _ hr'),rfl,_,_,rfl,_,_,rfl,rfl,?_⟩;refine⟨_,rfl,_,rfl,rfl,_,rfl,?_⟩;have st:ot1 (ls.take (j+1)) x=ot1 (ls.take j) x++if pr.1=x then[pr.2] else[]:=by
    rw[take_add_one,hpr];exact Wr
   refine ite2 (fun z=>?_) (fun z=>?_)
   ·have z:pr.1=x:=by
     have:=of_decide_eq_true z;injection this
    refine⟨_,rfl,hD',?_,_,_,rfl,?_,za,Same.updF sm hD⟩
    ·rw[length_map]
     have:=(Vt (ls:=ls.take j) (x:=x)).1;rw[length_take] at this;exact zj (by omega)
    ·rw[st,if_pos z,map_append]
     rfl
   ·have z:¬ pr.1=x:=fun e=>z (by rw[e];exact decide_eq_true rfl)
    refine⟨_,_,rfl,?_,hD',sm⟩;rw[st,if_neg z,append_nil]
  ·rintro zs τ H1 ⟨o1,o2,rfl,rfl,hD1,sm⟩
   rw[L.1,take_length] at hD1;refine⟨_,rfl,_,rfl,q,rfl,⟨_,sO (sm _ _ hq)⟩,fun D2 hD2 _=>?_⟩;refine comp_list (K:=K) (a:=q) (xs:=rs) (fun j zs τ H'=>∃ o1 o2,τ=[o1,o2,some (.int x)]/\zs=(ot2 (ls.take j) x).map V.int/\H' D2=some (.lst zs)/\Same H1 H') ?_ ?_ ?_ ?_
   ·exact⟨none,none,rfl,rfl,za,sW hD2⟩
   ·rintro j zs τ H' ⟨o1,o2,_,_,_,sm2⟩
    exact sO (sm2 _ _ (sm _ _ hq))
   ·rintro j v zs τ H' hj ⟨o1,o2,rfl,rfl,hD',sm2⟩
    obtain⟨pr,r,hpr,rfl,hr'⟩:=L.get hj;refine⟨r,_,rfl,sP (sm2 _ _ (sm _ _ hr')),rfl,_,_,rfl,_,_,rfl,rfl,?_⟩;refine⟨_,rfl,_,rfl,rfl,_,rfl,?_⟩;have st:ot2 (ls.take (j+1)) x=ot2 (ls.take j) x++if pr.2=x then[pr.1] else[]:=by
     rw[take_add_one,hpr];exact Wq
    refine ite2 (fun z=>?_) (fun z=>?_)
    ·have z:pr.2=x:=by
      have:=of_decide_eq_true z;injection this
     refine⟨_,rfl,hD',?_,_,_,rfl,?_,za,Same.updF sm2 hD2⟩
     ·rw[length_map]
      have:=(Vt (ls:=ls.take j) (x:=x)).2;rw[length_take] at this;exact zj (by omega)
     ·rw[st,if_pos z,map_append]
      rfl
    ·have z:¬ pr.2=x:=fun e=>z (by rw[e];exact decide_eq_true rfl)
     refine⟨_,_,rfl,?_,hD',sm2⟩;rw[st,if_neg z,append_nil]
   ·rintro zs τ H2 ⟨o1',o2',rfl,rfl,hD3,sm2⟩
    rw[L.1,take_length] at hD3;have pmx:=Y7 (x:=x) (ls:=ls);have few:=Ux (x:=x) wh wl;have flen:=pmx.length_eq;rw[length_append] at flen;refine⟨D,D2,_,_,rfl,rfl,sm2 _ _ hD1,hD3,(by rw[length_map,length_map];exact Nat.le_of_lt (zj (by omega))),fun p hp=>?_⟩;have hp':L2.upd H2 p (HO.lst (List.map V.int (ot1 ls x)++List.map V.int (ot2 ls x))) p=some (.lst ((ot1 ls x++ot2 ls x).map V.int)):=by rw[za,map_append]
    have y3:=sW (o:=HO.lst (List.map V.int (ot1 ls x)++List.map V.int (ot2 ls x))) hp;have y123:=(sm.trans sm2).trans y3;exact⟨p,_,rfl,sO hp',by rw[length_append];omega,fun q' ms hq' pm sd=>by
     rw[Wi wh wl (pm.trans pmx) sd];exact k q' _ (y123.free hq') (y123.trans (sW hq')) za⟩
def zcP:Sp:=fun vs H Q _=>∃ (l:Addr) (mo:Int),vs=[.ref l,.int mo]/\0<mo/\mo<=12/\XsAt H l /\
 ∀ (h:Addr) (hs:LI) (H':Hp),H h=none->H' h=some (.lst (hs.map V.int))->Hs hs->(hs.length:Int)<=mo->XsAt H' l->Ext l H H'->Q (.ref h) H'
theorem zcf(T:Txt w K mg a):FnOk P w K mg base CX0 2 395 (dK K 395) ["_law_xs", "_law_most"] zcP:=by
 have c__law_take:=cal P base T 25 rfl (xH T);refine(T.fn 26 rfl).ok (scp 26 rfl) (fun vs H Q E h=>?_) (fun cdv A outer s H vs Q E hr h=>?_)
 ·obtain⟨l,mo,rfl,_⟩:=h
  rfl
 ·obtain⟨l,mo,rfl,mo0,mo12,hs,k⟩:=h
  refine zT (zd (zk (i:=2) (scp 26 rfl).nd rfl (Or.inl rfl) (zn c__law_take hr.m (zb (w_pv 0) (zK ze w_pa_nil))))
   (zd (zk (i:=3) (scp 26 rfl).nd rfl (Or.inr rfl) (w_pe_lst (zb (w_pv 2) w_pa_nil)))
   (zd (zL PassesOwn.never rfl (yZ rfl (T.n 4 rfl) (zM (zn c__law_take hr.m (zb (w_pv 0) (zb (w_pv 1) w_pa_nil))) w_pa_nil)) (zm (i:=4) (scp 26 rfl).nd rfl (Or.inl rfl))
    (zd (zk (i:=2) (scp 26 rfl).nd rfl (Or.inl rfl) (zo yw (zo yw (w_pv 2) ze) (zn c__law_take hr.m (zb (w_pv 0) (zK ze w_pa_nil)))))
    (w_pss_one (w_ps_expr (w_pe_bm F.plainAttrs_list F.slot_list_append F.type_list_append yc (w_pv 3) (zb (w_pv 2) w_pa_nil))))))
   (zJ (zq (zh yu (zn c__law_take hr.m (zb (w_pv 0) (zK ze w_pa_nil))) ze (zu _))
    (w_pss_one (zk (i:=3) (scp 26 rfl).nd rfl (Or.inr rfl) (ym rfl (N':=["_law_one", "_law_found"]) (t:=1) (caps:=[3]) ⟨rfl,rfl,rfl⟩ (zB (w_pv 3)) (fun _=>(zm (i:=0) (show(["_law_one", "_law_found"]:List Str).Nodup by decide +kernel) rfl (Or.inl rfl))) (fun _=>yC) (fun _=>(zo vA (zo yw (w_pv 0) ze) (zx zY (w_pv 1) (xa xz ze) (fun _ _=>rfl)))))))
    zi)
   (w_pss_one (zg (w_pv 3))))))) ?_
  refine⟨_,rfl,l,5,rfl,hs,by decide,fun d0 H1 g1 g2 s1 x1=>?_⟩;refine⟨_,rfl,(by show 1<=sizeLine;decide),fun p hp=>?_⟩;have npl:=s1.ne hp;refine⟨_,rfl,_,rfl,l,mo,rfl,s1.new hp,mo0,fun m H2 g3 g4 s2 x2=>?_⟩;refine⟨m,rfl,by omega,by omega,?_⟩;have hp2:H2 p=some (.lst [V.int d0]):=x2 _ _ za npl;have X2:Ext l H1 H2:=(Ext.new hp).trans x2;refine for_range (lo:=0) (fun i σ H'=>∃ (ns:LI) (x:Int) (o4:Option V),σ=[some (.ref l),some (.int mo),some (.int x),some (.ref p),o4]/\H' p=some (.lst ((ns++[x]).map V.int))/\ns.length=i/\(ns++[x]).Pairwise (· < ·)/\(∀ y∈ns++[x],0<=y)/\(∀ y∈ns++[x],y<=4+8*(i:Int))/\XsAt H' l/\Ext l H1 H') ?_ ?_ ?_
  ·refine⟨[],d0,none,rfl,hp2,rfl,by simp,?_,?_,s2,X2⟩
   ·intro y hy
    rw[mem_singleton.mp hy];exact g1
   ·intro y hy
    rw[mem_singleton.mp hy];omega
  ·rintro i σ H3 hi ⟨ns,x,o4,rfl,hp3,hln,up,lo,hi',s3,x3⟩
   refine⟨_,rfl,_,_,rfl,rfl,_,rfl,l,8,rfl,s3,by decide,fun d H4 a1 a2 s4 x4=>?_⟩;have hp4:=x4 _ _ hp3 npl;refine⟨_,_,rfl,rfl,_,rfl,.inl ⟨rfl,_,sO hp4⟩,_,rfl,p,_,_,rfl,rfl,hp4,(by rw[length_map,length_append];exact zj (by simp;omega)),?_⟩;refine⟨ns++[x],x+1+d,_,rfl,?_,by simp[hln],?_,?_,?_,s4.upd npl,?_⟩
   ·rw[za,map_append (l₂:=[x+1+d])]
    rfl
   ·rw[List.pairwise_append]
    refine⟨up,by simp,fun y hy z hz=>?_⟩;rw[mem_singleton.mp hz];rcases mem_append.mp hy with h | h
    ·have:=(List.pairwise_append.mp up).2.2 y h x (by simp)
     omega
    ·rw[mem_singleton.mp h];omega
   ·intro y hy
    rcases mem_append.mp hy with h | h
    ·exact lo y h
    ·rw[mem_singleton.mp h]
     have:=lo x (by simp);omega
   ·intro y hy
    rcases mem_append.mp hy with h | h
    ·have:=hi' y h
     omega
    ·rw[mem_singleton.mp h]
     have:=hi' x (by simp);omega
   ·intro b o e nb
    rw[upd_ne (nZ e hp)];exact(x3.trans x4) b o e nb
  ·rintro σ H3 ⟨ns,x,o4,rfl,hp3,hln,up,lo,hi',s3,x3⟩
   have hp0:H p=none:=by
    cases e:H p with
    |none=>rfl
    |some o=>have:=x1 _ _ e npl;rw[hp] at this;cases this
   have X3:=x1.trans x3;refine⟨fun σ' H'=>∃ (h:Addr) (hs':LI),σ'=[some (.ref l),some (.int mo),some (.int x),some (.ref h),o4]/\H h=none/\H' h=some (.lst (hs'.map V.int))/\Hs hs'/\(hs'.length:Int)<=mo/\XsAt H' l/\Ext l H H',?_,?_⟩
   ·refine⟨_,rfl,l,4,rfl,s3,by decide,fun d H4 a1 a2 s4 x4=>⟨rfl,_,rfl,?_⟩⟩
    have hp4:=x4 _ _ hp3 npl;have X4:=X3.trans x4;have hl:(ns++[x]).length=m.toNat+1:=by rw[length_append,hln];rfl
    refine ite2 (fun _=>?_) (fun _=>?_)
    ·refine⟨_,rfl,p,rfl,⟨_,sO hp4⟩,fun D hD _=>?_⟩
     have nDl:=s4.ne hD;have hD0:H D=none:=by
      cases e:H D with
      |none=>rfl
      |some o=>have:=X4 _ _ e nDl;rw[hD] at this;cases this
     refine comp_list (K:=K) (a:=p) (xs:=(ns++[x]).map V.int) (fun j zs τ H'=>∃ o,τ=[o,some (.ref p)]/\zs=(((ns++[x]).take j).map fun y=>y+99-x).map V.int/\H' D=some (.lst zs)/\Same H4 H') ?_ ?_ ?_ ?_
     ·exact⟨none,rfl,by simp,za,sW hD⟩
     ·rintro j zs τ H' ⟨o,_,_,_,sm⟩
      exact sO (sm _ _ hp4)
     ·rintro j v zs τ H' hj ⟨o,rfl,rfl,hD',sm⟩
      rw[List.getElem?_map] at hj;obtain⟨y,hy,rfl⟩:=map_eq_some_iff.mp hj;have hjl:=(List.getElem?_eq_some_iff.mp hy).1;refine WN ?_;refine⟨_,rfl,_,_,rfl,rfl,_,rfl,_,rfl,p,_,_,V.int x,rfl,rfl,sO (sm _ _ hp4),(by rw[map_append];exact at_last),_,_,rfl,rfl,hD',by simp;exact zj (by omega),some (.int y),rfl,?_,za,Same.updF sm hD⟩;rw[take_add_one,hy];simp
     ·rintro zs τ H5 ⟨o,rfl,rfl,hD5,sm⟩
      rw[length_map,take_length] at hD5;refine⟨D,_,rfl,hD0,hD5,⟨?_,?_,?_,?_,?_⟩,by rw[length_map,hl];omega,s4.same sm,X4.trans (Ext.same sm)⟩
      ·rw[length_map,hl];omega
      ·rw[length_map,hl];omega
      ·rw[pairwise_map]
       exact up.imp fun h=>by omega
      ·intro y hy
       obtain⟨z,hz,rfl⟩:=mem_map.mp hy;have h1:=lo z hz;have h2:=hi' x (by simp);omega
      ·intro y hy
       obtain⟨z,hz,rfl⟩:=mem_map.mp hy;rcases mem_append.mp hz with h | h
       ·have:=(List.pairwise_append.mp up).2.2 z h x (by simp)
        omega
       ·rw[mem_singleton.mp h];omega
    ·refine⟨p,_,rfl,hp0,hp4,⟨?_,?_,up,lo,fun y hy=>?_⟩,by rw[hl];omega,s4,X4⟩
     ·rw[hl];omega
     ·rw[hl];omega
     ·have:=hi' y hy
      omega
   ·rintro σ' H4 ⟨h,hs',rfl,hh0,hh,wh,hmo,s4,x4⟩
    exact⟨_,rfl,k h hs' H4 hh0 hh wh hmo s4 x4⟩
def tri:Nat->Nat
 |0=>0
 |n+1=>tri n+n
theorem VR:∀ n,n<=12->tri n<=66:=by decide
theorem UY{n j:Nat}(h:j<n):tri j+j<=tri n:=by
 induction n with
 |zero=>omega
 |succ n ih =>
  show tri j+j<=tri n+n;by_cases c:j=n
  ·subst c;exact Nat.le_refl _
  ·have:=ih (by omega)
   omega
theorem zb0{b1 b2 b3 b4 b5 b6:Bool}{d:Int}(h0:0<=d)(h1:d<6):∃ z,atI [V.bl b1,V.bl b2,V.bl b3,V.bl b4,V.bl b5,V.bl b6] d=some (.bl z):=by
 rcases(by omega:d=0\/d=1\/d=2\/d=3\/d=4\/d=5) with rfl | rfl | rfl | rfl | rfl | rfl
 all_goals exact⟨_,rfl⟩
theorem LnAt.cut{H:Hp}{rs:List V}{ls:LP}{n:Nat}(h:LnAt H rs ls):LnAt H (rs.drop n++rs.take n) (ls.drop n++ls.take n):=by
 refine⟨by simp[h.1],fun i r p e1 e2=>?_⟩;by_cases c:i<(ls.drop n).length
 ·rw[List.getElem?_append_left (by simp[h.1];simpa using c)] at e1
  rw[List.getElem?_append_left c] at e2;rw[List.getElem?_drop] at e1 e2;exact h.2 _ r p e1 e2
 ·rw[List.getElem?_append_right (by simp[h.1];simpa using c)] at e1
  rw[List.getElem?_append_right (by omega)] at e2;have e:(rs.drop n).length=(ls.drop n).length:=by simp[h.1]
  rw[e,List.getElem?_take] at e1;rw[List.getElem?_take] at e2
  split at e1
  ·rw[if_pos ‹_›] at e2
   exact h.2 _ r p e1 e2
  ·cases e1
theorem UL{rs:List V}{n:Nat}(h:n<=rs.length):cutV rs (some (n:Int)) none=rs.drop n:=by
 have h1:HT.sIx rs.length 0 (some (n:Int))=n:=by
  unfold HT.sIx;show(if (n:Int)<0 then _ else _)=n;rw[if_neg (by omega)];simp;omega
 have h2:HT.sIx rs.length rs.length none=rs.length:=rfl;unfold cutV;rw[h1,h2];exact take_of_length_le (by rw[length_drop];omega)
theorem UK{rs:List V}{n:Nat}(h:n<=rs.length):cutV rs none (some (n:Int))=rs.take n:=by
 have h1:HT.sIx rs.length rs.length (some (n:Int))=n:=by
  unfold HT.sIx;show(if (n:Int)<0 then _ else _)=n;rw[if_neg (by omega)];simp;omega
 have h2:HT.sIx rs.length 0 none=0:=rfl;unfold cutV;rw[h1,h2];simp
theorem zaX{hs:LI}(nd:hs.Nodup){i j:Nat}{x:Int}(h1:hs[i]?=some x)(h2:hs[j]?=some x):i=j:=by
 obtain⟨a1,b1⟩:=List.getElem?_eq_some_iff.mp h1;obtain⟨a2,b2⟩:=List.getElem?_eq_some_iff.mp h2;exact(List.getElem?_inj a1 nd).mp (h1.trans h2.symm)
structure Lfd (hs:LI) (ls:LP) (j k:Nat):Prop where
 nd:ls.Nodup
 at_:∀ p∈ls,∃ k' j',hs[k']?=some p.1/\hs[j']?=some p.2/\k'<j'/\(j'<j\/(j'=j/\k'<k))
 le:ls.length<=tri j+k
theorem Lfd.skip{hs:LI}{ls:LP}{j k:Nat}(h:Lfd hs ls j k):Lfd hs ls j (k+1) :=
 ⟨h.nd,fun p hp=>by
  obtain⟨k',j',h1,h2,h3,h4⟩:=h.at_ p hp;exact⟨k',j',h1,h2,h3,by omega⟩,by have:=h.le;omega⟩
theorem Lfd.row{hs:LI}{ls:LP}{j:Nat}(h:Lfd hs ls j j):Lfd hs ls (j+1) 0 :=
 ⟨h.nd,fun p hp=>by
  obtain⟨k',j',h1,h2,h3,h4⟩:=h.at_ p hp;exact⟨k',j',h1,h2,h3,by omega⟩,h.le⟩
theorem Lfd.add{hs:LI}{ls:LP}{j k:Nat}{x y:Int}(W:Hs hs)(h:Lfd hs ls j k)(kj:k<j)(hx:hs[k]?=some x)(hy:hs[j]?=some y):Lfd hs (ls++[(x,y)]) j (k+1):=by
 have nd:=WK W;refine⟨?_,fun p hp=>?_,?_⟩
 ·rw[nodup_append]
  refine⟨h.nd,by simp,fun a ha b hb z=>?_⟩;rw[mem_singleton.mp hb] at z;obtain⟨k',j',h1,h2,h3,h4⟩:=h.at_ a ha;rw[z] at h1 h2;have:=zaX nd h1 hx;have:=zaX nd h2 hy;omega
 ·rcases mem_append.mp hp with h' | h'
  ·obtain⟨k',j',h1,h2,h3,h4⟩:=h.at_ p h'
   exact⟨k',j',h1,h2,h3,by omega⟩
  ·rw[mem_singleton.mp h']
   exact⟨k,j,hx,hy,kj,.inr ⟨rfl,by omega⟩⟩
 ·rw[length_append]
  have:=h.le;simp;omega
theorem Lfd.ls{hs:LI}{ls:LP}{n:Nat}(W:Hs hs)(h:Lfd hs ls hs.length 0):Ls hs (ls.drop n++ls.take n):=by
 have pm:(ls.drop n++ls.take n).Perm ls:=List.perm_append_comm.trans (by rw[take_append_drop]);refine⟨pm.nodup_iff.mpr h.nd,fun p hp=>?_,?_⟩
 ·obtain⟨k',j',h1,h2,h3,_⟩:=h.at_ p (pm.mem_iff.mp hp)
  obtain⟨a1,b1⟩:=List.getElem?_eq_some_iff.mp h1;obtain⟨a2,b2⟩:=List.getElem?_eq_some_iff.mp h2;refine⟨b1 ▸ getElem_mem a1,b2 ▸ getElem_mem a2,?_⟩;rw[<- b1,<- b2];exact List.pairwise_iff_getElem.mp W.up _ _ a1 a2 h3
 ·rw[pm.length_eq]
  have:=h.le;have:=VR hs.length W.l12;omega
def zcO:Sp:=fun vs H Q _=>∃ (l h:Addr) (hs:LI),vs=[.ref l,.ref h]/\XsAt H l/\H h=some (.lst (hs.map V.int))/\h≠l/\Hs hs /\
 ∀ (q:Addr) (rs:List V) (ls:LP) (H':Hp),H q=none->H' q=some (.lst rs)->LnAt H' rs ls->Ls hs ls->ls.length<=tri hs.length->XsAt H' l->Ext l H H'->Q (.ref q) H'
theorem Vu{tA tB:TE}{σ:St}{H:Hp}{Q:VK}(k:(∀ b:Bool,Q (.bl b) H)->zbE tA tB σ H Q)(J:∀ b:Bool,Q (.bl b) H):zbE tA tB σ H Q:=k J
theorem zce(T:Txt w K mg a):FnOk P w K mg base CX0 2 402 (dK K 402) ["_law_xs", "_law_hands_here"] zcO:=by
 have c__law_take:=cal P base T 25 rfl (xH T);refine(T.fn 27 rfl).ok (scp 27 rfl) (fun vs H Q E h=>?_) (fun cdv A outer s H vs Q E hr h=>?_)
 ·obtain⟨l,h,hs,rfl,_⟩:=h
  rfl
 ·obtain⟨l,h,hs,rfl,sl,hh,nhl,wh,k⟩:=h
  have l12:=wh.l12;refine zT (zd (zk (i:=2) (scp 27 rfl).nd rfl (Or.inl rfl) (zn c__law_take hr.m (zb (w_pv 0) (zK ze w_pa_nil))))
   (zd (zk (i:=3) (scp 27 rfl).nd rfl (Or.inl rfl) (w_pe_lst w_pa_nil))
   (zd (zL PassesOwn.never rfl (yZ rfl (T.n 4 rfl) (zM (zl zw (by rfl) (T.n 0 rfl) yg (zb (w_pv 1) w_pa_nil)) w_pa_nil)) (zm (i:=4) (scp 27 rfl).nd rfl (Or.inl rfl))
    (w_pss_one (zL PassesOwn.never rfl (yZ rfl (T.n 4 rfl) (zb (w_pv 4) w_pa_nil)) (zm (i:=5) (scp 27 rfl).nd rfl (Or.inl rfl))
     (zd (zk (i:=6) (scp 27 rfl).nd rfl (Or.inl rfl) (Yz (zP yu (zo vA (w_pv 4) (w_pv 5)) ze (zu _)) (yz (zP yu (zo vA (w_pv 4) (w_pv 5)) (zo vA (zl zw (by rfl) (T.n 0 rfl) yg (zb (w_pv 1) w_pa_nil)) ze) (zu _)))))
     (zd (zk (i:=7) (scp 27 rfl).nd rfl (Or.inl rfl) (zn c__law_take hr.m (zb (w_pv 0) (zK ze w_pa_nil))))
     (w_pss_one (zq (zA (zx zY (w_pe_lst (zb (w_pv 6) (w_pa_cons (zP Zi (w_pv 7) ze (zu _)) (w_pa_cons (zP Zi (w_pv 7) ze (zu _)) (w_pa_cons (zP Zi (w_pv 7) ze (zu _)) (zK zy (w_pa_cons (Yz (zP yu (w_pv 5) (zo wm (w_pv 7) (w_pv 4)) (zu _)) (yz (zP yu (w_pv 7) ze (zu _)))) w_pa_nil))))))) (w_pv 2) (fun _ _=>rfl)))
      (w_pss_one (w_ps_expr (w_pe_bm F.plainAttrs_list F.slot_list_append F.type_list_append yc (w_pv 3) (yD (zD (w_pa_cons (zx zY (w_pv 1) (w_pv 5) (fun _ _=>rfl)) (w_pa_cons (zx zY (w_pv 1) (w_pv 4) (fun _ _=>rfl)) w_pa_nil))) w_pa_nil))))
      zi)))))))
   (zd (zk (i:=8) (scp 27 rfl).nd rfl (Or.inl rfl) (zn c__law_take hr.m (zb (w_pv 0) (xn (zo yw (zl zw (by rfl) (T.n 0 rfl) yg (zb (w_pv 3) w_pa_nil)) ze) w_pa_nil))))
   (w_pss_one (zg (zo yU (zH yq (w_pv 3) (w_po_some (w_pv 8)) yj) (zH yq (w_pv 3) yj (w_po_some (w_pv 8)))))))))) ?_
  refine⟨_,rfl,l,6,rfl,sl,by decide,fun way H1 g1 g2 s1 x1=>?_⟩;refine⟨(by show 0<=sizeLine;decide),fun p hp=>?_⟩;have npl:=s1.ne hp;have hh1:=x1 _ _ hh nhl;have nhp:h≠p:=fun z=>by rw[z,hp] at hh1;cases hh1
  refine⟨_,rfl,h,_,rfl,.inl (sO ((sW hp) _ _ hh1)),_,rfl,?_⟩;rw[length_map];refine⟨by omega,by omega,?_⟩;rw[show((hs.length:Int)).toNat=hs.length by omega];have St:∀ {rs:List V}{ls:LP}{H':Hp},LnAt H' rs ls->True:=fun _=>trivial;refine for_range (lo:=0) (fun j σ H'=>∃ (o4 o5 o6 o7:Option V) (rs:List V) (ls:LP),σ=[some (.ref l),some (.ref h),some (.int way),some (.ref p),o4,o5,o6,o7,none]/\H' p=some (.lst rs)/\LnAt H' rs ls/\Lfd hs ls j 0/\XsAt H' l/\Ext l H1 H') ?_ ?_ ?_
  ·exact⟨none,none,none,none,[],[],rfl,za,⟨rfl,fun i r q e=>by cases e⟩,⟨nodup_nil,(fun q hq=>nomatch hq),zero_le _⟩,s1.new hp,Ext.new hp⟩
  ·rintro j σ H2 hj ⟨o4,o5,o6,o7,rs,ls,rfl,hp2,L,F,s2,x2⟩
   refine⟨_,rfl,0+(j:Int),rfl,by omega,by omega,?_⟩;rw[show(0+(j:Int)).toNat=j by omega];refine for_range (lo:=0) (fun i σ H'=>∃ (o5 o6 o7:Option V) (rs:List V) (ls:LP),σ=[some (.ref l),some (.ref h),some (.int way),some (.ref p),some (.int (0+(j:Int))),o5,o6,o7,none]/\H' p=some (.lst rs)/\LnAt H' rs ls/\Lfd hs ls j i/\XsAt H' l/\Ext l H1 H') ?_ ?_ ?_
   ·exact⟨o5,o6,o7,rs,ls,rfl,hp2,L,F,s2,x2⟩
   ·rintro i σ H3 hi ⟨o5,o6,o7,rs,ls,rfl,hp3,L,F,s3,x3⟩
    have hj2:hs[j]?=some hs[j]:=by simp[hj]
    have hi2:hs[i]?=some (hs[i]'(by omega)):=by simp
    have hh3:=x3 _ _ hh1 nhl;refine Vu (fun hJ=>⟨_,rfl,_,rfl,_,_,rfl,rfl,rfl,_,rfl,ite2 (fun _=>hJ _) (fun _=>⟨_,rfl,_,rfl,_,_,rfl,rfl,_,rfl,h,_,rfl,.inl (sO hh3),_,_,rfl,rfl,rfl,hJ _⟩)⟩) (fun bb=>?_);refine⟨_,rfl,l,6,rfl,s3,by decide,fun dr H4 a1 a2 s4 x4=>?_⟩;refine⟨_,rfl,_,rfl,_,_,rfl,rfl,_,rfl,_,_,rfl,rfl,_,rfl,_,_,rfl,rfl,?_⟩;refine Vu (fun hJ=>⟨_,rfl,_,rfl,_,rfl,_,_,rfl,rfl,(by show(0:Int)<0+(j:Int);omega),rfl,_,rfl,ite2 (fun _=>hJ _) (fun _=>⟨_,rfl,rfl,hJ _⟩)⟩) (fun bb2=>?_);have hp4:=x4 _ _ hp3 npl;have hh4:=x4 _ _ hh3 nhl;have L4:LnAt H4 rs ls:=⟨L.1,fun n r pr e1 e2=>by
     obtain⟨q,e,t⟩:=L.2 n r pr e1 e2;exact⟨q,e,x4 _ _ t fun z=>by
      obtain⟨ns,e3,_⟩:=s3;rw[z,e3] at t;cases t⟩⟩
    have X4:=x3.trans x4;refine⟨by show 6<=sizeLine;decide,fun q6 hq6=>?_⟩;have y5:∀ o,Same H4 (L2.upd H4 q6 o):=fun o=>sW hq6;have u5:∀ o,L2.upd H4 q6 o q6=some o:=fun o=>za;generalize L2.upd H4 q6=f at *;obtain⟨z,hz⟩:=zb0 (b1:=_) (b2:=_) (b3:=_) (b4:=_) (b5:=_) (b6:=_) g1 g2;refine⟨_,rfl,q6,_,_,_,rfl,rfl,sO (u5 _),hz,_,rfl,?_⟩;have hp5:=fun o=>y5 o _ _ hp4;have hh5:=fun o=>y5 o _ _ hh4;have L5:=fun o=>L4.same (y5 o);have s5:=fun o=>s4.same (y5 o);have X5:=fun o=>X4.trans (Ext.same (y5 o));refine ite2 (fun _=>?_) (fun _=>?_)
    ·refine⟨_,rfl,.inl ⟨rfl,_,sO (hp5 _)⟩,_,rfl,_,rfl,h,_,_,V.int (hs[i]'(by omega)),rfl,rfl,sO (hh5 _),(by rw[Int.zero_add];exact zV (by simp)),_,rfl,_,rfl,h,_,_,V.int hs[j],rfl,rfl,sO (hh5 _),(by rw[Int.zero_add];exact zV (by simp[hj])),(by show 2<=sizeLine;decide),fun qt hqt=>?_⟩
     have y6:=sW (o:=HO.tup [V.int (hs[i]'(by omega)),V.int hs[j]]) hqt;have l66:=F.le;refine⟨p,_,_,rfl,rfl,y6 _ _ (hp5 _),(by rw[L.1];have:=VR hs.length l12;have:=UY hj;exact zj (by omega)),?_⟩;refine⟨_,_,_,_,ls++[(hs[i]'(by omega),hs[j])],rfl,za,LnAt.updL (y6 _ _ (hp5 _)) (LnAt.snoc (p:=(hs[i]'(by omega),hs[j])) ((L5 _).same y6) (q:=qt) za),F.add wh hi hi2 hj2,((s5 _).same y6).upd npl.symm.symm,?_⟩;intro b o e nb;rw[upd_ne (nZ e hp)];exact((X5 _).trans (Ext.same y6)) b o e nb
    ·exact⟨_,_,_,rs,ls,rfl,hp5 _,L5 _,F.skip,s5 _,X5 _⟩
   ·rintro σ H3 ⟨o5,o6,o7,rs,ls,rfl,hp3,L,F,s3,x3⟩
    exact⟨_,_,_,_,rs,ls,rfl,hp3,L,F.row,s3,x3⟩
  ·rintro σ H2 ⟨o4,o5,o6,o7,rs,ls,rfl,hp2,L,F,s2,x2⟩
   refine⟨_,rfl,_,rfl,p,_,rfl,.inl (sO hp2),_,_,rfl,rfl,l,_,rfl,s2,by omega,fun d H3 a1 a2 s3 x3=>?_⟩;obtain⟨n,rfl⟩:∃ n:Nat,d=n:=⟨d.toNat,by omega⟩;have hp3:=x3 _ _ hp2 npl;have L3:LnAt H3 rs ls:=⟨L.1,fun n r pr e1 e2=>by
      obtain⟨q,e,t⟩:=L.2 n r pr e1 e2;exact⟨q,e,x3 _ _ t fun z=>by
       obtain⟨ns,e3,_⟩:=s2;rw[z,e3] at t;cases t⟩⟩
   refine⟨_,rfl,_,rfl,_,rfl,p,_,rfl,sO hp3,fun q1 hq1=>?_⟩;have y4:=sW (o:=HO.lst (cutV rs (some (n:Int)) none)) hq1;refine⟨_,rfl,_,rfl,_,rfl,p,_,rfl,sO (y4 _ _ hp3),fun q2 hq2=>?_⟩;have y5:=sW (o:=HO.lst (cutV rs none (some (n:Int)))) hq2;have hnl:n<=rs.length:=by omega
   have l66:=F.le;have:=VR hs.length l12;have l1:=yo rs (some (n:Int)) none;have l2:=yo rs none (some (n:Int));have lL:=L.1;refine⟨q1,q2,_,_,rfl,rfl,y5 _ _ za,za,(Nat.le_of_lt (zj (by omega))),fun q hq=>?_⟩;have y6:=sW (o:=HO.lst (cutV rs (some (n:Int)) none++cutV rs none (some (n:Int)))) hq;have y456:=(y4.trans y5).trans y6;refine k q (rs.drop n++rs.take n) (ls.drop n++ls.take n) _ ((((x1.trans x2).trans x3).trans (Ext.same (y4.trans y5))).free ((s3.same (y4.trans y5)).ne hq) hq) (by rw[za,UL hnl,UK hnl]) (L3.same y456).cut (F.ls wh) (by have:=F.le;rw[length_append,length_drop,length_take];omega) (s3.same y456) ?_;exact(x1.trans x2).trans (x3.trans (Ext.same y456))
theorem LnAt.extX{H H':Hp}{l:Addr}{rs:List V}{ls:LP}(h:LnAt H rs ls)(x:XsAt H l)(y:Ext l H H'):LnAt H' rs ls:=⟨h.1,fun n r p a1 a2=>by
 obtain⟨qq,b1,b2⟩:=h.2 n r p a1 a2;exact⟨qq,b1,y _ _ b2 fun z=>by
  obtain⟨ms,e',_⟩:=x;rw[z,e'] at b2;cases b2⟩⟩
theorem LnAt.updN{H:Hp}{p:Addr}{o:HO}{u:HO}{rs:List V}{ls:LP}(h:LnAt H rs ls)(hp:H p=some u)(hu:∀ xs,u≠.tup xs):LnAt (L2.upd H p o) rs ls:=⟨h.1,fun n r q a1 a2=>by
 obtain⟨qq,b1,b2⟩:=h.2 n r q a1 a2;exact⟨qq,b1,by rw[upd_ne (fun z=>by rw[z,hp] at b2;injection b2 with b2;exact hu _ b2)];exact b2⟩⟩
structure Gd (hs:LI) (ls:LP) (pf:Int->Option Int) (pa:Int->LI) (us:LI) (bs:LP):Prop where
 U:UpP us pf pa
 m:∀ x,x∈us↔x∈hs
 ad:∀ x∈us,∀ y,pf x=some y->adB ls x y=true
 B:Brs hs bs
 inl:∀ b∈bs,b∈ls
 df:∀ b∈bs,ldr pa b.1≠ldr pa b.2
 cov:∀ p∈ls,ldr pa p.1≠ldr pa p.2->∃ b∈bs,jk (ldr pa) b=jk (ldr pa) p
def V0:Sp:=fun vs H Q _=>∃ (d:Addr) (pf:Int->Option Int) (us:LI) (x:Int),vs=[.ref d,.int x]/\H d=some (.dK (tabV (fun x=>opV (pf x)) us))/\us.length<=12/\Cl us pf/\x∈us/\(∀ (l:Addr) (p:LI),En pf x p->H l=none->Q (.ref l) (upd H l (.lst (p.map V.int))))/\((¬∃ p,En pf x p)->∀ H',Same H H'->Q .non H')
theorem Xc(T:Txt w K mg a):FnOk P w K mg base CX0 1 421 (dK K 421) ["_law_parents", "_law_hand"] V0:=by
 refine(T.fn 30 rfl).ok (scp 30 rfl) (fun vs H Q E h=>?_) (fun cdv A outer s H vs Q E hr h=>?_)
 ·obtain⟨d,pf,us,x,rfl,_⟩:=h
  rfl
 ·obtain⟨d,pf,us,x,rfl,hd,l12,C,hx,k,k0⟩:=h
  have hu:=yY hr;refine zT (zd (zk (i:=2) (scp 30 rfl).nd rfl (Or.inl rfl) (w_pe_lst (zb (w_pv 1) w_pa_nil)))
   (zd (xv PassesOwn.never (zh wa (yP hu (w_pv 0) (zx zY (w_pv 2) (xa xz ze) (fun _ _=>rfl)) (fun _ _=>rfl)) zW (zu _))
    (zd (zq (zh Zj (zl zw (by rfl) (T.n 0 rfl) yg (zb (w_pv 2) w_pa_nil)) (zl vb (by rfl) (T.n 0 rfl) yg (zb (w_pv 0) w_pa_nil)) (zu _))
     (w_pss_one (zg zW))
     zi)
    (w_pss_one (w_ps_expr (w_pe_bm F.plainAttrs_list F.slot_list_append F.type_list_append yc (w_pv 2) (w_pa_cons (yP hu (w_pv 0) (zx zY (w_pv 2) (xa xz ze) (fun _ _=>rfl)) (fun _ _=>rfl)) w_pa_nil))))))
   (w_pss_one (zg (w_pv 2))))) ?_
  refine⟨_,rfl,(by show 1<=sizeLine;decide),fun l hl=>?_⟩;have sm:∀ o,Same H (upd H l o):=fun o=>sW hl;refine⟨fun m σ H'=>∃ (ys:LI) (z:Int),m+(ys++[z]).length=us.length+1/\σ=[some (.ref d),some (.int x),some (.ref l)]/\H'=upd H l (.lst ((ys++[z]).map V.int))/\z∈us/\Pre pf x ys z,⟨us.length,[],x,rfl,rfl,rfl,hx,Pre.z⟩,?_⟩;rintro m σ H' ⟨ys,z,hm,rfl,rfl,hz,hp⟩;have hlast:atI ((ys++[z]).map V.int) (-1)=some (V.int z):=by rw[map_append];exact at_last
  have e2:∀ y:Int,(ys++[z]++[y]).length=(ys++[z]).length+1:=fun y=>by simp
  refine⟨_,rfl,_,rfl,_,rfl,l,_,-1,_,rfl,rfl,sO za,hlast,d,_,rfl,vP ((sm _) _ _ hd) hz,?_⟩;cases h1:pf z with
  |none =>
   refine⟨rfl,_,rfl,zF rfl ?_⟩;refine⟨_,rfl,?_⟩;exact k l _ (hp.end_ h1) hl
  |some y =>
   refine⟨rfl,_,rfl,iteT ?_⟩;refine⟨_,fun σ' H' h=>h,?_⟩;by_cases c:us.length<(ys++[z]).length
   ·refine⟨_,rfl,l,_,rfl,.inl (sO za),_,rfl,d,_,rfl,(sm _) _ _ hd,_,_,rfl,rfl,_,rfl,iteB (by rw[length_map,tabV_len];exact decide_eq_true (by omega)) ?_⟩
    exact k0 (hp.long C hx h1 (by omega)) _ (sm _)
   refine⟨_,rfl,l,_,rfl,.inl (sO za),_,rfl,d,_,rfl,(sm _) _ _ hd,_,_,rfl,rfl,_,rfl,zF (by rw[length_map,tabV_len];exact decide_eq_false (by omega)) ?_⟩;refine⟨_,rfl,.inl ⟨rfl,_,sO za⟩,_,rfl,_,rfl,_,rfl,l,_,-1,_,rfl,rfl,sO za,hlast,d,_,rfl,vP ((sm _) _ _ hd) hz,l,_,_,rfl,rfl,za,(by rw[length_map];exact zj (by omega)),?_⟩;rw[vM,h1];refine⟨m-1,by omega,ys++[z],y,by have:=e2 y;omega,rfl,?_,C z hz y h1,hp.s h1⟩;rw[map_append (l₂:=[y])];rfl
def zcG:Sp:=fun vs H Q _=>∃ (d:Addr) (pf:Int->Option Int) (pa:Int->LI) (us:LI) (x:Int),vs=[.ref d,.int x]/\H d=some (.dK (tabV (fun x=>opV (pf x)) us))/\us.length<=12/\UpP us pf pa/\x∈us/\∀ (l:Addr),H l=none->Q (.ref l) (upd H l (.lst ((pa x).map V.int)))
theorem zb5(T:Txt w K mg a):FnOk P w K mg base CX0 1 421 (dK K 421) ["_law_parents", "_law_hand"] zcG:=(Xc T).imp fun vs H Q E h=>by
 obtain⟨d,pf,pa,us,x,rfl,hd,l12,U,hx,k⟩:=h;exact⟨d,pf,us,x,rfl,hd,l12,U.cl,hx,fun l p hp hl=>by rw[hp.fn (U.en hx)];exact k l hl,fun h=>absurd ⟨_,U.en hx⟩ h⟩
def zbQ:Sp:=fun vs H Q _=>∃ (d:Addr) (pf:Int->Option Int) (pa:Int->LI) (us:LI) (x y:Int),vs=[.ref d,.int x,.int y]/\H d=some (.dK (tabV (fun x=>opV (pf x)) us))/\us.length<=12/\UpP us pf pa/\x∈us/\y∈us/\∀ (t:Addr) (H':Hp),H t=none->H' t=some (.tup [.int (jk (ldr pa) (x,y)).1,.int (jk (ldr pa) (x,y)).2])->Same H H'->Q (.ref t) H'
theorem zaR(T:Txt w K mg a):FnOk P w K mg base CX0 2 428 (dK K 428) ["_law_parents", "_law_one", "_law_other"] zbQ:=by
 have c__law_up:Callee P w K mg base "_law_up" 421 (dK K 421) ["_law_parents", "_law_hand"] 1 zcG:=⟨zb5 T,(T.g 30 rfl),(T.fn 30 rfl).kp,(T.bi 30 rfl)⟩;refine(T.fn 31 rfl).ok (scp 31 rfl) (fun vs H Q E h=>?_) (fun cdv A outer s H vs Q E hr h=>?_)
 ·obtain⟨d,pf,pa,us,x,y,rfl,_⟩:=h
  rfl
 ·obtain⟨d,pf,pa,us,x,y,rfl,hd,l12,U,hx,hy,k⟩:=h
  have lst:∀ {z},z∈us->atI ((pa z).map V.int) (-1)=some (V.int (ldr pa z)):=fun {z} hz=>by
   obtain⟨⟨ys,e⟩,_⟩:=U.ld hz;rw[e,map_append];exact at_last
  refine zT (w_pss_one (zg (zU xk (by rfl) (T.n 11 rfl) yV (zM (zl we (by rfl) (T.n 8 rfl) xu (w_pa_cons (w_pe_lst (w_pa_cons (zx zY (zn c__law_up hr.m (zb (w_pv 0) (zb (w_pv 1) w_pa_nil))) (xa xz ze) (fun _ _=>rfl)) (w_pa_cons (zx zY (zn c__law_up hr.m (zb (w_pv 0) (zb (w_pv 2) w_pa_nil))) (xa xz ze) (fun _ _=>rfl)) w_pa_nil))) w_pa_nil)) w_pa_nil)))) ?_;refine⟨_,rfl,_,rfl,d,pf,pa,us,x,rfl,hd,l12,U,hx,fun l1 hl1=>?_⟩;have s1:=sW (o:=HO.lst ((pa x).map V.int)) hl1;refine⟨_,rfl,l1,_,-1,_,rfl,rfl,sO za,lst hx,?_⟩;generalize upd H l1 (HO.lst ((pa x).map V.int))=H1 at *;refine⟨_,rfl,_,rfl,d,pf,pa,us,y,rfl,s1 _ _ hd,l12,U,hy,fun l2 hl2=>?_⟩;have s2:=s1.trans (sW (o:=HO.lst ((pa y).map V.int)) hl2);refine⟨_,rfl,l2,_,-1,_,rfl,rfl,sO za,lst hy,?_⟩;generalize upd H1 l2 (HO.lst ((pa y).map V.int))=H2 at *;refine⟨(by show 2<=sizeLine;decide),fun pl hpl=>?_⟩;have s3:=s2.trans (sW (o:=HO.lst [V.int (ldr pa x),V.int (ldr pa y)]) hpl);refine⟨pl,[ldr pa x,ldr pa y],rfl,sO za,(by show 2<64;decide),fun pm ms hpm pmm sd=>?_⟩;rw[vq pmm sd];have s4:=s3.trans (sW (o:=HO.lst ([min (ldr pa x) (ldr pa y),max (ldr pa x) (ldr pa y)].map V.int)) hpm);refine⟨pm,_,rfl,.inl ⟨sO za,fun pt hpt=>?_⟩⟩;exact k pt _ (s4.free hpt) za (s4.trans (sW hpt))
open L2.Sco (PT PsAt)
def rdW(pa:Int->LI)(h n:Int):LI:=pa n++(pa h).reverse.drop 1
def rdO(pa:Int->LI)(h n:Int)(b:Int×Int):LI:=rdW pa b.1 n++rdW pa h b.2
def dbl(ls:LP):LP:=ls.flatMap fun p=>[p,(p.2,p.1)]
theorem ZX{ls:LP}{p:Int×Int}:dbl (ls++[p])=dbl ls++[p]++[(p.2,p.1)]:=by
 unfold dbl;rw[List.flatMap_append];simp
theorem mem_dbl{ls:LP}{q:Int×Int}:q∈dbl ls↔q∈ls\/(q.2,q.1)∈ls:=by
 unfold dbl;rw[List.mem_flatMap]
 constructor
 ·rintro⟨p,hp,h⟩
  rcases mem_cons.mp h with e | e
  ·rw[e];exact .inl hp
  ·rw[mem_singleton.mp e];exact .inr hp
 ·rintro(h | h)
  ·exact⟨q,h,mem_cons_self⟩
  ·exact⟨_,h,by simp⟩
theorem dbl_len:∀ {ls:LP},(dbl ls).length=2*ls.length
 |[]=>rfl
 |p::ls=>by
  have ih:=dbl_len (ls:=ls);unfold dbl at ih ⊢;rw[flatMap_cons,length_append,ih,length_cons,length_cons];simp;omega
theorem zdv{rs:List V}(h:1<=rs.length):cutV rs (some 1) none=rs.drop 1:=UL (n:=1) h
theorem UpP.len{us:LI}{pf:Int->Option Int}{pa:Int->LI}(U:UpP us pf pa){x:Int}(hx:x∈us):1<=(pa x).length/\(pa x).length<=us.length:=by
 obtain⟨⟨ys,e⟩,_,_,h4,h5⟩:=U.ld hx;exact⟨by rw[e];simp,xy h4 h5⟩
theorem YQ{us:LI}{pf:Int->Option Int}{pa:Int->LI}(U:UpP us pf pa){h n:Int}(hh:h∈us)(hn:n∈us):(rdW pa h n).length<=2*us.length:=by
 have h1:=(U.len hh).2;have h2:=(U.len hn).2;unfold rdW;rw[length_append,length_drop,List.length_reverse];omega
def zbL(a:Ad):Sp:=fun vs H Q _=>∃ (p dx dp ob:Addr) (pf:Int->Option Int) (pa:Int->LI) (us:LI) (x:Int),vs=[.ref p,.int x]/\WayR a H p pf us dx dp ob/\UpP us pf pa/\x∈us/\∀ (l:Addr),H l=none->Q (.ref l) (upd H l (.lst ((pa x).map V.int)))
theorem Vv(T:Txt w K mg a):FnOk P w K mg base CX0 1 112 (dK K 112) ["self", "hand"] (zbL a):=(zaM T).imp fun vs H Q E h=>by
 obtain⟨p,dx,dp,ob,pf,pa,us,x,rfl,W,U,hx,k⟩:=h;refine⟨p,dx,dp,ob,pf,us,x,rfl,W,U.cl,hx,fun l ys z hl hz hor=>?_⟩;rcases hor with⟨_,h⟩ | ⟨_,h⟩
 ·rw[<- (U.en hx).fn h]
  exact k l hl
 ·exact absurd ⟨_,U.en hx⟩ h
def zbI(a:Ad):Sp:=fun vs H Q _=>∃ (p dx dp ob:Addr) (pf:Int->Option Int) (pa:Int->LI) (us:LI) (h n:Int),vs=[.ref p,.int h,.int n]/\WayR a H p pf us dx dp ob/\UpP us pf pa/\h∈us/\n∈us/\∀ (l:Addr) (H':Hp),H l=none->H' l=some (.lst ((rdW pa h n).map V.int))->Same H H'->Q (.ref l) H'
theorem zaJ(T:Txt w K mg a):FnOk P w K mg base CX0 2 217 (dK K 217) ["way", "hand", "neighbour"] (zbI a):=by
 refine(T.fn 10 rfl).ok (scp 10 rfl) (fun vs H Q E h=>?_) (fun cdv A outer s H vs Q E hr h=>?_)
 ·obtain⟨p,dx,dp,ob,pf,pa,us,h,n,rfl,_⟩:=h
  rfl
 ·obtain⟨p,dx,dp,ob,pf,pa,us,h,n,rfl,W,U,hh,hn,k⟩:=h
  have l12:=W.l12;have lh:=U.len hh;have ln:=U.len hn;refine zT (zd (zk (i:=3) (scp 10 rfl).nd rfl (Or.inl rfl) (v9 rfl rfl (T.n 6 rfl) rfl (T.n 12 rfl) (zM (zC (w_pv 0) (zb (w_pv 1) w_pa_nil)) w_pa_nil)))
   (w_pss_one (zg (zo yU (zC (w_pv 0) (zb (w_pv 2) w_pa_nil)) (zH yq (w_pv 3) (w_po_some ze) yj))))) ?_
  refine mtV rfl W.p rfl (T.cl 0 rfl) (T.mt 45 rfl) (Vv (P:=P) (w:=w) T) hr.m (T.bi 45 rfl) ⟨_,rfl,p,dx,dp,ob,pf,pa,us,h,rfl,W,U,hh,fun l1 hl1=>?_⟩;refine⟨l1,_,rfl,sO za,fun l2 hl2=>?_⟩;have s2:=(sW (o:=HO.lst ((pa h).map V.int)) hl1).trans (sW (o:=HO.lst ((pa h).map V.int).reverse) hl2);have h2:=za (H:=upd H l1 (HO.lst ((pa h).map V.int))) (a:=l2) (o:=HO.lst ((pa h).map V.int).reverse);generalize upd (upd H l1 (HO.lst ((pa h).map V.int))) l2 (HO.lst ((pa h).map V.int).reverse)=H2 at *;have W2:=W.same s2;refine mtV rfl W2.p rfl (T.cl 0 rfl) (T.mt 45 rfl) (Vv (P:=P) (w:=w) T) hr.m (T.bi 45 rfl) ⟨_,rfl,p,dx,dp,ob,pf,pa,us,n,rfl,W2,U,hn,fun l3 hl3=>?_⟩;have s3:=sW (o:=HO.lst ((pa n).map V.int)) hl3;have h3:=za (H:=H2) (a:=l3) (o:=HO.lst ((pa n).map V.int));generalize upd H2 l3 (HO.lst ((pa n).map V.int))=H3 at *;refine⟨_,rfl,_,rfl,l2,_,rfl,sO (s3 _ _ h2),fun l4 hl4=>?_⟩;rw[zdv (by simp;omega)];have s4:=sW (o:=HO.lst (((pa h).map V.int).reverse.drop 1)) hl4;refine⟨l3,l4,_,_,rfl,rfl,s4 _ _ h3,za,Nat.le_of_lt (zj (by rw[length_drop,List.length_reverse,length_map,length_map];omega)),fun l5 hl5=>?_⟩;have s5:=(s2.trans s3).trans s4;refine k l5 _ (s5.free hl5) ?_ (s5.trans (sW hl5));rw[za];unfold rdW;rw[map_append,List.map_drop,List.map_reverse]
def zcJ(a:Ad):Sp:=fun vs H Q _=>∃ (p dx dp ob t:Addr) (pf:Int->Option Int) (pa:Int->LI) (us:LI) (h n:Int) (b:Int×Int),vs=[.ref p,.int h,.int n,.ref t]/\WayR a H p pf us dx dp ob/\UpP us pf pa/\h∈us/\n∈us/\b.1∈us/\b.2∈us/\H t=some (.tup [.int b.1,.int b.2])/\∀ (l:Addr) (H':Hp),H l=none->H' l=some (.lst ((rdO pa h n b).map V.int))->Same H H'->Q (.ref l) H'
theorem zb8(T:Txt w K mg a):FnOk P w K mg base CX0 3 224 (dK K 224) ["way", "hand", "neighbour", "bridge"] (zcJ a):=by
 have c_road_within:=cal P base T 10 rfl (zaJ T);refine(T.fn 11 rfl).ok (scp 11 rfl) (fun vs H Q E h=>?_) (fun cdv A outer s H vs Q E hr h=>?_)
 ·obtain⟨p,dx,dp,ob,t,pf,pa,us,h,n,b,rfl,_⟩:=h
  rfl
 ·obtain⟨p,dx,dp,ob,t,pf,pa,us,h,n,b,rfl,W,U,hh,hn,hb1,hb2,ht,k⟩:=h
  have l12:=W.l12;have n1:=YQ U hb1 hn;have n2:=YQ U hh hb2;refine zT (w_pss_one (zg (zo yU (zn c_road_within hr.m (zb (w_pv 0) (w_pa_cons (zx zX (w_pv 3) ze (fun _ _=>rfl)) (zb (w_pv 2) w_pa_nil)))) (zn c_road_within hr.m (zb (w_pv 0) (zb (w_pv 1) (w_pa_cons (zx zX (w_pv 3) ze (fun _ _=>rfl)) w_pa_nil))))))) ?_;refine⟨_,rfl,_,rfl,t,_,0,_,rfl,rfl,sP ht,rfl,_,rfl,p,dx,dp,ob,pf,pa,us,b.1,n,rfl,W,U,hb1,hn,fun l1 H1 hl1 h1 s1=>?_⟩;refine⟨_,rfl,_,rfl,_,rfl,t,_,1,_,rfl,rfl,sP (s1 _ _ ht),rfl,p,dx,dp,ob,pf,pa,us,h,b.2,rfl,W.same s1,U,hh,hb2,fun l2 H2 hl2 h2 s2=>?_⟩;refine⟨l1,l2,_,_,rfl,rfl,s2 _ _ h1,h2,Nat.le_of_lt (zj (by rw[length_map,length_map];omega)),fun l3 hl3=>?_⟩;have s12:=s1.trans s2;refine k l3 _ (s12.free hl3) ?_ (s12.trans (sW hl3));rw[za];unfold rdO;rw[map_append]
open L2.Sco (PT PsAt)
def kvB(js:List ((Int×Int)×Addr)):List (List Key×V):=js.map fun j=>(yH j.1,V.ref j.2)
def sel(lf:Int->Int)(k:Int×Int)(ds:LP):LP:=ds.filter fun p=>decide ((lf p.1,lf p.2)=k)
structure BR (H:Hp) (d:Addr) (lf:Int->Int) (ds:LP) (js:List ((Int×Int)×Addr)):Prop where
 dd:H d=some (.dT (kvB js))
 nd:(js.map (·.1)).Nodup
 rows:∀ j∈js,∃ rs,H j.2=some (.lst rs)/\LnAt H rs (sel lf j.1 ds)
 no:∀ k,k∉js.map (·.1)->sel lf k ds=[]
structure BB (G H:Hp) (d:Addr) (lf:Int->Int) (ds:LP) (js:List ((Int×Int)×Addr)):Prop extends BR H d lf ds js where
 sm:Ext d G H
 fr:∀ j∈js,G j.2=none
 nda:(js.map (·.2)).Nodup
theorem BR.same{H H':Hp}{d:Addr}{lf:Int->Int}{ds:LP}{js:List ((Int×Int)×Addr)}(b:BR H d lf ds js)(s:Same H H'):BR H' d lf ds js :=
 ⟨s _ _ b.dd,b.nd,fun j hj=>let ⟨rs,h1,h2⟩:=b.rows j hj;⟨rs,s _ _ h1,h2.same s⟩,b.no⟩
theorem BB.same{G H H':Hp}{d:Addr}{lf:Int->Int}{ds:LP}{js:List ((Int×Int)×Addr)}(b:BB G H d lf ds js)(s:Same H H'):BB G H' d lf ds js :=
 ⟨b.toBR.same s,b.sm.trans (Ext.same s),b.fr,b.nda⟩
theorem kvB_keys{js:List ((Int×Int)×Addr)}{k:Int×Int}:yH k∈(kvB js).map (·.1)↔k∈js.map (·.1):=by
 unfold kvB;rw[map_map]
 constructor
 ·intro h
  obtain⟨j,hj,e⟩:=mem_map.mp h;exact mem_map.mpr ⟨j,hj,xj e⟩
 ·intro h
  obtain⟨j,hj,e⟩:=mem_map.mp h;exact mem_map.mpr ⟨j,hj,by rw[<- e];rfl⟩
theorem VF{js:List ((Int×Int)×Addr)}{k:Int×Int}{v:V}(h:yG (kvB js) (yH k)=some v):∃ l,v=.ref l/\(k,l)∈js:=by
 unfold yG at h;obtain⟨kv,h1,rfl⟩:=map_eq_some_iff.mp h;have h2:=List.find?_some h1;obtain⟨j,hj,e⟩:=mem_map.mp (mem_of_find?_eq_some h1);subst e;have e:j.1=k:=xj (of_decide_eq_true h2);exact⟨j.2,rfl,by rw[<- e];exact hj⟩
theorem BB.put{G H:Hp}{d e:Addr}{lf:Int->Int}{ds:LP}{js:List ((Int×Int)×Addr)}(b:BB G H d lf ds js){k:Int×Int}(he:H e=some (.lst []))(hne:∀ j∈js,j.2≠e)(hge:G e=none)(hn:yG (kvB js) (yH k)=none):BB G (upd H d (.dT (putK (kvB js) (yH k) (.ref e)))) d lf ds (js++[(k,e)]):=by
 have hk:k∉js.map (·.1):=fun z=>vK hn (kvB_keys.mpr z);have ned:e≠d:=fun z=>by rw[z,b.dd] at he;cases he
 refine⟨⟨?_,?_,fun j hj=>?_,fun k' hk'=>b.no k' fun z=>hk' (by rw[map_append];exact mem_append.mpr (.inl z))⟩,b.sm.trans Ext.at,fun j hj=>?_,?_⟩
 ·rw[za,L2.putK_new _ hn]
  unfold kvB;rw[map_append];rfl
 ·rw[map_append,nodup_append]
  exact⟨b.nd,by simp,fun u hu v hv e=>hk (by rw[map_cons,map_nil] at hv;rw[mem_singleton.mp hv] at e;have e:u=k:=e;rw[<- e];exact hu)⟩
 ·rcases mem_append.mp hj with z | z
  ·obtain⟨rs,h1,h2⟩:=b.rows j z
   exact⟨rs,by rw[upd_ne (fun q=>by rw[q,b.dd] at h1;cases h1)];exact h1,h2.updN b.dd (fun xs q=>by cases q)⟩
  ·rw[mem_singleton.mp z]
   refine⟨[],by rw[upd_ne ned];exact he,?_⟩;rw[b.no k hk];exact⟨rfl,fun n r p a1=>by simp at a1⟩
 ·rcases mem_append.mp hj with z | z
  ·exact b.fr j z
  ·rw[mem_singleton.mp z];exact hge
 ·rw[map_append,nodup_append]
  refine⟨b.nda,by simp,fun u hu v hv ee=>?_⟩;obtain⟨j,hj,rfl⟩:=mem_map.mp hu;rw[map_cons,map_nil] at hv;rw[mem_singleton.mp hv] at ee;exact hne j hj ee
theorem BB.app{G H:Hp}{d l t:Addr}{lf:Int->Int}{ds:LP}{js:List ((Int×Int)×Addr)}(b:BB G H d lf ds js){p:Int×Int}(hj:((lf p.1,lf p.2),l)∈js){rs:List V}(hl:H l=some (.lst rs))(ht:H t=some (.tup [.int p.1,.int p.2])):BB G (upd H l (.lst (rs++[.ref t]))) d lf (ds++[p]) js:=by
 have hsel:∀ k,sel lf k (ds++[p])=if (lf p.1,lf p.2)=k then sel lf k ds++[p] else sel lf k ds:=fun k=>by
  unfold sel;rw[filter_append];by_cases c:(lf p.1,lf p.2)=k
  ·rw[if_pos c,List.filter_cons_of_pos (by simpa using c)]
   rfl
  ·rw[if_neg c,List.filter_cons_of_neg (by simpa using c)]
   simp
 refine⟨⟨?_,b.nd,fun j hjm=>?_,fun k hk=>?_⟩,fun c o e n=>?_,b.fr,b.nda⟩
 ·rw[upd_ne (fun z=>by rw[<- z,b.dd] at hl;cases hl)]
  exact b.dd
 ·obtain⟨rs',h1,h2⟩:=b.rows j hjm
  rw[hsel];by_cases c:j.2=l
  ·have ej:j=((lf p.1,lf p.2),l):=uF b.nda hjm hj c
   rw[ej] at h1 h2 ⊢;rw[hl] at h1;cases h1;rw[if_pos rfl];exact⟨_,za,(h2.snoc ht).updN hl (fun xs q=>by cases q)⟩
  ·have hk:(lf p.1,lf p.2)≠j.1:=fun z=>c (by rw[<- uF b.nd hj hjm z])
   rw[if_neg hk];exact⟨rs',by rw[upd_ne c];exact h1,h2.updN hl (fun xs q=>by cases q)⟩
 ·rw[hsel,if_neg (fun z=>hk (by rw[<- z];exact mem_map.mpr ⟨_,hj,rfl⟩))]
  exact b.no k hk
 ·rw[upd_ne (nZ e (b.fr _ hj))]
  exact b.sm c o e n
theorem BB.set{G H:Hp}{d e kt:Addr}{lf:Int->Int}{ds:LP}{js:List ((Int×Int)×Addr)}{k:Int×Int}{Q:V->Hp->Prop}(b:BB G H d lf ds js)(he:H e=some (.lst []))(hne:∀ j∈js,j.2≠e)(hge:G e=none)(ht:H kt=some (.tup [.int k.1,.int k.2]))(hz:js.length<=1000)
  (hJ:∀ (l:Addr) (H':Hp) (js':List ((Int×Int)×Addr)),BB G H' d lf ds js'->(k,l)∈js'->js'.length<=js.length+1->Ext d H H'->Q (.ref l) H'):zcy H d (.ref kt) (.ref e) Q:=by
 refine .inr ⟨kvB js,yH k,kt,b.dd,rfl,ht,by unfold kvB;rw[length_map];exact zj hz,fun u hu=>?_,fun hn=>?_⟩
 ·obtain⟨l,rfl,hl⟩:=VF hu
  exact hJ l H js b hl (by omega) (Ext.same fun _ _ h=>h)
 ·exact hJ e _ (js++[(k,e)]) (b.put he hne hge hn) (by simp) (by simp) Ext.at
def zbR(a:Ad):Sp:=fun vs H Q _=>∃ (p dx dp ob:Addr) (pf:Int->Option Int) (pa:Int->LI) (us:LI) (bs:LP),vs=[.ref p]/\WayAt a H p pf us bs dx dp ob/\UpP us pf pa/\Bd bs/\bs.length<=63/\(∀ q∈bs,q.1∈us/\q.2∈us) /\
 ∀ (d:Addr) (js:List ((Int×Int)×Addr)) (H':Hp),H d=none->BR H' d (ldr pa) (dbl (srt bs)) js->js.length<=132->Same H H'->Q (.ref d) H'
theorem zaS(T:Txt w K mg a):FnOk P w K mg base CX0 8 231 (dK K 231) ["way"] (zbR a):=by
 refine(T.fn 12 rfl).ok (scp 12 rfl) (fun vs H Q E h=>?_) (fun cdv A outer s H vs Q E hr h=>?_)
 ·obtain⟨p,dx,dp,ob,pf,pa,us,bs,rfl,_⟩:=h
  rfl
 ·obtain⟨p,dx,dp,ob,pf,pa,us,bs,rfl,W,U,B,l66,hin,k⟩:=h
  have hu:=yY hr;refine zT (zd (zk (i:=1) (scp 12 rfl).nd rfl (Or.inl rfl) yN)
   (zd (zL PassesOwn.never rfl (zB (zl Sco.call_sortX (by rfl) (T.n 8 rfl) xu (zM (yk (w_pv 0)) w_pa_nil))) (yf rfl (zr (zm (i:=2) (scp 12 rfl).nd rfl (Or.inl rfl)) (zr (zm (i:=3) (scp 12 rfl).nd rfl (Or.inl rfl)) zO)))
    (zd (w_ps_expr (w_pe_bm F.plainAttrs_list F.slot_list_append F.type_list_append yc (wI hu (w_pv 1) (zD (zM (zC (w_pv 0) (zb (w_pv 2) w_pa_nil)) (zM (zC (w_pv 0) (zb (w_pv 3) w_pa_nil)) w_pa_nil))) (w_pe_lst w_pa_nil) ⟨rfl,rfl,rfl,rfl⟩) (yD (zD (zb (w_pv 2) (zb (w_pv 3) w_pa_nil))) w_pa_nil)))
    (w_pss_one (w_ps_expr (w_pe_bm F.plainAttrs_list F.slot_list_append F.type_list_append yc (wI hu (w_pv 1) (zD (zM (zC (w_pv 0) (zb (w_pv 3) w_pa_nil)) (zM (zC (w_pv 0) (zb (w_pv 2) w_pa_nil)) w_pa_nil))) (w_pe_lst w_pa_nil) ⟨rfl,rfl,rfl,rfl⟩) (yD (zD (zb (w_pv 3) (zb (w_pv 2) w_pa_nil))) w_pa_nil))))))
   (w_pss_one (zg (w_pv 1))))) ?_
  refine fun d hd=>?_;have s0:=sW (o:=HO.dT []) hd;have h0:=za (H:=H) (a:=d) (o:=HO.dT []);generalize upd H d (HO.dT [])=H0 at *;refine mtV rfl (s0 _ _ W.p) rfl (T.cl 0 rfl) (T.mt 44 rfl) (ok_ab (P:=P) (w:=w) T) hr.m (T.bi 44 rfl) (ag0 (Vk (W.same s0) (fun l rs H1 hl hl1 L1 s1=>?_)));obtain⟨ps,e1,e2,e3⟩:=L1.ps B;have lps:ps.length<=63:=by rw[<- e2,length_map] at l66;exact l66
  refine⟨l,ps,rfl,by rw[e1];exact sO hl1,lps,e3,fun sl qs hsl pm up=>?_⟩;have Ls:=YF e3 pm up;rw[e2] at Ls;have s2:=sW (o:=HO.lst (qs.map fun p=>V.ref p.1)) hsl;have hs2:=za (H:=H1) (a:=sl) (o:=HO.lst (qs.map fun p=>V.ref p.1));generalize upd H1 sl (HO.lst (qs.map fun p=>V.ref p.1))=H2 at *;generalize hrq:qs.map (fun p=>V.ref p.1)=rq at *;have s02:=s0.trans (s1.trans s2);have hsm:∀ {x:Int×Int},x∈srt bs↔x∈bs:=fun {x}=>(srt_perm bs).mem_iff;have lsl:(srt bs).length<=66:=by rw[(srt_perm bs).length_eq];omega
  have lr:=Ls.1;have Ls2:=Ls.same s2;generalize srt bs=sb at *;refine⟨sl,rfl,⟨_,sO hs2⟩,?_⟩;generalize hlf:ldr pa=lf at *;have hd2:=(s1.trans s2) _ _ h0;have nsd:sl≠d:=fun z=>by rw[z,hd2] at hs2;cases hs2
  refine for_list (xs:=rq) (fun i σ H'=>∃ (js:List ((Int×Int)×Addr)) (o2 o3:Option V),σ=[some (.ref p),some (.ref d),o2,o3]/\BB H2 H' d lf (dbl (sb.take i)) js/\js.length<=2*i) ?_ ?_ ?_ ?_
  ·exact⟨[],none,none,rfl,⟨⟨hd2,nodup_nil,(fun j hj=>(nomatch hj)),fun k _=>rfl⟩,Ext.same fun _ _ h=>h,(fun j hj=>(nomatch hj)),nodup_nil⟩,by simp⟩
  ·rintro i σ H' hi ⟨js,o2,o3,_,b,_⟩
   exact sO (b.sm _ _ hs2 nsd)
  ·rintro i v σ H3 hi ⟨js,o2,o3,rfl,b,ljs⟩
   obtain⟨⟨x,y⟩,q,hp,rfl,hq⟩:=Ls2.get hi;have hpm:=hin _ (hsm.mp (mem_of_getElem? hp));have hi66:i<66:=by
    have:=(List.getElem?_eq_some_iff.mp hp).1;omega
   obtain⟨hx,hy⟩:=hpm;dsimp only at hx hy hq;have W3:∀ {H':Hp},Ext d H2 H'->WayR a H' p pf us dx dp ob:=fun {H'} x=>by
    have W2:=W.same s02;refine⟨x _ _ W2.p fun z=>?_,.inl (x _ _ W2.dp fun z=>?_),W2.l12⟩
    ·have:=W.p;rw[z,hd] at this;cases this
    ·have:=W.dp;rw[z,hd] at this;cases this
   have nqd:q≠d:=fun z=>by rw[z,hd2] at hq;cases hq
   refine⟨q,_,rfl,sP (b.sm _ _ hq nqd),rfl,_,_,rfl,_,_,rfl,rfl,?_⟩;have etk:sb.take (i+1)=sb.take i++[(x,y)]:=by rw[take_add_one,hp];rfl
   have zt:(dbl (sb.take i)).length<=2*i:=by rw[dbl_len,length_take];omega
   refine⟨_,rfl,d,rfl,.inr ⟨_,.inl b.dd⟩,?_⟩;refine mtV rfl ((W3 b.sm).p) rfl (T.cl 0 rfl) (T.mt 46 rfl) (vg (P:=P) (w:=w) T) hr.m (T.bi 46 rfl) (ag1 rfl (wg (W3 b.sm) U hx (fun H4 s4=>?_)));have b4:=b.same s4;refine mtV rfl ((W3 b4.sm).p) rfl (T.cl 0 rfl) (T.mt 46 rfl) (vg (P:=P) (w:=w) T) hr.m (T.bi 46 rfl) (ag1 rfl (wg (W3 b4.sm) U hy (fun H5 s5=>?_)));have b5:=b4.same s5;rw[hlf];refine⟨(by show 2<=sizeLine;decide),fun kt hkt=>?_⟩;refine⟨(by show 0<=sizeLine;decide),fun e he=>?_⟩;have sk:=sW (o:=HO.tup [V.int (lf x),V.int (lf y)]) hkt;have hk6:=za (H:=H5) (a:=kt) (o:=HO.tup [V.int (lf x),V.int (lf y)]);have b6:=b5.same sk;generalize upd H5 kt (HO.tup [V.int (lf x),V.int (lf y)])=H6 at *;have se:=sW (o:=HO.lst []) he;have he7:=za (H:=H6) (a:=e) (o:=HO.lst []);have b7:=b6.same se;have ned:e≠d:=fun z=>by rw[z,b6.dd] at he;cases he
   have hne:∀ j∈js,j.2≠e:=fun j hj z=>by
    obtain⟨rs,h1,_⟩:=b6.rows j hj;rw[z,he] at h1;cases h1
   have hk7:=se _ _ hk6;have hge:=b6.sm.free ned he;generalize upd H6 e (HO.lst [])=H7 at *;refine b7.set (k:=(lf x,lf y)) he7 hne hge hk7 (by omega) fun l H8 js1 b8 hl8 n8 x8=>?_;obtain⟨rs8,hr8,L8⟩:=b8.rows _ hl8;have z8:=L8.1;have z9:=length_filter_le (fun p:Int×Int=>decide ((lf p.1,lf p.2)=(lf x,lf y))) (dbl (sb.take i));refine⟨.inl ⟨rfl,_,sO hr8⟩,?_⟩;refine⟨_,rfl,_,rfl,(by show 2<=sizeLine;decide),fun t ht=>?_⟩;have s9:=sW (o:=HO.tup [V.int x,V.int y]) ht;have b9:=b8.same s9;refine⟨l,_,_,rfl,rfl,s9 _ _ hr8,zj (by unfold sel at z8;dsimp only at z8;omega),?_⟩;have b10:=b9.app (p:=(x,y)) hl8 (s9 _ _ hr8) za;generalize upd (upd H8 t (HO.tup [V.int x,V.int y])) l (HO.lst (rs8++[V.ref t]))=H10 at *;refine⟨_,rfl,d,rfl,.inr ⟨_,.inl b10.dd⟩,?_⟩;refine mtV rfl ((W3 b10.sm).p) rfl (T.cl 0 rfl) (T.mt 46 rfl) (vg (P:=P) (w:=w) T) hr.m (T.bi 46 rfl) (ag1 rfl (wg (W3 b10.sm) U hy (fun H4' s4'=>?_)));have b4':=b10.same s4';refine mtV rfl ((W3 b4'.sm).p) rfl (T.cl 0 rfl) (T.mt 46 rfl) (vg (P:=P) (w:=w) T) hr.m (T.bi 46 rfl) (ag1 rfl (wg (W3 b4'.sm) U hx (fun H5' s5'=>?_)));have b5':=b4'.same s5';rw[hlf];refine⟨(by show 2<=sizeLine;decide),fun kt' hkt'=>?_⟩;refine⟨(by show 0<=sizeLine;decide),fun e' he'=>?_⟩;have sk':=sW (o:=HO.tup [V.int (lf y),V.int (lf x)]) hkt';have hk6':=za (H:=H5') (a:=kt') (o:=HO.tup [V.int (lf y),V.int (lf x)]);have b6':=b5'.same sk';generalize upd H5' kt' (HO.tup [V.int (lf y),V.int (lf x)])=H6' at *;have se':=sW (o:=HO.lst []) he';have he7':=za (H:=H6') (a:=e') (o:=HO.lst []);have b7':=b6'.same se';have ned':e'≠d:=fun z=>by rw[z,b6'.dd] at he';cases he'
   have hne':∀ j∈js1,j.2≠e':=fun j hj z=>by
    obtain⟨rs,h1,_⟩:=b6'.rows j hj;rw[z,he'] at h1;cases h1
   have hk7':=se' _ _ hk6';have hge':=b6'.sm.free ned' he';generalize upd H6' e' (HO.lst [])=H7' at *;refine b7'.set (k:=(lf y,lf x)) he7' hne' hge' hk7' (by omega) fun l' H8' js' b8' hl8' n8' x8'=>?_;obtain⟨rs8',hr8',L8'⟩:=b8'.rows _ hl8';have z8':=L8'.1;have z9':=length_filter_le (fun p:Int×Int=>decide ((lf p.1,lf p.2)=(lf y,lf x))) (dbl (sb.take i)++[(x,y)]);refine⟨.inl ⟨rfl,_,sO hr8'⟩,?_⟩;refine⟨_,rfl,_,rfl,(by show 2<=sizeLine;decide),fun t' ht'=>?_⟩;have s9':=sW (o:=HO.tup [V.int y,V.int x]) ht';have b9':=b8'.same s9';refine⟨l',_,_,rfl,rfl,s9' _ _ hr8',zj (by unfold sel at z8';dsimp only at z8';rw[length_append,length_singleton] at z9';omega),?_⟩;have b10':=b9'.app (p:=(y,x)) hl8' (s9' _ _ hr8') za;generalize upd (upd H8' t' (HO.tup [V.int y,V.int x])) l' (HO.lst (rs8'++[V.ref t']))=H10' at *;refine⟨js',_,_,rfl,?_,by omega⟩;rw[etk,ZX];exact b10'
  ·rintro σ H' ⟨js,o2,o3,rfl,b,lj⟩
   rw[take_of_length_le (by omega)] at b;refine⟨_,rfl,k d js H' hd b.toBR (by omega) fun c o hc=>?_⟩;exact b.sm _ _ (s02 _ _ hc) fun z=>by rw[z,hd] at hc;cases hc
open L2.Sco (PT PsAt)
def rfs(pa:Int->LI)(ds:LP)(h n:Int):List (LI):=if ldr pa n=ldr pa h then[rdW pa h n] else(sel (ldr pa) (ldr pa n,ldr pa h) ds).map (rdO pa h n)
def LL(H:Hp)(l:Addr)(xss:List (LI)):Prop:=∃ ps:List (Addr×LI),H l=some (.lst (ps.map fun p=>V.ref p.1))/\(∀ p∈ps,H p.1=some (.lst (p.2.map V.int)))/\ps.map (·.2)=xss
def zbK(a:Ad):Sp:=fun vs H Q _=>∃ (p dx dp ob d:Addr) (pf:Int->Option Int) (pa:Int->LI) (us:LI) (ds:LP) (js:List ((Int×Int)×Addr)) (h n:Int),vs=[.ref p,.ref d,.int h,.int n]/\WayR a H p pf us dx dp ob/\UpP us pf pa/\BR H d (ldr pa) ds js/\(∀ q∈ds,q.1∈us/\q.2∈us)/\ds.length<=132/\h∈us/\n∈us /\
 ∀ (l:Addr) (H':Hp),H l=none->LL H' l (rfs pa ds h n)->Same H H'->Q (.ref l) H'
theorem zaL(T:Txt w K mg a):FnOk P w K mg base CX0 4 236 (dK K 236) ["way", "bridges", "hand", "neighbour"] (zbK a):=by
 have c_road_within:=cal P base T 10 rfl (zaJ T);have c_road_over:=cal P base T 11 rfl (zb8 T);refine(T.fn 13 rfl).ok (scp 13 rfl) (fun vs H Q E h=>?_) (fun cdv A outer s H vs Q E hr h=>?_)
 ·obtain⟨p,dx,dp,ob,d,pf,pa,us,ds,js,h,n,rfl,_⟩:=h
  rfl
 ·obtain⟨p,dx,dp,ob,d,pf,pa,us,ds,js,h,n,rfl,W,U,b,hds,lds,hh,hn,k⟩:=h
  have hu:=yY hr;refine zT (zd (zk (i:=4) (scp 13 rfl).nd rfl (Or.inl rfl) (zD (zM (zC (w_pv 0) (zb (w_pv 3) w_pa_nil)) (zM (zC (w_pv 0) (zb (w_pv 2) w_pa_nil)) w_pa_nil))))
   (zd (zq (zh yu (zx zX (w_pv 4) ze (fun _ _=>rfl)) (zx zX (w_pv 4) ze (fun _ _=>rfl)) (zu _))
    (w_pss_one (zg (w_pe_lst (zM (zn c_road_within hr.m (zb (w_pv 0) (zb (w_pv 2) (zb (w_pv 3) w_pa_nil)))) w_pa_nil))))
    zi)
   (w_pss_one (zg (ym rfl (N':=["bridge", "way", "hand", "neighbour"]) (t:=1) (caps:=[0,2,3]) ⟨rfl,rfl,rfl⟩ (zB (Z5 hu (w_pv 1) (w_pv 4) (w_pe_lst w_pa_nil) ⟨rfl,rfl,rfl,rfl⟩)) (fun _=>(zm (i:=0) (show(["bridge", "way", "hand", "neighbour"]:List Str).Nodup by decide +kernel) rfl (Or.inl rfl))) (fun _=>yC) (fun _=>(zn c_road_over hr.m (zb (w_pv 1) (zb (w_pv 2) (zb (w_pv 3) (zb (w_pv 0) w_pa_nil))))))))))) ?_
  refine mtV rfl W.p rfl (T.cl 0 rfl) (T.mt 46 rfl) (vg (P:=P) (w:=w) T) hr.m (T.bi 46 rfl) (ag1 rfl (wg W U hn (fun H1 s1=>?_)));have W1:=W.same s1;refine mtV rfl W1.p rfl (T.cl 0 rfl) (T.mt 46 rfl) (vg (P:=P) (w:=w) T) hr.m (T.bi 46 rfl) (ag1 rfl (wg W1 U hh (fun H2 s2=>?_)));refine⟨(by show 2<=sizeLine;decide),fun t ht=>?_⟩;have s3:=(s1.trans s2).trans (sW (o:=HO.tup [V.int (ldr pa n),V.int (ldr pa h)]) ht);have ht3:=za (H:=H2) (a:=t) (o:=HO.tup [V.int (ldr pa n),V.int (ldr pa h)]);generalize upd H2 t (HO.tup [V.int (ldr pa n),V.int (ldr pa h)])=H3 at *;refine⟨_,rfl,t,_,0,_,rfl,rfl,sP ht3,rfl,_,rfl,t,_,1,_,rfl,rfl,sP ht3,rfl,rfl,_,rfl,?_⟩;have W3:=W.same s3;have b3:=b.same s3;by_cases c:ldr pa n=ldr pa h
  ·refine iteB (by rw[c];simp) ?_
   refine⟨_,rfl,_,rfl,_,rfl,p,dx,dp,ob,pf,pa,us,h,n,rfl,W3,U,hh,hn,fun l H4 hl h4 s4=>?_⟩;refine⟨(by show 1<=sizeLine;decide),fun r hr'=>?_⟩;have s5:=sW (o:=HO.lst [V.ref l]) hr';refine k r _ ((s3.trans s4).free hr') ⟨[(l,rdW pa h n)],za,fun q hq=>?_,?_⟩ (s3.trans (s4.trans s5))
   ·rw[mem_singleton.mp hq]
    exact s5 _ _ h4
   ·unfold rfs
    rw[if_pos c];rfl
  ·refine zF (by simp[c]) ?_
   have er:rfs pa ds h n=(sel (ldr pa) (ldr pa n,ldr pa h) ds).map (rdO pa h n):=by unfold rfs;rw[if_neg c]
   rw[er] at k;refine⟨_,rfl,d,rfl,.inr ⟨_,.inl b3.dd⟩,_,rfl,(by show 0<=sizeLine;decide),fun e he=>?_⟩;have s4:=sW (o:=HO.lst []) he;have he4:=za (H:=H3) (a:=e) (o:=HO.lst []);generalize upd H3 e (HO.lst [])=H4 at *;have W4:=W3.same s4;have b4:=b3.same s4;obtain⟨l0,rs0,hv,h0,L0⟩:∃ l0 rs0,(yG (kvB js) (yH (ldr pa n,ldr pa h))).getD (V.ref e)=V.ref l0/\H4 l0=some (.lst rs0)/\LnAt H4 rs0 (sel (ldr pa) (ldr pa n,ldr pa h) ds):=by
    cases hc:yG (kvB js) (yH (ldr pa n,ldr pa h)) with
    |none =>
     refine⟨e,[],rfl,he4,?_⟩;rw[b4.no _ fun z=>vK hc (kvB_keys.mpr z)];exact⟨rfl,fun n r p a1=>by simp at a1⟩
    |some v =>
     obtain⟨l,rfl,hl⟩:=VF hc;obtain⟨rs,h1,h2⟩:=b4.rows _ hl;exact⟨l,rs,rfl,h1,h2⟩
   refine⟨_,DGet.t (k:=yH (ldr pa n,ldr pa h)) b4.dd (s4 _ _ ht3),?_⟩;rw[hv];refine⟨l0,rfl,⟨_,sO h0⟩,fun D hD _=>?_⟩;have lsel:(sel (ldr pa) (ldr pa n,ldr pa h) ds).length<=132:=le_trans (length_filter_le _ _) lds;have hsl:∀ q∈sel (ldr pa) (ldr pa n,ldr pa h) ds,q.1∈us/\q.2∈us:=fun q hq=>hds q (mem_filter.mp hq).1;generalize sel (ldr pa) (ldr pa n,ldr pa h) ds=sl at *;have fD:=(s3.trans s4).free hD;refine comp_list (K:=K) (a:=l0) (xs:=rs0) (fun j zs τ H'=>∃ (o:Option V) (ps:List (Addr×LI)),τ=[o,some (.ref p),some (.int h),some (.int n)]/\zs=ps.map (fun p=>V.ref p.1)/\H' D=some (.lst zs)/\(∀ q∈ps,H' q.1=some (.lst (q.2.map V.int)))/\ps.map (·.2)=(sl.take j).map (rdO pa h n)/\Same H4 H') ?_ ?_ ?_ ?_
   ·exact⟨none,[],rfl,rfl,za,(fun q hq=>(nomatch hq)),by simp,sW hD⟩
   ·rintro j zs τ H' ⟨o,ps,_,_,_,_,_,sm⟩
    exact sO (sm _ _ h0)
   ·rintro j v zs τ H' hj ⟨o,ps,rfl,rfl,hD',hps,eps,sm⟩
    obtain⟨q,t',hq,rfl,ht'⟩:=L0.get hj;obtain⟨hq1,hq2⟩:=hsl q (mem_of_getElem? hq);have hjl:=(List.getElem?_eq_some_iff.mp hq).1;have lps:ps.length<=132:=by
     have:=congrArg List.length eps;rw[length_map,length_map,length_take] at this;omega
    refine WN ?_;refine⟨_,rfl,_,rfl,_,rfl,_,rfl,p,dx,dp,ob,t',pf,pa,us,h,n,q,rfl,W4.same sm,U,hh,hn,hq1,hq2,sm _ _ ht',fun l H5 hl h5 s5=>?_⟩;have nlD:l≠D:=fun z=>by rw[z,hD'] at hl;cases hl
    refine⟨s5 _ _ hD',by rw[length_map];exact zj (by omega),_,ps++[(l,rdO pa h n q)],rfl,by rw[map_append];rfl,za,fun q' hq'=>?_,?_,Same.updF (sm.trans s5) hD⟩
    ·rcases mem_append.mp hq' with z | z
     ·have h1:=s5 _ _ (hps q' z)
      have:q'.1≠D:=fun zz=>by
       have h2:=hps q' z;rw[zz,hD'] at h2;injection h2 with h2;injection h2 with h2;have:=congrArg List.head? h2;cases ps with
       |nil=>cases z
       |cons p0 ps => 
        cases hc:q'.2 with
        |nil=>rw[hc] at h2;cases h2
        |cons i r=>rw[hc] at h2;cases h2
      rw[upd_ne this];exact h1
     ·rw[mem_singleton.mp z,upd_ne nlD]
      exact h5
    ·rw[map_append,eps,take_add_one,hq,map_append]
     rfl
   ·rintro zs τ H' ⟨o,ps,rfl,rfl,hD',hps,eps,sm⟩
    rw[take_of_length_le (by have:=L0.1;omega)] at eps;exact k D H' fD ⟨ps,hD',hps,eps⟩ ((s3.trans s4).trans sm)
def zbM(a:Ad):Sp:=fun vs H Q _=>∃ (p:Addr) (hs:LI) (ls:LP),vs=[.ref p]/\WbP a H p hs ls/\∀ (l:Addr) (rs:List V) (H':Hp),H l=none->H' l=some (.lst rs)->LnAt H' rs (dbl (srt ls))->Same H H'->Q (.ref l) H'
theorem zaN(T:Txt w K mg a):FnOk P w K mg base CX0 2 243 (dK K 243) ["web"] (zbM a):=by
 refine(T.fn 14 rfl).ok (scp 14 rfl) (fun vs H Q E h=>?_) (fun cdv A outer s H vs Q E hr h=>?_)
 ·obtain⟨p,hs,ls,rfl,_⟩:=h
  rfl
 ·obtain⟨p,hs,ls,rfl,WP,k⟩:=h
  refine zT (zd (zk (i:=1) (scp 14 rfl).nd rfl (Or.inl rfl) (w_pe_lst w_pa_nil))
   (zd (zL PassesOwn.never rfl (zB (yk (w_pv 0))) (yf rfl (zr (zm (i:=2) (scp 14 rfl).nd rfl (Or.inl rfl)) (zr (zm (i:=3) (scp 14 rfl).nd rfl (Or.inl rfl)) zO)))
    (zd (w_ps_expr (w_pe_bm F.plainAttrs_list F.slot_list_append F.type_list_append yc (w_pv 1) (yD (zD (zb (w_pv 2) (zb (w_pv 3) w_pa_nil))) w_pa_nil)))
    (w_pss_one (w_ps_expr (w_pe_bm F.plainAttrs_list F.slot_list_append F.type_list_append yc (w_pv 1) (yD (zD (zb (w_pv 3) (zb (w_pv 2) w_pa_nil))) w_pa_nil))))))
   (w_pss_one (zg (w_pv 1))))) ?_
  refine⟨(by show 0<=sizeLine;decide),fun l hl=>?_⟩;have s0:=sW (o:=HO.lst []) hl;have h0:=za (H:=H) (a:=l) (o:=HO.lst []);generalize upd H l (HO.lst [])=H0 at *;obtain⟨wdx,oh,ol,d0,ad,W⟩:=(WP.same s0).at_;refine mtV rfl W.p rfl (T.cl 1 rfl) (T.mt 49 rfl) (Vx (P:=P) (w:=w) T) hr.m (T.bi 49 rfl) (ag0 (YH W (fun lq zs hlq Lz=>?_)));have s1:=sW (o:=HO.lst zs) hlq;have hz1:=za (H:=H0) (a:=lq) (o:=HO.lst zs);have Lz1:=Lz.same s1;have h1:=s1 _ _ h0;have lsl:(srt ls).length<=66:=by rw[(srt_perm ls).length_eq];exact WP.wl.le
  generalize upd H0 lq (HO.lst zs)=H1 at *;generalize srt ls=sb at *;have nql:lq≠l:=fun z=>by rw[z,h0] at hlq;cases hlq
  refine⟨lq,rfl,⟨_,sO hz1⟩,?_⟩;refine for_list (xs:=zs) (fun i σ H'=>∃ (rs:List V) (o2 o3:Option V),σ=[some (.ref p),some (.ref l),o2,o3]/\H' l=some (.lst rs)/\LnAt H' rs (dbl (sb.take i))/\H' lq=some (.lst zs)/\LnAt H' zs sb/\Same H H') ?_ ?_ ?_ ?_
  ·exact⟨[],none,none,rfl,h1,⟨rfl,fun n r p a1=>by simp at a1⟩,hz1,Lz1,s0.trans s1⟩
  ·rintro i σ H' hi ⟨rs,o2,o3,_,_,_,h,_⟩
   exact sO h
  ·rintro i v σ H2 hi ⟨rs,o2,o3,rfl,h2,L2',hz2,Lz2,sm⟩
   obtain⟨⟨x,y⟩,q,hp,rfl,hq⟩:=Lz2.get hi;dsimp only at hq;have hjl:=(List.getElem?_eq_some_iff.mp hp).1;have etk:sb.take (i+1)=sb.take i++[(x,y)]:=by rw[take_add_one,hp];rfl
   have lr:rs.length<=132:=by
    rw[L2'.1,dbl_len,length_take];omega
   refine⟨q,_,rfl,sP hq,rfl,_,_,rfl,_,_,rfl,rfl,?_⟩;refine⟨_,rfl,.inl ⟨rfl,_,sO h2⟩,_,rfl,_,rfl,(by show 2<=sizeLine;decide),fun t1 ht1=>?_⟩;have n1:=sW (o:=HO.tup [V.int x,V.int y]) ht1;refine⟨l,_,_,rfl,rfl,n1 _ _ h2,zj (by omega),?_⟩;have L3:=(((L2'.same n1).snoc (p:=(x,y)) za).updN (o:=HO.lst (rs++[V.ref t1])) (n1 _ _ h2) (fun xs q=>by cases q));have Lz3:=(Lz2.same n1).updN (o:=HO.lst (rs++[V.ref t1])) (n1 _ _ h2) (fun xs q=>by cases q);have hz3:(upd (upd H2 t1 (HO.tup [V.int x,V.int y])) l (HO.lst (rs++[V.ref t1]))) lq=some (.lst zs):=by rw[upd_ne nql];exact n1 _ _ hz2
   have sm3:=(sm.trans n1).updF (o:=HO.lst (rs++[V.ref t1])) hl;have h3:=za (H:=upd H2 t1 (HO.tup [V.int x,V.int y])) (a:=l) (o:=HO.lst (rs++[V.ref t1]));generalize upd (upd H2 t1 (HO.tup [V.int x,V.int y])) l (HO.lst (rs++[V.ref t1]))=H3 at *;refine⟨_,rfl,.inl ⟨rfl,_,sO h3⟩,_,rfl,_,rfl,(by show 2<=sizeLine;decide),fun t2 ht2=>?_⟩;have n2:=sW (o:=HO.tup [V.int y,V.int x]) ht2;refine⟨l,_,_,rfl,rfl,n2 _ _ h3,zj (by rw[length_append,length_singleton];omega),?_⟩;refine⟨_,_,_,rfl,za,?_,by rw[upd_ne nql];exact n2 _ _ hz3,(Lz3.same n2).updN (n2 _ _ h3) (fun xs q=>by cases q),(sm3.trans n2).updF hl⟩;rw[etk,ZX];exact((L3.same n2).snoc (p:=(y,x)) za).updN (n2 _ _ h3) (fun xs q=>by cases q)
  ·rintro σ H' ⟨rs,o2,o3,rfl,h2,L2',_,_,sm⟩
   rw[take_of_length_le (by have:=Lz1.1;omega)] at L2';exact⟨_,rfl,k l rs H' hl h2 L2' sm⟩
open L2.Sco (PT PsAt)
theorem LnAt.prs{H:Hp}:∀ {rs:List V}{ls:LP},LnAt H rs ls->∃ ps:List (Addr×Int×Int),ps.map (fun p=>V.ref p.1)=rs/\ps.map (·.2)=ls/\∀ p∈ps,H p.1=some (.tup [.int p.2.1,.int p.2.2])
 |[],[],_=>⟨[],rfl,rfl,fun p hp=>(nomatch hp)⟩
 |[],l::ls,h=>absurd h.1 (by simp)
 |r::rs,[],h=>absurd h.1 (by simp)
 |r::rs,l::ls,h=>by
  obtain⟨q,e1,e2⟩:=h.2 0 r l rfl rfl;obtain⟨ps,h1,h2,h3⟩:=LnAt.prs (rs:=rs) (ls:=ls) ⟨by have:=h.1;simpa using this,fun i r p a1 a2=>h.2 (i+1) r p (by simpa using a1) (by simpa using a2)⟩;refine⟨(q,l)::ps,by rw[map_cons,h1,e1],by rw[map_cons,h2],fun p hp=>?_⟩;rcases mem_cons.mp hp with e | e
  ·rw[e];exact e2
  ·exact h3 p e
def kvP(js:List ((Int×Int)×Addr×LI)):List (List Key×V):=js.map fun j=>(yH j.1,V.ref j.2.1)
structure Pp (H:Hp) (d:Addr) (js:List ((Int×Int)×Addr×LI)):Prop where
 dd:H d=some (.dT (kvP js))
 nd:(js.map (·.1)).Nodup
 row:∀ j∈js,H j.2.1=some (.lst (j.2.2.map V.int))
 len:js.length<=132
theorem Pp.same{H H':Hp}{d:Addr}{js:List ((Int×Int)×Addr×LI)}(p:Pp H d js)(s:Same H H'):Pp H' d js:=⟨s _ _ p.dd,p.nd,fun j hj=>s _ _ (p.row j hj),p.len⟩
theorem ZT{js:List ((Int×Int)×Addr×LI)}:(kvP js).map (·.1)=(js.map (·.1)).map yH:=by
 unfold kvP;rw[map_map,map_map];rfl
theorem UB{js:List ((Int×Int)×Addr×LI)}(nd:(js.map (·.1)).Nodup){j:(Int×Int)×Addr×LI}(h:j∈js):yG (kvP js) (yH j.1)=some (.ref j.2.1):=by
 refine vL ?_ (mem_map.mpr ⟨j,h,rfl⟩);rw[ZT];exact pairwise_map.mpr (nd.imp fun h e=>h (xj e))
theorem VN:∀ {ls:LP},ls.Nodup->(∀ p∈ls,p.1<p.2)->(dbl ls).Nodup
 |[],_,_=>nodup_nil
 |p::ls,hn,h=>by
  rw[nodup_cons] at hn;have ih:=VN (ls:=ls) hn.2 fun q hq=>h q (mem_cons_of_mem _ hq);have hp:=h p mem_cons_self;show(p::(p.2,p.1)::dbl ls).Nodup;rw[nodup_cons,nodup_cons];refine⟨fun z=>?_,fun z=>?_,ih⟩
  ·rcases mem_cons.mp z with e | e
   ·have:=congrArg Prod.fst e
    dsimp only at this;omega
   ·rcases mem_dbl.mp e with e | e
    ·exact hn.1 e
    ·have:=h _ (mem_cons_of_mem _ e)
     dsimp only at this;omega
  ·rcases mem_dbl.mp z with e | e
   ·have:=h _ (mem_cons_of_mem _ e)
    dsimp only at this;omega
   ·exact hn.1 e
theorem Ls.dnd{hs:LI}{ls:LP}(L:Ls hs ls):(dbl (srt ls)).Nodup:=VN ((srt_perm ls).nodup_iff.mpr L.nd) fun p hp=>(L.ok p ((srt_perm ls).mem_iff.mp hp)).2.2
theorem mem_ds{ls:LP}{q:Int×Int}:q∈dbl (srt ls)↔q∈dbl ls:=by
 rw[mem_dbl,mem_dbl,(srt_perm ls).mem_iff,(srt_perm ls).mem_iff]
theorem Vg{as bs:LP}(na:as.Nodup)(nb:bs.Nodup)(h:∀ x∈as,x∈bs)(hl:as.length=bs.length):∀ x∈bs,x∈as:=fun x hx=>by
 by_cases c:x∈as
 ·exact c
 ·have h1:=vD (as:=x::as) (bs:=bs) (nodup_cons.mpr ⟨c,na⟩) fun y hy=>by
   rcases mem_cons.mp hy with e | e
   ·rw[e];exact hx
   ·exact h y e
  rw[length_cons] at h1;omega
theorem zap{pa:Int->LI}{bs:LP}{x y:Int}(h:ldr pa x≠ldr pa y->∃ b∈bs,jk (ldr pa) b=jk (ldr pa) (x,y)):rfs pa (dbl (srt bs)) x y≠[]:=by
 unfold rfs;by_cases c:ldr pa y=ldr pa x
 ·rw[if_pos c];simp
 ·rw[if_neg c]
  obtain⟨b,hb,e⟩:=h fun z=>c z.symm;have e1:=congrArg Prod.fst e;have e2:=congrArg Prod.snd e;unfold jk at e1 e2;dsimp only at e1 e2;intro z;rw[List.map_eq_nil_iff] at z;have hz:∀ q:Int×Int,q∈dbl (srt bs)->(ldr pa q.1,ldr pa q.2)≠(ldr pa y,ldr pa x):=fun q hq e=>by
   have:q∈sel (ldr pa) (ldr pa y,ldr pa x) (dbl (srt bs)):=mem_filter.mpr ⟨hq,decide_eq_true e⟩;rw[z] at this;cases this
  by_cases c1:ldr pa b.1=ldr pa y
  ·exact hz b (mem_ds.mpr (mem_dbl.mpr (.inl hb))) (Prod.ext c1 (by show ldr pa b.2=ldr pa x;omega))
  ·exact hz (b.2,b.1) (mem_ds.mpr (mem_dbl.mpr (.inr hb))) (Prod.ext (by show ldr pa b.2=ldr pa y;omega) (by show ldr pa b.1=ldr pa x;omega))
def zbS(K:W.Frag):Sp:=fun vs H Q _=>∃ (l:Addr) (ns:LI),vs=[.ref l]/\(SqL K H l (ns.map V.int)\/SqT K H l (ns.map V.int))/\Q (.bl true) H
theorem zaT(T:Txt w K mg a):FnOk P w K mg base CX0 2 257 (dK K 257) ["values"] (zbS K):=by
 have c_is_whole:=cal P base T 0 rfl (uw T);refine(T.fn 16 rfl).ok (scp 16 rfl) (fun vs H Q E h=>?_) (fun cdv A outer s H vs Q E hr h=>?_)
 ·obtain⟨l,ns,rfl,_⟩:=h
  rfl
 ·obtain⟨l,ns,rfl,hor,k⟩:=h
  refine zT (zd (zL PassesOwn.never rfl (wz (zB (w_pv 0)) (ZB (w_pv 0))) (zm (i:=1) (scp 16 rfl).nd rfl (Or.inl rfl))
    (w_pss_one (zq (zE (zA (zn c_is_whole hr.m (zb (w_pv 1) w_pa_nil))))
     (w_pss_one (zg zy))
     zi)))
   (w_pss_one (zg zy))) ?_
  rcases hor with hl | hl
  ·refine .inl ⟨_,rfl,l,rfl,⟨_,hl⟩,?_⟩
   refine for_list (xs:=ns.map V.int) (fun i σ H'=>∃ (o1:Option V),σ=[some (.ref l),o1]/\H'=H) ?_ ?_ ?_ ?_
   ·exact⟨none,rfl,rfl⟩
   ·rintro i σ H' hi ⟨o1,_,rfl⟩
    exact hl
   ·rintro i v σ H' hi ⟨o1,rfl,rfl⟩
    rw[List.getElem?_map] at hi;obtain⟨x,hx,rfl⟩:=map_eq_some_iff.mp hi;exact⟨_,rfl,_,true,rfl,.int x,_,rfl,zF rfl ⟨_,rfl,rfl⟩⟩
   ·rintro σ H' ⟨o1,rfl,rfl⟩
    exact k
  ·refine .inr ⟨_,rfl,l,rfl,⟨_,hl⟩,?_⟩
   refine for_tup (xs:=ns.map V.int) (fun i σ H'=>∃ (o1:Option V),σ=[some (.ref l),o1]/\H'=H) ?_ ?_ ?_ ?_
   ·exact⟨none,rfl,rfl⟩
   ·rintro i σ H' hi ⟨o1,_,rfl⟩
    exact hl
   ·rintro i v σ H' hi ⟨o1,rfl,rfl⟩
    rw[List.getElem?_map] at hi;obtain⟨x,hx,rfl⟩:=map_eq_some_iff.mp hi;exact⟨_,rfl,_,true,rfl,.int x,_,rfl,zF rfl ⟨_,rfl,rfl⟩⟩
   ·rintro σ H' ⟨o1,rfl,rfl⟩
    exact k
def spHj:Sp:=fun vs H Q _=>∃ (d l:Addr) (js:List ((Int×Int)×Addr×LI)) (rs:List V) (qs:LP),vs=[.ref d,.ref l]/\Pp H d js/\H l=some (.lst rs)/\LnAt H rs qs/\∀ (b:Bool),(b=true↔(∀ j∈js,j.1∈qs)/\js.length=qs.length)->Q (.bl b) H
theorem zci(T:Txt w K mg a):FnOk P w K mg base CX0 3 264 (dK K 264) ["paper", "pairs"] spHj:=by
 have c_are_wholes:=cal P base T 16 rfl (zaT T);refine(T.fn 17 rfl).ok (scp 17 rfl) (fun vs H Q E h=>?_) (fun cdv A outer s H vs Q E hr h=>?_)
 ·obtain⟨d,l,js,rs,qs,rfl,_⟩:=h
  rfl
 ·obtain⟨d,l,js,rs,qs,rfl,pp,hl,L,k⟩:=h
  have hu:=yY hr;have un:=hr.units;refine zT (zd (Z0 (zL PassesOwn.never rfl (uW (w_pv 0)) (zm (i:=2) (scp 17 rfl).nd rfl (Or.inl rfl))
    (w_pss_one (zq (wf (yh (zE (zA (zl zG (by rfl) (T.n 5 rfl) zp (zb (w_pv 2) (zb (ya (T.n 11 rfl) yV) w_pa_nil))))) (yh (zE (zA (zn c_are_wholes hr.m (zb (w_pv 2) w_pa_nil)))) (zZ (zh uu (w_pv 2) (w_pv 1) (by with_unfolding_all rfl))))))
     (w_pss_one (zg zy))
     zi))))
   (w_pss_one (zg (zP yu (zl Yp (by rfl) (T.n 0 rfl) yg (zb (w_pv 0) w_pa_nil)) (zl zw (by rfl) (T.n 0 rfl) yg (zb (w_pv 1) w_pa_nil)) (zu _))))) ?_
  refine⟨_,rfl,d,kvP js,rfl,pp.dd,fun od S=>?_⟩;have x1:Ext d H (upd H d (HO.frz od (HO.dT (kvP js)))):=Ext.at;have hz1:=za (H:=H) (a:=d) (o:=HO.frz od (HO.dT (kvP js)));have back:upd (upd H d (HO.frz od (HO.dT (kvP js)))) d (HO.dT (kvP js))=H:=by
   rw[vM]
   funext b
   by_cases z:b=d
   ·rw[z,za,pp.dd]
   ·rw[upd_ne z]
  generalize upd H d (HO.frz od (HO.dT (kvP js)))=H1 at *;have nld:l≠d:=fun z=>by rw[z,pp.dd] at hl;cases hl
  have hl1:=x1 _ _ hl nld;have L1:LnAt H1 rs qs:=⟨L.1,fun n r p a1 a2=>by
   obtain⟨qq,b1,b2⟩:=L.2 n r p a1 a2;exact⟨qq,b1,x1 _ _ b2 fun z=>by rw[z,pp.dd] at b2;cases b2⟩⟩
  obtain⟨ps,e1,e2,e3⟩:=L1.prs;refine for_keysT (d:=d) (od:=od) (kvs:=kvP js) (fun i σ H'=>∃ (o2:Option V),σ=[some (.ref d),some (.ref l),o2]/\H'=H1/\∀ j∈js.take i,j.1∈qs) ?_ ?_ ?_ ?_
  ·exact⟨none,rfl,rfl,fun j hj=>by simp at hj⟩
  ·rintro i σ H' ⟨o2,_,rfl,_⟩
   exact hz1
  ·rintro i kv b σ H' hkv hb ⟨o2,rfl,rfl,gd⟩
   unfold kvP at hkv;rw[List.getElem?_map] at hkv;obtain⟨j,hj,e⟩:=map_eq_some_iff.mp hkv;subst e;have etk:js.take (i+1)=js.take i++[j]:=by rw[take_add_one,hj];rfl
   refine⟨_,rfl,_,_,_,_,_,rfl,rfl,.tup hb,(T.k 3 rfl),_,rfl,zF rfl ?_⟩;refine⟨_,rfl,b,[j.1.1,j.1.2],rfl,.inr (sP hb),_,rfl,zF rfl ?_⟩;refine⟨_,rfl,_,rfl,l,b,ps,j.1.1,j.1.2,rfl,rfl,by rw[e1];exact sO hl1,e3,hb,lt_of_le_of_lt (Nat.add_le_add_left (by decide:5<=64) _) hr.units,_,rfl,?_⟩;rw[e2];by_cases c:j.1∈qs
   ·refine zF (by rw[decide_eq_true (show(j.1.1,j.1.2)∈qs from c)];rfl) ⟨_,rfl,rfl,fun j' hj'=>?_⟩
    rw[etk] at hj';rcases mem_append.mp hj' with z | z
    ·exact gd j' z
    ·rw[mem_singleton.mp z];exact c
   ·refine iteB (by rw[decide_eq_false (show(j.1.1,j.1.2)∉qs from c)];rfl) ?_
    refine .inr ⟨d,od,_,S,hz1,?_⟩;rw[back];exact k false ⟨fun z=>(nomatch z),fun h=>absurd (h.1 j (mem_of_getElem? hj)) c⟩
  ·rintro σ H' ⟨o2,rfl,rfl,gd⟩
   refine .inr ⟨d,od,_,S,hz1,?_⟩;rw[back];have hlk:(kvP js).length=js.length:=by unfold kvP;rw[length_map]
   rw[hlk,take_length] at gd;refine⟨_,rfl,d,_,rfl,pp.dd,_,rfl,l,_,rfl,.inl (sO hl),rfl,?_⟩;refine k _ ?_;rw[decide_eq_true_eq,hlk,L.1]
   constructor
   ·intro h
    injection h with h;exact⟨gd,by omega⟩
   ·rintro⟨_,h⟩
    rw[h]
end
end K04
namespace L2
open PySem PySem.Spec PyProof.Rows
section
variable {P:Program}{w:World}{K:W.Frag}{mg:Str->Option Value}{base:Heap}{N:List Str}{qual:Str}{scope:Scope}{f:Addr}{cd:Value}{A:Around}{outer:List Env}{s0:Shared}{H0:Hp}{E:XK}
 {k:Nat}{f':Addr}{fd:FuncData}{ps:List Str}{sp:Sp}{x:Str}{p pos:Pos}{e:Expr}{es:List Expr}{t:TA}
theorem VP(c:Callee1 P w K mg base x f' fd ps k sp)(hr:Room k (wo (CX1 P w) P w K mg base N qual scope f cd A outer s0 H0 E).A)(ha:Bx (PA (wo (CX1 P w) P w K mg base N qual scope f cd A outer s0 H0 E) (e::es) t))(hg:Gl (wo (CX1 P w) P w K mg base N qual scope f cd A outer s0 H0 E) x:=by rfl)(hdb:(x == ("__debug__" : Str))=false:=by decide)(he:starEach (e::es) (wo (CX1 P w) P w K mg base N qual scope f cd A outer s0 H0 E).env=(false,eval e (wo (CX1 P w) P w K mg base N qual scope f cd A outer s0 H0 E).env)::starEach es (wo (CX1 P w) P w K mg base N qual scope f cd A outer s0 H0 E).env:=by rfl)(hpl:(backTo pos (starEach es (wo (CX1 P w) P w K mg base N qual scope f cd A outer s0 H0 E).env)).any (·.1)=false:=by rfl):Bx (PE (wo (CX1 P w) P w K mg base N qual scope f cd A outer s0 H0 E) (.Call (.Name x p) (e::es) [] pos) (u7 sp [] E t)):=by
 have ha:=ha.of;exact⟨Y0 (X:=wo (CX1 P w) P w K mg base N qual scope f cd A outer s0 H0 E) (CX:=CX1 P w) c.ok hr hg c.g c.kp c.b .nil zb1 ha hdb he hpl⟩
end
end L2
namespace K04
open PySem L2
open L2.Sco (PT PsAt)
theorem zda{k:Nat}{A:Around}(hr:Room k A):A.units+70<cLine:=by have:=hr.un;omega
structure HoB (us:LI) (ls:LP) (pf:Int->Option Int) (bs:LP) (js:List ((Int×Int)×Addr×LI)):Prop where
 g:GrB us ls pf bs
 kk:∀ j∈js,j.1∈dbl (srt ls)
 ln:js.length=(dbl (srt ls)).length
 rd:∀ j∈js,j.2.2∈rfs (paO pf) (dbl (srt bs)) j.1.1 j.1.2
section
variable {P:Program}{w:World}{K:W.Frag}{mg:Str->Option Value}{base:Heap}{a:Ad}
def zcS(a:Ad):Sp:=fun vs H Q _=>∃ (p q d dx:Addr) (s1 s2:Sh 4) (v1 v2:V) (hs:LI) (ls:LP) (js:List ((Int×Int)×Addr×LI)),vs=[.ref p,.ref q,.ref d]/\WbP a H p hs ls/\WyS a H q s1 s2 dx v1 v2/\OkW s1 s2/\Pp H d js/\∀ (b:Bool) (H':Hp),(b=true↔∃ us pf bs,GdW hs s1 s2 us pf bs/\HoB us ls pf bs js)->Same H H'->Q (.bl b) H'
theorem zch(T:Txt w K mg a):FnOk P w K mg base CX0 9 271 (dK K 271) ["web", "way", "paper"] (zcS a):=by
 have c_pairs_of:=cal P base T 14 rfl (zaN T);have c_is_grounded:=cal P base T 6 rfl (VA T);have c_has_just_pairs:=cal P base T 17 rfl (zci T);have c_bridges_by_leaders:=cal P base T 12 rfl (zaS T);have c_are_wholes:=cal P base T 16 rfl (zaT T);have c_roads_for:=cal P base T 13 rfl (zaL T);refine(T.fn 18 rfl).ok (scp 18 rfl) (fun vs H Q E h=>?_) (fun cdv A outer s H vs Q E hr h=>?_)
 ·obtain⟨p,q,d,dx,s1',s2',v1,v2,hs,ls,js,rfl,_⟩:=h
  rfl
 ·obtain⟨p,q,d,dx,s1',s2',v1,v2,hs,ls,js,rfl,WP,YS,OW,pp,k0⟩:=h
  have hu:=yY hr;refine zT (zd (zk (i:=3) (scp 18 rfl).nd rfl (Or.inl rfl) (zn c_pairs_of hr.m (zb (w_pv 0) w_pa_nil)))
   (zd (zq (wf (yh (zE (zA (zn c_is_grounded hr.m (zb (w_pv 0) (zb (w_pv 1) w_pa_nil))))) (yh (zE (zA (zl zG (by rfl) (T.n 5 rfl) zp (zb (w_pv 2) (zb (ya (T.n 7 rfl) vc) w_pa_nil))))) (zZ (zE (zA (zn c_has_just_pairs hr.m (zb (w_pv 2) (zb (w_pv 3) w_pa_nil)))))))))
    (w_pss_one (zg zy))
    zi)
   (zd (zk (i:=4) (scp 18 rfl).nd rfl (Or.inl rfl) (zn c_bridges_by_leaders hr.m (zb (w_pv 1) w_pa_nil)))
   (zd (zL PassesOwn.never rfl (zB (w_pv 3)) (yf rfl (zr (zm (i:=5) (scp 18 rfl).nd rfl (Or.inl rfl)) (zr (zm (i:=6) (scp 18 rfl).nd rfl (Or.inl rfl)) zO)))
    (zd (zk (i:=7) (scp 18 rfl).nd rfl (Or.inl rfl) (yP hu (w_pv 2) (zD (zb (w_pv 5) (zb (w_pv 6) w_pa_nil))) (fun _ _=>rfl)))
    (zd (zq (wf (yh (zE (zA (zl zG (by rfl) (T.n 5 rfl) zp (zb (w_pv 7) (zb (ya (T.n 6 rfl) bt_list) w_pa_nil))))) (zZ (zE (zA (zn c_are_wholes hr.m (zb (w_pv 7) w_pa_nil)))))))
     (w_pss_one (zg zy))
     zi)
    (w_pss_one (zq (zh Y9 (w_pv 7) (zn c_roads_for hr.m (zb (w_pv 1) (zb (w_pv 4) (zb (w_pv 5) (zb (w_pv 6) w_pa_nil))))) (by with_unfolding_all rfl))
     (w_pss_one (zg zy))
     zi)))))
   (w_pss_one (zg zy)))))) ?_
  refine⟨_,rfl,p,hs,ls,rfl,WP,fun l rs H1 hl h1 L1 s1=>?_⟩;refine⟨_,rfl,_,rfl,p,q,dx,s1',s2',v1,v2,hs,ls,rfl,WP.same s1,YS.same s1,OW,fun b1 H2 hb1 s2=>⟨_,rfl,?_⟩⟩;have s02:=s1.trans s2;cases hc1:b1 with
  |false=>exact iteT (k0 false _ ⟨(fun z=>nomatch z),fun⟨us,pf,bs,h1,h2⟩=>by have:=hb1.mpr ⟨us,pf,bs,h1,h2.g⟩;rw[hc1] at this;cases this⟩ s02)
  |true =>
  obtain⟨us,pf,bs,gw,g⟩:=hb1.mp hc1;have k:∀ (b:Bool) (H':Hp),(b=true↔HoB us ls pf bs js)->Same H H'->Q (.bl b) H':=fun b H' hb s=>k0 b H' (hb.trans ⟨fun h=>⟨us,pf,bs,gw,h⟩,fun⟨us',pf',bs',g',h⟩=>by
   obtain⟨e1,e2,e3⟩:=gw.uniq g';rw[e1,e2,e3];exact h⟩) s
  obtain⟨dp,ob,Y⟩:∃ dp ob,WayAt a H q pf us bs dx dp ob:=by
   rw[gw.e1,gw.e2] at YS;obtain⟨_,_,_,nd⟩:=wj YS.ps;exact YS.good (le_trans (xy nd fun x hx=>(gw.m x).mp hx) WP.wh.l12)
  have hm:=gw.m;have C:=gw.cl;have U:=UpP.of C g.en;have inl:∀ b∈bs,b∈ls:=fun b hb=>zbx WP.wl (g.gd.1 b hb).1 (g.gd.1 b hb).2.1;have l66:bs.length<=63:=le_trans (vD g.gd.2 inl) WP.l63;have Bb:Bd bs:=fun b hb=>(WP.wl.bd WP.wh) b (inl b hb);have bin:∀ b∈bs,b.1∈us/\b.2∈us:=fun b hb=>⟨(hm _).mpr (WP.wl.ok b (inl b hb)).1,(hm _).mpr (WP.wl.ok b (inl b hb)).2.1⟩;have din:∀ b∈dbl (srt bs),b.1∈us/\b.2∈us:=fun b hb=>by
   rcases mem_dbl.mp (mem_ds.mp hb) with z | z
   ·exact bin b z
   ·exact⟨(bin _ z).2,(bin _ z).1⟩
  have dln:(dbl (srt bs)).length<=132:=by rw[dbl_len,(srt_perm bs).length_eq];omega
  have pin:∀ b∈dbl (srt ls),b.1∈us/\b.2∈us:=fun b hb=>by
   rcases mem_dbl.mp (mem_ds.mp hb) with z | z
   ·exact⟨(hm _).mpr (WP.wl.ok _ z).1,(hm _).mpr (WP.wl.ok _ z).2.1⟩
   ·exact⟨(hm _).mpr (WP.wl.ok _ z).2.1,(hm _).mpr (WP.wl.ok _ z).1⟩
  have dnd:=WP.wl.dnd;refine zF rfl ?_;have pp2:=pp.same s02;refine⟨_,rfl,_,_,_,_,_,rfl,rfl,.dT pp2.dd,(T.k 7 rfl),_,rfl,zF rfl ?_⟩;refine⟨_,rfl,_,rfl,d,l,js,rs,_,rfl,pp2,s2 _ _ h1,L1.same s2,fun b3 hb3=>⟨_,rfl,?_⟩⟩;cases hc3:b3 with
  |false=>exact iteT (k false _ ⟨fun z=>(nomatch z),fun h=>by have:=hb3.mpr ⟨h.kk,h.ln⟩;rw[hc3] at this;cases this⟩ s02)
  |true =>
  obtain⟨kk,ln⟩:=hb3.mp hc3;refine zF rfl ?_;refine⟨_,rfl,q,dx,dp,ob,pf,paO pf,us,bs,rfl,Y.same s02,U,Bb,l66,bin,fun bd bj H4 hbd br4 lbj s4=>?_⟩;have s04:=s02.trans s4;have h4:=s4 _ _ (s2 _ _ h1);have L4:=(L1.same s2).same s4;have Y4:=Y.same s04;have pp4:=pp.same s04;refine⟨_,rfl,l,rfl,⟨_,sO h4⟩,?_⟩;have lr:=L4.1;generalize hqs:dbl (srt ls)=qs at *;refine for_list (xs:=rs) (fun i σ H'=>∃ (o5 o6 o7:Option V),σ=[some (.ref p),some (.ref q),some (.ref d),some (.ref l),some (.ref bd),o5,o6,o7]/\Same H4 H'/\∀ j∈js,j.1∈qs.take i->j.2.2∈rfs (paO pf) (dbl (srt bs)) j.1.1 j.1.2) ?_ ?_ ?_ ?_
  ·exact⟨none,none,none,rfl,sR _,fun j _ hj=>by simp at hj⟩
  ·rintro i σ H' hi ⟨o5,o6,o7,_,sm,_⟩
   exact sO (sm _ _ h4)
  ·rintro i v σ H5 hi ⟨o5,o6,o7,rfl,sm,gd⟩
   obtain⟨⟨x,y⟩,t,hp,rfl,ht⟩:=(L4.same sm).get hi;have hxy:=mem_of_getElem? hp;obtain⟨hx,hy⟩:=pin _ hxy;dsimp only at ht hx hy;have etk:qs.take (i+1)=qs.take i++[(x,y)]:=by rw[take_add_one,hp];rfl
   refine⟨t,_,rfl,sP ht,rfl,_,_,rfl,_,_,rfl,rfl,?_⟩;have hkj:=Vg pp.nd dnd (fun u hu=>by obtain⟨j,hj,rfl⟩:=mem_map.mp hu;exact kk j hj) (by rw[length_map];exact ln) _ hxy;obtain⟨j,hj,ej⟩:=mem_map.mp hkj;refine⟨_,rfl,_,rfl,_,rfl,(by show 2<=sizeLine;decide),fun kt hkt=>?_⟩;have s6:=sW (o:=HO.tup [V.int x,V.int y]) hkt;have hk6:=za (H:=H5) (a:=kt) (o:=HO.tup [V.int x,V.int y]);generalize upd H5 kt (HO.tup [V.int x,V.int y])=H6 at *;have s46:=sm.trans s6;have pp6:=pp4.same s46;have hval:some (V.ref j.2.1)=yG (kvP js) (yH (x,y)):=by rw[<- ej];exact(UB pp.nd hj).symm
   have hrow:=pp6.row j hj;refine⟨d,V.ref j.2.1,rfl,by rw[hval];exact DGet.t (k:=yH (x,y)) pp6.dd hk6,?_⟩;refine⟨_,rfl,_,_,_,_,_,rfl,rfl,.lst hrow,(T.k 2 rfl),_,rfl,zF rfl ?_⟩;refine⟨_,rfl,j.2.1,j.2.2,rfl,.inl (sO hrow),_,rfl,zF rfl ?_⟩;refine⟨_,rfl,_,rfl,_,rfl,_,rfl,_,rfl,q,dx,dp,ob,bd,pf,paO pf,us,dbl (srt bs),bj,x,y,rfl,(Y4.same s46).r,U,br4.same s46,din,dln,hx,hy,fun lr H7 hlr ll7 s7=>?_⟩;obtain⟨ps,e1,e2,e3⟩:=ll7;have s47:=s46.trans s7;refine⟨lr,j.2.1,ps,j.2.2,rfl,rfl,sO e1,e2,s7 _ _ hrow,zda hr,_,rfl,?_⟩;rw[e3];by_cases c:j.2.2∈rfs (paO pf) (dbl (srt bs)) x y
   ·refine zF (by rw[decide_eq_true c];rfl) ⟨_,_,_,rfl,s47,fun j' hj' hm'=>?_⟩
    rw[etk] at hm';rcases mem_append.mp hm' with z | z
    ·exact gd j' hj' z
    ·have z:=mem_singleton.mp z
     have:=uF pp.nd hj' hj (z.trans ej.symm);rw[this,ej];exact c
   ·refine iteB (by rw[decide_eq_false c];rfl) ?_
    refine k false _ ⟨fun z=>(nomatch z),fun h=>?_⟩ (s04.trans s47);have:=h.rd j hj;rw[ej] at this;exact absurd this c
  ·rintro σ H' ⟨o5,o6,o7,rfl,sm,gd⟩
   refine k true _ ⟨fun _=>⟨g,by rw[hqs];exact kk,by rw[hqs];exact ln,fun j hj=>gd j hj ?_⟩,fun _=>rfl⟩ (s04.trans sm);rw[take_of_length_le (by omega)];exact kk j hj
def zcI(a:Ad):Sp:=fun vs H Q E=>∃ (p q dx:Addr) (s1 s2:Sh 4) (v1 v2:V) (hs:LI) (ls:LP),vs=[.ref p,.ref q]/\WbP a H p hs ls/\WyS a H q s1 s2 dx v1 v2/\OkW s1 s2/\((∃ us pf bs,GdW hs s1 s2 us pf bs/\GG us ls pf bs)->∀ (H':Hp),Same H H'->Q .non H')/\((¬∃ us pf bs,GdW hs s1 s2 us pf bs/\GG us ls pf bs)->∀ (H':Hp),Same H H'->E (.ref 56) none H')
theorem zb7(T:Txt w K mg a):FnOk P w K mg base (CX1 P w) 10 210 (dK K 210) ["web", "way"] (zcI a):=by
 have c_lets:=cal P base T 8 rfl (Vw T);refine(T.fn 9 rfl).ok1 (scp 9 rfl) (fun vs H Q E h=>?_) (fun cdv A outer s H vs Q E hr h=>?_)
 ·obtain⟨p,q,dx,s1',s2',v1,v2,hs,ls,rfl,_⟩:=h
  rfl
 ·obtain⟨p,q,dx,s1',s2',v1,v2,hs,ls,rfl,WP,YS,OW,k,kx⟩:=h
  refine zT (w_pss_one (zq (zE (zA (zn c_lets hr.m (zb (w_pv 0) (zb (w_pv 1) w_pa_nil)))))
    (w_pss_one (Z1 hr.hd (T.xc 0 rfl) (T.gg 2 rfl) (zK vH w_pa_nil)))
    zi)) ?_
  refine⟨_,rfl,_,rfl,p,q,dx,s1',s2',v1,v2,hs,ls,rfl,WP,YS,OW,fun b H1 hb s1=>⟨_,rfl,?_⟩⟩;cases hc:b with
  |true=>exact zF rfl (k (hb.mp hc) _ s1)
  |false=>exact iteT ⟨by show 1<=1000;decide,kx (fun z=>by rw[hb.mpr z] at hc;cases hc) _ s1⟩
structure RdB (us:LI) (ls:LP) (pf:Int->Option Int) (bs:LP) (js:List ((Int×Int)×Addr×LI)):Prop where
 ks:js.map (·.1)=dbl (srt ls)
 hd:∀ j∈js,(rfs (paO pf) (dbl (srt bs)) j.1.1 j.1.2).head?=some j.2.2
def zbJ(a:Ad):Sp:=fun vs H Q E=>∃ (p q dx:Addr) (s1 s2:Sh 4) (v1 v2:V) (hs:LI) (ls:LP),vs=[.ref p,.ref q]/\WbP a H p hs ls/\WyS a H q s1 s2 dx v1 v2/\OkW s1 s2/\(∀ us pf bs,GdW hs s1 s2 us pf bs->GG us ls pf bs->∀ (d:Addr) (js:List ((Int×Int)×Addr×LI)) (H':Hp),H d=none->Pp H' d js->RdB us ls pf bs js->Same H H'->Q (.ref d) H')/\((¬∃ us pf bs,GdW hs s1 s2 us pf bs/\GG us ls pf bs)->∀ (H':Hp),Same H H'->E (.ref 56) none H')
theorem zaK(T:Txt w K mg a):FnOk P w K mg base (CX1 P w) 11 250 (dK K 250) ["web", "way"] (zbJ a):=by
 have cx_refuse_unlet:Callee1 P w K mg base "refuse_unlet" 210 (dK K 210) ["web", "way"] 10 (zcI a):=⟨zb7 T,(T.g 9 rfl),(T.fn 9 rfl).kp,(T.bi 9 rfl)⟩;have c_pairs_of:=cal P base T 14 rfl (zaN T);have c_bridges_by_leaders:=cal P base T 12 rfl (zaS T);have c_roads_for:=cal P base T 13 rfl (zaL T);refine(T.fn 15 rfl).ok1 (scp 15 rfl) (fun vs H Q E h=>?_) (fun cdv A outer s H vs Q E hr h=>?_)
 ·obtain⟨p,q,dx,s1',s2',v1,v2,hs,ls,rfl,_⟩:=h
  rfl
 ·obtain⟨p,q,dx,s1',s2',v1,v2,hs,ls,rfl,WP,YS,OW,kg,kx⟩:=h
  have hu:=yY hr;refine zT (zd (w_ps_expr (VP cx_refuse_unlet hr.m (zb (w_pv 0) (zb (w_pv 1) w_pa_nil))))
   (zd (zk (i:=2) (scp 15 rfl).nd rfl (Or.inl rfl) (zn c_bridges_by_leaders hr.m (zb (w_pv 1) w_pa_nil)))
   (zd (zk (i:=3) (scp 15 rfl).nd rfl (Or.inl rfl) yN)
   (zd (zL PassesOwn.leaving rfl (zB (zn c_pairs_of hr.m (zb (w_pv 0) w_pa_nil))) (yf rfl (zr (zm (i:=4) (scp 15 rfl).nd rfl (Or.inl rfl)) (zr (zm (i:=5) (scp 15 rfl).nd rfl (Or.inl rfl)) zO)))
    (w_pss_one (w_ps_dput hu (w_pv 3) (zD (zb (w_pv 4) (zb (w_pv 5) w_pa_nil))) (zx zY (zn c_roads_for hr.m (zb (w_pv 1) (zb (w_pv 2) (zb (w_pv 4) (zb (w_pv 5) w_pa_nil))))) ze (fun _ _=>rfl)) rfl)))
   (w_pss_one (zg (w_pv 3))))))) ?_
  refine⟨_,rfl,_,rfl,p,q,dx,s1',s2',v1,v2,hs,ls,rfl,WP,YS,OW,fun⟨us,pf,bs,gw,gg⟩ H1 s1=>?_,kx⟩;have k:=kg us pf bs gw gg;obtain⟨dp,ob,Y⟩:∃ dp ob,WayAt a H q pf us bs dx dp ob:=by
   rw[gw.e1,gw.e2] at YS;obtain⟨_,_,_,nd⟩:=wj YS.ps;exact YS.good (le_trans (xy nd fun x hx=>(gw.m x).mp hx) WP.wh.l12)
  have hm:=gw.m;have C:=gw.cl;have g:=gg.g;have U:=UpP.of C g.en;have inl:∀ b∈bs,b∈ls:=fun b hb=>zbx WP.wl (g.gd.1 b hb).1 (g.gd.1 b hb).2.1;have l66:bs.length<=63:=le_trans (vD g.gd.2 inl) WP.l63;have Bb:Bd bs:=fun b hb=>(WP.wl.bd WP.wh) b (inl b hb);have bin:∀ b∈bs,b.1∈us/\b.2∈us:=fun b hb=>⟨(hm _).mpr (WP.wl.ok b (inl b hb)).1,(hm _).mpr (WP.wl.ok b (inl b hb)).2.1⟩;have din:∀ b∈dbl (srt bs),b.1∈us/\b.2∈us:=fun b hb=>by
   rcases mem_dbl.mp (mem_ds.mp hb) with z | z
   ·exact bin b z
   ·exact⟨(bin _ z).2,(bin _ z).1⟩
  have dln:(dbl (srt bs)).length<=132:=by rw[dbl_len,(srt_perm bs).length_eq];omega
  have pin:∀ b∈dbl (srt ls),b.1∈us/\b.2∈us:=fun b hb=>by
   rcases mem_dbl.mp (mem_ds.mp hb) with z | z
   ·exact⟨(hm _).mpr (WP.wl.ok _ z).1,(hm _).mpr (WP.wl.ok _ z).2.1⟩
   ·exact⟨(hm _).mpr (WP.wl.ok _ z).2.1,(hm _).mpr (WP.wl.ok _ z).1⟩
  have cov:∀ b∈dbl (srt ls),rfs (paO pf) (dbl (srt bs)) b.1 b.2≠[]:=fun b hb=>zap fun hne=>by
   rcases mem_dbl.mp (mem_ds.mp hb) with z | z
   ·exact gg.cov b z hne
   ·obtain⟨c,hc,e⟩:=gg.cov _ z fun zz=>hne zz.symm
    refine⟨c,hc,e.trans ?_⟩;unfold jk;rw[Int.min_comm,Int.max_comm]
  have dnd:=WP.wl.dnd;have pln:(dbl (srt ls)).length<=132:=by rw[dbl_len,(srt_perm ls).length_eq];have:=WP.wl.le;omega
  refine⟨_,rfl,q,dx,dp,ob,pf,paO pf,us,bs,rfl,Y.same s1,U,Bb,l66,bin,fun bd bj H2 hbd br2 lbj s2=>?_⟩;refine fun d hd=>?_;have s3:=sW (o:=HO.dT []) hd;have h3:=za (H:=H2) (a:=d) (o:=HO.dT []);generalize upd H2 d (HO.dT [])=H3 at *;have s02:=s1.trans s2;have s03:=s02.trans s3;refine⟨_,rfl,p,hs,ls,rfl,WP.same s03,fun l rs H4 hl h4 L4 s4=>?_⟩;have s24:=s3.trans s4;have fd:H d=none:=s02.free hd;refine⟨l,rfl,⟨_,sO h4⟩,?_⟩;have lr:=L4.1;have nld:l≠d:=fun z=>by rw[z,h3] at hl;cases hl
  have hd4:=s4 _ _ h3;generalize hqs:dbl (srt ls)=qs at *;have LX:∀ {G:Hp},Ext d H4 G->LnAt G rs qs:=fun {G} x=>⟨L4.1,fun n r p a1 a2=>by
   obtain⟨qq,b1,b2⟩:=L4.2 n r p a1 a2;exact⟨qq,b1,x _ _ b2 fun z=>by rw[z,hd4] at b2;cases b2⟩⟩
  have SX:∀ {G:Hp},Ext d H4 G->Same H2 G:=fun {G} x c o hc=>x _ _ (s24 _ _ hc) fun z=>by rw[z,hd] at hc;cases hc
  refine for_list (xs:=rs) (fun i σ H'=>∃ (js:List ((Int×Int)×Addr×LI)) (o4 o5:Option V),σ=[some (.ref p),some (.ref q),some (.ref bd),some (.ref d),o4,o5]/\Pp H' d js/\js.map (·.1)=qs.take i/\(∀ j∈js,(rfs (paO pf) (dbl (srt bs)) j.1.1 j.1.2).head?=some j.2.2)/\Ext d H4 H') ?_ ?_ ?_ ?_
  ·exact⟨[],none,none,rfl,⟨hd4,nodup_nil,(fun j hj=>(nomatch hj)),by simp⟩,by simp,(fun j hj=>(nomatch hj)),Ext.refl⟩
  ·rintro i σ H' hi ⟨js,o4,o5,_,_,_,_,x⟩
   exact sO (x _ _ h4 nld)
  ·rintro i v σ H5 hi ⟨js,o4,o5,rfl,pp,ek,eh,x5⟩
   obtain⟨⟨x,y⟩,t,hp,rfl,ht⟩:=(LX x5).get hi;have hxy:=mem_of_getElem? hp;obtain⟨hx,hy⟩:=pin _ hxy;have hne:=cov _ hxy;dsimp only at ht hx hy hne;have etk:qs.take (i+1)=qs.take i++[(x,y)]:=by rw[take_add_one,hp];rfl
   have S5:=SX x5;have Y5:=(Y.same s02).same S5;refine⟨t,_,rfl,sP ht,rfl,_,_,rfl,_,_,rfl,rfl,?_⟩;refine⟨_,rfl,_,rfl,_,rfl,_,rfl,q,dx,dp,ob,bd,pf,paO pf,us,dbl (srt bs),bj,x,y,rfl,Y5.r,U,br2.same S5,din,dln,hx,hy,fun lr6 H6 hlr ll6 s6=>?_⟩;obtain⟨ps,e1,e2,e3⟩:=ll6;cases hps:ps with
   |nil=>rw[hps] at e3;exact absurd e3.symm hne
   |cons r0 ps' =>
   rw[hps] at e1 e2 e3;refine⟨lr6,_,0,V.ref r0.1,rfl,rfl,sO e1,zV (j:=0) rfl,?_⟩;have hr0:=e2 r0 mem_cons_self;have ehd:(rfs (paO pf) (dbl (srt bs)) x y).head?=some r0.2:=by rw[<- e3];rfl
   refine⟨_,rfl,_,rfl,_,rfl,(by show 2<=sizeLine;decide),fun kt hkt=>?_⟩;have s7:=sW (o:=HO.tup [V.int x,V.int y]) hkt;have hk7:=za (H:=H6) (a:=kt) (o:=HO.tup [V.int x,V.int y]);generalize upd H6 kt (HO.tup [V.int x,V.int y])=H7 at *;have s57:=s6.trans s7;have pp7:=pp.same s57;have hnew:yH (x,y)∉(kvP js).map (·.1):=by
    rw[ZT];intro z;obtain⟨u,hu',e⟩:=mem_map.mp z;rw[xj e,ek] at hu';exact wS dnd hp hu'
   have ljs:js.length<=131:=by
    have h1:=congrArg List.length ek;rw[length_map,length_take] at h1;have h2:=(List.getElem?_eq_some_iff.mp hp).1;omega
   refine⟨d,_,rfl,DPut.t (k:=yH (x,y)) pp7.dd hk7 (by unfold kvP;rw[length_map];exact zj (by omega)),?_⟩;refine⟨js++[((x,y),r0.1,r0.2)],_,_,rfl,⟨?_,?_,fun j hj=>?_,by rw[length_append,length_singleton];omega⟩,?_,fun j hj=>?_,(x5.trans (Ext.same s57)).trans Ext.at⟩
   ·rw[za,putK_new hnew]
    unfold kvP;rw[map_append];rfl
   ·have e:(js++[((x,y),r0.1,r0.2)]).map (·.1)=qs.take (i+1):=by rw[map_append,ek,etk];rfl
    rw[e];exact dnd.sublist (take_sublist _ _)
   ·have hrow:∀ {b:Addr}{ns:LI},H7 b=some (.lst (ns.map V.int))->(upd H7 d (.dT (putK (kvP js) (yH (x,y)) (V.ref r0.1)))) b=some (.lst (ns.map V.int)):=fun {b ns} e=>by
     rw[upd_ne (fun z=>by rw[z,pp7.dd] at e;cases e)];exact e
    rcases mem_append.mp hj with z | z
    ·exact hrow (pp7.row j z)
    ·rw[mem_singleton.mp z]
     exact hrow (s7 _ _ hr0)
   ·rw[map_append,ek,etk]
    rfl
   ·rcases mem_append.mp hj with z | z
    ·exact eh j z
    ·rw[mem_singleton.mp z]
     exact ehd
  ·rintro σ H' ⟨js,o4,o5,rfl,pp,ek,eh,x5⟩
   rw[take_of_length_le (by omega)] at ek;exact⟨_,rfl,k d js H' fd pp ⟨by rw[hqs];exact ek,eh⟩ (s02.trans (SX x5))⟩
theorem We{f:Int->V}{us:LI}{x:Int}{v:V}(hx:x∈us):putK (tabV f us) (.inl x) v=tabV (fun y=>if y=x then v else f y) us:=by
 unfold putK;have h:((tabV f us).any fun kv=>decide (kv.1=(Sum.inl x:Key)))=true:=by
  rw[any_eq_true];exact⟨(Sum.inl x,f x),mem_map.mpr ⟨x,hx,rfl⟩,by simp⟩
 rw[if_pos h];unfold tabV;rw[map_map];refine map_congr_left fun y _=>?_;show(if (Sum.inl y:Key)=Sum.inl x then((Sum.inl y:Key),v) else(Sum.inl y,f y))=(Sum.inl y,if y=x then v else f y);by_cases c:y=x
 ·rw[if_pos c,if_pos (by rw[c])]
 ·rw[if_neg c,if_neg (fun z=>c (by injection z))]
def UpS(us:LI)(pf:Int->Option Int)(pa:Int->LI):Prop:=∃ sf:Int->Nat,(∀ x∈us,sf x<us.length)/\∀ x∈us,(pf x=none/\pa x=[x])\/∃ y,pf x=some y/\y∈us/\pa x=x::pa y/\sf y<sf x
theorem UpS.up{us:LI}{pf:Int->Option Int}{pa:Int->LI}(h:UpS us pf pa):UpP us pf pa:=let ⟨sf,_,u⟩:=h;⟨sf,u⟩
def paF(pa:Int->LI)(x:Int):Option Int->List Int
 |none=>[x]
 |some y=>x::pa y
theorem UpS.add{us:LI}{pf:Int->Option Int}{pa:Int->LI}{x:Int}{o:Option Int}(h:UpS us pf pa)(hx:x∉us)(ho:∀ y,o=some y->y∈us):UpS (us++[x]) (fun z=>if z=x then o else pf z) (fun z=>if z=x then paF pa x o else pa z):=by
 obtain⟨sf,h1,h2⟩:=h;have ne:∀ {z},z∈us->z≠x:=fun hz e=>hx (by rw[<- e];exact hz);refine⟨fun z=>if z=x then us.length else sf z,fun z hz=>?_,fun z hz=>?_⟩
 ·rw[length_append,length_singleton]
  dsimp only;by_cases c:z=x
  ·rw[if_pos c];omega
  ·rw[if_neg c]
   have:=h1 z ((mem_append.mp hz).resolve_right fun e=>c (mem_singleton.mp e));omega
 ·dsimp only
  by_cases c:z=x
  ·subst c
   rw[if_pos rfl,if_pos rfl,if_pos rfl];cases o with
   |none=>exact .inl ⟨rfl,rfl⟩
   |some y =>
    have hy:=ho y rfl;refine .inr ⟨y,rfl,mem_append.mpr (.inl hy),?_,?_⟩
    ·rw[if_neg (ne hy)];rfl
    ·rw[if_neg (ne hy)];exact h1 y hy
  ·have hz':=(mem_append.mp hz).resolve_right fun e=>c (mem_singleton.mp e)
   rw[if_neg c,if_neg c,if_neg c];rcases h2 z hz' with q | ⟨y,q1,q2,q3,q4⟩
   ·exact .inl q
   ·exact .inr ⟨y,q1,mem_append.mpr (.inl q2),by rw[if_neg (ne q2)];exact q3,by rw[if_neg (ne q2)];exact q4⟩
structure Bw (lf:Int->Int) (ls bs:LP) (kvs:List (List Key×V)):Prop where
 sub:bs.Sublist ls
 df:∀ b∈bs,lf b.1≠lf b.2
 cov:∀ p∈ls,lf p.1≠lf p.2->∃ b∈bs,jk lf b=jk lf p
 key:∀ k:Int×Int,yH k∈kvs.map (·.1)↔∃ b∈bs,jk lf b=k
 len:kvs.length<=ls.length
theorem Bw.skip{lf:Int->Int}{ls bs:LP}{kvs:List (List Key×V)}{p:Int×Int}(h:Bw lf ls bs kvs)(c:lf p.1≠lf p.2->∃ b∈bs,jk lf b=jk lf p):Bw lf (ls++[p]) bs kvs :=
 ⟨h.sub.trans (List.sublist_append_left _ _),h.df,fun q hq hne=>(mem_append.mp hq).elim (fun z=>h.cov q z hne) fun z=>by rw[mem_singleton.mp z] at hne ⊢;exact c hne,h.key,by rw[length_append];have:=h.len;omega⟩
theorem Bw.add{lf:Int->Int}{ls bs:LP}{kvs:List (List Key×V)}{p:Int×Int}{v:V}(h:Bw lf ls bs kvs)(c:lf p.1≠lf p.2):Bw lf (ls++[p]) (bs++[p]) (putK kvs (yH (jk lf p)) v):=by
 refine⟨h.sub.append (List.Sublist.refl _),fun b hb=>?_,fun q hq hne=>?_,fun k=>?_,?_⟩
 ·rcases mem_append.mp hb with z | z
  ·exact h.df b z
  ·rw[mem_singleton.mp z];exact c
 ·rcases mem_append.mp hq with z | z
  ·obtain⟨b,h1,h2⟩:=h.cov q z hne
   exact⟨b,mem_append.mpr (.inl h1),h2⟩
  ·exact⟨q,mem_append.mpr (.inr z),rfl⟩
 ·have hpk:yH k∈(putK kvs (yH (jk lf p)) v).map (·.1)↔yH k∈kvs.map (·.1)\/k=jk lf p:=by
   by_cases hin:yH (jk lf p)∈kvs.map (·.1)
   ·rw[YR hin]
    constructor
    ·exact .inl
    ·rintro(z | z)
     ·exact z
     ·rw[z];exact hin
   ·rw[putK_new hin,map_append,mem_append]
    constructor
    ·rintro(z | z)
     ·exact .inl z
     ·exact .inr (xj (mem_singleton.mp z))
    ·rintro(z | z)
     ·exact .inl z
     ·exact .inr (by rw[z];simp)
  rw[hpk,h.key k]
  constructor
  ·rintro(⟨b,h1,h2⟩ | z)
   ·exact⟨b,mem_append.mpr (.inl h1),h2⟩
   ·exact⟨p,by simp,z.symm⟩
  ·rintro⟨b,h1,h2⟩
   rcases mem_append.mp h1 with z | z
   ·exact .inl ⟨b,z,h2⟩
   ·rw[mem_singleton.mp z] at h2
    exact .inr h2.symm
 ·have:=yn kvs (yH (jk lf p)) v
  have:=h.len;rw[length_append,length_singleton];omega
def zcU:Sp:=fun vs H Q _=>∃ (l h q:Addr) (rs:List V) (hs:LI) (ls:LP),vs=[.ref l,.ref h,.ref q]/\XsAt H l/\H h=some (.lst (hs.map V.int))/\h≠l/\H q=some (.lst rs)/\q≠l/\LnAt H rs ls/\Hs hs/\Ls hs ls /\
 ∀ (t d lb:Addr) (us:LI) (pf:Int->Option Int) (pa:Int->LI) (bs:LP) (rb:List V) (H':Hp),H' t=some (.tup [.ref d,.ref lb])->H' d=some (.dK (tabV (fun x=>opV (pf x)) us))->H' lb=some (.lst rb)->LnAt H' rb bs->us.Nodup->Gd hs ls pf pa us bs->XsAt H' l->Ext l H H'->lb≠l->Q (.ref t) H'
theorem zck(T:Txt w K mg a):FnOk P w K mg base CX0 3 433 (dK K 433) ["_law_xs", "_law_hands_here", "_law_lines_here"] zcU:=by
 have c__law_take:=cal P base T 25 rfl (xH T);have c__law_near:=cal P base T 29 rfl (zaO T);have c__law_both:=cal P base T 31 rfl (zaR T);refine(T.fn 32 rfl).ok (scp 32 rfl) (fun vs H Q E h=>?_) (fun cdv A outer s H vs Q E hr h=>?_)
 ·obtain⟨l,h,q,rs,hs,ls,rfl,_⟩:=h
  rfl
 ·obtain⟨l,h,q,rs,hs,ls,rfl,hX,hh,nhl,hq,nql,L,wh,wl,k⟩:=h
  have hu:=yY hr;have l12:=wh.l12;have un:∀ n:Nat,n<=3->(A.deeper (PyProof.Rows.envOfC "_law_drawn_way" (defScope (top 46)) s.heap.objs.size 433 cdv)).units+n+2<cLine:=fun n hn=>by
   have:=hr.units;omega
  have lnX:∀ {H':Hp},Ext l H H'->LnAt H' rs ls:=fun {H'} y=>⟨L.1,fun n r p a1 a2=>by
   obtain⟨qq,b1,b2⟩:=L.2 n r p a1 a2;exact⟨qq,b1,y _ _ b2 fun z=>by
    obtain⟨ms,e',_⟩:=hX;rw[z,e'] at b2;cases b2⟩⟩
  refine zT (zd (zk (i:=3) (scp 32 rfl).nd rfl (Or.inr rfl) Z4)
   (zd (zk (i:=4) (scp 32 rfl).nd rfl (Or.inl rfl) (zU yF (by rfl) (T.n 6 rfl) bt_list (zb (w_pv 1) w_pa_nil)))
   (zd (xv PassesOwn.never (zh (wQ vB vC) (w_pv 4) (w_pe_lst w_pa_nil) (zu _))
    (zd (zk (i:=5) (scp 32 rfl).nd rfl (Or.inl rfl) (w_pe_bm F.plainAttrs_list F.slot_list_pop F.type_list_pop ZR (w_pv 4) (zM (zn c__law_take hr.m (zb (w_pv 0) (zM (zl zw (by rfl) (T.n 0 rfl) yg (zb (w_pv 4) w_pa_nil)) w_pa_nil))) w_pa_nil)))
    (zd (yT (i:=6) rfl (scp 32 rfl).nd rfl (Or.inl rfl) (N':=["_law_other", "_law_parents"]) (t:=1) (caps:=[3]) ⟨rfl,rfl,rfl⟩ (zB (zn c__law_near hr.m (zb (w_pv 2) (zb (w_pv 5) w_pa_nil)))) (fun _=>(zm (i:=0) (show(["_law_other", "_law_parents"]:List Str).Nodup by decide +kernel) rfl (Or.inl rfl))) (fun _=>(yO (ww (vJ hu (w_pv 0) (w_pv 1))))) (fun _=>(w_pv 0)))
    (zd (w_ps_dput hu (w_pv 3) (w_pv 5) zW rfl)
    (w_pss_one (zq (wf (yJ (zh (wQ vB vC) (w_pv 6) (w_pe_lst w_pa_nil) (zu _)) (yt (zh Zj (zn c__law_take hr.m (zb (w_pv 0) (zK ze w_pa_nil))) ze (zu _)))))
     (w_pss_one (w_ps_dput hu (w_pv 3) (w_pv 5) (zx zY (w_pv 6) (zn c__law_take hr.m (zb (w_pv 0) (zM (zl zw (by rfl) (T.n 0 rfl) yg (zb (w_pv 6) w_pa_nil)) w_pa_nil))) (fun _ _=>rfl)) rfl))
     zi))))))
   (zd (zk (i:=7) (scp 32 rfl).nd rfl (Or.inl rfl) (w_pe_lst w_pa_nil))
   (zd (zk (i:=8) (scp 32 rfl).nd rfl (Or.inl rfl) yN)
   (zd (zL PassesOwn.never rfl (zB (w_pv 2)) (zm (i:=9) (scp 32 rfl).nd rfl (Or.inl rfl))
    (zd (zk (i:=10) (scp 32 rfl).nd rfl (Or.inl rfl) (zn c__law_both hr.m (zb (w_pv 3) (w_pa_cons (zx zX (w_pv 9) ze (fun _ _=>rfl)) (w_pa_cons (zx zX (w_pv 9) ze (fun _ _=>rfl)) w_pa_nil)))))
    (w_pss_one (zq (wf (yJ (zh wO (zx zX (w_pv 10) ze (fun _ _=>rfl)) (zx zX (w_pv 10) ze (fun _ _=>rfl)) (zu _)) (yt (wf (yh (ww (wJ hu (w_pv 10) (w_pv 8))) (zZ (zh yu (zn c__law_take hr.m (zb (w_pv 0) (zK ze w_pa_nil))) ze (zu _))))))))
     (zd (w_ps_dput hu (w_pv 8) (w_pv 10) zy rfl)
     (w_pss_one (w_ps_expr (w_pe_bm F.plainAttrs_list F.slot_list_append F.type_list_append yc (w_pv 7) (zb (w_pv 9) w_pa_nil)))))
     zi))))
   (zd (zk (i:=11) (scp 32 rfl).nd rfl (Or.inl rfl) (zn c__law_take hr.m (zb (w_pv 0) (xn (zo yw (zl zw (by rfl) (T.n 0 rfl) yg (zb (w_pv 7) w_pa_nil)) ze) w_pa_nil))))
   (w_pss_one (zg (zD (zb (w_pv 3) (xn (zo yU (zH yq (w_pv 7) (w_po_some (w_pv 11)) yj) (zH yq (w_pv 7) yj (w_po_some (w_pv 11)))) w_pa_nil)))))))))))) ?_
  refine fun d hd=>?_;have ndl:d≠l:=hX.ne hd;have y0:Ext l H (upd H d (HO.dK [])):=Ext.new hd;have x0:=hX.new (o:=HO.dK []) hd;have hd0:=za (H:=H) (a:=d) (o:=HO.dK []);generalize upd H d (HO.dK [])=H0 at *;refine⟨_,rfl,h,_,rfl,.inl (sO (y0 _ _ hh nhl)),fun lf hlf=>?_⟩;have nfl:lf≠l:=x0.ne hlf;have nfd:d≠lf:=fun z=>by rw[<- z,hd0] at hlf;cases hlf
  have fd:H d=none:=hd;have ff:H lf=none:=y0.free nfl hlf;refine⟨fun m σ H'=>∃ (us left:LI) (pf:Int->Option Int) (pa:Int->LI) (o5 o6 o7 o8 o9 o10 o11:Option V),m=left.length/\σ=[some (.ref l),some (.ref h),some (.ref q),some (.ref d),some (.ref lf),o5,o6,o7,o8,o9,o10,o11]/\H' d=some (.dK (tabV (fun x=>opV (pf x)) us))/\H' lf=some (.lst (left.map V.int))/\us.Nodup/\left.Nodup/\(∀ x,x∈hs↔x∈us\/x∈left)/\(∀ x∈left,x∉us)/\UpS us pf pa/\(∀ x∈us,∀ y,pf x=some y->adB ls x y=true)/\XsAt H' l/\Ext l H H',⟨_,[],hs,fun _=>none,fun x=>[x],none,none,none,none,none,none,none,rfl,rfl,?_,za,nodup_nil,WK wh,(fun x=>by simp),(fun x _=>by simp),⟨fun _=>0,(fun x hx=>(nomatch hx)),(fun x hx=>(nomatch hx))⟩,(fun x hx=>(nomatch hx)),x0.new hlf,y0.trans (Ext.new hlf)⟩,?_⟩
  ·rw[upd_ne nfd];exact hd0
  rintro m σ H3 ⟨us,left,pf,pa,o5,o6,o7,o8,o9,o10,o11,rfl,rfl,hd3,hl3,ndu,ndL,hm,hdj,U,had,x3,y3⟩;have hsu:∀ x∈us,x∈hs:=fun x hx=>(hm x).mpr (.inl hx);have us12:us.length<=12:=le_trans (xy ndu hsu) l12;have lf12:left.length<=12:=le_trans (xy ndL fun x hx=>(hm x).mpr (.inr hx)) l12;refine⟨_,rfl,(by show 0<=sizeLine;decide),fun e he=>?_⟩;have se:=sW (o:=HO.lst []) he;have xe:=x3.new (o:=HO.lst []) he;have ye:=y3.trans (Ext.new (l:=l) (o:=HO.lst []) he);cases hcl:left with
  |nil =>
   rw[hcl] at hl3;refine .inl ⟨lf,e,_,_,fun _=>true,0,rfl,rfl,.inl ⟨sO (se _ _ hl3),sO za⟩,rfl,un 0 (by omega),(fun j x y hx=>by cases hx),_,rfl,zF rfl ?_⟩;have hmem:∀ x,x∈us↔x∈hs:=fun x=>by
    rw[hm x,hcl];simp
   have UP:=U.up;have hd4:=se _ _ hd3;generalize upd H3 e (HO.lst [])=H4 at *;refine⟨(by show 0<=sizeLine;decide),fun bl hbl=>?_⟩;have nbl:bl≠l:=xe.ne hbl;have fbl:H bl=none:=ye.free nbl hbl;have s5:=sW (o:=HO.lst []) hbl;have hb5:=za (H:=H4) (a:=bl) (o:=HO.lst []);have x5:=xe.new (o:=HO.lst []) hbl;have y5:=ye.trans (Ext.new (l:=l) (o:=HO.lst []) hbl);have hd5:=s5 _ _ hd4;generalize upd H4 bl (HO.lst [])=H5 at *;refine fun dj hdj'=>?_;have ndj:dj≠l:=x5.ne hdj';have fdj:H dj=none:=y5.free ndj hdj';have s6:=sW (o:=HO.dT []) hdj';have hj6:=za (H:=H5) (a:=dj) (o:=HO.dT []);have x6:=x5.new (o:=HO.dT []) hdj';have y6:=y5.trans (Ext.new (l:=l) (o:=HO.dT []) hdj');have hd6:=s6 _ _ hd5;have hb6:=s6 _ _ hb5;generalize upd H5 dj (HO.dT [])=H6 at *;have njb:dj≠bl:=fun z=>by rw[z,hb6] at hj6;cases hj6
   have njd:dj≠d:=fun z=>by rw[z,hd6] at hj6;cases hj6
   have nbd:bl≠d:=fun z=>by rw[z,hd6] at hb6;cases hb6
   have hq6:=y6 _ _ hq nql;refine⟨_,rfl,q,rfl,⟨_,sO hq6⟩,?_⟩;have lr:=L.1;generalize hlf:ldr pa=lf' at *;refine for_list (xs:=rs) (fun i σ H'=>∃ (bs:LP) (rb:List V) (kvs:List (List Key×V)) (o9 o10 o11:Option V),σ=[some (.ref l),some (.ref h),some (.ref q),some (.ref d),some (.ref lf),o5,o6,some (.ref bl),some (.ref dj),o9,o10,o11]/\H' d=some (.dK (tabV (fun x=>opV (pf x)) us))/\H' bl=some (.lst rb)/\LnAt H' rb bs/\H' dj=some (.dT kvs)/\Bw lf' (ls.take i) bs kvs/\XsAt H' l/\Ext l H H') ?_ ?_ ?_ ?_
   ·exact⟨[],[],[],_,_,_,rfl,hd6,hb6,⟨rfl,fun n r p a1=>by simp at a1⟩,hj6,⟨List.Sublist.refl _,(fun b hb=>(nomatch hb)),(fun p hp=>by simp at hp),(fun k=>by simp),Nat.le_refl _⟩,x6,y6⟩
   ·rintro i σ H' hi ⟨bs,rb,kvs,_,_,_,_,_,_,_,_,_,_,y⟩
    exact sO (y _ _ hq nql)
   ·rintro i v σ H7 hi ⟨bs,rb,kvs,o9,o10,o11,rfl,hd7,hb7,Lb,hj7,BW,x7,y7⟩
    obtain⟨⟨x,y⟩,qa,hp,rfl,hqa⟩:=(L.extX hX y7).get hi;have hpm:=mem_of_getElem? hp;have hxy:=wl.ok _ hpm;dsimp only at hxy hqa;have hx:=(hmem x).mpr hxy.1;have hy:=(hmem y).mpr hxy.2.1;have hil:i<rs.length:=(List.getElem?_eq_some_iff.mp hi).1;have etk:ls.take (i+1)=ls.take i++[(x,y)]:=by rw[take_add_one,hp];rfl
    have kl:kvs.length<=66:=by
     have h1:=BW.len;rw[length_take] at h1;have:=wl.le;omega
    refine⟨_,rfl,_,rfl,qa,_,0,_,rfl,rfl,sP hqa,rfl,_,rfl,qa,_,1,_,rfl,rfl,sP hqa,rfl,d,pf,pa,us,x,y,rfl,hd7,us12,UP,hx,hy,fun tb H8 htb htb8 s8=>?_⟩;rw[hlf] at htb8;have hd8:=s8 _ _ hd7;have hb8:=s8 _ _ hb7;have hj8:=s8 _ _ hj7;have x8:=x7.same s8;have y8:=y7.trans (Ext.same s8);have hqa8:=s8 _ _ hqa;have Lb8:=Lb.same s8;refine⟨_,rfl,tb,_,0,_,rfl,rfl,sP htb8,rfl,_,rfl,tb,_,1,_,rfl,rfl,sP htb8,rfl,rfl,_,rfl,?_⟩;have hj1:(jk lf' (x,y)).1=min (lf' x) (lf' y):=rfl;have hj2:(jk lf' (x,y)).2=max (lf' x) (lf' y):=rfl;have go:∀ H9 (o11:Option V),lf' x≠lf' y->H9 d=some (.dK (tabV (fun x=>opV (pf x)) us))->H9 bl=some (.lst rb)->LnAt H9 rb bs->H9 dj=some (.dT kvs)->H9 qa=some (.tup [.int x,.int y])->XsAt H9 l->Ext l H H9 ->
      ∃ (bs':LP) (rb':List V) (kvs':List (List Key×V)) (o9' o10' o11':Option V),([some (.ref l),some (.ref h),some (.ref q),some (.ref d),some (.ref lf),o5,o6,some (.ref bl),some (.ref dj),some (.ref qa),some (.ref tb),o11]:St)=[some (.ref l),some (.ref h),some (.ref q),some (.ref d),some (.ref lf),o5,o6,some (.ref bl),some (.ref dj),o9',o10',o11']/\(upd (upd H9 dj (.dT (putK kvs (yH (jk lf' (x,y))) (.bl true)))) bl (.lst (rb++[.ref qa]))) d=some (.dK (tabV (fun x=>opV (pf x)) us))/\(upd (upd H9 dj (.dT (putK kvs (yH (jk lf' (x,y))) (.bl true)))) bl (.lst (rb++[.ref qa]))) bl=some (.lst rb')/\LnAt (upd (upd H9 dj (.dT (putK kvs (yH (jk lf' (x,y))) (.bl true)))) bl (.lst (rb++[.ref qa]))) rb' bs'/\(upd (upd H9 dj (.dT (putK kvs (yH (jk lf' (x,y))) (.bl true)))) bl (.lst (rb++[.ref qa]))) dj=some (.dT kvs')/\Bw lf' (ls.take (i+1)) bs' kvs'/\XsAt (upd (upd H9 dj (.dT (putK kvs (yH (jk lf' (x,y))) (.bl true)))) bl (.lst (rb++[.ref qa]))) l/\Ext l H (upd (upd H9 dj (.dT (putK kvs (yH (jk lf' (x,y))) (.bl true)))) bl (.lst (rb++[.ref qa]))):=fun H9 o11 c a1 a2 a3 a4 a5 a6 a7=>by
     have b1:(upd H9 dj (.dT (putK kvs (yH (jk lf' (x,y))) (.bl true)))) bl=some (.lst rb):=(upd_ne njb.symm).trans a2;have nqj:qa≠dj:=fun z=>by rw[z,a4] at a5;cases a5
     have L1:LnAt (upd H9 dj (.dT (putK kvs (yH (jk lf' (x,y))) (.bl true)))) rb bs:=a3.updN a4 (fun _ z=>by cases z);refine⟨bs++[(x,y)],rb++[.ref qa],_,_,_,_,rfl,(upd_ne nbd.symm).trans ((upd_ne njd.symm).trans a1),za,(L1.snoc ((upd_ne nqj).trans a5)).updN b1 (fun _ z=>by cases z),(upd_ne njb).trans za,by rw[etk];exact BW.add c,(a6.upd ndj).upd nbl,fun b o e nb=>?_⟩;rw[upd_ne (nZ e fbl),upd_ne (nZ e fdj)];exact a7 b o e nb
    by_cases c:lf' x=lf' y
    ·refine zF (by rw[hj1,hj2,c];simp) (zF rfl ?_)
     refine⟨bs,rb,kvs,_,_,_,rfl,hd8,hb8,Lb8,hj8,by rw[etk];exact BW.skip fun z=>absurd c z,x8,y8⟩
    ·refine iteB (by rw[hj1,hj2];simp;omega) ?_
     have rl:rb.length<=66:=by
      have h1:=BW.sub.length_le;rw[length_take] at h1;have:=Lb.1;have:=wl.le;omega
     by_cases cin:yH (jk lf' (x,y))∈kvs.map (·.1)
     ·refine⟨_,rfl,_,rfl,dj,_,rfl,DGet.t (k:=yH (jk lf' (x,y))) hj8 htb8,_,rfl,zF (by rw[valV_yes cin];rfl) ?_⟩
      refine⟨_,rfl,l,2,rfl,x8,by decide,fun t2 H9 t0 t1 x9 y9=>?_⟩;have hd9:=y9 _ _ hd8 ndl;have hb9:=y9 _ _ hb8 nbl;have hj9:=y9 _ _ hj8 ndj;have Lb9:=Lb8.extX x8 y9;have nta:∀ {b xs},H8 b=some (.tup xs)->b≠l:=fun {b xs} e z=>by
       obtain⟨ms,e',_⟩:=x8;rw[z,e'] at e;cases e
      have hqa9:=y9 _ _ hqa8 (nta hqa8);have htb9:=y9 _ _ htb8 (nta htb8);refine⟨rfl,_,rfl,?_⟩;by_cases c2:t2=0
      ·refine iteB (by simp[c2]) ?_
       refine⟨_,rfl,_,rfl,dj,_,rfl,DPut.t (k:=yH (jk lf' (x,y))) hj9 htb9 (zj (by omega)),?_⟩;refine⟨_,rfl,.inl ⟨rfl,_,sO ((upd_ne njb.symm).trans hb9)⟩,_,rfl,bl,_,_,rfl,rfl,(upd_ne njb.symm).trans hb9,zj (by omega),?_⟩;exact go H9 _ c hd9 hb9 Lb9 hj9 hqa9 x9 (y8.trans y9)
      ·refine zF (by simp[c2]) ?_
       refine⟨bs,rb,kvs,_,_,_,rfl,hd9,hb9,Lb9,hj9,by rw[etk];exact BW.skip fun _=>(BW.key _).mp cin,x9,y8.trans y9⟩
     ·refine⟨_,rfl,_,rfl,dj,_,rfl,DGet.t (k:=yH (jk lf' (x,y))) hj8 htb8,_,rfl,iteB (by rw[wK cin];rfl) (iteT ?_)⟩
      refine⟨_,rfl,_,rfl,dj,_,rfl,DPut.t (k:=yH (jk lf' (x,y))) hj8 htb8 (zj (by omega)),?_⟩;refine⟨_,rfl,.inl ⟨rfl,_,sO ((upd_ne njb.symm).trans hb8)⟩,_,rfl,bl,_,_,rfl,rfl,(upd_ne njb.symm).trans hb8,zj (by omega),?_⟩;exact go H8 _ c hd8 hb8 Lb8 hj8 hqa8 x8 y8
   ·rintro σ H7 ⟨bs,rb,kvs,o9,o10,o11,rfl,hd7,hb7,Lb,hj7,BW,x7,y7⟩
    rw[lr,take_length] at BW;have rl:=Lb.1;have bl66:bs.length<=66:=le_trans BW.sub.length_le wl.le;refine⟨_,rfl,_,rfl,bl,_,rfl,.inl (sO hb7),_,_,rfl,rfl,l,_,rfl,x7,(by show(0:Int)<(rb.length:Int)+1;omega),fun at0 H8 a0 a1 x8 y8=>?_⟩;have hb8:=y8 _ _ hb7 nbl;have hd8:=y8 _ _ hd7 ndl;have Lb8:=Lb.extX x7 y8;obtain⟨n,rfl⟩:∃ n:Nat,at0=(n:Int):=⟨at0.toNat,by omega⟩;have hn:n<=rb.length:=by omega
    refine⟨_,rfl,_,rfl,_,rfl,_,rfl,bl,_,rfl,sO hb8,fun p1 hp1=>?_⟩;have z4:=sW (o:=HO.lst (cutV rb (some (n:Int)) none)) hp1;refine⟨_,rfl,_,rfl,_,rfl,bl,_,rfl,sO (z4 _ _ hb8),fun p2 hp2=>?_⟩;have z5:=sW (o:=HO.lst (cutV rb none (some (n:Int)))) hp2;have l1:=yo rb (some (n:Int)) none;have l2:=yo rb none (some (n:Int));refine⟨p1,p2,_,_,rfl,rfl,z5 _ _ za,za,(Nat.le_of_lt (zj (by omega))),fun p3 hp3=>?_⟩;have z6:=sW (o:=HO.lst (cutV rb (some (n:Int)) none++cutV rb none (some (n:Int)))) hp3;have z456:=(z4.trans z5).trans z6;have hp33:=za (H:=(upd (upd H8 p1 (HO.lst (cutV rb (some (n:Int)) none))) p2 (HO.lst (cutV rb none (some (n:Int)))))) (a:=p3) (o:=HO.lst (cutV rb (some (n:Int)) none++cutV rb none (some (n:Int))));rw[UL hn,UK hn] at *;generalize upd (upd (upd H8 p1 (HO.lst (rb.drop n))) p2 (HO.lst (rb.take n))) p3 (HO.lst (rb.drop n++rb.take n))=H9 at *;refine⟨(by show 2<=sizeLine;decide),fun pt hpt=>?_⟩;have z7:=sW (o:=HO.tup [V.ref d,V.ref p3]) hpt;have z8:=z456.trans z7;have hmr:∀ b,b∈bs.drop n++bs.take n↔b∈bs:=fun b=>by
     rw[mem_append,Or.comm,<- mem_append,take_append_drop]
    have ndb:bs.Nodup:=wl.nd.sublist BW.sub;have hin:∀ b∈bs,b∈ls:=fun b hb=>BW.sub.subset hb;refine k pt d p3 us pf pa (bs.drop n++bs.take n) (rb.drop n++rb.take n) _ za (z8 _ _ hd8) (z7 _ _ hp33) ((Lb8.cut).same z8) ndu ⟨UP,hmem,had,⟨?_,fun b hb=>wl.ok b (hin b ((hmr b).mp hb))⟩,fun b hb=>hin b ((hmr b).mp hb),fun b hb=>by rw[hlf];exact BW.df b ((hmr b).mp hb),fun p hp hne=>?_⟩ (x8.same z8) ((y7.trans y8).trans (Ext.same z8)) ((x8.same (z4.trans z5)).ne hp3)
    ·have:(bs.drop n++bs.take n).Perm bs:=List.perm_append_comm.trans (List.Perm.of_eq (take_append_drop n bs))
     exact this.nodup_iff.mpr ndb
    ·rw[hlf] at hne ⊢
     obtain⟨b,h1,h2⟩:=BW.cov p hp hne;exact⟨b,(hmr b).mpr h1,h2⟩
  |cons b0 lt =>
   rw[hcl] at hl3;refine .inr ⟨lf,e,_,_,rfl,rfl,sO (se _ _ hl3),sO za,(by simp),lt_of_le_of_lt (Nat.le_add_right _ 2) (un 0 (by omega)),_,rfl,iteT ?_⟩;refine⟨_,fun σ' H' h=>h,?_⟩;rw[<- hcl] at hl3;have hd4:=se _ _ hd3;have hl4:=se _ _ hl3;generalize upd H3 e (HO.lst [])=H4 at *;have hlp:0<left.length:=by rw[hcl];simp
   refine⟨_,rfl,.inl ⟨rfl,_,sO hl4⟩,?_⟩;refine⟨_,rfl,_,rfl,lf,_,rfl,.inl (sO hl4),l,_,rfl,xe,(by rw[length_map];omega),fun kd H5 k0 k1 x5 y5=>?_⟩;rw[length_map] at k1;have hd5:=y5 _ _ hd4 ndl;have hl5:=y5 _ _ hl4 nfl;have ye5:=ye.trans y5;have hk:seqIndex? kd (left.map V.int).length=some kd.toNat:=by
    have e:(if kd<0 then kd+(left.length:Int) else kd)=kd:=if_neg (by omega);unfold seqIndex?;rw[length_map];simp only[e];rw[if_pos (by simp;omega)]
   have hkl:kd.toNat<left.length:=by omega
   obtain⟨z,hz⟩:∃ z,left[kd.toNat]?=some z:=⟨left[kd.toNat],by simp[hkl]⟩;refine⟨lf,_,kd,kd.toNat,V.int z,rfl,rfl,hl5,by omega,by omega,hk,by rw[List.getElem?_map,hz];rfl,?_⟩;have hl6:(upd H5 lf (HO.lst ((left.map V.int).eraseIdx kd.toNat))) lf=some (.lst ((left.eraseIdx kd.toNat).map V.int)):=by rw[za,List.eraseIdx_eq_take_drop_succ,List.eraseIdx_eq_take_drop_succ,map_append,map_take,List.map_drop]
   have hd6:(upd H5 lf (HO.lst ((left.map V.int).eraseIdx kd.toNat))) d=_:=(upd_ne nfd).trans hd5;have x6:XsAt (upd H5 lf (HO.lst ((left.map V.int).eraseIdx kd.toNat))) l:=x5.upd nfl;have y6:Ext l H (upd H5 lf (HO.lst ((left.map V.int).eraseIdx kd.toNat))):=fun b o e nb=>by
    rw[upd_ne (nZ e ff)];exact ye5 b o e nb
   generalize upd H5 lf (HO.lst ((left.map V.int).eraseIdx kd.toNat))=H6 at *;have hzl:=mem_of_getElem? hz;have hzh:=(hm z).mpr (.inr hzl);have hzu:=hdj z hzl;have hperm:left.Perm (z::left.eraseIdx kd.toNat):=by
    have e:left=left.take kd.toNat++z::left.drop (kd.toNat+1):=by
     have h1:=List.getElem?_eq_some_iff.mp hz;rw[<- h1.2];exact(take_append_drop kd.toNat left).symm.trans (by rw[List.drop_eq_getElem_cons h1.1])
    have e2:left.eraseIdx kd.toNat=left.take kd.toNat++left.drop (kd.toNat+1):=List.eraseIdx_eq_take_drop_succ left kd.toNat;rw[e2];exact(List.Perm.of_eq e).trans List.perm_middle
   have hel:(left.eraseIdx kd.toNat).length+1=left.length:=by rw[hperm.length_eq];rfl
   obtain⟨hzn,ndE⟩:=nodup_cons.mp (hperm.nodup_iff.mp ndL);have hq6:=y6 _ _ hq nql;refine⟨_,rfl,_,rfl,q,z,rs,hs,ls,rfl,hq6,lnX y6,wh,wl,fun pn H7 hpn s7 hpn7=>?_⟩;refine⟨pn,rfl,⟨_,sO hpn7⟩,fun D hD _=>?_⟩;have hd7:=s7 _ _ hd6;have nDd:d≠D:=fun z=>by rw[<- z,hd7] at hD;cases hD
   refine comp_list (K:=K) (a:=pn) (xs:=(hs.filter (adB ls z)).map V.int) (fun j zs τ H'=>∃ (o:Option V),τ=[o,some (.ref d)]/\zs=(((hs.filter (adB ls z)).take j).filter fun y=>decide (y∈us)).map V.int/\H'=upd H7 D (.lst zs)) ?_ ?_ ?_ ?_
   ·exact⟨none,rfl,rfl,rfl⟩
   ·rintro j zs τ H' ⟨o,_,_,rfl⟩
    exact sO (by rw[upd_ne (nZ hpn7 hD)];exact hpn7)
   ·rintro j v zs τ H' hj ⟨o,rfl,rfl,rfl⟩
    rw[List.getElem?_map] at hj;obtain⟨y,hy,rfl⟩:=map_eq_some_iff.mp hj;have etk2:(hs.filter (adB ls z)).take (j+1)=(hs.filter (adB ls z)).take j++[y]:=by rw[take_add_one,hy];rfl
    have hd9:(upd H7 D (HO.lst ((((hs.filter (adB ls z)).take j).filter fun y=>decide (y∈us)).map V.int))) d=some (.dK (tabV (fun x=>opV (pf x)) us)):=by rw[upd_ne nDd];exact hd7
    have hlen:((((hs.filter (adB ls z)).take j).filter fun y=>decide (y∈us)).map V.int).length<sizeLine:=by
     rw[length_map];have h1:=length_filter_le (fun y=>decide (y∈us)) ((hs.filter (adB ls z)).take j);rw[length_take] at h1;have h2:=length_filter_le (adB ls z) hs;exact zj (by omega)
    by_cases c1:y∈us
    ·refine⟨_,rfl,_,rfl,d,_,rfl,vP hd9 c1,_,rfl,iteT ?_⟩
     refine⟨_,rfl,za,hlen,_,rfl,?_,?_⟩
     ·rw[etk2,filter_append,List.filter_cons_of_pos (by simpa using c1),List.filter_nil,map_append]
      rfl
     ·rw[vM]
    ·refine⟨_,rfl,_,rfl,d,none,rfl,VS hd9 c1,_,rfl,zF rfl ?_⟩
     refine⟨_,rfl,?_,rfl⟩;rw[etk2,filter_append,List.filter_cons_of_neg (by simpa using c1),List.filter_nil,append_nil]
   ·rintro zs τ H' ⟨o,rfl,rfl,rfl⟩
    rw[length_map,take_length];generalize hns:(hs.filter (adB ls z)).filter (fun y=>decide (y∈us))=ns;have hnsm:∀ y∈ns,y∈us/\adB ls z y=true:=fun y hy=>by
     rw[<- hns] at hy;obtain⟨h1,h2⟩:=mem_filter.mp hy;exact⟨of_decide_eq_true h2,(mem_filter.mp h1).2⟩
    have s8:=s7.trans (sW (o:=HO.lst (ns.map V.int)) hD);have hD8:=za (H:=H7) (a:=D) (o:=HO.lst (ns.map V.int));have hd8:=s8 _ _ hd6;have hl8:=s8 _ _ hl6;have x8:=x6.same s8;have y8:=y6.trans (Ext.same s8);have nDl:D≠l:=fun zz=>by
     obtain⟨ms,e',_⟩:=x6.same s7;rw[zz,e'] at hD;cases hD
    have nDd2:D≠d:=nDd.symm;have nDf:D≠lf:=fun zz=>by rw[zz,s7 _ _ hl6] at hD;cases hD
    generalize upd H7 D (HO.lst (ns.map V.int))=H8 at *;refine⟨_,rfl,_,rfl,d,_,rfl,DPut.k (k:=.inl z) hd8 (by rw[tabV_len];exact zj (by omega)),?_⟩;rw[Wg hzu];have ndz:(us++[z]).Nodup:=by
     rw[nodup_append];exact⟨ndu,by simp,fun u hu v hv e=>hzu (by rw[mem_singleton.mp hv] at e;rw[<- e];exact hu)⟩
    have fin:∀ (o:Option Int) (σ5 σ6:Option V) (H':Hp),(∀ y,o=some y->y∈us/\adB ls z y=true)->H' d=some (.dK (tabV (fun x=>opV (if x=z then o else pf x)) (us++[z])))->H' lf=some (.lst ((left.eraseIdx kd.toNat).map V.int))->XsAt H' l->Ext l H H' ->
      ∃ m',m'<(b0::lt).length/\∃ (us' left':LI) (pf':Int->Option Int) (pa':Int->LI) (o5 o6 o7' o8' o9' o10' o11':Option V),m'=left'.length/\([some (.ref l),some (.ref h),some (.ref q),some (.ref d),some (.ref lf),σ5,σ6,o7,o8,o9,o10,o11]:St)=[some (.ref l),some (.ref h),some (.ref q),some (.ref d),some (.ref lf),o5,o6,o7',o8',o9',o10',o11']/\H' d=some (.dK (tabV (fun x=>opV (pf' x)) us'))/\H' lf=some (.lst (left'.map V.int))/\us'.Nodup/\left'.Nodup/\(∀ x,x∈hs↔x∈us'\/x∈left')/\(∀ x∈left',x∉us')/\UpS us' pf' pa'/\(∀ x∈us',∀ y,pf' x=some y->adB ls x y=true)/\XsAt H' l/\Ext l H H':=fun o σ5 σ6 H' ho a1 a2 a3 a4=>by
     refine⟨(left.eraseIdx kd.toNat).length,by rw[<- hcl];omega,us++[z],left.eraseIdx kd.toNat,fun x=>if x=z then o else pf x,fun x=>if x=z then paF pa z o else pa x,σ5,σ6,o7,o8,o9,o10,o11,rfl,rfl,a1,a2,ndz,ndE,fun x=>?_,fun x hx hx2=>?_,U.add hzu fun y hy=>(ho y hy).1,fun x hx y hy=>?_,a3,a4⟩
     ·rw[hm x,hperm.mem_iff,mem_cons,mem_append,mem_singleton]
      constructor
      ·rintro(h1 | h1 | h1)
       ·exact .inl (.inl h1)
       ·exact .inl (.inr h1)
       ·exact .inr h1
      ·rintro((h1 | h1) | h1)
       ·exact .inl h1
       ·exact .inr (.inl h1)
       ·exact .inr (.inr h1)
     ·rcases mem_append.mp hx2 with z2 | z2
      ·exact hdj x (hperm.mem_iff.mpr (mem_cons_of_mem _ hx)) z2
      ·exact hzn (by rw[<- mem_singleton.mp z2];exact hx)
     ·dsimp only at hy
      by_cases c:x=z
      ·rw[if_pos c] at hy
       rw[c];exact(ho y hy).2
      ·rw[if_neg c] at hy
       exact had x ((mem_append.mp hx).resolve_right fun e=>c (mem_singleton.mp e)) y hy
    have e9:tabV (fun y=>if y=z then V.non else opV (pf y)) (us++[z])=tabV (fun x=>opV (if x=z then none else pf x)) (us++[z]):=vt fun y _=>by
     by_cases c:y=z
     ·rw[if_pos c,if_pos c];rfl
     ·rw[if_neg c,if_neg c]
    rw[e9];have hd9:=za (H:=H8) (a:=d) (o:=HO.dK (tabV (fun x=>opV (if x=z then none else pf x)) (us++[z])));have hl9:(upd H8 d (HO.dK (tabV (fun x=>opV (if x=z then none else pf x)) (us++[z])))) lf=_:=(upd_ne nfd.symm).trans hl8;have hD9:(upd H8 d (HO.dK (tabV (fun x=>opV (if x=z then none else pf x)) (us++[z])))) D=_:=(upd_ne nDd2).trans hD8;have x9:XsAt (upd H8 d (HO.dK (tabV (fun x=>opV (if x=z then none else pf x)) (us++[z])))) l:=x8.upd ndl;have y9:Ext l H (upd H8 d (HO.dK (tabV (fun x=>opV (if x=z then none else pf x)) (us++[z])))):=fun b o e nb=>by
     rw[upd_ne (nZ e fd)];exact y8 b o e nb
    generalize upd H8 d (HO.dK (tabV (fun x=>opV (if x=z then none else pf x)) (us++[z])))=H9 at *;refine⟨_,rfl,(by show 0<=sizeLine;decide),fun e2 he2=>?_⟩;have se2:=sW (o:=HO.lst []) he2;have nsl:ns.length<=12:=by
     rw[<- hns];have h1:=length_filter_le (fun y=>decide (y∈us)) (hs.filter (adB ls z));have h2:=length_filter_le (adB ls z) hs;omega
    have x10:=x9.new (o:=HO.lst []) he2;have y10:=y9.trans (Ext.new (l:=l) (o:=HO.lst []) he2);have hd10:=se2 _ _ hd9;have hl10:=se2 _ _ hl9;have hD10:=se2 _ _ hD9;have he10:=za (H:=H9) (a:=e2) (o:=HO.lst []);generalize upd H9 e2 (HO.lst [])=H10 at *;cases hnc:ns with
    |nil =>
     rw[hnc] at hD10;refine .inl ⟨D,e2,_,_,fun _=>true,0,rfl,rfl,.inl ⟨sO hD10,sO he10⟩,rfl,un 0 (by omega),(fun j x y hx=>by cases hx),_,rfl,zF rfl ?_⟩;exact zF rfl (fin none _ _ H10 (fun y hy=>(nomatch hy)) hd10 hl10 x10 y10)
    |cons n0 nt =>
     rw[hnc] at hD10;refine .inr ⟨D,e2,_,_,rfl,rfl,sO hD10,sO he10,(by simp),lt_of_le_of_lt (Nat.le_add_right _ 2) (un 0 (by omega)),_,rfl,iteT ?_⟩;rw[<- hnc] at hD10;have hnp:0<ns.length:=by rw[hnc];simp
     refine⟨_,rfl,l,4,rfl,x10,by decide,fun t4 H11 t0 t1 x11 y11=>?_⟩;have hd11:=y11 _ _ hd10 ndl;have hl11:=y11 _ _ hl10 nfl;have hD11:=y11 _ _ hD10 nDl;have yy:=y10.trans y11;refine⟨_,_,rfl,rfl,_,rfl,?_⟩;by_cases c4:0<t4
     ·refine iteB (by simp;omega) ?_
      refine⟨_,rfl,_,rfl,_,rfl,D,_,rfl,.inl (sO hD11),l,_,rfl,x11,(by rw[length_map];omega),fun kk H12 kk0 kk1 x12 y12=>?_⟩;rw[length_map] at kk1;have hkk:kk.toNat<ns.length:=by omega
      obtain⟨yv,hyv⟩:∃ yv,ns[kk.toNat]?=some yv:=⟨ns[kk.toNat],by simp[hkk]⟩;have hyn:=hnsm yv (mem_of_getElem? hyv);have hat:atI (ns.map V.int) kk=some (V.int yv):=by
       have:=zV (xs:=ns.map V.int) (j:=kk.toNat) (v:=V.int yv) (by rw[List.getElem?_map,hyv];rfl);rw[Int.toNat_of_nonneg kk0] at this;exact this
      have hd12:=y12 _ _ hd11 ndl;have hl12:=y12 _ _ hl11 nfl;have hD12:=y12 _ _ hD11 nDl;refine⟨D,_,_,_,rfl,rfl,sO hD12,hat,?_⟩;refine⟨_,rfl,_,rfl,d,_,rfl,DPut.k (k:=.inl z) hd12 (by rw[tabV_len,length_append,length_singleton];exact zj (by omega)),?_⟩;rw[We (mem_append.mpr (.inr (by simp)))];have e12:tabV (fun y=>if y=z then V.int yv else opV (if y=z then none else pf y)) (us++[z])=tabV (fun x=>opV (if x=z then some yv else pf x)) (us++[z]):=vt fun y _=>by
       by_cases c:y=z
       ·rw[if_pos c,if_pos c];rfl
       ·rw[if_neg c,if_neg c,if_neg c]
      rw[e12];refine fin (some yv) _ _ _ (fun y hy=>by cases hy;exact hyn) za ((upd_ne nfd.symm).trans hl12) (x12.upd ndl) fun b o e nb=>?_;rw[upd_ne (nZ e fd)];exact(yy.trans y12) b o e nb
     ·refine zF (by simp;omega) ?_
      exact fin none _ _ H11 (fun y hy=>(nomatch hy)) hd11 hl11 x11 yy
section
variable {K:W.Frag}{A:Around}{H:Hp}{D pe:Addr}{zs:List V}{Q:VK}
theorem neZ(h1:SqL K H D zs)(h2:SqL K H pe [])(hu:A.units+2<cLine)(q:Q (.bl (!zs.isEmpty)) H):zbW K A true (.ref D) (.ref pe) H Q\/zcZ K A (.ref D) (.ref pe) H Q:=by
 cases zs with
 |nil=>exact .inl ⟨D,pe,[],[],fun _=>true,0,rfl,rfl,.inl ⟨h1,h2⟩,rfl,by omega,fun j x y e=>by simp at e,q⟩
 |cons z zs=>exact .inr ⟨D,pe,_,[],rfl,rfl,h1,h2,by simp,by omega,q⟩
end
theorem zaP(T:Txt w K mg a):FnOk P w K mg base CX0 1 440 (dK K 440) ["_law_thing"] (YG K):=by
 refine(T.fn 33 rfl).ok (scp 33 rfl) (fun vs H Q E h=>?_) (fun cdv A outer s H vs Q E hr h=>?_)
 ·obtain⟨v,rfl,_⟩:=h
  rfl
 ·obtain⟨v,rfl,hv,k⟩:=h
  refine zT (w_pss_one (zg (yA (zl zG (by rfl) (T.n 5 rfl) zp (zb (w_pv 0) (zb (ya (T.n 1 rfl) uP) w_pa_nil))) (yz (vI (zl zG (by rfl) (T.n 5 rfl) zp (zb (w_pv 0) (zb (ya (T.n 10 rfl) vd) w_pa_nil)))))))) ?_;rcases hv with⟨i,rfl⟩ | ⟨b,rfl⟩ | ⟨h,t,ty,kk⟩
  ·refine⟨_,rfl,_,_,_,_,_,rfl,rfl,.int i,(T.k 0 rfl),_,rfl,iteT ?_⟩
   exact⟨_,rfl,_,_,_,_,_,rfl,rfl,.int i,(T.k 1 rfl),_,rfl,k⟩
  ·refine⟨_,rfl,_,_,_,_,_,rfl,rfl,.bl b,(T.k 25 rfl),_,rfl,iteT ?_⟩
   exact⟨_,rfl,_,_,_,_,_,rfl,rfl,.bl b,(T.k 17 rfl),_,rfl,k⟩
  ·rw[h] at k
   exact⟨_,rfl,_,_,_,_,_,rfl,rfl,ty,kk,_,rfl,zF rfl k⟩
theorem uD{v:V}(h:isI v=true):∃ x,v=.int x:=by cases v<;>first | exact⟨_,rfl⟩ | cases h
def zcR:Sp:=fun vs H Q _=>∃ (q:Addr) (v:V) (x:Sh 3) (rs:List V) (ls:LP),vs=[.ref q,v]/\H q=some (.lst rs)/\LnAt H rs ls/\IsSh H 3 v x/\∀ b:Bool,(b=true↔∃ q∈ls,x=prS q)->Q (.bl b) H
theorem zcg(T:Txt w K mg a):FnOk P w K mg base CX0 2 447 (dK K 447) ["_law_lines_here", "_law_thing"] zcR:=by
 have c__law_is_whole:=cal P base T 33 rfl (zaP T);refine(T.fn 34 rfl).ok (scp 34 rfl) (fun vs H Q E h=>?_) (fun cdv A outer s H vs Q E hr h=>?_)
 ·obtain⟨q,v,x,rs,ls,rfl,_⟩:=h
  rfl
 ·obtain⟨q,v,sh,rs,ls,rfl,hq,L,hv,k⟩:=h
  have un:(A.deeper (PyProof.Rows.envOfC "_law_is_line" (defScope (top 48)) s.heap.objs.size 447 cdv)).units+5<cLine:=by
   have:=hr.units;omega
  have no:(∀ q:Int×Int,sh≠prS q)->Q (.bl false) H:=fun h=>k false ⟨(fun z=>nomatch z),fun⟨q,_,e⟩=>absurd e (h q)⟩;refine zT (zd (zq (wf (yh (zE (zA (zl zG (by rfl) (T.n 5 rfl) zp (zb (w_pv 1) (zb (ya (T.n 11 rfl) yV) w_pa_nil))))) (zZ (zh wO (zl zw (by rfl) (T.n 0 rfl) yg (zb (w_pv 1) w_pa_nil)) ze (zu _)))))
    (w_pss_one (zg zy))
    zi)
   (w_pss_one (zg (yA (zn c__law_is_whole hr.m (w_pa_cons (zx zX (w_pv 1) ze (fun _ _=>rfl)) w_pa_nil)) (yA (zn c__law_is_whole hr.m (w_pa_cons (zx zX (w_pv 1) ze (fun _ _=>rfl)) w_pa_nil)) (yz (zP zaD (w_pv 1) (w_pv 0) (by with_unfolding_all rfl)))))))) ?_
  have nt:∀ {t:Value},TyOf K H v t->PySem.W.kitOne K t (.type "tuple")=some false->(∀ q:Int×Int,sh≠prS q)->TyOf K H v t/\PySem.W.kitOne K t (.type "tuple")=some false/\Q (.bl false) H:=fun h1 h2 h3=>⟨h1,h2,no h3⟩;by_cases ht:∃ ys,sh=ShF.tup ys
  case neg =>
   obtain⟨t,h1,h2,h3⟩:∃ t,TyOf K H v t/\PySem.W.kitOne K t (.type "tuple")=some false/\Q (.bl false) H:=by
    cases sh with
    |fl u =>
     obtain⟨rfl,hf⟩:=hv;cases hf with
     |int i=>exact⟨_,nt (.int i) (T.k 9 rfl) fun q z=>nomatch z⟩
     |non=>exact⟨_,nt .non (T.k 12 rfl) fun q z=>nomatch z⟩
     |bl b=>exact⟨_,nt (.bl b) (T.k 35 rfl) fun q z=>nomatch z⟩
     |str x=>exact⟨_,nt (.str x) (T.k 22 rfl) fun q z=>nomatch z⟩
    |lst xs=>obtain⟨b,rs,rfl,e,_⟩:=hv;exact⟨_,nt (.lst e) (T.k 29 rfl) fun q z=>nomatch z⟩
    |tup xs=>exact absurd ⟨xs,rfl⟩ ht
    |dk xs=>obtain⟨b,rs,rfl,e,_⟩:=hv;exact⟨_,nt (.dK e) (T.k 6 rfl) fun q z=>nomatch z⟩
    |rw ks xs=>obtain⟨b,od,rs,rfl,_,e,o,_⟩:=hv;exact⟨_,nt (.odd e o.d.1) (T.k 6 rfl) fun q z=>nomatch z⟩
   exact⟨_,rfl,_,_,_,_,_,rfl,rfl,h1,h2,_,rfl,iteT h3⟩
  obtain⟨ys,rfl⟩:=ht;obtain⟨t,us,rfl,ht,hp,_⟩:=hv;refine⟨_,rfl,_,_,_,_,_,rfl,rfl,.tup ht,(T.k 3 rfl),_,rfl,zF rfl ?_⟩;by_cases l2:us.length=2
  case neg =>
   refine⟨_,rfl,t,_,rfl,.inr (sP ht),rfl,_,rfl,iteB (by simp;omega) (no fun q e=>?_)⟩;injection e with e;rw[e] at hp;exact absurd (Paired.length hp) l2
  obtain⟨u0,u1,rfl⟩:∃ u0 u1,us=[u0,u1]:=by
   match us,l2 with
   |[u0,u1],_=>exact⟨u0,u1,rfl⟩
  cases hp with | @cons _ y0 _ _ h0 hp =>
  cases hp with | @cons _ y1 _ _ h1 hp =>
  cases hp;have fl01:∀ q:Int×Int,(ShF.tup [y0,y1]:Sh 3)=prS q->u0=.int q.1/\u1=.int q.2:=fun q e=>by
   injection e with e;injection e with e1 e2;injection e2 with e2 _;rw[e1] at h0;rw[e2] at h1;exact⟨h0.1,h1.1⟩
  refine⟨_,rfl,t,_,rfl,.inr (sP ht),rfl,_,rfl,zF rfl ?_⟩;refine⟨_,rfl,t,_,0,_,rfl,rfl,sP ht,rfl,_,rfl,u9 T h0,_,rfl,?_⟩;cases i0:isI u0 with
  |false=>exact zF rfl (no fun q e=>by rw[(fl01 q e).1] at i0;cases i0)
  |true =>
  refine iteT ?_;refine⟨_,rfl,t,_,1,_,rfl,rfl,sP ht,rfl,_,rfl,u9 T h1,_,rfl,?_⟩;cases i1:isI u1 with
  |false=>exact zF rfl (no fun q e=>by rw[(fl01 q e).2] at i1;cases i1)
  |true =>
  refine iteT ?_;obtain⟨x,rfl⟩:=uD i0;obtain⟨y,rfl⟩:=uD i1;have esh:(ShF.tup [y0,y1]:Sh 3)=prS (x,y):=by rw[xb h0 fun _ z=>(nomatch z),xb h1 fun _ z=>(nomatch z)];rfl
  obtain⟨ps,e1,e2,e3⟩:=L.prs;refine⟨_,rfl,_,rfl,q,t,ps,x,y,rfl,rfl,by rw[e1];exact sO hq,e3,ht,un,?_⟩;rw[e2];refine k (decide ((x,y)∈ls)) ?_;rw[esh,decide_eq_true_eq];exact⟨fun h=>⟨_,h,rfl⟩,fun⟨q,h,e⟩=>by rw[xY e];exact h⟩
theorem zbA{τ:St}{H:Hp}{A B:Hp->Prop}(h:A H):zbs τ H fun b H5=>if b=true then A H5 else B H5:=by
 show(if true=true then A H else B H);rw[if_pos rfl];exact h
theorem VC{α:Type}[DecidableEq α]:∀ {as bs:List α},as.Nodup->(∀ x∈as,x∈bs)->as.length<=bs.length
 |[],_,_,_=>zero_le _
 |a::as,bs,hn,hs=>by
  rw[nodup_cons] at hn;have ha:=hs a mem_cons_self;have:=VC (as:=as) (bs:=bs.erase a) hn.2 fun x hx=>(List.mem_erase_of_ne fun z=>hn.1 (by rw[<- z];exact hx)).mpr (hs x (mem_cons_of_mem _ hx));rw[List.length_erase_of_mem ha] at this;have:=length_pos_of_mem ha;rw[length_cons];omega
def CmS:Sh 3->Prop
 |.fl _=>True
 |.lst _=>True
 |.dk _=>True
 |.tup ys=>∀ y∈ys,(∃ u,y=ShF.fl u)\/∃ zs,y=ShF.lst zs
 |.rw _ _=>False
theorem zbe{H:Hp}{v:V}(h:Fl v):Cm0 H v:=by
 cases h with
 |int i=>exact .int i
 |non=>exact .non
 |bl b=>exact .bl b
 |str x=>exact .str x
theorem zal{H:Hp}{v:V}{x:Sh 3}(h:IsSh H 3 v x)(c:CmS x):Cmp H v:=by
 cases x with
 |fl u=>rw[h.1];exact .fl (zbe h.2)
 |lst xs=>obtain⟨a,rs,rfl,e,_⟩:=h;exact .fl (.lst e)
 |dk xs=>obtain⟨a,rs,rfl,e,_⟩:=h;exact .dK e
 |rw ks xs=>exact c.elim
 |tup ys =>
  obtain⟨a,rs,rfl,e,hp,_⟩:=h;refine .tup e fun u hu=>?_;obtain⟨i,hi⟩:=List.getElem?_of_mem hu;obtain⟨y,hy,hs⟩:=yb hp hi;rcases c y (mem_of_getElem? hy) with⟨u',rfl⟩ | ⟨zs,rfl⟩
  ·rw[hs.1];exact zbe hs.2
  ·obtain⟨b,rs',rfl,e',_⟩:=hs;exact .lst e'
def zcN:Sp:=fun vs H Q _=>∃ (h q l:Addr) (v:V) (s1:Sh 4) (rs rb:List V) (xs:List (Sh 3)) (hs:LI) (ls:LP),vs=[.ref h,.ref q,v,.ref l]/\H h=some (.lst (hs.map V.int))/\H q=some (.lst rs)/\LnAt H rs ls/\IsSh H 4 v s1/\H l=some (.lst rb)/\Paired (fun v x=>IsSh H 3 v x) rb xs/\rb.length<=200/\(∀ x∈xs,CmS x)/\Hs hs/\Ls hs ls/\OkW s1 (ShF.lst xs)/\∀ (b:Bool) (H':Hp),(b=true↔∃ us pf bs,GdW hs s1 (ShF.lst xs) us pf bs/\GG us ls pf bs)->Same H H'->Q (.bl b) H'
theorem zcd(T:Txt w K mg a):FnOk P w K mg base CX0 3 452 (dK K 452) ["_law_hands_here", "_law_lines_here", "_law_parents", "_law_bridges"] zcN:=by
 have c__law_is_whole:=cal P base T 33 rfl (zaP T);have c__law_is_line:=cal P base T 34 rfl (zcg T);have c__law_near:=cal P base T 29 rfl (zaO T);have c__law_up:=cal P base T 30 rfl (Xc T);have c__law_both:=cal P base T 31 rfl (zaR T);refine(T.fn 35 rfl).ok (scp 35 rfl) (fun vs H Q E h=>?_) (fun cdv A outer s H vs Q E hr h=>?_)
 ·obtain⟨h,q,l,v,s1,rs,rb,xs,hs,ls,rfl,_⟩:=h
  rfl
 ·obtain⟨h,q,l,v,s1,rs,rb,xs,hs,ls,rfl,hh,hq,L,hv,hl,hpb,l200,hcm,wh,wl,OW,k0⟩:=h
  have hu:=yY hr;have h12:=wh.l12;have hn:=WK wh;have un:∀ n:Nat,n<=8->(A.deeper (PyProof.Rows.envOfC "_law_lets" (defScope (top 49)) s.heap.objs.size 452 cdv)).units+n+2<cLine:=fun n hn=>by
   have:=hr.units;omega
  have no0:∀ {H'},Same H H'->¬OkP hs ls s1->Q (.bl false) H':=fun s h=>k0 false _ ⟨(fun z=>nomatch z),fun⟨us,pf,bs,g,r⟩=>by
   obtain⟨_,_,_,nd⟩:=wj (by rw[g.e1] at hv;exact hv);exact absurd (by rw[g.e1];exact zbb wl hn nd g.m r.g.ad) h⟩ s
  refine zT (zd (wG (yT (i:=4) rfl (scp 35 rfl).nd rfl (Or.inl rfl) (N':=["_law_one", "_law_hands_here"]) (t:=1) (caps:=[0]) ⟨rfl,rfl,rfl⟩ (wz (Z3 (w_pv 2)) (Z2 (w_pv 2))) (fun _=>(zm (i:=0) (show(["_law_one", "_law_hands_here"]:List Str).Nodup by decide +kernel) rfl (Or.inl rfl))) (fun _=>(yO (wf (yh (zE (zA (zn c__law_is_whole hr.m (zb (w_pv 0) w_pa_nil)))) (zZ (zh xr (w_pv 0) (w_pv 1) (by with_unfolding_all rfl))))))) (fun _=>(w_pv 0))))
   (zd (zq (wf (yh (zh wO (zl (XT vb uN) (by rfl) (T.n 0 rfl) yg (zb (w_pv 2) w_pa_nil)) (zl zw (by rfl) (T.n 0 rfl) yg (zb (w_pv 0) w_pa_nil)) (zu _)) (zZ (zh (wQ vB vC) (w_pv 4) (w_pe_lst w_pa_nil) (zu _)))))
    (w_pss_one (zg zy))
    zi)
   (zd (zL PassesOwn.never rfl (zB (w_pv 0)) (zm (i:=5) (scp 35 rfl).nd rfl (Or.inl rfl))
    (zd (zk (i:=6) (scp 35 rfl).nd rfl (Or.inl rfl) (zn c__law_near hr.m (zb (w_pv 1) (zb (w_pv 5) w_pa_nil))))
    (w_pss_one (zq (wf (yJ (zh wa (yP hu (w_pv 2) (w_pv 5) (fun _ _=>rfl)) zW (zu _)) (yt (wf (yh (zE (zA (zn c__law_is_whole hr.m (w_pa_cons (yP hu (w_pv 2) (w_pv 5) (fun _ _=>rfl)) w_pa_nil)))) (zZ (zh xr (yP hu (w_pv 2) (w_pv 5) (fun _ _=>rfl)) (w_pv 6) (by with_unfolding_all rfl))))))))
     (w_pss_one (zg zy))
     zi))))
   (zd (zq (zh (wQ vB vC) (ym rfl (N':=["_law_hand", "_law_parents"]) (t:=1) (caps:=[2]) ⟨rfl,rfl,rfl⟩ (zB (w_pv 0)) (fun _=>(zm (i:=0) (show(["_law_hand", "_law_parents"]:List Str).Nodup by decide +kernel) rfl (Or.inl rfl))) (fun _=>(yO (zh zaC (zn c__law_up hr.m (zb (w_pv 1) (zb (w_pv 0) w_pa_nil))) zW (zu _)))) (fun _=>(w_pv 0))) (w_pe_lst w_pa_nil) (zu _))
    (w_pss_one (zg zy))
    zi)
   (zd (zq (zh (wQ vB vC) (ym rfl (N':=["_law_bridge", "_law_lines_here", "_law_bridges"]) (t:=1) (caps:=[1,3]) ⟨rfl,rfl,rfl⟩ (zB (w_pv 3)) (fun _=>(zm (i:=0) (show(["_law_bridge", "_law_lines_here", "_law_bridges"]:List Str).Nodup by decide +kernel) rfl (Or.inl rfl))) (fun _=>(yO (wf (yh (zE (zA (zn c__law_is_line hr.m (zb (w_pv 1) (zb (w_pv 0) w_pa_nil))))) (zZ (zh Zj (w_pe_bm F.plainAttrs_list F.slot_list_count F.type_list_count (zaZ Wy Xl) (w_pv 2) (zb (w_pv 0) w_pa_nil)) ze (zu _))))))) (fun _=>(w_pv 0))) (w_pe_lst w_pa_nil) (zu _))
    (w_pss_one (zg zy))
    zi)
   (zd (yT (i:=7) rfl (scp 35 rfl).nd rfl (Or.inl rfl) (N':=["_law_one", "_law_other", "_law_parents"]) (t:=2) (caps:=[2]) ⟨rfl,rfl,rfl⟩ (zB (w_pv 3)) (fun _=>(yf rfl (zr (zm (i:=0) (show(["_law_one", "_law_other", "_law_parents"]:List Str).Nodup by decide +kernel) rfl (Or.inl rfl)) (zr (zm (i:=1) (show(["_law_one", "_law_other", "_law_parents"]:List Str).Nodup by decide +kernel) rfl (Or.inl rfl)) zO)))) (fun _=>yC) (fun _=>(zn c__law_both hr.m (zb (w_pv 2) (zb (w_pv 0) (zb (w_pv 1) w_pa_nil))))))
   (zd (zq (zh (wQ vB vC) (ym rfl (N':=["_law_both_here"]) (t:=1) (caps:=[]) ⟨rfl,rfl,rfl⟩ (zB (w_pv 7)) (fun _=>(zm (i:=0) (show(["_law_both_here"]:List Str).Nodup by decide +kernel) rfl (Or.inl rfl))) (fun _=>(yO (zh yu (zx zX (w_pv 0) ze (fun _ _=>rfl)) (zx zX (w_pv 0) ze (fun _ _=>rfl)) (zu _)))) (fun _=>(w_pv 0))) (w_pe_lst w_pa_nil) (zu _))
    (w_pss_one (zg zy))
    zi)
   (zd (zL PassesOwn.never rfl (zB (w_pv 1)) (yf rfl (zr (zm (i:=8) (scp 35 rfl).nd rfl (Or.inl rfl)) (zr (zm (i:=9) (scp 35 rfl).nd rfl (Or.inl rfl)) zO)))
    (zd (zk (i:=10) (scp 35 rfl).nd rfl (Or.inl rfl) (zn c__law_both hr.m (zb (w_pv 2) (zb (w_pv 8) (zb (w_pv 9) w_pa_nil)))))
    (w_pss_one (zq (wf (yJ (zh wO (zx zX (w_pv 10) ze (fun _ _=>rfl)) (zx zX (w_pv 10) ze (fun _ _=>rfl)) (zu _)) (yt (zh uu (w_pv 10) (w_pv 7) (by with_unfolding_all rfl)))))
     (w_pss_one (zg zy))
     zi))))
   (w_pss_one (zg zy)))))))))) ?_
  cases s1 with
  |fl u=>exact OW.d.elim
  |lst xs=>exact OW.d.elim
  |tup xs=>exact OW.d.elim
  |rw ks ys =>
   obtain⟨d,od,vs,rfl,hm0,hd,odp,lkv,hp,hks,hlen⟩:=hv;have lz:(ks.zip vs).length=ks.length:=by rw[length_zip];omega
   have ek:(ks.zip vs).map (·.1)=ks:=List.map_fst_zip (by omega);refine .inr ⟨_,rfl,d,od,ks,rfl,hm0,hd,by rw[<- ek];exact odp.d,fun D0 hD0 _=>?_⟩;refine Yo (d:=d) (od:=od) (ks:=ks) (fun i zs τ F=>∃ (o1:Option V),τ=[o1,some (.ref h)]/\zs.length<=i/\(zs=[]->∀ k∈ks.take i,inH hs k=true)/\F D0=some (.lst zs)/\Same H F/\i<=ks.length) ?_ ?_ ?_ ?_
   ·exact⟨none,rfl,Nat.le_refl _,fun _ k hk=>by simp at hk,za,sW hD0,zero_le _⟩
   ·rintro i zs τ F ⟨o1,_,_,_,_,sm,_⟩
    exact sm _ _ hd
   ·rintro i y zs τ F hy ⟨o1,rfl,hzl,hzn,hD',sm,_⟩
    have hil:i<ks.length:=(List.getElem?_eq_some_iff.mp hy).1;have hw:WhK K F y:=(za4 T (hks i y hy).2).same sm;have bad:inH hs y=false->True:=fun _=>trivial;unfold wc;refine⟨_,rfl,y,rfl,hw,_,rfl,?_⟩;cases hi:isI y with
    |false=>exact iteT (iteT ⟨_,rfl,hD',zj (by omega),_,rfl,by simp;omega,fun z=>by simp at z,za,sm.updF hD0,hil⟩)
    |true =>
    obtain⟨x,rfl⟩:=uD hi;refine zF rfl ?_;refine⟨_,rfl,_,rfl,h,_,rfl,.inl (sO (sm _ _ hh)),rfl,yE _,_,rfl,?_⟩;by_cases c:x∈hs
    ·refine zF (by show(!inV (.int x) _)=false;rw[yR,decide_eq_true c];rfl) ⟨_,rfl,by omega,fun z u hu=>?_,hD',sm,hil⟩
     rw[take_add_one,hy] at hu;rcases mem_append.mp hu with e | e
     ·exact hzn z u e
     ·rw[mem_singleton.mp e];exact decide_eq_true c
    ·exact iteB (by show(!inV (.int x) _)=true;rw[yR,decide_eq_false c];rfl) ⟨_,rfl,hD',zj (by omega),_,rfl,by simp;omega,fun z=>by simp at z,za,sm.updF hD0,hil⟩
   ·rintro zs τ F ⟨o1,rfl,hzl,hzn,hD',sm,_⟩
    refine .inl ?_;rw[take_length] at hzn;have nok:¬OkP hs ls (ShF.rw ks ys):=fun z=>by
     obtain⟨us,pf,e,_⟩:=Us OW ⟨d,od,vs,rfl,hm0,hd,odp,lkv,hp,hks,hlen⟩ hn z;cases e
    refine⟨_,rfl,.inr ⟨d,od,ks,rfl,hm0,sm _ _ hd,by rw[<- ek];exact odp.d,by omega,_,rfl,h,_,rfl,.inl (sO (sm _ _ hh)),rfl,_,rfl,?_⟩⟩;by_cases c:ks.length=hs.length
    case neg=>exact iteB (by rw[length_map];simp;omega) (no0 sm nok)
    refine zF (by rw[length_map,c];simp) ?_;refine⟨_,rfl,zero_le _,fun pe hpe=>?_⟩;have n1:=sW (o:=HO.lst []) hpe;refine neZ (sO (n1 _ _ hD')) (sO za) (un 0 (by omega)) ⟨_,rfl,?_⟩;cases zs with
    |cons z zs=>exact iteT (no0 (sm.trans n1) nok)
    |nil =>
     obtain⟨k,hk,ni⟩:=OW.od ks ys rfl;obtain⟨i,_,e⟩:=xT (hzn rfl k hk);exact absurd e (ni i)
  |dk kvs =>
   have hv0:=hv;obtain⟨d,vs,rfl,hd,hp,nd,hlen⟩:=hv;have hv:=hv0;have lk:=Paired.length hp;have eit:(WJ (.dk kvs)).length=vs.length:=by show(kvs.map _).length=_;rw[length_map,lk]
   refine .inl ⟨_,rfl,d,_,rfl,hd,fun od S D0 hD0 _=>?_⟩;have hz5:=za (H:=H) (a:=d) (o:=HO.frz od (HO.dK vs));have x5:Ext d H (upd H d (HO.frz od (HO.dK vs))):=Ext.at;have nhd:h≠d:=fun z=>by rw[z,hd] at hh;cases hh
   generalize upd H d (HO.frz od (HO.dK vs))=H5 at *;refine comp_view (yl:=yK) (d:=d) (od:=od) (kvs:=vs) (fun i zs τ F=>∃ (o1:Option V),τ=[o1,some (.ref h)]/\zs.length<=i/\(zs=[]↔∀ q∈kvs.take i,inH hs (kV q.1)=true)/\F D0=some (.lst zs)/\Same H5 F/\i<=vs.length) ?_ ?_ ?_ ?_
   ·exact⟨none,rfl,Nat.le_refl _,by simp,za,sW hD0,zero_le _⟩
   ·rintro i zs τ F ⟨o1,_,_,_,_,sm,_⟩
    exact sm _ _ hz5
   ·rintro i kv v zs τ F F' hkv ⟨o1,rfl,hzl,hzn,hD',sm,_⟩ ⟨rfl,rfl⟩
    have hil:i<vs.length:=(List.getElem?_eq_some_iff.mp hkv).1;obtain⟨q',hq',e1,_⟩:=yb hp hkv;rw[e1];have hw:WhK K F' (kV q'.1):=by
     cases q'.1 with
     |inl i=>exact .inl ⟨i,rfl⟩
     |inr x=>exact .inr (.inr ⟨rfl,_,.str x,(T.k 15 rfl)⟩)
    have bad:inH hs (kV q'.1)=false->(zs++[kV q'.1]=[]↔∀ q∈kvs.take (i+1),inH hs (kV q.1)=true):=fun hb=>⟨fun z=>by simp at z,fun z=>by
     have:=z q' (by rw[take_add_one,hq'];exact mem_append.mpr (.inr (mem_singleton.mpr rfl)));rw[this] at hb;cases hb⟩
    unfold wc;refine⟨_,rfl,_,rfl,hw,_,rfl,?_⟩;cases hi:isI (kV q'.1) with
    |false=>exact iteT (iteT ⟨_,rfl,hD',zj (by omega),_,rfl,by simp;omega,bad (VJ hi),za,sm.updF hD0,hil⟩)
    |true =>
    obtain⟨x,ex⟩:=uD hi;refine zF rfl ?_;rw[ex] at bad;rw[ex];refine⟨_,rfl,_,rfl,h,_,rfl,.inl (sO (sm _ _ (x5 _ _ hh nhd))),rfl,yE _,_,rfl,?_⟩;by_cases c:x∈hs
    ·refine zF (by show(!inV (.int x) _)=false;rw[yR,decide_eq_true c];rfl) ⟨_,rfl,by omega,?_,hD',sm,hil⟩
     rw[hzn,take_add_one,hq']
     constructor
     ·intro z u hu
      rcases mem_append.mp hu with e | e
      ·exact z u e
      ·rw[mem_singleton.mp e,ex];exact decide_eq_true c
     ·exact fun z u hu=>z u (mem_append.mpr (.inl hu))
    ·exact iteB (by show(!inV (.int x) _)=true;rw[yR,decide_eq_false c];rfl) ⟨_,rfl,hD',zj (by omega),_,rfl,by simp;omega,bad (decide_eq_false c),za,sm.updF hD0,hil⟩
   ·rintro zs τ G ⟨o1,rfl,hzl,hzn,hD',sm,_⟩
    rw[lk,take_length] at hzn;refine .inr ⟨d,od,_,S,sm _ _ hz5,?_⟩;have nDd:D0≠d:=fun z=>by rw[z,sm _ _ hz5] at hD';cases hD'
    have s6:Same H (upd G d (HO.dK vs)):=fun b o e=>by
     by_cases z:b=d
     ·rw[z,hd] at e;cases e;rw[z];exact za
     ·rw[upd_ne z];exact sm _ _ (x5 _ _ e z)
    have hD6:upd G d (HO.dK vs) D0=some (.lst zs):=by rw[upd_ne nDd];exact hD'
    generalize upd G d (HO.dK vs)=H6 at *;clear hz5 x5 hD0 hD' sm nhd nDd;refine⟨_,rfl,.inl ⟨d,_,rfl,s6 _ _ hd,_,rfl,h,_,rfl,.inl (sO (s6 _ _ hh)),rfl,_,rfl,?_⟩⟩;by_cases c:vs.length=hs.length
    case neg=>exact iteB (by rw[length_map];simp;omega) (no0 s6 fun z=>c (eit.symm.trans z.1))
    refine zF (by rw[length_map,c];simp) ?_;refine⟨_,rfl,zero_le _,fun pe hpe=>?_⟩;have s7:=sW (o:=HO.lst []) hpe;refine neZ (sO (s7 _ _ hD6)) (sO za) (un 0 (by omega)) ⟨_,rfl,?_⟩;have S7:=s6.trans s7;generalize upd H6 pe (HO.lst [])=H7 at *;cases zs with
    |cons z zs =>
     refine iteT (no0 S7 fun z=>?_);have:=hzn.mpr fun q hq=>XA (z.2 _ (mem_map.mpr ⟨q,hq,rfl⟩));cases this
    |nil =>
    refine zF rfl ?_;have hin1:=hzn.mp rfl;have hkeys:=xg hp;have hinh:∀ x∈hs,∃ (i:Nat) (p:Key×V) (q':Key×Sh 3),vs[i]?=some p/\kvs[i]?=some q'/\p.1=.inl x/\q'.1=.inl x/\IsSh (hd1 d H) 3 p.2 q'.2:=fun x hx=>by
     have hx':(.inl x:Key)∈kvs.map (·.1):=by
      by_cases cc:(.inl x:Key)∈kvs.map (·.1)
      ·exact cc
      ·exfalso
       have hsub:∀ k∈kvs.map (·.1),k∈hs.map (Sum.inl:Int->Key):=fun k hk=>by
        obtain⟨q,hq,rfl⟩:=mem_map.mp hk;obtain⟨y,hy,e⟩:=xT (hin1 q hq);cases hq1:q.1 with
        |inl j=>rw[hq1] at e;injection e with e;rw[e];exact mem_map.mpr ⟨y,hy,rfl⟩
        |inr z=>rw[hq1] at e;cases e
       have:=VC (as:=.inl x::kvs.map (·.1)) (bs:=hs.map Sum.inl) (nodup_cons.mpr ⟨cc,by rw[<- hkeys];exact nd⟩) fun k hk=>by
        rcases mem_cons.mp hk with z | z
        ·rw[z];exact mem_map.mpr ⟨x,hx,rfl⟩
        ·exact hsub k z
       rw[length_cons,length_map,length_map] at this;omega
     obtain⟨q',hq',e'⟩:=mem_map.mp hx';obtain⟨i,hi⟩:=List.getElem?_of_mem hq';have hlt:i<vs.length:=by rw[lk];exact(List.getElem?_eq_some_iff.mp hi).1
     obtain⟨q2,h2,h3,h4⟩:=yb hp (List.getElem?_eq_getElem hlt);rw[hi] at h2;cases h2;exact⟨i,_,q',List.getElem?_eq_getElem hlt,hi,h3.trans e',e',h4⟩
    have hpg:∀ {G:Hp},Same H G->∀ {p:Key×V}{x:Int},p∈vs->p.1=.inl x->DGet G d (V.int x) (some p.2):=fun {G} sm {p x} hp1 e=>by
     have:yG vs (.inl x)=some p.2:=vL nd (by rw[<- e];exact hp1);rw[<- this];exact DGet.k (k:=.inl x) (sm _ _ hd)
    refine⟨_,rfl,h,rfl,⟨_,sO (S7 _ _ hh)⟩,?_⟩;refine for_list (K:=K) (a:=h) (xs:=hs.map V.int) (fun i σ H'=>∃ (o5 o6:Option V),σ=[some (.ref h),some (.ref q),some (.ref d),some (.ref l),some (.ref D0),o5,o6,none,none,none,none]/\Same H H'/\∀ x∈hs.take i,∀ q∈kvs,q.1=.inl x->uT hs ls (.int x) q.2) ?_ ?_ ?_ ?_
    ·exact⟨none,none,rfl,S7,fun x hx=>by simp at hx⟩
    ·rintro i σ H' _ ⟨o5,o6,_,sm,_⟩
     exact sO (sm _ _ hh)
    ·rintro i v σ G hi ⟨o5,o6,rfl,sm,gd⟩
     rw[List.getElem?_map] at hi;obtain⟨x,hx,rfl⟩:=map_eq_some_iff.mp hi;have hxh:=mem_of_getElem? hx;obtain⟨i',p,q',hp1,hq1,ep,eq,hsh⟩:=hinh x hxh;have hpm:=mem_of_getElem? hp1;have hqm:=mem_of_getElem? hq1;have gd2:uT hs ls (.int x) q'.2->∀ u∈hs.take (i+1),∀ q∈kvs,q.1=.inl u->uT hs ls (.int u) q.2:=fun hI u hu q0 hq0 e0=>by
      rw[take_add_one,hx] at hu;rcases mem_append.mp hu with e | e
      ·exact gd u e q0 hq0 e0
      ·have eu:u=x:=mem_singleton.mp e
       subst eu;have ndq:(kvs.map (·.1)).Nodup:=by rw[<- hkeys];exact nd
       rw[uF ndq hq0 hqm (e0.trans eq.symm)];exact hI
     have badx:¬uT hs ls (.int x) q'.2->∀ {G},Same H G->Q (.bl false) G:=fun hb {G} s=>no0 s fun z=>hb (by
      have:=z.2 (kV q'.1,q'.2) (mem_map.mpr ⟨q',hqm,rfl⟩);rw[eq] at this;exact this)
     refine⟨_,rfl,_,rfl,q,x,rs,hs,ls,rfl,sm _ _ hq,L.same sm,wh,wl,fun ln G2 hln s2 hln2=>?_⟩;have sm2:=sm.trans s2;have tg:=hpg sm2 hpm ep;have hsh2:IsSh G2 3 p.2 q'.2:=hsh.same (hd1_sub.trans sm2);refine⟨_,rfl,_,rfl,d,_,rfl,tg,?_⟩;by_cases hn2:p.2=.non
     ·refine⟨rfl,_,rfl,zF (by rw[decide_eq_true hn2];rfl) ⟨_,_,rfl,sm2,gd2 ⟨x,hxh,rfl,.inl ?_⟩⟩⟩
      rw[hn2] at hsh2;exact xb hsh2 fun _ z=>nomatch z
     refine⟨rfl,_,rfl,iteB (by rw[decide_eq_false hn2];rfl) ?_⟩;refine⟨_,rfl,_,rfl,d,_,rfl,tg,_,rfl,u9 T hsh2,_,rfl,?_⟩;cases hi2:isI p.2 with
     |false =>
      refine iteT (iteT (badx (fun hq0=>?_) sm2));obtain⟨j,_,e,h3⟩:=hq0;rcases h3 with h3 | ⟨y,_,h3,_⟩
      ·rw[h3] at hsh2;exact hn2 hsh2.1
      ·rw[h3] at hsh2;rw[hsh2.1] at hi2;cases hi2
     |true =>
     obtain⟨y,ey⟩:=uD hi2;rw[ey] at hsh2 tg;refine zF rfl ?_;have hin:inV (.int y) ((hs.filter (adB ls x)).map V.int)=adB ls x y:=by
      rw[yR,Bool.eq_iff_iff,decide_eq_true_eq,mem_filter];exact⟨fun h=>h.2,fun h=>⟨uS wl h,h⟩⟩
     refine⟨_,rfl,_,rfl,d,_,rfl,tg,_,rfl,ln,_,rfl,.inl (sO hln2),rfl,yE _,_,rfl,?_⟩;cases hb:adB ls x y with
     |true=>exact zF (by show(!inV (.int y) _)=false;rw[hin,hb];rfl) ⟨_,_,rfl,sm2,gd2 ⟨x,hxh,rfl,.inr ⟨y,uS wl hb,xb hsh2 fun _ z=>(nomatch z),hb⟩⟩⟩
     |false =>
      refine iteB (by show(!inV (.int y) _)=true;rw[hin,hb];rfl) (badx (fun hq0=>?_) sm2);obtain⟨j,_,e,h3⟩:=hq0;have e:x=j:=by injection e
      rcases h3 with h3 | ⟨z,_,h3,h4⟩
      ·rw[h3] at hsh2;cases hsh2.1
      ·rw[h3] at hsh2
       have e2:y=z:=by have:=hsh2.1;injection this
       rw[<- e,<- e2,hb] at h4;cases h4
    ·rintro σ G ⟨o5,o6,rfl,sm,gd⟩
     rw[length_map,take_length] at gd;have okp:OkP hs ls (ShF.dk kvs):=⟨eit.trans c,fun p hp=>by
      obtain⟨q',h1,rfl⟩:=mem_map.mp hp;obtain⟨x,hx,e⟩:=xT (hin1 q' h1);rw[e];have e':q'.1=.inl x:=by
       cases hq':q'.1 with
       |inl j=>rw[hq'] at e;injection e with e;rw[e]
       |inr y=>rw[hq'] at e;cases e
      exact gd x hx q' h1 e'⟩
     obtain⟨us,pf,e1,hm,C,cn,gad⟩:=Us OW hv hn okp;clear gd okp hin1 hinh hpg;obtain⟨_,ed,hd',nd'⟩:=wj (by rw[e1] at hv;exact hv);cases ed;rw[e1] at hv k0;have l12:us.length<=12:=le_trans (xy nd' fun x hx=>(hm x).mp hx) h12;have hd:=hd';have hlen:=l12;have no1:∀ {H'},Same H H'->(∀ bs,ShF.lst xs=lnS bs->¬GG us ls pf bs)->Q (.bl false) H':=fun s h=>k0 false _ ⟨(fun z=>nomatch z),fun⟨us',pf',bs,g,r⟩=>by
      obtain⟨e2,e3⟩:=wB g.e1 cn g.cn;rw[<- e2,<- e3] at r;exact(h bs g.e2 r).elim⟩ s
     refine⟨_,rfl,h,rfl,⟨_,sO (sm _ _ hh)⟩,fun D1 hD1 _=>?_⟩;refine comp_list (K:=K) (a:=h) (xs:=hs.map V.int) (fun i zs τ H'=>∃ (o1:Option V),τ=[o1,some (.ref d)]/\zs.length<=i/\(zs=[]↔∀ x∈hs.take i,∃ l,En pf x l)/\H' D1=some (.lst zs)/\Same G H') ?_ ?_ ?_ ?_
     ·exact⟨none,rfl,Nat.le_refl _,by simp,za,sW hD1⟩
     ·rintro i zs τ H' ⟨o1,_,_,_,_,sm1⟩
      exact sO (sm1 _ _ (sm _ _ hh))
     ·rintro i v zs τ G1 hi ⟨o1,rfl,hzl,hzn,hD',sm1⟩
      rw[List.getElem?_map] at hi;obtain⟨x,hx,rfl⟩:=map_eq_some_iff.mp hi;have hxu:=(hm x).mpr (mem_of_getElem? hx);have hil:i<hs.length:=(List.getElem?_eq_some_iff.mp hx).1;have etk:hs.take (i+1)=hs.take i++[x]:=by rw[take_add_one,hx];rfl
      refine⟨_,rfl,_,rfl,d,pf,us,x,rfl,sm1 _ _ (sm _ _ hd),by omega,C,hxu,fun lu p hp hlu=>?_,fun hno G2 s2=>?_⟩
      ·have n1:=sW (o:=HO.lst (p.map V.int)) hlu
       refine⟨rfl,_,rfl,zF rfl ⟨_,rfl,by omega,?_,n1 _ _ hD',sm1.trans n1⟩⟩;rw[hzn,etk]
       constructor
       ·intro h u hu
        rcases mem_append.mp hu with e | e
        ·exact h u e
        ·rw[mem_singleton.mp e];exact⟨_,hp⟩
       ·intro h u hu
        exact h u (mem_append.mpr (.inl hu))
      ·refine⟨rfl,_,rfl,iteT ⟨_,rfl,s2 _ _ hD',zj (by omega),_,rfl,by simp;omega,?_,za,(sm1.trans s2).updF hD1⟩⟩
       constructor
       ·intro z
        simp at z
       ·intro h
        exact absurd (h x (by rw[etk];simp)) hno
     ·rintro zs τ G1 ⟨o1,rfl,hzl,hzn,hD',sm1⟩
      rw[length_map,take_length] at hzn;refine⟨zero_le _,fun pe hpe=>?_⟩;have n1:=sW (o:=HO.lst []) hpe;refine neZ (sO (n1 _ _ hD')) (sO za) (un 0 (by omega)) ⟨_,rfl,?_⟩;have sm2:=sm.trans (sm1.trans n1);generalize upd G1 pe (HO.lst [])=G2 at *;clear n1 hpe hD' sm1 hD1;cases zs with
      |cons z zs =>
       refine iteT (no1 sm2 fun bs _ h=>?_);have:=hzn.mpr fun x hx=>h.g.en x ((hm x).mpr hx);cases this
      |nil =>
       refine zF rfl ?_;have en:∀ x∈us,∃ l,En pf x l:=fun x hx=>hzn.mp rfl x ((hm x).mp hx);have U:=UpP.of C en;clear hzn hzl sm;by_cases ag:∃ bs:LP,xs=bs.map prS
       case neg =>
        have hl2:=sm2 _ _ hl;refine⟨_,rfl,l,rfl,⟨_,sO hl2⟩,fun D2 hD2 _=>?_⟩;refine comp_list (K:=K) (a:=l) (xs:=rb) (fun i zs τ H'=>∃ (o1:Option V),τ=[o1,some (.ref q),some (.ref l)]/\zs.length<=i/\(zs=[]->∃ bs:LP,xs.take i=bs.map prS)/\H' D2=some (.lst zs)/\Same G2 H'/\i<=rb.length) ?_ ?_ ?_ ?_
        ·exact⟨none,rfl,Nat.le_refl _,fun _=>⟨[],rfl⟩,za,sW hD2,zero_le _⟩
        ·rintro i zs τ H' ⟨o1,_,_,_,_,sm1,_⟩
         exact sO (sm1 _ _ hl2)
        ·rintro i v zs τ G3 hi ⟨o1,rfl,hzl,hzn,hD',sm1,_⟩
         have hil:i<rb.length:=(List.getElem?_eq_some_iff.mp hi).1;have sm3:=sm2.trans sm1;obtain⟨x,hx,hsh⟩:=yb hpb hi;have hsh:=hsh.same sm3;unfold wc;have app:∀ {R:Prop},R->R:=fun h=>h;refine⟨_,rfl,_,rfl,q,v,x,rs,ls,rfl,sm3 _ _ hq,L.same sm3,hsh,fun bb hbb=>⟨_,rfl,?_⟩⟩;cases hbc:bb with
         |false=>exact iteT (iteT ⟨_,rfl,hD',zj (by omega),_,rfl,by simp;omega,fun z=>by simp at z,za,sm1.updF hD2,hil⟩)
         |true =>
         obtain⟨b,_,rfl⟩:=hbb.mp hbc;obtain⟨t,rfl,ht⟩:=V3 hsh;refine zF rfl ?_;refine⟨_,rfl,.inl ⟨rfl,_,sO (sm1 _ _ hl2)⟩,_,rfl,.inr ⟨l,t,rb,b.1,b.2,rfl,rfl,sm1 _ _ hl2,fun y hy=>?_,ht,un 3 (by omega),fun m=>⟨_,_,rfl,rfl,_,rfl,?_⟩⟩⟩
         ·obtain⟨j,hj⟩:=List.getElem?_of_mem hy
          obtain⟨z,hz,hs'⟩:=yb hpb hj;exact zal (hs'.same sm3) (hcm z (mem_of_getElem? hz))
         ·by_cases c:(1:Int)<(m:Int)
          ·exact iteB (decide_eq_true c) ⟨_,rfl,hD',zj (by omega),_,rfl,by simp;omega,fun z=>by simp at z,za,sm1.updF hD2,hil⟩
          ·refine zF (decide_eq_false c) ⟨_,rfl,by omega,fun z=>?_,hD',sm1,hil⟩
           obtain⟨bs,e⟩:=hzn z;exact⟨bs++[b],by rw[take_add_one,hx,e,map_append];rfl⟩
        ·rintro zs τ G3 ⟨o1,rfl,hzl,hzn,hD',sm1,_⟩
         rw[Paired.length hpb,take_length] at hzn;refine⟨zero_le _,fun pe hpe=>?_⟩;have n1:=sW (o:=HO.lst []) hpe;refine neZ (sO (n1 _ _ hD')) (sO za) (un 0 (by omega)) ⟨_,rfl,?_⟩;cases zs with
         |nil=>exact absurd (hzn rfl) ag
         |cons z zs=>exact iteT (no1 (sm2.trans (sm1.trans n1)) fun bs e _=>ag ⟨bs,by injection e⟩)
       obtain⟨bs,exs⟩:=ag;have Lb:LnAt H rb bs:=Wj (by rw[exs] at hpb;exact hpb);have l200b:bs.length<=200:=by rw[<- Lb.1];exact l200
       have k:∀ (b:Bool) (H':Hp),(b=true↔GG us ls pf bs)->Same H H'->Q (.bl b) H':=fun b H' hb s=>k0 b H' (hb.trans ⟨fun h=>⟨us,pf,bs,⟨rfl,by rw[exs];rfl,hm,C,cn⟩,h⟩,fun⟨us',pf',bs',g',h⟩=>by
        obtain⟨e1,e2⟩:=wB g'.e1 cn g'.cn;have e3:=g'.e2;rw[exs] at e3;injection e3 with e3;rw[e1,e2,vU e3];exact h⟩) s
       clear no1;have hl2:=sm2 _ _ hl;have Lb2:=Lb.same sm2;have lr:=Lb.1;refine⟨_,rfl,l,rfl,⟨_,sO hl2⟩,fun D2 hD2 _=>?_⟩;refine comp_list (K:=K) (a:=l) (xs:=rb) (fun i zs τ H'=>∃ (o1:Option V),τ=[o1,some (.ref q),some (.ref l)]/\zs.length<=i/\(zs=[]↔∀ b∈bs.take i,b∈ls/\bs.count b<=1)/\H' D2=some (.lst zs)/\Same G2 H') ?_ ?_ ?_ ?_
       ·exact⟨none,rfl,Nat.le_refl _,by simp,za,sW hD2⟩
       ·rintro i zs τ H' ⟨o1,_,_,_,_,sm1⟩
        exact sO (sm1 _ _ hl2)
       ·rintro i v zs τ G3 hi ⟨o1,rfl,hzl,hzn,hD',sm1⟩
        have Lb3:=Lb2.same sm1;obtain⟨b,t,hp,rfl,ht⟩:=Lb3.get hi;have hil:i<bs.length:=(List.getElem?_eq_some_iff.mp hp).1;have etk:bs.take (i+1)=bs.take i++[b]:=by rw[take_add_one,hp];rfl
        have sm3:=sm2.trans sm1;have bad:¬(b∈ls/\bs.count b<=1)->(zs++[V.ref t]=[]↔∀ b∈bs.take (i+1),b∈ls/\bs.count b<=1):=fun hb=>⟨fun z=>by simp at z,fun h=>absurd (h b (by rw[etk];simp)) hb⟩;refine⟨_,rfl,_,rfl,q,.ref t,prS b,rs,ls,rfl,sm3 _ _ hq,L.same sm3,zay ht,fun bb hbb=>⟨_,rfl,?_⟩⟩;have ebb:bb=decide (b∈ls):=by
         rw[Bool.eq_iff_iff,hbb,decide_eq_true_eq];exact⟨fun⟨q,h,e⟩=>by rw[xY e];exact h,fun h=>⟨b,h,rfl⟩⟩
        rw[ebb];by_cases c1:b∈ls
        ·refine zF (by show(!decide (b∈ls))=false;simp[c1]) ?_
         obtain⟨ps,e1,e2,e3⟩:=Lb3.prs;have hl3:G3 l=some (.lst (ps.map fun p=>V.ref p.1)):=by rw[e1];exact sm1 _ _ hl2
         refine⟨_,rfl,.inl ⟨rfl,_,sO hl3⟩,_,rfl,.inl ⟨l,t,ps,b.1,b.2,rfl,rfl,hl3,e3,ht,un 3 (by omega),_,_,rfl,rfl,_,rfl,?_⟩⟩;rw[e2];by_cases c2:bs.count b<=1
         ·refine zF (decide_eq_false (by show ¬ ((1:Int)<((bs.count b:Nat):Int));omega)) ⟨_,rfl,by omega,?_,hD',sm1⟩
          rw[hzn,etk]
          constructor
          ·intro h u hu
           rcases mem_append.mp hu with e | e
           ·exact h u e
           ·rw[mem_singleton.mp e];exact⟨c1,c2⟩
          ·intro h u hu
           exact h u (mem_append.mpr (.inl hu))
         ·refine iteB (decide_eq_true (by show((1:Int)<((bs.count b:Nat):Int));omega)) ⟨_,rfl,hD',zj (by omega),_,rfl,by simp;omega,bad fun h=>c2 h.2,za,sm1.updF hD2⟩
        ·refine iteB (by show(!decide (b∈ls))=true;simp[c1]) ⟨_,rfl,hD',zj (by omega),_,rfl,by simp;omega,bad fun h=>c1 h.1,za,sm1.updF hD2⟩
       ·rintro zs τ G3 ⟨o1,rfl,hzl,hzn,hD',sm1⟩
        rw[lr,take_length] at hzn;refine⟨zero_le _,fun pe hpe=>?_⟩;have n1:=sW (o:=HO.lst []) hpe;refine neZ (sO (n1 _ _ hD')) (sO za) (un 0 (by omega)) ⟨_,rfl,?_⟩;have sm3:=sm2.trans (sm1.trans n1);generalize upd G3 pe (HO.lst [])=G4 at *;clear n1 hpe hD' sm1 hD2 sm2 hl2 Lb2;have ndc:bs.Nodup↔∀ b∈bs,bs.count b<=1:=by
         rw[List.nodup_iff_count];exact⟨fun h b _=>h b,fun h b=>by
          by_cases c:b∈bs
          ·exact h b c
          ·rw[List.count_eq_zero.mpr c];omega⟩
        cases zs with
        |cons z zs =>
         refine iteT (k false _ ⟨fun z=>(nomatch z),fun h=>?_⟩ sm3);have:=hzn.mpr fun b hb=>⟨zbx wl (h.g.gd.1 b hb).1 (h.g.gd.1 b hb).2.1,ndc.mp h.g.gd.2 b hb⟩;cases this
        |nil =>
         refine zF rfl ?_;have inl:∀ b∈bs,b∈ls:=fun b hb=>(hzn.mp rfl b hb).1;have ndb:bs.Nodup:=ndc.mpr fun b hb=>(hzn.mp rfl b hb).2;have bin:∀ b∈bs,b.1∈us/\b.2∈us:=fun b hb=>⟨(hm _).mpr (wl.ok b (inl b hb)).1,(hm _).mpr (wl.ok b (inl b hb)).2.1⟩;have ble:∀ b∈bs,b.1<=b.2:=fun b hb=>Int.le_of_lt (wl.ok b (inl b hb)).2.2;clear hzn hzl ndc;have hl4:=sm3 _ _ hl;have Lb4:=Lb.same sm3;refine⟨_,rfl,l,rfl,⟨_,sO hl4⟩,fun D3 hD3 _=>?_⟩;refine comp_list (K:=K) (a:=l) (xs:=rb) (fun i zs τ H'=>∃ (o1 o2:Option V),τ=[o1,o2,some (.ref d)]/\LnAt H' zs ((bs.take i).map (jk (ldr (paO pf))))/\H' D3=some (.lst zs)/\Same G4 H') ?_ ?_ ?_ ?_
         ·exact⟨none,none,rfl,⟨rfl,fun i r p h=>by simp at h⟩,za,sW hD3⟩
         ·rintro i zs τ H' ⟨o1,o2,_,_,_,sm1⟩
          exact sO (sm1 _ _ hl4)
         ·rintro i v zs τ G5 hi ⟨o1,o2,rfl,Lz,hD',sm1⟩
          obtain⟨b,t,hp,rfl,ht⟩:=(Lb4.same sm1).get hi;have hil:i<bs.length:=(List.getElem?_eq_some_iff.mp hp).1;have hb:=mem_of_getElem? hp;have etk:bs.take (i+1)=bs.take i++[b]:=by rw[take_add_one,hp];rfl
          refine⟨t,_,rfl,sP ht,rfl,_,_,rfl,_,_,rfl,rfl,?_⟩;refine zbA ?_;refine⟨_,rfl,_,rfl,_,rfl,d,pf,paO pf,us,b.1,b.2,rfl,sm1 _ _ (sm3 _ _ hd),by omega,U,(bin b hb).1,(bin b hb).2,fun tj G6 htj htj6 s6=>?_⟩;have Lz6:=(Lz.same s6).snoc (p:=jk (ldr (paO pf)) b) htj6;have hD6:=s6 _ _ hD';have hzl:=Lz.1;rw[length_map,length_take] at hzl;refine⟨hD6,zj (by omega),_,_,rfl,?_,za,(sm1.trans s6).updF hD3⟩;rw[etk,map_append];exact Lz6.updL hD6
         ·rintro zs τ G5 ⟨o1,o2,rfl,Lz,hD',sm1⟩
          rw[lr,take_length] at Lz;have sm5:=sm3.trans sm1;have hzl:=Lz.1;rw[length_map] at hzl;clear sm1 hD3 hl4 Lb4 sm3;have hjk:∀ b:Int×Int,(jk (ldr (paO pf)) b).1=(jk (ldr (paO pf)) b).2↔ldr (paO pf) b.1=ldr (paO pf) b.2:=fun b=>by
           unfold jk;dsimp only;omega
          refine⟨_,rfl,D3,rfl,⟨_,sO hD'⟩,fun D4 hD4 _=>?_⟩;refine comp_list (K:=K) (a:=D3) (xs:=zs) (fun i ys τ H'=>∃ (o1:Option V),τ=[o1]/\ys.length<=i/\(ys=[]↔∀ b∈bs.take i,ldr (paO pf) b.1≠ldr (paO pf) b.2)/\H' D4=some (.lst ys)/\Same G5 H') ?_ ?_ ?_ ?_
          ·exact⟨none,rfl,Nat.le_refl _,by simp,za,sW hD4⟩
          ·rintro i zs τ H' ⟨o1,_,_,_,_,sm1⟩
           exact sO (sm1 _ _ hD')
          ·rintro i v ys τ G6 hi ⟨o1,rfl,hyl,hyn,hD6,sm1⟩
           obtain⟨c,t,hc,rfl,ht⟩:=(Lz.same sm1).get hi;rw[List.getElem?_map] at hc;obtain⟨b,hp,rfl⟩:=map_eq_some_iff.mp hc;have hil:i<bs.length:=(List.getElem?_eq_some_iff.mp hp).1;have etk:bs.take (i+1)=bs.take i++[b]:=by rw[take_add_one,hp];rfl
           refine⟨_,rfl,t,_,0,_,rfl,rfl,sP ht,rfl,_,rfl,t,_,1,_,rfl,rfl,sP ht,rfl,rfl,_,rfl,?_⟩;by_cases c:ldr (paO pf) b.1=ldr (paO pf) b.2
           ·refine iteB (decide_eq_true (by rw[(hjk b).mpr c])) ⟨_,rfl,hD6,zj (by omega),_,rfl,by simp;omega,?_,za,sm1.updF hD4⟩
            exact⟨fun z=>by simp at z,fun h=>absurd c (h b (by rw[etk];simp))⟩
           ·refine zF (decide_eq_false fun z=>c ((hjk b).mp (by injection z))) ⟨_,rfl,by omega,?_,hD6,sm1⟩
            rw[hyn,etk]
            constructor
            ·intro h u hu
             rcases mem_append.mp hu with e | e
             ·exact h u e
             ·rw[mem_singleton.mp e];exact c
            ·intro h u hu
             exact h u (mem_append.mpr (.inl hu))
          ·rintro ys τ G6 ⟨o1,rfl,hyl,hyn,hD6,sm1⟩
           rw[hzl,take_length] at hyn;refine⟨zero_le _,fun pe hpe=>?_⟩;have n1:=sW (o:=HO.lst []) hpe;refine neZ (sO (n1 _ _ hD6)) (sO za) (un 0 (by omega)) ⟨_,rfl,?_⟩;have sm7:=sm5.trans (sm1.trans n1);have Lz7:=(Lz.same sm1).same n1;have hD7:=n1 _ _ (sm1 _ _ hD');generalize upd G6 pe (HO.lst [])=G7 at *;clear n1 hpe hD6 sm1 hD4 sm5 hD' Lz;cases ys with
           |cons y ys =>
            refine iteT (k false _ ⟨fun z=>(nomatch z),fun h=>?_⟩ sm7);have:=hyn.mpr fun b hb=>(h.g.gd.1 b hb).2.2;cases this
           |nil =>
            refine zF rfl ?_;have df:=hyn.mp rfl;have g:GrB us ls pf bs:=⟨gad,en,fun b hb=>⟨by unfold adB;rw[or_eq_true];exact .inl (decide_eq_true (inl b hb)),ble b hb,df b hb⟩,ndb⟩;clear hyn hyl;have hq7:=sm7 _ _ hq;refine⟨_,rfl,q,rfl,⟨_,sO hq7⟩,?_⟩;refine for_list (K:=K) (a:=q) (xs:=rs) (fun i σ H'=>∃ (o8 o9 o10:Option V),σ=[some (.ref h),some (.ref q),some (.ref d),some (.ref l),some (.ref D0),o5,o6,some (.ref D3),o8,o9,o10]/\Same G7 H'/\∀ p∈ls.take i,ldr (paO pf) p.1≠ldr (paO pf) p.2->∃ b∈bs,jk (ldr (paO pf)) b=jk (ldr (paO pf)) p) ?_ ?_ ?_ ?_
            ·exact⟨none,none,none,rfl,fun _ _ h=>h,fun p hp=>by simp at hp⟩
            ·rintro i σ H' _ ⟨o8,o9,o10,_,sm,_⟩
             exact sO (sm _ _ hq7)
            ·rintro i v σ G8 hi ⟨o8,o9,o10,rfl,sm,gd⟩
             obtain⟨p,t,hp,rfl,ht⟩:=((L.same sm7).same sm).get hi;have hpl:=mem_of_getElem? hp;have etk:ls.take (i+1)=ls.take i++[p]:=by rw[take_add_one,hp];rfl
             have gd2:(ldr (paO pf) p.1≠ldr (paO pf) p.2->∃ b∈bs,jk (ldr (paO pf)) b=jk (ldr (paO pf)) p)->∀ p∈ls.take (i+1),ldr (paO pf) p.1≠ldr (paO pf) p.2->∃ b∈bs,jk (ldr (paO pf)) b=jk (ldr (paO pf)) p:=fun h u hu=>by
              rw[etk] at hu;rcases mem_append.mp hu with e | e
              ·exact gd u e
              ·rw[mem_singleton.mp e];exact h
             refine⟨t,_,rfl,sP ht,rfl,_,_,rfl,_,_,rfl,rfl,?_⟩;refine⟨_,rfl,_,rfl,_,rfl,d,pf,paO pf,us,p.1,p.2,rfl,sm _ _ (sm7 _ _ hd),by omega,U,(hm _).mpr (wl.ok p hpl).1,(hm _).mpr (wl.ok p hpl).2.1,fun tj G9 htj htj9 s9=>?_⟩;have sm9:=sm.trans s9;refine⟨_,rfl,tj,_,0,_,rfl,rfl,sP htj9,rfl,_,rfl,tj,_,1,_,rfl,rfl,sP htj9,rfl,rfl,_,rfl,?_⟩;by_cases c:ldr (paO pf) p.1=ldr (paO pf) p.2
             ·exact zF (by rw[(hjk p).mpr c];simp) ⟨_,_,_,rfl,sm9,gd2 fun h=>absurd c h⟩
             ·refine iteB (by
               have:¬ (V.int (jk (ldr (paO pf)) p).1=V.int (jk (ldr (paO pf)) p).2):=fun z=>c ((hjk p).mp (by injection z));simp[this]) ?_
              obtain⟨ps,f1,f2,f3⟩:=(Lz7.same sm9).prs;refine⟨_,rfl,_,rfl,D3,tj,ps,_,_,rfl,rfl,by rw[f1];exact sO (sm9 _ _ hD7),f3,htj9,un 3 (by omega),_,rfl,?_⟩;rw[f2];by_cases c2:jk (ldr (paO pf)) p∈bs.map (jk (ldr (paO pf)))
              ·refine zF (by show(!decide (jk (ldr (paO pf)) p∈_))=false;simp only[decide_eq_true c2,Bool.not_true]) ⟨_,_,_,rfl,sm9,gd2 fun _=>?_⟩
               obtain⟨b,hb,e⟩:=mem_map.mp c2;exact⟨b,hb,e⟩
              ·refine iteB (by show(!decide (jk (ldr (paO pf)) p∈_))=true;simp only[decide_eq_false c2,Bool.not_false]) ?_
               refine k false _ ⟨fun z=>(nomatch z),fun h=>?_⟩ (sm7.trans sm9);obtain⟨b,hb,e⟩:=h.cov p hpl c;exact absurd (mem_map.mpr ⟨b,hb,e⟩) c2
            ·rintro σ G8 ⟨o8,o9,o10,rfl,sm,gd⟩
             rw[L.1,take_length] at gd;exact k true _ ⟨fun _=>⟨g,gd⟩,fun _=>rfl⟩ (sm7.trans sm)
abbrev Phi:=Hp->V->Prop
structure Stb (φ:Phi):Prop where
 to:∀ {H H':Hp}{v:V},Same H H'->φ H v->φ H' v
section
variable {σ:St}{H:Hp}{φ:Phi}
def Gv(σ:St)(H:Hp)(φ:Phi)(te:TE):Prop:=∀ H1,Same H H1->∀ Q:VK,(∀ v H2,Same H1 H2->φ H2 v->Q v H2)->te σ H1 Q
def GvA(σ:St)(H:Hp)(φ:Phi)(n:Nat)(t:TA):Prop:=∀ H1,Same H H1->∀ Q:List V->Hp->Prop,(∀ rs H2,Same H1 H2->rs.length=n->(∀ v∈rs,φ H2 v)->Q rs H2)->t σ H1 Q
theorem uG:GvA σ H φ 0 Wh:=fun H1 _ Q k=>k [] H1 (sR _) rfl fun v hv=>nomatch hv
theorem zI{n:Nat}{te:TE}{t:TA}(st:Stb φ)(h:Gv σ H φ te)(ht:GvA σ H φ n t):GvA σ H φ (n+1) (xG te t):=fun H1 s Q k=>h H1 s _ fun v H2 s2 hv=>ht H2 (s.trans s2) _ fun rs H3 s3 hl hr=>k _ _ (s2.trans s3) (by rw[length_cons,hl]) fun u hu=>by
 rcases mem_cons.mp hu with z | z
 ·rw[z];exact st.to s3 hv
 ·exact hr u z
theorem za9{x:V}(h:∀ H,φ H x):Gv σ H φ (tC x):=fun H1 _ Q k=>k _ _ (sR _) (h _)
theorem XH{i:Nat}{v:V}(e:σ[i]?=some (some v))(st:Stb φ)(h:φ H v):Gv σ H φ (ZF i):=fun H1 s Q k=>⟨v,e,k v H1 (sR _) (st.to s h)⟩
end
theorem Yc{G:Hp}{l t:Addr}{xs:List V}(x:XsAt G l)(h:G t=some (.tup xs)):t≠l:=fun z=>by
 obtain⟨ns,e,_⟩:=x;rw[z,e] at h;cases h
section
variable {K:W.Frag}{σ:St}{H G:Hp}{l:Addr}{D:Ends}
theorem zdq{φ:Phi}{k:Nat}{z:Int}{t:TA}(h:GvA σ G φ k t)(s0:σ[0]?=some (some (.ref l)))(x:XsAt G l)(hz:z=(k:Int))(h0:0<k)(h1:k<=1000)(fx:∀ {H H':Hp}{v:V},XsAt H l->Ext l H H'->φ H v->φ H' v){Q:VK}
  (q:∀ v H',Ext l G H'->XsAt H' l->φ H' v->Q v H'):tOp (zc0 K) (U6 t) (u7 xO [] E0 (xG (ZF 0) (xG (tC (.int z)) Wh))) σ G Q:=by
 refine h G (sR _) _ fun rs H2 s2 hl hr=>⟨by rw[hl];exact Nat.le_of_lt (zj h1),fun p hp=>?_⟩;have x2:=x.same s2;refine⟨_,s0,l,z,rfl,x2.new hp,by omega,fun d H' d0 d1 x' y'=>?_⟩;obtain⟨i,rfl⟩:∃ i:Nat,d=(i:Int):=⟨d.toNat,by omega⟩;have hi:i<rs.length:=by omega
 refine⟨p,rs,_,rs[i],rfl,rfl,sO (y' _ _ za (x2.ne hp)),zV (List.getElem?_eq_getElem hi),q _ _ ?_ x' ?_⟩
 ·exact(Ext.same (s2.trans (sW hp))).trans y'
 ·exact fx (x2.new hp) y' (fx x2 (Ext.same (sW hp)) (hr _ (getElem_mem hi)))
def Iw(R:St->Hp->Prop)(σ0:St)(G0:Hp)(wy i:Int)(σ:St)(G:Hp):Prop:=(σ=σ0/\G=G0/\i<=wy)\/(σ[1]?=some (some (.int wy))/\wy<i/\R σ G)
theorem iwS{R:St->Hp->Prop}{σ0:St}{G0:Hp}{wy i j:Int}{A u:TS}(s1:σ0[1]?=some (some (.int wy)))(I:Iw R σ0 G0 wy i σ G)(ej:j=i+1)(hA:wy=i->∀ D':Ends,(∀ σ' G',σ'[1]?=some (some (.int wy))->R σ' G'->D'.nx σ' G')->A D' σ0 G0)(hu:∀ σ' G',Iw R σ0 G0 wy j σ' G'->u D σ' G'):U1 (zbt (VU (tOp rEq (ZF 1) (tC (.int i)))) A VX) u D σ G:=by
 refine⟨Iw R σ0 G0 wy j,?_,hu⟩;subst ej;rcases I with⟨rfl,rfl,h⟩ | ⟨h7,h,r⟩
 ·refine⟨_,s1,rfl,_,rfl,?_⟩
  by_cases c:wy=i
  ·exact iteB (by rw[c];exact decide_eq_true rfl) (hA c _ fun σ' G' h7 r=>.inr ⟨h7,by omega,r⟩)
  ·exact zF (decide_eq_false fun z=>c (by injection z)) (.inl ⟨rfl,rfl,by omega⟩)
 ·exact⟨_,h7,rfl,_,rfl,zF (decide_eq_false fun z=>by injection z with z;omega) (.inr ⟨h7,by omega,r⟩)⟩
end
def zbp(s1:Sh 4):Prop:=isD s1/\∀ ks xs,s1=ShF.rw ks xs->∃ k∈ks,∀ i,k≠V.int i
theorem za0{H:Hp}{f:Addr}{vs:List (Key×V)}(e:H f=some (.dK vs))(nd:(vs.map (·.1)).Nodup)(hl:vs.length<=200)(hv:∀ p∈vs,∃ x:Sh 3,IsSh (hd1 f H) 3 p.2 x):∃ s1,IsSh H 4 (.ref f) s1/\zbp s1:=by
 obtain⟨kvs,hp⟩:∃ kvs:List (Key×Sh 3),Paired (fun(p:Key×V) q=>p.1=q.1/\IsSh (hd1 f H) 3 p.2 q.2) vs kvs:=by
  clear nd hl e
  induction vs with
  |nil=>exact⟨[],.nil⟩
  |cons p vs ih =>
   obtain⟨kvs,h⟩:=ih fun p hp=>hv p (mem_cons_of_mem _ hp);obtain⟨x,hx⟩:=hv p mem_cons_self;exact⟨(p.1,x)::kvs,.cons ⟨rfl,hx⟩ h⟩
 exact⟨ShF.dk kvs,⟨f,vs,rfl,e,hp,nd,hl⟩,True.intro,fun ks xs z=>nomatch z⟩
theorem zcn{H:Hp}{f:Addr}{od:Obj}{kvs:List (Key×V)}{y:V}(hm:(f == sysModules)=false)(e:H f=some (hOd f od))(o:OdP od ((kvs.map fun p=>(kV p.1,p.2))++[(y,.non)]))(nd:(kvs.map (·.1)).Nodup)(hi:∀ p∈kvs,∃ i,p.1=.inl i)(hl:kvs.length<=100)(hf:∀ p∈kvs,Fl p.2)(ky:KyN H (kvs.map fun p=>kV p.1) y)(ny:∀ i,y≠.int i):∃ s1,IsSh H 4 (.ref f) s1/\zbp s1:=by
 have ez:∀ {l:List (Key×V)},(l.map fun p=>kV p.1).zip (l.map (·.2))=l.map fun p=>(kV p.1,p.2):=fun {l}=>by
  induction l with
  |nil=>rfl
  |cons p l ih=>exact congrArg _ ih
 refine⟨ShF.rw ((kvs.map fun p=>kV p.1)++[y]) ((kvs.map fun p=>ShF.fl p.2)++[ShF.fl .non]),⟨f,od,(kvs.map (·.2))++[.non],rfl,hm,e,?_,by simp,?_,fun j z hj=>?_,by simp;omega⟩,True.intro,fun ks xs z=>?_⟩
 ·rw[List.zip_append (by simp),ez]
  exact o
 ·refine Paired.app ?_ (.cons ⟨rfl,.non⟩ .nil)
  clear o nd hi hl ky e
  induction kvs with
  |nil=>exact .nil
  |cons p kvs ih=>exact .cons ⟨rfl,hf p mem_cons_self⟩ (ih fun p hp=>hf p (mem_cons_of_mem _ hp))
 ·have hint:∀ k∈(kvs.map fun p=>kV p.1),∃ i,k=V.int i:=fun k hk=>by
   obtain⟨p,hp,rfl⟩:=mem_map.mp hk;obtain⟨i,e⟩:=hi p hp;exact⟨i,by rw[e];rfl⟩
  by_cases c:j<kvs.length
  ·rw[List.getElem?_append_left (by rw[length_map];exact c)] at hj
   rw[List.take_append_of_le_length (by rw[length_map];omega)];refine⟨fun k hk=>hint k (mem_of_mem_take hk),?_⟩;obtain⟨i,rfl⟩:=hint z (mem_of_getElem? hj);refine .int i fun hk=>?_;have ndm:(kvs.map fun p=>kV p.1).Nodup:=by
    rw[show(kvs.map fun p=>kV p.1)=(kvs.map (·.1)).map kV by rw[map_map];rfl];exact pairwise_map.mpr (nd.imp fun h z=>h (by
     rename_i a b
     cases a with
     |inl i=>cases b with
      |inl j=>injection z with z;rw[z]
      |inr y=>cases z
     |inr x=>cases b with
      |inl j=>cases z
      |inr y=>injection z with z;rw[z]))
   exact wS ndm hj hk
  ·rw[List.getElem?_append_right (by rw[length_map];omega),length_map] at hj
   have hj0:j-kvs.length=0:=by
    have:=(List.getElem?_eq_some_iff.mp hj).1;simp at this;omega
   rw[hj0] at hj;cases hj;have ej:j=kvs.length:=by omega
   rw[ej,List.take_left' (by rw[length_map])];exact⟨hint,ky⟩
 ·injection z with z1 _
  exact⟨y,by rw[<- z1];exact mem_append.mpr (.inr (mem_singleton.mpr rfl)),ny⟩
theorem Yf{kvs:List (Key×V)}{k:Key}{v:V}(nd:(kvs.map (·.1)).Nodup):((putK kvs k v).map (·.1)).Nodup:=by
 cases h:yG kvs k with
 |none=>exact Uw v nd h
 |some u =>
  unfold putK;have hany:(kvs.any fun kv=>decide (kv.1=k))=true:=by rw[yM,h];rfl
  rw[if_pos hany,map_map];have e:((fun kv:Key×V=>kv.1)∘fun kv=>if kv.1=k then(kv.1,v) else kv)=fun kv=>kv.1:=by
   funext kv
   show(ite (kv.1=k) _ _:Key×V).1=_;by_cases c:kv.1=k
   ·rw[if_pos c]
   ·rw[if_neg c]
  rw[e];exact nd
theorem Wn{kvs:List (Key×V)}{k:Key}{v:V}{p:Key×V}(h:p∈putK kvs k v):p∈kvs\/p=(k,v):=by
 unfold putK at h;by_cases c:(kvs.any fun kv=>decide (kv.1=k))=true
 ·rw[if_pos c] at h
  obtain⟨q,hq,rfl⟩:=mem_map.mp h;by_cases e:q.1=k
  ·rw[if_pos e,e];exact .inr rfl
  ·rw[if_neg e];exact .inl hq
 ·rw[if_neg c] at h
  rcases mem_append.mp h with z | z
  ·exact .inl z
  ·exact .inr (mem_singleton.mp z)
def Rp(H:Hp)(l:Addr)(σ:St)(G:Hp):Prop:=∃ v s1,σ[4]?=some (some v)/\IsSh (hd1 l G) 4 v s1/\zbp s1/\XsAt G l/\Ext l H G
structure Fd (H G:Hp) (l f:Addr) (vs:List (Key×V)):Prop where
 e:G f=some (.dK vs)
 ff:H f=none
 fl:f≠l
 nd:(vs.map (·.1)).Nodup
 hl:vs.length<=50
 int:∀ p∈vs,∃ i,p.1=.inl i
 flat:∀ p∈vs,Fl p.2
 x:XsAt G l
 y:Ext l H G
section
variable {K:W.Frag}{σ:St}{H G G':Hp}{l f:Addr}{vs:List (Key×V)}
theorem Fd.up(F:Fd H G l f vs){o:HO}:Ext l H (upd G f o)/\XsAt (upd G f o) l:=⟨fun b p e n=>by rw[upd_ne (nZ e F.ff)];exact F.y b p e n,F.x.upd F.fl⟩
theorem Fd.ext(F:Fd H G l f vs)(y:Ext l G G')(x:XsAt G' l):Fd H G' l f vs:={ F with e:=y _ _ F.e F.fl,x:=x,y:=F.y.trans y }
theorem Fd.same(F:Fd H G l f vs)(s:Same G G'):Fd H G' l f vs:=F.ext (Ext.same s) (F.x.same s)
theorem Fd.put(F:Fd H G l f vs){k:Key}{v:V}{x:Sh 3}(h:IsSh (hd1 f (hd1 l G)) 3 v x)(s4:σ[4]?=some (some (.ref f))):Rp H l σ (upd G f (.dK (putK vs k v))):=by
 obtain⟨s1,h1,h2⟩:=za0 (H:=hd1 l (upd G f (.dK (putK vs k v)))) (f:=f) (zR za F.fl) (Yf F.nd) (by have:=yn vs k v;have:=F.hl;omega) fun p hp=>by
  have sm:Same (hd1 f (hd1 l G)) (hd1 f (hd1 l (upd G f (.dK (putK vs k v))))):=fun b o e=>by
   have e1:=yr e;have e2:=yr e1.2;exact zR (zR (by rw[upd_ne e1.1];exact e2.2) e2.1) e1.1
  rcases Wn hp with z | z
  ·exact⟨ShF.fl p.2,rfl,F.flat p z⟩
  ·rw[z];exact⟨x,h.same sm⟩
 exact⟨_,s1,s4,h1,h2,F.up.2,F.up.1⟩
theorem Fd.all(F:Fd H G l f vs)(s4:σ[4]?=some (some (.ref f))):Rp H l σ G:=by
 obtain⟨s1,h1,h2⟩:=za0 (H:=hd1 l G) (f:=f) (zR F.e F.fl) F.nd (by have:=F.hl;omega) fun p hp=>⟨ShF.fl p.2,rfl,F.flat p hp⟩;exact⟨_,s1,s4,h1,h2,F.x,F.y⟩
theorem Fd.drop(F:Fd H G l f vs){k:Key}:Fd H (upd G f (.dK (w8 vs k))) l f (w8 vs k):=by
 have sb:=List.filter_sublist (l:=vs) (p:=fun kv=>decide (kv.1≠k));exact⟨za,F.ff,F.fl,F.nd.sublist (sb.map _),le_trans (v0 vs k) F.hl,fun p hp=>F.int p (uH hp),fun p hp=>F.flat p (uH hp),F.up.2,F.up.1⟩
theorem Fd.odd(F:Fd H G l f vs){y:V}{od:Obj}(hm:(f == sysModules)=false)(o:OdP od ((vs.map fun p=>(kV p.1,p.2))++[(y,.non)]))(ky:KyN G (vs.map fun p=>kV p.1) y)(ny:∀ i,y≠.int i)(s4:σ[4]?=some (some (.ref f))):Rp H l σ (upd G f (hOd f od)):=by
 have ky':KyN (hd1 l (upd G f (hOd f od))) (vs.map fun p=>kV p.1) y:=by
  cases ky with
  |non=>exact .non
  |bl b h=>exact .bl b h
  |int i h=>exact .int i h
  |str x=>exact .str x
  |tup b i e=>exact .tup b i (zR (by rw[upd_ne fun z=>by rw[z,F.e] at e;cases e];exact e) (Yc F.x e))
 obtain⟨s1,h1,h2⟩:=zcn (H:=hd1 l (upd G f (hOd f od))) hm (zR za F.fl) o F.nd F.int (by have:=F.hl;omega) F.flat ky' ny;exact⟨_,s1,s4,h1,h2,F.up.2,F.up.1⟩
end
def zcL:Sp:=fun vs H Q _=>∃ (l d:Addr) (wy hand other:Int) (us:LI) (pf:Int->Option Int) (pa:Int->LI),vs=[.ref l,.int wy,.int hand,.int other,.ref d]/\XsAt H l/\0<=wy/\H d=some (.dK (tabV (fun x=>opV (pf x)) us))/\us.Nodup/\us.length<=12/\UpP us pf pa/\hand∈us/\(∀ x∈us,0<=x/\x<=99)/\∀ (v:V) (s1:Sh 4) (G:Hp),IsSh (hd1 l G) 4 v s1->zbp s1->XsAt G l->Ext l H G->Q v G
theorem zco{x:Int}(h0:0<=x)(h1:x<=99):x.natAbs.log2<1920:=by
 have h:x.natAbs<2 ^ 7:=by show x.natAbs<128;omega
 by_cases z:x.natAbs=0
 ·rw[z];decide
 ·have:=(Nat.log2_lt z).mpr h
  omega
def Ky1:Phi:=fun H v=>(∃ k:Key,v=kV k)\/v=.non\/∃ b i,v=.ref b/\H b=some (.tup [.int i])
theorem Ky1.stb:Stb Ky1:=⟨fun s h=>by
 rcases h with h | h | ⟨b,i,e,h⟩
 ·exact .inl h
 ·exact .inr (.inl h)
 ·exact .inr (.inr ⟨b,i,e,s _ _ h⟩)⟩
theorem Ky1.fx{l:Addr}{H H':Hp}{v:V}(x:XsAt H l)(y:Ext l H H')(h:Ky1 H v):Ky1 H' v:=by
 rcases h with h | h | ⟨b,i,e,h⟩
 ·exact .inl h
 ·exact .inr (.inl h)
 ·exact .inr (.inr ⟨b,i,e,y _ _ h (Yc x h)⟩)
def Vz(f l:Addr):Phi:=fun H v=>∃ x:Sh 3,IsSh (hd1 f (hd1 l H)) 3 v x
theorem hd2{f l:Addr}{H H':Hp}(y:Ext l H H'):Same (hd1 f (hd1 l H)) (hd1 f (hd1 l H')):=yx (Ext.same (yx y))
theorem Vz.stb{f l:Addr}:Stb (Vz f l):=⟨fun s h=>by obtain⟨x,h⟩:=h;exact⟨x,h.same (hd2 (Ext.same s))⟩⟩
theorem Vz.fx{f l:Addr}{H H':Hp}{v:V}(x:XsAt H l)(y:Ext l H H')(h:Vz f l H v):Vz f l H' v:=by obtain⟨x,h⟩:=h;exact⟨x,h.same (hd2 y)⟩
theorem UT{f l:Addr}{H:Hp}{v:V}(h:Fl v):Vz f l H v:=⟨ShF.fl v,rfl,h⟩
theorem xI{f l p:Addr}{H:Hp}{o:HO}(nf:p≠f)(nl:p≠l):hd1 f (hd1 l (upd H p o)) p=some o:=zR (zR za nl) nf
theorem zc9{σ:St}{G:Hp}{D:Ends}{φ:Phi}{n i:Nat}{t:TA}{rest:TS}(h:GvA σ G φ n t)(hz:n<=1000)(k:∀ (rs:List V) (p:Addr) (H2:Hp),Same G H2->H2 p=none->rs.length=n->(∀ v∈rs,φ H2 v)->rest D (σ.set i (some (.ref p))) (upd H2 p (.lst rs))):zbC (VZ (U6 t) (wc i)) rest D σ G:=h G (sR _) _ fun rs H2 s2 hl hr=>⟨by rw[hl];exact Nat.le_of_lt (zj hz),fun p hp=>k rs p H2 s2 hp hl hr⟩
theorem zcb(T:Txt w K mg a):FnOk P w K mg base CX0 3 459 (dK K 459) ["_law_xs", "_law_way", "_law_hand", "_law_other", "_law_parents"] zcL:=by
 have c__law_take:=cal P base T 25 rfl (xH T);have c__law_up:=cal P base T 30 rfl (Xc T);refine(T.fn 36 rfl).ok (scp 36 rfl) (fun vs H Q E h=>?_) (fun cdv A outer s H vs Q E hr h=>?_)
 ·obtain⟨l,d,wy,hand,other,us,pf,pa,rfl,_⟩:=h
  rfl
 ·obtain⟨l,d,wy,hand,other,us,pf,pa,rfl,x0,w0,hd,nd,l12,U,hin,hb,k⟩:=h
  have hu:=yY hr;have hu2:(A.deeper (PyProof.Rows.envOfC "_law_other_parents" (defScope (top 50)) s.heap.objs.size 459 cdv)).units+2<cLine:=lt_of_le_of_lt (Nat.add_le_add_left (by decide:2<=64) _) hr.units;refine zT (zd (zk (i:=4) (scp 36 rfl).nd rfl (Or.inl rfl) (zU Ys (by rfl) (T.n 7 rfl) vc (zb (w_pv 4) w_pa_nil)))
   (zJ (zq (zh yu (w_pv 1) ze (zu _))
    (w_pss_one (w_ps_expr (vo (w_pv 4) (w_pv 2) ⟨rfl,rfl,rfl,rfl⟩)))
    zi)
   (zJ (zq (zh yu (w_pv 1) ze (zu _))
    (w_pss_one (vm hu2 (w_pv 4) (zx zY (w_pe_lst (xn (zo yw (w_pv 2) ze) (W8 (xa xz ze) (zK zW (zK vH (yD (zD (zb (w_pv 2) w_pa_nil)) w_pa_nil)))))) (zn c__law_take hr.m (zb (w_pv 0) (zK ze w_pa_nil))) (fun _ _=>rfl)) zW rfl))
    zi)
   (zJ (zq (zh yu (w_pv 1) ze (zu _))
    (w_pss_one (w_ps_dput hu (w_pv 4) (w_pv 2) (w_pv 3) rfl))
    zi)
   (zJ (zq (zh yu (w_pv 1) ze (zu _))
    (zd (zk (i:=5) (scp 36 rfl).nd rfl (Or.inl rfl) (w_pe_lst (zb (w_pv 2) (zK zy (zM (zU uM (by rfl) (T.n 9 rfl) zbm (zb (w_pv 2) w_pa_nil)) (yD (zD (zb (w_pv 3) w_pa_nil)) (W8 (xa xz ze) (xn (zo yw (w_pv 3) ze) (w_pa_cons (w_pe_lst (zb (w_pv 3) w_pa_nil)) (w_pa_cons (ua (vn (w_pv 3) (w_pv 2) v8) rfl rfl (by intro z;cases z) (by decide)) (w_pa_cons (w_pe_lst w_pa_nil) w_pa_nil)))))))))))
    (w_pss_one (w_ps_dput hu (w_pv 4) (w_pv 2) (zx zY (w_pv 5) (zn c__law_take hr.m (zb (w_pv 0) (zK ze w_pa_nil))) (fun _ _=>rfl)) rfl)))
    zi)
   (zJ (zq (zh yu (w_pv 1) ze (zu _))
    (w_pss_one (w_ps_dput hu (w_pv 4) (zx zY (zn c__law_up hr.m (zb (w_pv 4) (zb (w_pv 2) w_pa_nil))) (xa xz ze) (fun _ _=>rfl)) (w_pv 2) rfl))
    zi)
   (zJ (zq (zh yu (w_pv 1) ze (zu _))
    (w_pss_one (w_ps_dput hu (w_pv 4) (w_pv 2) zW rfl))
    zi)
   (zJ (zq (zh yu (w_pv 1) ze (zu _))
    (zd (w_ps_expr (vo (w_pv 4) (w_pv 2) ⟨rfl,rfl,rfl,rfl⟩))
    (w_pss_one (vm hu2 (w_pv 4) (zP yu (w_pv 2) ze (zu _)) zW rfl)))
    zi)
   (w_pss_one (zg (w_pv 4))))))))))) ?_
  refine⟨_,rfl,d,_,rfl,hd,fun f hf=>?_⟩;have F:Fd H (upd H f (.dK (tabV (fun x=>opV (pf x)) us))) l f (tabV (fun x=>opV (pf x)) us):=⟨za,hf,x0.ne hf,by rw[xp];exact VI nd,by rw[tabV_len];omega,fun p hp=>by obtain⟨x,_,rfl⟩:=mem_map.mp hp;exact⟨x,rfl⟩,fun p hp=>by obtain⟨x,_,rfl⟩:=mem_map.mp hp;exact Xb _,x0.new hf,Ext.same (sW hf)⟩;generalize hvs:tabV (fun x=>opV (pf x)) us=vs at *;have hval:yG vs (.inl hand)=some (opV (pf hand)):=by rw[<- hvs];exact vQ hin
  generalize upd H f (.dK vs)=G0 at *;have vl:vs.length<sizeLine:=zj (by have:=F.hl;omega);generalize hσ:([some (.ref l),some (.int wy),some (.int hand),some (.int other),some (.ref f),none]:St)=σ0;have s0:σ0[0]?=some (some (.ref l)):=by rw[<- hσ];rfl
  have s1:σ0[1]?=some (some (.int wy)):=by rw[<- hσ];rfl
  have s2:σ0[2]?=some (some (.int hand)):=by rw[<- hσ];rfl
  have s3:σ0[3]?=some (some (.int other)):=by rw[<- hσ];rfl
  have s4:σ0[4]?=some (some (.ref f)):=by rw[<- hσ];rfl
  have sz:σ0.length=6:=by rw[<- hσ];rfl
  have flz:∀ {G:Hp}{v:V},Fl v->IsSh (hd1 f (hd1 l G)) 3 v (ShF.fl v):=fun h=>⟨rfl,h⟩;refine iwS (R:=Rp H l) (σ0:=σ0) (G0:=G0) (wy:=wy) (i:=0) s1 (.inl ⟨hσ,rfl,w0⟩) rfl (fun _ D' q=>?_) fun σ1 H1 I=>?_
  ·exact⟨_,s4,f,rfl,.inl ⟨_,.inl F.e⟩,_,s2,vs,.inl hand,_,F.e,rfl,hval,q _ _ s1 (F.drop.all s4)⟩
  refine iwS (R:=Rp H l) s1 I rfl (fun _ D' q=>?_) fun σ2 H2 I=>?_
  ·refine⟨_,s4,zdq (φ:=Ky1) (k:=5) (zI Ky1.stb (fun H1 s Q k=>⟨_,s2,_,_,rfl,rfl,k _ _ (sR _) (.inl ⟨.inl (hand+100),rfl⟩)⟩) (zI Ky1.stb (fun H1 s Q k=>⟨_,rfl,k _ _ (sR _) (.inl ⟨.inl (-1),rfl⟩)⟩) (zI Ky1.stb (za9 fun H=>.inr (.inl rfl)) (zI Ky1.stb (za9 fun H=>.inl ⟨.inr "0",rfl⟩) (zI Ky1.stb (fun H1 s Q k=>⟨_,s2,(by show 1<=sizeLine;decide),fun p hp=>k _ _ (sW hp) (.inr (.inr ⟨p,hand,rfl,za⟩))⟩) uG))))) s0 F.x rfl (by decide) (by decide) Ky1.fx fun v G1 y1 x1 hv=>⟨f,rfl,?_⟩⟩
   have F1:=F.ext y1 x1;rcases hv with⟨k,rfl⟩ | rfl | ⟨b,i,rfl,hb⟩
   ·exact .inl ⟨_,DPut.k F1.e vl,q _ _ s1 (F1.put (flz .non) s4)⟩
   ·exact .inr (.inl ⟨vs,F1.e,F1.int,by have:=F1.hl;omega,.non,fun od o hm=>q _ _ s1 (F1.odd hm o .non (fun i z=>nomatch z) s4)⟩)
   ·exact .inr (.inl ⟨vs,F1.e,F1.int,by have:=F1.hl;omega,.tup b i hb,fun od o hm=>q _ _ s1 (F1.odd hm o (.tup b i hb) (fun i z=>nomatch z) s4)⟩)
  refine iwS (R:=Rp H l) s1 I rfl (fun _ D' q=>?_) fun σ3 H3 I=>?_
  ·exact⟨_,s3,_,s4,_,s2,f,_,rfl,DPut.k (k:=.inl hand) F.e vl,q _ _ s1 (F.put (flz (.int other)) s4)⟩
  refine iwS (R:=Rp H l) s1 I rfl (fun _ D' q=>?_) fun σ4 H4 I=>?_
  ·have S:Stb (Vz f l):=Vz.stb
   have nf:∀ {H1:Hp}{p:Addr},Same G0 H1->H1 p=none->p≠f/\p≠l:=fun s hp=>⟨fun z=>(by rw[z,s _ _ F.e] at hp;cases hp),(F.x.same s).ne hp⟩;refine zc9 (φ:=Vz f l) (n:=9) ?_ (by decide) fun rs p H2 n2 hp hl hr=>?_
   ·exact zI S (XH s2 S (UT (.int hand))) (zI S (za9 fun H=>UT (.bl true)) (zI S (fun H1 s Q k=>⟨_,s2,_,rfl,zco (hb hand hin).1 (hb hand hin).2,k _ _ (sR _) (UT (.str _))⟩) (zI S (fun H1 s Q k=>⟨_,s3,(by show 1<=sizeLine;decide),fun p hp=>k _ _ (sW hp) ⟨ShF.tup [ShF.fl (.int other)],p,_,rfl,xI (nf s hp).1 (nf s hp).2,.cons ⟨rfl,.int _⟩ .nil,by show 1<=200;decide⟩⟩) (zI S (fun H1 s Q k=>⟨_,rfl,k _ _ (sR _) (UT (.int _))⟩) (zI S (fun H1 s Q k=>⟨_,s3,_,_,rfl,rfl,k _ _ (sR _) (UT (.int _))⟩)
    (zI S (fun H1 s Q k=>⟨_,s3,(by show 1<=sizeLine;decide),fun p hp=>k _ _ (sW hp) ⟨ShF.lst [ShF.fl (.int other)],p,_,rfl,xI (nf s hp).1 (nf s hp).2,.cons ⟨rfl,.int _⟩ .nil,by show 1<=200;decide⟩⟩) (zI S (fun H1 s Q k p hp=>⟨_,s3,_,s2,za,[(.inl other,.int hand)],rfl,by show 1<=15;decide,k _ _ ((sW hp).updF hp) ⟨ShF.dk [(.inl other,ShF.fl (.int hand))],p,_,rfl,xI (nf s hp).1 (nf s hp).2,.cons ⟨rfl,rfl,.int _⟩ .nil,(by show([Sum.inl other]:List Key).Nodup;simp),by show 1<=200;decide⟩⟩) (zI S (fun H1 s Q k=>⟨(by show 0<=sizeLine;decide),fun p hp=>k _ _ (sW hp) ⟨ShF.lst [],p,_,rfl,xI (nf s hp).1 (nf s hp).2,.nil,by show 0<=200;decide⟩⟩) uG))))))))
   have n3:=n2.trans (sW hp (o:=.lst rs));have F1:=F.same n3;have g:∀ i,i≠5->(σ0.set 5 (some (.ref p)))[i]?=σ0[i]?:=fun i hi=>List.getElem?_set_ne fun z=>hi z.symm;have g5:(σ0.set 5 (some (.ref p)))[5]?=some (some (.ref p)):=List.getElem?_set_self (by omega);refine⟨_,g5,_,(g 0 (by decide)).trans s0,l,9,rfl,F1.x,by decide,fun dr G1 d0 d1 x1 y1=>?_⟩;obtain⟨i,rfl⟩:∃ i:Nat,dr=(i:Int):=⟨dr.toNat,by omega⟩;have hi:i<rs.length:=by omega
   have F2:=F1.ext y1 x1;obtain⟨x,hx⟩:=Vz.fx F1.x y1 (S.to (sW hp) (hr _ (getElem_mem hi)));exact⟨p,rs,_,rs[i],rfl,rfl,sO (y1 _ _ za ((F.x.same n2).ne hp)),zV (List.getElem?_eq_getElem hi),_,(g 4 (by decide)).trans s4,_,(g 2 (by decide)).trans s2,f,_,rfl,DPut.k (k:=.inl hand) F2.e vl,q _ _ ((g 1 (by decide)).trans s1) (F2.put hx ((g 4 (by decide)).trans s4))⟩
  refine iwS (R:=Rp H l) s1 I rfl (fun _ D' q=>?_) fun σ5 H5 I=>?_
  ·refine⟨_,s2,_,s4,_,s4,_,s2,f,pf,us,hand,rfl,by rw[hvs];exact F.e,l12,U.cl,hin,fun lu p hp hlu=>?_,fun hno=>absurd ⟨_,U.en hin⟩ hno⟩
   have F1:=F.same (sW hlu (o:=.lst (p.map V.int)));obtain⟨ys,z,rfl⟩:∃ ys z,p=ys++[z]:=⟨p.dropLast,p.getLast (by cases hp<;>simp),(List.dropLast_concat_getLast _).symm⟩;refine⟨_,rfl,lu,_,_,_,rfl,rfl,sO za,by rw[map_append];exact at_last,f,_,rfl,DPut.k (k:=.inl z) F1.e vl,q _ _ s1 (F1.put (flz (.int hand)) s4)⟩
  refine iwS (R:=Rp H l) s1 I rfl (fun _ D' q=>?_) fun σ6 H6 I=>?_
  ·exact⟨_,s4,_,s2,f,_,rfl,DPut.k (k:=.inl hand) F.e vl,q _ _ s1 (F.put (flz .non) s4)⟩
  refine iwS (R:=Rp H l) s1 I rfl (fun _ D' q=>?_) fun σ7 H7 I=>?_
  ·refine⟨_,s4,f,rfl,.inl ⟨_,.inl F.e⟩,_,s2,vs,.inl hand,_,F.e,rfl,hval,?_⟩
   have F1:=F.drop (k:=.inl hand);refine⟨_,s4,_,s2,rfl,f,rfl,?_⟩;generalize decide (V.int hand=V.int 1)=b;by_cases c:(.inl (boI b):Key)∈(w8 vs (.inl hand)).map (·.1)
   ·exact .inr (.inr ⟨_,b,F1.e,rfl,c,by have:=F1.hl;omega,q _ _ s1 (F1.put (flz .non) s4)⟩)
   ·have kb:∀ {G:Hp},KyN G ((w8 vs (.inl hand)).map fun p=>kV p.1) (.bl b):=fun {G}=>.bl b fun z=>by
     obtain⟨p,hp,e⟩:=mem_map.mp z;obtain⟨i,ei⟩:=F1.int p hp;rw[ei] at e;injection e with e;exact c (mem_map.mpr ⟨p,hp,by rw[ei,e]⟩)
    exact .inr (.inl ⟨_,F1.e,F1.int,by have:=F1.hl;omega,kb,fun od o hm=>q _ _ s1 (F1.odd hm o kb (fun i z=>nomatch z) s4)⟩)
  rcases I with⟨rfl,rfl,_⟩ | ⟨_,_,v,x,h4,h1,h2,x1,y1⟩
  ·obtain⟨v,x,h4,h1,h2,x1,y1⟩:=F.all s4
   exact⟨_,h4,k v x _ h1 h2 x1 y1⟩
  ·exact⟨_,h4,k v x _ h1 h2 x1 y1⟩
def El(f l:Addr):Phi:=fun H v=>∃ x:Sh 3,IsSh (hd1 f (hd1 l H)) 3 v x/\CmS x
section
variable {K:W.Frag}{σ:St}{H G G':Hp}{f l:Addr}{D:Ends}
theorem El.stb:Stb (El f l):=⟨fun s h=>by obtain⟨x,h,c⟩:=h;exact⟨x,h.same (hd2 (Ext.same s)),c⟩⟩
theorem El.fx{v:V}(x:XsAt H l)(y:Ext l H G)(h:El f l H v):El f l G v:=by obtain⟨x,h,c⟩:=h;exact⟨x,h.same (hd2 y),c⟩
theorem El.fl{v:V}(h:Fl v):El f l H v:=⟨ShF.fl v,⟨rfl,h⟩,True.intro⟩
theorem El.upf{v:V}{o:HO}(h:El f l H v):El f l (upd H f o) v:=by
 obtain⟨x,h,c⟩:=h;exact⟨x,h.same fun b o e=>by
  have e1:=yr e;have e2:=yr e1.2;exact zR (zR (by rw[upd_ne e1.1];exact e2.2) e2.1) e1.1,c⟩
theorem El.tup{p:Addr}{xs:List V}(e:H p=some (.tup xs))(nf:p≠f)(nl:p≠l)(hx:∀ u∈xs,Fl u)(hz:xs.length<=200):El f l H (.ref p):=by
 refine⟨ShF.tup (xs.map ShF.fl),⟨p,xs,rfl,zR (zR e nl) nf,?_,hz⟩,fun y hy=>?_⟩
 ·clear e hz
  induction xs with
  |nil=>exact .nil
  |cons u xs ih=>exact .cons ⟨rfl,hx u mem_cons_self⟩ (ih fun u hu=>hx u (mem_cons_of_mem _ hu))
 ·obtain⟨u,_,rfl⟩:=mem_map.mp hy
  exact .inl ⟨u,rfl⟩
theorem El.lst{p:Addr}{xs:List V}(e:H p=some (.lst xs))(nf:p≠f)(nl:p≠l)(hx:∀ u∈xs,Fl u)(hz:xs.length<=200):El f l H (.ref p):=by
 refine⟨ShF.lst (xs.map ShF.fl),⟨p,xs,rfl,zR (zR e nl) nf,?_,hz⟩,True.intro⟩;clear e hz
 induction xs with
 |nil=>exact .nil
 |cons u xs ih=>exact .cons ⟨rfl,hx u mem_cons_self⟩ (ih fun u hu=>hx u (mem_cons_of_mem _ hu))
def Lb(f l:Addr)(c:Nat->Prop):Phi:=fun H v=>∃ p xs,v=.ref p/\H p=some (.lst xs)/\p≠l/\c xs.length/\∀ u∈xs,El f l H u
theorem Lb.stb{c:Nat->Prop}:Stb (Lb f l c):=⟨fun s h=>by
 obtain⟨p,xs,e,h1,h2,h3,h4⟩:=h;exact⟨p,xs,e,s _ _ h1,h2,h3,fun u hu=>El.stb.to s (h4 u hu)⟩⟩
theorem wZ{c1 c2 c3:Nat->Prop}{ta tb:TE}(x:XsAt G l)(ha:Gv σ G (Lb f l c1) ta)(hb:Gv σ G (Lb f l c2) tb)(hc:∀ i j,c1 i->c2 j->c3 (i+j)/\i+j<=1000):Gv σ G (Lb f l c3) (tOp zc3 ta tb):=fun H1 s Q q=>by
 refine ha H1 s _ fun v H2 s2 hv=>hb H2 (s.trans s2) _ fun u H3 s3 hu=>?_;obtain⟨p,xs,rfl,h1,_,h3,h4⟩:=Lb.stb.to s3 hv;obtain⟨r,ys,rfl,g1,_,g3,g4⟩:=hu;have hh:=hc _ _ h3 g3;refine⟨p,r,xs,ys,rfl,rfl,h1,g1,Nat.le_of_lt (zj hh.2),fun z hz=>q _ _ ((s2.trans s3).trans (sW hz)) ⟨z,_,rfl,za,(x.same (s.trans (s2.trans s3))).ne hz,by rw[length_append];exact hh.1,fun u hu=>El.stb.to (sW hz) ?_⟩⟩;rcases mem_append.mp hu with e | e
 ·exact h4 u e
 ·exact g4 u e
theorem zba{n:Nat}{t:TA}(x:XsAt G l)(h:GvA σ G (El f l) n t)(hz:n<=1000):Gv σ G (Lb f l (· = n)) (U6 t):=fun H1 s Q q=>h H1 s _ fun rs H2 s2 hl hr=>⟨by rw[hl];exact Nat.le_of_lt (zj hz),fun p hp=>q _ _ (s2.trans (sW hp)) ⟨p,rs,rfl,za,(x.same (s.trans s2)).ne hp,hl,fun u hu=>El.stb.to (sW hp) (hr u hu)⟩⟩
def PoO(σ:St)(t:TO):Prop:=∀ (H1:Hp) (Q:Option Int->Hp->Prop),(∀ o,Q o H1)->t σ H1 Q
theorem Yg:PoO σ YE:=fun H1 Q q=>q none
theorem uq{i:Nat}{n:Int}(e:σ[i]?=some (some (.int n))):PoO σ (VW (ZF i)):=fun H1 Q q=>⟨_,e,_,rfl,q _⟩
theorem YV{i:Nat}{n m:Int}(e:σ[i]?=some (some (.int n))):PoO σ (VW (tOp (rI0 fun i j=>.int (i+j)) (ZF i) (tC (.int m)))):=fun H1 Q q=>⟨_,e,_,_,rfl,rfl,_,rfl,q _⟩
theorem XS{xs:List V}{lo hi:Option Int}{v:V}(h:v∈cutV xs lo hi):v∈xs:=by
 unfold cutV at h;exact List.mem_of_mem_drop (mem_of_mem_take h)
theorem zcq{i:Nat}{xs:List V}{lo hi:TO}(x:XsAt G l)(e:σ[i]?=some (some (.ref f)))(hf:G f=some (.lst xs))(hx:∀ u∈xs,El f l G u)(h1:PoO σ lo)(h2:PoO σ hi):Gv σ G (Lb f l (· <= xs.length)) (tSl (zbV K) (ZF i) lo hi):=fun H1 s Q q=>⟨_,e,h1 _ _ fun a=>h2 _ _ fun b=>⟨f,xs,rfl,sO (s _ _ hf),fun p hp=>q _ _ (sW hp) ⟨p,_,rfl,za,(x.same s).ne hp,yo xs a b,fun u hu=>El.stb.to (s.trans (sW hp)) (hx u (XS hu))⟩⟩⟩
def Rb(H:Hp)(l:Addr)(σ:St)(G:Hp):Prop:=∃ lr rr,σ[5]?=some (some (.ref lr))/\G lr=some (.lst rr)/\lr≠l/\rr.length<=200/\(∀ v∈rr,∃ x:Sh 3,IsSh (hd1 l G) 3 v x/\CmS x)/\XsAt G l/\Ext l H G
structure Bf (H:Hp) (σ:St) (G:Hp) (l f:Addr) (rb:List V) (bs:LP) (wy hand other:Int) (at_:Nat):Prop where
 e:G f=some (.lst rb)
 ff:H f=none
 fl:f≠l
 L:LnAt G rb bs
 b28:bs.length<=28
 x:XsAt G l
 y:Ext l H G
 s0:σ[0]?=some (some (.ref l))
 s1:σ[1]?=some (some (.int wy))
 s2:σ[2]?=some (some (.int hand))
 s3:σ[3]?=some (some (.int other))
 s5:σ[5]?=some (some (.ref f))
 s6:σ[6]?=some (some (.int at_))
 ha:at_<=rb.length
 sz:σ.length=9
variable {rb:List V}{bs:LP}{wy hand other:Int}{at_:Nat}
theorem Bf.pr(B:Bf H σ G l f rb bs wy hand other at_){u:V}(hu:u∈rb):∃ t b,u=.ref t/\G t=some (.tup [.int (b:Int×Int).1,.int b.2])/\t≠f/\t≠l:=by
 obtain⟨i,hi⟩:=List.getElem?_of_mem hu;obtain⟨b,t,_,rfl,ht⟩:=B.L.get hi;exact⟨t,b,rfl,ht,(fun z=>by rw[z,B.e] at ht;cases ht),Yc B.x ht⟩
theorem Bf.el(B:Bf H σ G l f rb bs wy hand other at_){u:V}(hu:u∈rb):El f l G u:=by
 obtain⟨t,b,rfl,ht,n1,n2⟩:=B.pr hu;exact .tup ht n1 n2 (fun u hu=>by
  rcases mem_cons.mp hu with z | z
  ·rw[z];exact .int _
  ·rw[mem_singleton.mp z];exact .int _) (by show 2<=200;decide)
theorem Bf.len(B:Bf H σ G l f rb bs wy hand other at_):rb.length<=28:=by rw[B.L.1];exact B.b28
theorem Bf.asg(B:Bf H σ G l f rb bs wy hand other at_){c:Nat->Prop}{te:TE}(h:Gv σ G (Lb f l c) te)(hc:∀ n,c n->n<=200)(q:∀ σ' G',σ'[1]?=some (some (.int wy))->Rb H l σ' G'->D.nx σ' G'):VZ te (wc 5) D σ G:=h G (sR _) _ fun v H2 s2 hv=>by
 obtain⟨p,xs,rfl,h1,h2,h3,h4⟩:=hv;have sz:=B.sz;refine q _ _ (by rw[List.getElem?_set_ne (by decide)];exact B.s1) ⟨p,xs,List.getElem?_set_self (by omega),h1,h2,hc _ h3,fun u hu=>?_,B.x.same s2,B.y.trans (Ext.same s2)⟩;obtain⟨x,hx,c⟩:=h4 u hu;exact⟨x,hx.same hd1_sub,c⟩
theorem Bf.ins(B:Bf H σ G l f rb bs wy hand other at_){u:V}(y:Ext l G G')(x:XsAt G' l)(hu:El f l G' u)(σ':St)(s5:σ'[5]?=some (some (.ref f))):Rb H l σ' (upd G' f (.lst (rb.take at_++u::rb.drop at_))):=by
 have ll:=B.len;refine⟨f,_,s5,za,B.fl,by rw[length_append,length_cons,length_take,length_drop];omega,fun v hv=>?_,x.upd B.fl,fun b p e n=>by rw[upd_ne (nZ e B.ff)];exact y _ _ (B.y b p e n) n⟩;have hE:El f l G' v:=by
  rcases mem_append.mp hv with z | z
  ·exact El.fx B.x y (B.el (mem_of_mem_take z))
  ·rcases mem_cons.mp z with z | z
   ·rw[z];exact hu
   ·exact El.fx B.x y (B.el (List.mem_of_mem_drop z))
 obtain⟨z,hz,c⟩:=hE.upf (o:=.lst (rb.take at_++u::rb.drop at_));exact⟨z,hz.same hd1_sub,c⟩
theorem Bf.all(B:Bf H σ G l f rb bs wy hand other at_):Rb H l σ G:=⟨f,rb,B.s5,B.e,B.fl,by have:=B.len;omega,fun u hu=>by
 obtain⟨x,hx,c⟩:=B.el hu;exact⟨x,hx.same hd1_sub,c⟩,B.x,B.y⟩
end
def zcM:Sp:=fun vs H Q _=>∃ (l q lb:Addr) (wy hand other:Int) (rs rb:List V) (ls bs:LP),vs=[.ref l,.int wy,.int hand,.int other,.ref q,.ref lb]/\XsAt H l/\0<=wy/\H q=some (.lst rs)/\q≠l/\LnAt H rs ls/\ls.length<=28/\H lb=some (.lst rb)/\LnAt H rb bs/\bs.length<=28/\∀ (lr:Addr) (rr:List V) (xs:List (Sh 3)) (G:Hp),G lr=some (.lst rr)->lr≠l->rr.length<=200->Paired (fun v x=>IsSh (hd1 l G) 3 v x) rr xs->(∀ x∈xs,CmS x)->XsAt G l->Ext l H G->Q (.ref lr) G
theorem XJ:∀ {H:Hp}{rr:List V},(∀ v∈rr,∃ x:Sh 3,IsSh H 3 v x/\CmS x)->∃ xs:List (Sh 3),Paired (fun v x=>IsSh H 3 v x) rr xs/\∀ x∈xs,CmS x
 |_,[],_=>⟨[],.nil,fun x hx=>nomatch hx⟩
 |_,v::rr,h=>by
  obtain⟨xs,h1,h2⟩:=XJ (rr:=rr) fun u hu=>h u (mem_cons_of_mem _ hu);obtain⟨x,h3,h4⟩:=h v mem_cons_self;exact⟨x::xs,.cons h3 h1,fun y hy=>by
   rcases mem_cons.mp hy with z | z
   ·rw[z];exact h4
   ·exact h2 y z⟩
theorem fl2{x y:V}(hx:Fl x)(hy:Fl y):∀ u∈[x,y],Fl u:=fun u hu=>by
 rcases mem_cons.mp hu with z | z
 ·rw[z];exact hx
 ·rw[mem_singleton.mp z];exact hy
theorem zcc(T:Txt w K mg a):FnOk P w K mg base CX0 3 464 (dK K 464) ["_law_xs", "_law_way", "_law_hand", "_law_other", "_law_lines_here", "_law_bridges"] zcM:=by
 have c__law_take:=cal P base T 25 rfl (xH T);refine(T.fn 37 rfl).ok (scp 37 rfl) (fun vs H Q E h=>?_) (fun cdv A outer s H vs Q E hr h=>?_)
 ·obtain⟨l,q,lb,wy,hand,other,rs,rb,ls,bs,rfl,_⟩:=h
  rfl
 ·obtain⟨l,q,lb,wy,hand,other,rs,rb,ls,bs,rfl,x0,w0,hq,nql,L,l28,hlb,Lb0,b28,k⟩:=h
  have hu:=yY hr;refine zT (zd (zk (i:=5) (scp 37 rfl).nd rfl (Or.inl rfl) (zU yF (by rfl) (T.n 6 rfl) bt_list (zb (w_pv 5) w_pa_nil)))
   (zd (zk (i:=6) (scp 37 rfl).nd rfl (Or.inl rfl) (zn c__law_take hr.m (zb (w_pv 0) (xn (zo yw (zl zw (by rfl) (T.n 0 rfl) yg (zb (w_pv 5) w_pa_nil)) ze) w_pa_nil))))
   (zd (zk (i:=7) (scp 37 rfl).nd rfl (Or.inl rfl) (zx zY (zo yU (w_pv 4) (w_pe_lst (yD (zD (zb (w_pv 2) (zb (w_pv 3) w_pa_nil))) w_pa_nil))) (zn c__law_take hr.m (zb (w_pv 0) (xn (zo yw (zl zw (by rfl) (T.n 0 rfl) yg (zb (w_pv 4) w_pa_nil)) ze) w_pa_nil))) (fun _ _=>rfl)))
   (zJ (zq (zh yu (w_pv 1) ze (zu _))
    (w_pss_one (zk (i:=5) (scp 37 rfl).nd rfl (Or.inl rfl) (zo yU (zH yq (w_pv 5) yj (w_po_some (w_pv 6))) (zH yq (w_pv 5) (w_po_some (zo yw (w_pv 6) ze)) yj))))
    zi)
   (zJ (zq (zh yu (w_pv 1) ze (zu _))
    (w_pss_one (zk (i:=5) (scp 37 rfl).nd rfl (Or.inl rfl) (zo yU (zo yU (zH yq (w_pv 5) yj (w_po_some (w_pv 6))) (ym rfl (N':=["_law_one", "_law_two"]) (t:=2) (caps:=[]) ⟨rfl,rfl,rfl⟩ (zB (zH yq (w_pv 5) (w_po_some (w_pv 6)) (w_po_some (zo yw (w_pv 6) ze)))) (fun _=>(yf rfl (zr (zm (i:=0) (show(["_law_one", "_law_two"]:List Str).Nodup by decide +kernel) rfl (Or.inl rfl)) (zr (zm (i:=1) (show(["_law_one", "_law_two"]:List Str).Nodup by decide +kernel) rfl (Or.inl rfl)) zO)))) (fun _=>yC) (fun _=>(zD (zb (w_pv 1) (zb (w_pv 0) w_pa_nil)))))) (zH yq (w_pv 5) (w_po_some (zo yw (w_pv 6) ze)) yj))))
    zi)
   (zJ (zq (zh yu (w_pv 1) ze (zu _))
    (w_pss_one (zk (i:=5) (scp 37 rfl).nd rfl (Or.inl rfl) (zo yU (zo yU (zH yq (w_pv 5) yj (w_po_some (w_pv 6))) (zH yq (w_pv 5) (w_po_some (w_pv 6)) (w_po_some (zo yw (w_pv 6) ze)))) (zH yq (w_pv 5) (w_po_some (w_pv 6)) yj))))
    zi)
   (zJ (zq (zh yu (w_pv 1) ze (zu _))
    (w_pss_one (w_ps_expr (w_pe_bm F.plainAttrs_list F.slot_list_insert F.type_list_insert wT (w_pv 5) (zb (w_pv 6) (zb (w_pv 7) w_pa_nil)))))
    zi)
   (zJ (zq (zh yu (w_pv 1) ze (zu _))
    (w_pss_one (w_ps_expr (w_pe_bm F.plainAttrs_list F.slot_list_insert F.type_list_insert wT (w_pv 5) (zb (w_pv 6) (yD (zD (zM (zl (XV rfl) (by rfl) (T.n 2 rfl) zbn (zb (w_pv 2) (zb (w_pv 3) w_pa_nil))) (zM (zl (XW rfl) (by rfl) (T.n 3 rfl) zbo (zb (w_pv 2) (zb (w_pv 3) w_pa_nil))) w_pa_nil))) w_pa_nil)))))
    zi)
   (zJ (zq (zh yu (w_pv 1) ze (zu _))
    (zd (zk (i:=8) (scp 37 rfl).nd rfl (Or.inl rfl) (w_pe_lst (zK zW (yD (zD (zb (w_pv 2) w_pa_nil)) (yD (zD (zb (w_pv 2) (zb (w_pv 3) (zb (w_pv 3) w_pa_nil)))) (zK vH (zb (w_pv 2) (yD (zD (zb (w_pv 2) (zK zW w_pa_nil))) (yD (zD w_pa_nil) (w_pa_cons (w_pe_lst (zb (w_pv 2) (zb (w_pv 3) w_pa_nil))) (w_pa_cons (ua (vn (w_pv 2) (w_pv 3) v8) rfl rfl (by intro z;cases z) (by decide)) (w_pa_cons (w_pe_lst w_pa_nil) w_pa_nil))))))))))))
    (w_pss_one (w_ps_expr (w_pe_bm F.plainAttrs_list F.slot_list_insert F.type_list_insert wT (w_pv 5) (zb (w_pv 6) (w_pa_cons (zx zY (zo yU (w_pv 8) (w_pe_lst (yD (zD (zb (w_pv 2) (w_pa_cons (w_pe_lst (zb (w_pv 3) w_pa_nil)) w_pa_nil))) (yD (zD (w_pa_cons (w_pe_lst (zb (w_pv 2) w_pa_nil)) (zb (w_pv 3) w_pa_nil))) w_pa_nil)))) (zn c__law_take hr.m (zb (w_pv 0) (zK ze w_pa_nil))) (fun _ _=>rfl)) w_pa_nil))))))
    zi)
   (zJ (zq (zh yu (w_pv 1) ze (zu _))
    (w_pss_one (zk (i:=5) (scp 37 rfl).nd rfl (Or.inl rfl) (zo yU (ym rfl (N':=["_law_one"]) (t:=1) (caps:=[]) ⟨rfl,rfl,rfl⟩ (zB (w_pv 5)) (fun _=>(zm (i:=0) (show(["_law_one"]:List Str).Nodup by decide +kernel) rfl (Or.inl rfl))) (fun _=>yC) (fun _=>(zx zY (w_pe_lst (zb (w_pv 0) (yD (zD (zK zy (w_pa_cons (zx zX (w_pv 0) ze (fun _ _=>rfl)) w_pa_nil))) w_pa_nil))) (zU XX (by rfl) (T.n 1 rfl) uP (w_pa_cons (zP yu (zx zX (w_pv 0) ze (fun _ _=>rfl)) ze (zu _)) w_pa_nil)) (fun _ _=>rfl)))) (w_pe_lst (yD (zD (zK zy (zb (w_pv 2) w_pa_nil))) w_pa_nil)))))
    zi)
   (w_pss_one (zg (w_pv 5))))))))))))) ?_
  refine⟨_,rfl,lb,_,rfl,.inl (sO hlb),fun f hf=>?_⟩;have n1:=sW (o:=HO.lst rb) hf;have e1:=za (H:=H) (a:=f) (o:=HO.lst rb);have fl:f≠l:=x0.ne hf;generalize upd H f (.lst rb)=H1 at *;refine⟨_,rfl,_,rfl,f,_,rfl,.inl (sO e1),_,_,rfl,rfl,l,_,rfl,x0.same n1,by omega,fun dr H2 d0 d1 x2 y2=>?_⟩;obtain⟨at_,rfl⟩:∃ i:Nat,dr=(i:Int):=⟨dr.toNat,by omega⟩;have hq2:=y2 _ _ (n1 _ _ hq) nql;have L2':=(L.same n1).extX (x0.same n1) y2;have lr0:=L.1;refine⟨_,rfl,_,rfl,_,rfl,(by show 2<=sizeLine;decide),fun t2 ht2=>⟨(by show 1<=sizeLine;decide),fun p2 hp2=>?_⟩⟩;have n3:=sW (o:=HO.tup [V.int hand,V.int other]) ht2;have e3:=za (H:=H2) (a:=t2) (o:=HO.tup [V.int hand,V.int other]);generalize upd H2 t2 (HO.tup [V.int hand,V.int other])=H3 at *;have n4:=sW (o:=HO.lst [V.ref t2]) hp2;have e4:=za (H:=H3) (a:=p2) (o:=HO.lst [V.ref t2]);generalize upd H3 p2 (HO.lst [V.ref t2])=H4 at *;have n24:=n3.trans n4;have L4:LnAt H4 (rs++[.ref t2]) (ls++[(hand,other)]):=(L2'.same n24).snoc (p:=(hand,other)) (n4 _ _ e3);refine⟨q,p2,rs,_,rfl,rfl,n24 _ _ hq2,e4,by rw[lr0];exact Nat.le_of_lt (zj (by show ls.length+1<=1000;omega)),fun p3 hp3=>?_⟩;have n5:=sW (o:=HO.lst (rs++[V.ref t2])) hp3;have e5:=za (H:=H4) (a:=p3) (o:=HO.lst (rs++[V.ref t2]));have x4:=x2.same n24;have np3:p3≠l:=x4.ne hp3;generalize upd H4 p3 (HO.lst (rs++[V.ref t2]))=H5 at *;have n25:=n24.trans n5;have x5:=x2.same n25;refine⟨_,rfl,_,rfl,q,_,rfl,.inl (sO (n25 _ _ hq2)),_,_,rfl,rfl,l,_,rfl,x5,by omega,fun dr2 H6 c0 c1 x6 y6=>?_⟩;obtain⟨i2,rfl⟩:∃ i:Nat,dr2=(i:Int):=⟨dr2.toNat,by omega⟩;have hi2:i2<(rs++[V.ref t2]).length:=by rw[length_append];show i2<rs.length+1;omega
  obtain⟨bl,tl,_,etl,htl⟩:=(L4.same n5).get (List.getElem?_eq_getElem hi2);refine⟨p3,_,_,_,rfl,rfl,sO (y6 _ _ e5 np3),zV (List.getElem?_eq_getElem hi2),?_⟩;rw[etl];have htl6:=y6 _ _ htl (Yc x5 htl);have Y06:Ext l H H6:=((Ext.same n1).trans y2).trans ((Ext.same n25).trans y6);have e6:H6 f=some (.lst rb):=y6 _ _ (n25 _ _ (y2 _ _ e1 fl)) fl;have Lb6:LnAt H6 rb bs:=Lb0.extX x0 Y06;have ntl:tl≠f:=fun z=>by rw[z,e6] at htl6;cases htl6
  generalize hσ:([some (.ref l),some (.int wy),some (.int hand),some (.int other),some (.ref q),some (.ref f),some (.int at_),some (.ref tl),none]:St)=σ0;have B:Bf H σ0 H6 l f rb bs wy hand other at_:=⟨e6,hf,fl,Lb6,b28,x6,Y06,by rw[<- hσ];rfl,by rw[<- hσ];rfl,by rw[<- hσ];rfl,by rw[<- hσ];rfl,by rw[<- hσ];rfl,by rw[<- hσ];rfl,by omega,by rw[<- hσ];rfl⟩;have s7:σ0[7]?=some (some (.ref tl)):=by rw[<- hσ];rfl
  have ll:=B.len;have sl:∀ {lo hi:TO},PoO σ0 lo->PoO σ0 hi->Gv σ0 H6 (Lb f l (· <= rb.length)) (tSl (zbV K) (ZF 5) lo hi):=fun h1 h2=>zcq B.x B.s5 B.e (fun u hu=>B.el hu) h1 h2;have nf:∀ {H1:Hp}{p:Addr},Same H6 H1->H1 p=none->p≠f/\p≠l:=fun s hp=>⟨fun z=>(by rw[z,s _ _ B.e] at hp;cases hp),(B.x.same s).ne hp⟩;have c2:∀ i j,i<=rb.length->j<=rb.length->i+j<=56/\i+j<=1000:=fun i j h1 h2=>by omega
  have c3:∀ i j,i<=56->j<=rb.length->i+j<=84/\i+j<=1000:=fun i j h1 h2=>by omega
  have I:∀ {σ:St},σ=σ0->Iw (Rb H l) σ0 H6 wy 7 σ H6:=fun {σ} e=>by
   subst e;by_cases c:7<=wy
   ·exact .inl ⟨rfl,rfl,c⟩
   ·exact .inr ⟨B.s1,by omega,B.all⟩
  have pin:∀ {t:Addr}{i j:Int}{G:Hp},G t=some (.tup [.int i,.int j])->XsAt G l->G f=some (.lst rb)->El f l G (.ref t):=fun {t i j G} ht x hf=>.tup ht (fun z=>by rw[z,hf] at ht;cases ht) (Yc x ht) (fl2 (.int _) (.int _)) (by show 2<=200;decide);refine iwS (R:=Rb H l) (i:=7) B.s1 (I hσ) rfl (fun _ D' q=>?_) fun σ1 G1 I=>?_
  ·exact B.asg (wZ (c3:=(· <= 56)) B.x (sl Yg (uq B.s6)) (sl (YV B.s6) Yg) c2) (fun n h=>by omega) q
  refine iwS (R:=Rb H l) B.s1 I rfl (fun _ D' q=>?_) fun σ1 G1 I=>?_
  ·refine B.asg (wZ (c3:=(· <= 84)) B.x (wZ (c2:=(· <= rb.length)) (c3:=(· <= 56)) B.x (sl Yg (uq B.s6)) ?_ c2) (sl (YV B.s6) Yg) c3) (fun n h=>by omega) q
   intro H1 s1 Q1 q1;refine⟨_,B.s5,_,B.s6,_,rfl,_,B.s6,_,_,rfl,rfl,_,rfl,f,rb,rfl,sO (s1 _ _ B.e),fun p hp=>⟨p,rfl,⟨_,sO za⟩,fun D hD _=>?_⟩⟩;have m1:=s1.trans (sW hp (o:=HO.lst (cutV rb (some (at_:Int)) (some ((at_:Int)+1)))));have m0:=sW hp (o:=HO.lst (cutV rb (some (at_:Int)) (some ((at_:Int)+1))));have ep:=za (H:=H1) (a:=p) (o:=HO.lst (cutV rb (some (at_:Int)) (some ((at_:Int)+1))));have lc:=yo rb (some (at_:Int)) (some ((at_:Int)+1));have hmem:∀ u∈cutV rb (some (at_:Int)) (some ((at_:Int)+1)),u∈rb:=fun u hu=>XS hu;generalize upd H1 p (HO.lst (cutV rb (some (at_:Int)) (some ((at_:Int)+1))))=H1' at *;generalize cutV rb (some (at_:Int)) (some ((at_:Int)+1))=cs at *;refine comp_list (K:=K) (a:=p) (xs:=cs) (fun i zs τ F=>∃ (o1 o2:Option V),τ=[o1,o2]/\zs.length=i/\(∀ u∈zs,∃ t i j,u=.ref t/\F t=some (.tup [.int i,.int j]))/\F D=some (.lst zs)/\Same H1' F/\i<=cs.length) ?_ ?_ ?_ ?_
   ·exact⟨none,none,rfl,rfl,(fun u hu=>nomatch hu),za,sW hD,zero_le _⟩
   ·rintro i zs τ F ⟨o1,o2,_,_,_,_,sm,_⟩
    exact sO (sm _ _ ep)
   ·rintro i u zs τ F hi ⟨o1,o2,rfl,lz,hz,hDF,sm,_⟩
    have hil:i<cs.length:=(List.getElem?_eq_some_iff.mp hi).1;obtain⟨t,b,rfl,ht,_,_⟩:=B.pr (hmem u (mem_of_getElem? hi));refine⟨t,_,rfl,sP (sm _ _ (m1 _ _ ht)),rfl,_,_,rfl,_,_,rfl,rfl,Zz ⟨_,rfl,_,rfl,(by show 2<=sizeLine;decide),fun t' ht'=>?_⟩⟩;have n1:=sW (o:=HO.tup [V.int b.2,V.int b.1]) ht';have hD1:=n1 _ _ hDF;have tn:∀ {c:Addr}{i j:Int},upd F t' (HO.tup [V.int b.2,V.int b.1]) c=some (.tup [.int i,.int j])->upd (upd F t' (HO.tup [V.int b.2,V.int b.1])) D (.lst (zs++[.ref t'])) c=some (.tup [.int i,.int j]):=fun {c i j} e=>by
     rw[upd_ne fun z=>by rw[z,hD1] at e;cases e];exact e
    refine⟨hD1,by rw[lz];exact zj (by omega),_,_,rfl,by simp[lz],fun u hu=>?_,za,(sm.trans n1).updF hD,hil⟩;rcases mem_append.mp hu with z | z
    ·obtain⟨c,i,j,e1,e2⟩:=hz u z
     exact⟨c,i,j,e1,tn (n1 _ _ e2)⟩
    ·exact⟨t',_,_,mem_singleton.mp z,tn za⟩
   ·rintro zs τ F ⟨o1,o2,rfl,lz,hz,hDF,sm,_⟩
    have s6F:=m1.trans sm;refine q1 _ _ (m0.trans sm) ⟨D,zs,rfl,hDF,(B.x.same m1).ne hD,by rw[lz];exact lc,fun u hu=>?_⟩;obtain⟨c,i,j,rfl,e2⟩:=hz u hu;exact pin e2 (B.x.same s6F) (s6F _ _ B.e)
  refine iwS (R:=Rb H l) B.s1 I rfl (fun _ D' q=>?_) fun σ1 G1 I=>?_
  ·exact B.asg (wZ (c3:=(· <= 84)) B.x (wZ (c3:=(· <= 56)) B.x (sl Yg (uq B.s6)) (sl (uq B.s6) (YV B.s6)) c2) (sl (uq B.s6) Yg) c3) (fun n h=>by omega) q
  refine iwS (R:=Rb H l) B.s1 I rfl (fun _ D' q=>?_) fun σ1 G1 I=>?_
  ·exact⟨_,B.s5,.inl ⟨rfl,_,sO B.e⟩,_,B.s6,_,s7,f,rb,_,at_,rfl,rfl,B.e,B.ha,by omega,q _ _ B.s1 (B.ins Ext.refl B.x (pin htl6 B.x B.e) σ0 B.s5)⟩
  refine iwS (R:=Rb H l) B.s1 I rfl (fun _ D' q=>?_) fun σ1 G1 I=>?_
  ·refine⟨_,B.s5,.inl ⟨rfl,_,sO B.e⟩,_,B.s6,_,B.s2,_,B.s3,_,_,rfl,_,B.s2,_,B.s3,_,_,rfl,(by show 2<=sizeLine;decide),fun p hp=>?_⟩
   have n1:=sW (o:=HO.tup [V.int (if other<hand then other else hand),V.int (if other>hand then other else hand)]) hp;exact⟨f,rb,_,at_,rfl,rfl,n1 _ _ B.e,B.ha,by omega,q _ _ B.s1 (B.ins (Ext.same n1) (B.x.same n1) (pin za (B.x.same n1) (n1 _ _ B.e)) σ0 B.s5)⟩
  refine iwS (R:=Rb H l) B.s1 I rfl (fun _ D' q=>?_) fun σ1 G1 I=>?_
  ·have S:Stb (El f l):=El.stb
   refine zc9 (φ:=El f l) (n:=10) ?_ (by decide) fun rs H2p H2 n2 hp hl hr=>?_
   ·have tp:∀ {H1:Hp}{p:Addr}{us:List V},Same H6 H1->H1 p=none->(∀ u∈us,Fl u)->us.length<=200->El f l (upd H1 p (.tup us)) (.ref p):=fun s hp h z=>.tup za (nf s hp).1 (nf s hp).2 h z
    have lp:∀ {H1:Hp}{p:Addr}{us:List V},Same H6 H1->H1 p=none->(∀ u∈us,Fl u)->us.length<=200->El f l (upd H1 p (.lst us)) (.ref p):=fun s hp h z=>.lst za (nf s hp).1 (nf s hp).2 h z;have f1:∀ {x:V},Fl x->∀ u∈[x],Fl u:=fun hx u hu=>by rw[mem_singleton.mp hu];exact hx
    exact zI S (za9 fun H=>.fl .non) (zI S (fun H1 s Q k=>⟨_,B.s2,(by show 1<=sizeLine;decide),fun p hp=>k _ _ (sW hp) (tp s hp (f1 (.int _)) (by show 1<=200;decide))⟩) (zI S (fun H1 s Q k=>⟨_,B.s2,_,B.s3,_,B.s3,(by show 3<=sizeLine;decide),fun p hp=>k _ _ (sW hp) (tp s hp (fun u hu=>by
      rcases mem_cons.mp hu with z | z
      ·rw[z];exact .int _
      ·exact fl2 (.int _) (.int _) u z) (by show 3<=200;decide))⟩) (zI S (za9 fun H=>.fl (.str _)) (zI S (XH B.s2 S (.fl (.int _))) (zI S (fun H1 s Q k=>⟨_,B.s2,(by show 2<=sizeLine;decide),fun p hp=>k _ _ (sW hp) (tp s hp (fl2 (.int _) .non) (by show 2<=200;decide))⟩)
     (zI S (fun H1 s Q k=>⟨(by show 0<=sizeLine;decide),fun p hp=>k _ _ (sW hp) (tp s hp (fun u hu=>nomatch hu) (by show 0<=200;decide))⟩) (zI S (fun H1 s Q k=>⟨_,B.s2,_,B.s3,(by show 2<=sizeLine;decide),fun p hp=>k _ _ (sW hp) (lp s hp (fl2 (.int _) (.int _)) (by show 2<=200;decide))⟩) (zI S (fun H1 s Q k p hp=>⟨_,B.s2,_,B.s3,za,[(.inl hand,.int other)],rfl,by show 1<=15;decide,k _ _ ((sW hp).updF hp) ⟨ShF.dk [(.inl hand,ShF.fl (.int other))],⟨p,_,rfl,xI (nf s hp).1 (nf s hp).2,.cons ⟨rfl,rfl,.int _⟩ .nil,(by show([Sum.inl hand]:List Key).Nodup;simp),by show 1<=200;decide⟩,True.intro⟩⟩) (zI S (fun H1 s Q k=>⟨(by show 0<=sizeLine;decide),fun p hp=>k _ _ (sW hp) (lp s hp (fun u hu=>nomatch hu) (by show 0<=200;decide))⟩) uG)))))))))
   have n3:=n2.trans (sW hp (o:=.lst rs));have g:∀ i,i≠8->(σ0.set 8 (some (.ref H2p)))[i]?=σ0[i]?:=fun i hi=>List.getElem?_set_ne fun z=>hi z.symm;have g8:(σ0.set 8 (some (.ref H2p)))[8]?=some (some (.ref H2p)):=List.getElem?_set_self (by have:=B.sz;omega);have x3:=B.x.same n3;have e3':=n3 _ _ B.e;have L8:Lb f l (· = 10) (upd H2 H2p (.lst rs)) (.ref H2p):=⟨H2p,rs,rfl,za,(B.x.same n2).ne hp,hl,fun u hu=>S.to (sW hp) (hr u hu)⟩;refine⟨_,(g 5 (by decide)).trans B.s5,.inl ⟨rfl,_,sO e3'⟩,_,(g 6 (by decide)).trans B.s6,?_⟩;generalize hG:upd H2 H2p (.lst rs)=G3 at *;have nf3:∀ {H1:Hp}{p:Addr},Same G3 H1->H1 p=none->p≠f/\p≠l:=fun s hp=>nf (n3.trans s) hp;refine wZ (f:=f) (l:=l) (c1:=(· = 10)) (c2:=(· = 2)) (c3:=(· = 12)) x3 (XH g8 Lb.stb L8) (zba x3 (zI S (fun H1 s Q k=>⟨_,(g 2 (by decide)).trans B.s2,_,(g 3 (by decide)).trans B.s3,(by show 1<=sizeLine;decide),fun p hp=>⟨(by show 2<=sizeLine;decide),fun r hr=>k _ _ ((sW hp).trans (sW hr)) ⟨ShF.tup [ShF.fl (.int hand),ShF.lst [ShF.fl (.int other)]],⟨r,_,rfl,xI (nf3 (s.trans (sW hp)) hr).1 (nf3 (s.trans (sW hp)) hr).2,.cons ⟨rfl,.int _⟩ (.cons ⟨p,_,rfl,zR (zR (sW hr _ _ za) (nf3 s hp).2) (nf3 s hp).1,.cons ⟨rfl,.int _⟩ .nil,by show 1<=200;decide⟩ .nil),by show 2<=200;decide⟩,fun y hy=>?_⟩⟩⟩) (zI S (fun H1 s Q k=>⟨_,(g 2 (by decide)).trans B.s2,(by show 1<=sizeLine;decide),fun p hp=>⟨_,(g 3 (by decide)).trans B.s3,(by show 2<=sizeLine;decide),fun r hr=>k _ _ ((sW hp).trans (sW hr)) ⟨ShF.tup [ShF.lst [ShF.fl (.int hand)],ShF.fl (.int other)],⟨r,_,rfl,xI (nf3 (s.trans (sW hp)) hr).1 (nf3 (s.trans (sW hp)) hr).2,.cons ⟨p,_,rfl,zR (zR (sW hr _ _ za) (nf3 s hp).2) (nf3 s hp).1,.cons ⟨rfl,.int _⟩ .nil,by show 1<=200;decide⟩ (.cons ⟨rfl,.int _⟩ .nil),by show 2<=200;decide⟩,fun y hy=>?_⟩⟩⟩) uG)) (by decide)) (fun i j h1 h2=>by omega) G3 (sR _) _ fun v G4 s4 hv=>?_
   ·obtain⟨pc,xs,rfl,h1,h2,h3,h4⟩:=hv
    refine⟨_,(g 0 (by decide)).trans B.s0,l,12,rfl,x3.same s4,by decide,fun dr G5 d0 d1 x5 y5=>?_⟩;obtain⟨i,rfl⟩:∃ i:Nat,dr=(i:Int):=⟨dr.toNat,by omega⟩;have hi:i<xs.length:=by omega
    refine⟨pc,xs,_,xs[i],rfl,rfl,sO (y5 _ _ h1 h2),zV (List.getElem?_eq_getElem hi),f,rb,_,at_,rfl,rfl,y5 _ _ (s4 _ _ e3') fl,B.ha,by omega,q _ _ ((g 1 (by decide)).trans B.s1) (B.ins ((Ext.same (n3.trans s4)).trans y5) x5 (El.fx (x3.same s4) y5 (h4 _ (getElem_mem hi))) _ ((g 5 (by decide)).trans B.s5))⟩
   ·rcases mem_cons.mp hy with z | z
    ·rw[z];exact .inl ⟨_,rfl⟩
    ·rw[mem_singleton.mp z];exact .inr ⟨_,rfl⟩
   ·rcases mem_cons.mp hy with z | z
    ·rw[z];exact .inr ⟨_,rfl⟩
    ·rw[mem_singleton.mp z];exact .inl ⟨_,rfl⟩
  refine iwS (R:=Rb H l) B.s1 I rfl (fun _ D' q=>?_) fun σ1 G1 I=>?_
  ·refine B.asg (c:=(· <= 29)) (wZ (c1:=(· <= rb.length)) (c2:=(· = 1)) B.x ?_ (zba B.x (zI El.stb (fun H1 s Q k=>⟨_,B.s2,(by show 2<=sizeLine;decide),fun p hp=>k _ _ (sW hp) (.tup za (nf s hp).1 (nf s hp).2 (fl2 (.bl _) (.int _)) (by show 2<=200;decide))⟩) uG) (by decide)) (fun i j h1 h2=>by omega)) (fun n h=>by omega) q
   intro H1 s1 Q1 q1;refine⟨_,B.s5,f,rfl,⟨_,sO (s1 _ _ B.e)⟩,fun D hD _=>?_⟩;refine comp_list (K:=K) (a:=f) (xs:=rb) (fun i zs τ F=>∃ (o1:Option V),τ=[o1]/\zs.length=i/\(∀ u∈zs,∃ t x y,u=.ref t/\F t=some (.tup [x,y])/\Fl x/\Fl y)/\F D=some (.lst zs)/\Same H1 F/\i<=rb.length) ?_ ?_ ?_ ?_
   ·exact⟨none,rfl,rfl,(fun u hu=>nomatch hu),za,sW hD,zero_le _⟩
   ·rintro i zs τ F ⟨o1,_,_,_,_,sm,_⟩
    exact sO (sm _ _ (s1 _ _ B.e))
   ·rintro i u zs τ F hi ⟨o1,rfl,lz,hz,hDF,sm,_⟩
    have hil:i<rb.length:=(List.getElem?_eq_some_iff.mp hi).1;obtain⟨t,b,rfl,ht,_,_⟩:=B.pr (mem_of_getElem? hi);have htF:=sm _ _ (s1 _ _ ht);unfold wc;refine Zz ⟨_,rfl,_,rfl,t,_,1,_,rfl,rfl,sP htF,rfl,(by show 2<=sizeLine;decide),fun t' ht'=>⟨(by show 2<=sizeLine;decide),fun p' hp'=>?_⟩⟩;have n1:=sW (o:=HO.tup [V.bl true,V.int b.2]) ht';have e1':=za (H:=F) (a:=t') (o:=HO.tup [V.bl true,V.int b.2]);generalize upd F t' (HO.tup [V.bl true,V.int b.2])=F1 at *;have n2:=n1.trans (sW (o:=HO.lst [V.ref t,V.ref t']) hp');have e2':=za (H:=F1) (a:=p') (o:=HO.lst [V.ref t,V.ref t']);have e1'':=sW (o:=HO.lst [V.ref t,V.ref t']) hp' _ _ e1';generalize upd F1 p' (HO.lst [V.ref t,V.ref t'])=F2 at *;have htF2:=n2 _ _ htF;have hD2:=n2 _ _ hDF;refine⟨_,rfl,t,_,0,_,rfl,rfl,sP htF2,rfl,rfl,.inr ⟨_,rfl,?_⟩⟩;have tn:∀ {zs':List V}{c:Addr}{us:List V},F2 c=some (.tup us)->upd F2 D (.lst zs') c=some (.tup us):=fun {zs' c us} e=>by
     rw[upd_ne fun z=>by rw[z,hD2] at e;cases e];exact e
    have ap:∀ {v:V}{x y:V}{c:Addr},v=.ref c->F2 c=some (.tup [x,y])->Fl x->Fl y->F2 D=some (.lst zs)/\zs.length<sizeLine/\∃ (o1':Option V),([some (.ref t)]:St)=[o1']/\(zs++[v]).length=i+1/\(∀ u∈zs++[v],∃ t x y,u=.ref t/\upd F2 D (.lst (zs++[v])) t=some (.tup [x,y])/\Fl x/\Fl y)/\upd F2 D (.lst (zs++[v])) D=some (.lst (zs++[v]))/\Same H1 (upd F2 D (.lst (zs++[v])))/\i+1<=rb.length:=fun {v x y c} ev hc hx hy=>⟨hD2,by rw[lz];exact zj (by omega),_,rfl,by simp[lz],fun u hu=>by
     rcases mem_append.mp hu with z | z
     ·obtain⟨c',x',y',a1,a2,a3⟩:=hz u z
      exact⟨c',x',y',a1,tn (n2 _ _ a2),a3⟩
     ·exact⟨c,x,y,(mem_singleton.mp z).trans ev,tn hc,hx,hy⟩,za,(sm.trans n2).updF hD,hil⟩
    by_cases c:b.1=1
    ·refine⟨p',_,1,.ref t',rfl,by rw[decide_eq_true (show V.int b.1=V.int 1 by rw[c])];rfl,sO e2',zV (j:=1) rfl,?_⟩
     exact ap rfl e1'' (.bl _) (.int _)
    ·refine⟨p',_,0,.ref t,rfl,by rw[decide_eq_false (show ¬V.int b.1=V.int 1 from fun z=>c (by injection z))];rfl,sO e2',zV (j:=0) rfl,?_⟩
     exact ap rfl htF2 (.int _) (.int _)
   ·rintro zs τ F ⟨o1,rfl,lz,hz,hDF,sm,_⟩
    have s6F:=s1.trans sm;refine q1 _ _ sm ⟨D,zs,rfl,hDF,(B.x.same s1).ne hD,by rw[lz];exact Nat.le_refl _,fun u hu=>?_⟩;obtain⟨c,x,y,rfl,e2,hx,hy⟩:=hz u hu;exact .tup e2 (fun z=>by rw[z,s6F _ _ B.e] at e2;cases e2) (Yc (B.x.same s6F) e2) (fl2 hx hy) (by show 2<=200;decide)
  have fin:∀ {σ:St}{G:Hp},Rb H l σ G->zbD (ZF 5) { nx:=fun _ H'=>Q .non H',rt:=Q } σ G:=fun {σ G} r=>by
   obtain⟨lr,rr,h5,h1,h2,h3,h4,x1,y1⟩:=r;obtain⟨xs,h6,h7⟩:=XJ h4;exact⟨_,h5,k lr rr xs G h1 h2 h3 h6 h7 x1 y1⟩
  rcases I with⟨rfl,rfl,_⟩ | ⟨_,_,r⟩
  ·exact fin B.all
  ·exact fin r
def zcK:Sp:=fun vs H Q _=>∃ (l h q d lb:Addr) (rs rb:List V) (hs us:LI) (ls bs:LP) (pf:Int->Option Int) (pa:Int->LI),vs=[.ref l,.ref h,.ref q,.ref d,.ref lb]/\XsAt H l/\H h=some (.lst (hs.map V.int))/\h≠l/\Hs hs/\H q=some (.lst rs)/\q≠l/\LnAt H rs ls/\ls.length<=28/\H d=some (.dK (tabV (fun x=>opV (pf x)) us))/\us.Nodup/\us.length<=12/\UpP us pf pa/\(∀ x,x∈us↔x∈hs)/\H lb=some (.lst rb)/\lb≠l/\LnAt H rb bs/\bs.length<=28 /\
 ∀ (t:Addr) (v1:V) (lr:Addr) (rr:List V) (s1:Sh 4) (xs:List (Sh 3)) (G:Hp),G t=some (.tup [v1,.ref lr])->IsSh G 4 v1 s1->zbp s1->G lr=some (.lst rr)->rr.length<=200->Paired (fun v x=>IsSh G 3 v x) rr xs->(∀ x∈xs,CmS x)->Ext l H G->Q (.ref t) G
theorem zca(T:Txt w K mg a):FnOk P w K mg base CX0 4 471 (dK K 471) ["_law_xs", "_law_hands_here", "_law_lines_here", "_law_parents", "_law_bridges"] zcK:=by
 have c__law_take:=cal P base T 25 rfl (xH T);have c__law_other_parents:=cal P base T 36 rfl (zcb T);have c__law_other_bridges:=cal P base T 37 rfl (zcc T);refine(T.fn 38 rfl).ok (scp 38 rfl) (fun vs H Q E h=>?_) (fun cdv A outer s H vs Q E hr h=>?_)
 ·obtain⟨l,h,q,d,lb,rs,rb,hs,us,ls,bs,pf,pa,rfl,_⟩:=h
  rfl
 ·obtain⟨l,h,q,d,lb,rs,rb,hs,us,ls,bs,pf,pa,rfl,x0,hh,nhl,wh,hq,nql,L,l28,hd,nd,l12,U,hm,hlb,nbl,Lb,b28,k⟩:=h
  have h1:=wh.l1;have ndl:d≠l:=fun z=>by obtain⟨ms,e',_⟩:=x0;rw[z,e'] at hd;cases hd
  refine zT (zd (zk (i:=5) (scp 38 rfl).nd rfl (Or.inl rfl) (zn c__law_take hr.m (zb (w_pv 0) (zK ze w_pa_nil))))
   (zd (zk (i:=6) (scp 38 rfl).nd rfl (Or.inl rfl) (zx zY (w_pv 1) (zn c__law_take hr.m (zb (w_pv 0) (zM (zl zw (by rfl) (T.n 0 rfl) yg (zb (w_pv 1) w_pa_nil)) w_pa_nil))) (fun _ _=>rfl)))
   (zd (zk (i:=7) (scp 38 rfl).nd rfl (Or.inl rfl) (zx zY (w_pv 1) (zn c__law_take hr.m (zb (w_pv 0) (zM (zl zw (by rfl) (T.n 0 rfl) yg (zb (w_pv 1) w_pa_nil)) w_pa_nil))) (fun _ _=>rfl)))
   (zd (zk (i:=8) (scp 38 rfl).nd rfl (Or.inl rfl) (zn c__law_other_parents hr.m (zb (w_pv 0) (zb (w_pv 5) (zb (w_pv 6) (zb (w_pv 7) (zb (w_pv 3) w_pa_nil)))))))
   (w_pss_one (zg (zD (zb (w_pv 8) (zM (zn c__law_other_bridges hr.m (zb (w_pv 0) (zb (w_pv 5) (zb (w_pv 6) (zb (w_pv 7) (zb (w_pv 2) (zb (w_pv 4) w_pa_nil))))))) w_pa_nil))))))))) ?_
  refine⟨_,rfl,l,14,rfl,x0,by decide,fun wy H1 w0 _ x1 y1=>?_⟩;have hh1:=y1 _ _ hh nhl;refine⟨_,rfl,_,rfl,_,rfl,h,_,rfl,.inl (sO hh1),l,_,rfl,x1,by rw[length_map];omega,fun dr H2 d0 d1 x2 y2=>?_⟩;rw[length_map] at d1;obtain⟨i,rfl⟩:∃ i:Nat,dr=(i:Int):=⟨dr.toNat,by omega⟩;have hi:i<hs.length:=by omega
  have hh2:=y2 _ _ hh1 nhl;refine⟨h,_,_,_,rfl,rfl,sO hh2,zV (by rw[List.getElem?_map,List.getElem?_eq_getElem hi];rfl),?_⟩;refine⟨_,rfl,_,rfl,_,rfl,h,_,rfl,.inl (sO hh2),l,_,rfl,x2,by rw[length_map];omega,fun dr H3 e0 e1 x3 y3=>?_⟩;rw[length_map] at e1;obtain⟨j,rfl⟩:∃ i:Nat,dr=(i:Int):=⟨dr.toNat,by omega⟩;have hj:j<hs.length:=by omega
  have y03:=(y1.trans y2).trans y3;refine⟨h,_,_,_,rfl,rfl,sO (y3 _ _ hh2 nhl),zV (by rw[List.getElem?_map,List.getElem?_eq_getElem hj];rfl),?_⟩;refine⟨_,rfl,_,rfl,_,rfl,_,rfl,_,rfl,l,d,wy,_,_,us,pf,pa,rfl,x3,w0,y03 _ _ hd ndl,nd,l12,U,(hm _).mpr (getElem_mem hi),fun x hx=>⟨wh.lo _ ((hm x).mp hx),wh.hi _ ((hm x).mp hx)⟩,fun v s1 H4 hv ps x4 y4=>?_⟩;have y04:=y03.trans y4;refine⟨_,rfl,_,rfl,_,rfl,_,rfl,_,rfl,_,rfl,_,rfl,l,q,lb,wy,_,_,rs,rb,ls,bs,rfl,x4,w0,y04 _ _ hq nql,nql,L.extX x0 y04,l28,y04 _ _ hlb nbl,Lb.extX x0 y04,b28,fun lr rr xs H5 hlr nlr hrr hp hcm x5 y5=>?_⟩;refine⟨(by show 2<=sizeLine;decide),fun t ht=>?_⟩;have n1:=sW (o:=HO.tup [v,V.ref lr]) ht;exact k t v lr rr s1 xs _ za (hv.same ((yx y5).trans (hd1_sub.trans n1))) ps (n1 _ _ hlr) hrr (Paired.mapP hp fun _ _ h=>h.same (hd1_sub.trans n1)) hcm ((y04.trans y5).trans (Ext.same n1))
def zcH(a:Ad):Sp:=fun vs H Q _=>∃ (p q dx:Addr) (s1 s2:Sh 4) (v1 v2:V) (hs:LI) (ls:LP),vs=[.ref p,.ref q]/\WbP a H p hs ls/\WyS a H q s1 s2 dx v1 v2/\OkW s1 s2/\(∀ us pf bs,GdW hs s1 s2 us pf bs->GG us ls pf bs->∀ (d:Addr) (js:List ((Int×Int)×Addr×LI)) (H':Hp),Pp H' d js->RdB us ls pf bs js->Same H H'->Q (.ref d) H')/\((¬∃ us pf bs,GdW hs s1 s2 us pf bs/\GG us ls pf bs)->∀ (H':Hp),Same H H'->Q .non H')
theorem zb6(T:Txt w K mg a):FnOk P w K mg base CX0 12 478 (dK K 478) ["_law_web", "_law_way"] (zcH a):=by
 have cx_roads:Callee1 P w K mg base "roads" 250 (dK K 250) ["web", "way"] 11 (zbJ a):=⟨zaK T,(T.g 15 rfl),(T.fn 15 rfl).kp,(T.bi 15 rfl)⟩;refine(T.fn 39 rfl).ok (scp 39 rfl) (fun vs H Q E h=>?_) (fun cdv A outer s H vs Q E hr h=>?_)
 ·obtain⟨p,q,dx,s1,s2,v1,v2,hs,ls,rfl,_⟩:=h
  rfl
 ·obtain⟨p,q,dx,s1,s2,v1,v2,hs,ls,rfl,WP,Y,OW,kg,kn⟩:=h
  refine zT (zd (zk (i:=2) (scp 39 rfl).nd rfl (Or.inl rfl) zW)
   (zJ (Wa rfl rfl (T.xc 0 rfl) (T.gg 2 rfl) (X9 (i:=2) (scp 39 rfl).nd rfl (Or.inl rfl) (UR cx_roads hr.m (zb (w_pv 0) (zb (w_pv 1) w_pa_nil)))) (fun _=>(w_pss_one (zk (i:=2) (scp 39 rfl).nd rfl (Or.inl rfl) zW))))
   (w_pss_one (zg (w_pv 2))))) ?_
  refine⟨fun σ' H'=>∃ v,σ'=[some (.ref p),some (.ref q),some v]/\Q v H',?_,?_⟩
  ·exact⟨_,rfl,_,rfl,p,q,dx,s1,s2,v1,v2,hs,ls,rfl,WP,Y,OW,fun us pf bs gw gg d js H' hd pp pb s=>⟨_,rfl,kg us pf bs gw gg d js H' pp pb s⟩,fun ng H' s=>⟨rfl,_,rfl,kn ng H' s⟩⟩
  ·rintro σ' H' ⟨v,rfl,q⟩
   exact⟨_,rfl,q⟩
open L2.Sco (PT PsAt)
theorem LnAt.take{H:Hp}{rs:List V}{ls:LP}{n:Nat}(h:LnAt H rs ls):LnAt H (rs.take n) (ls.take n):=by
 refine⟨by rw[length_take,length_take,h.1],fun i r p a1 a2=>?_⟩;rw[List.getElem?_take] at a1 a2
 split at a1
 ·rw[if_pos (by assumption)] at a2
  exact h.2 i r p a1 a2
 ·cases a1
theorem zcu{rs:List V}:cutV rs none (some 14)=rs.take 14:=by
 by_cases c:14<=rs.length
 ·exact UK (n:=14) c
 ·unfold cutV HT.sIx
  simp
theorem zdb{n m:Nat}(h:m<=tri n)(hn:n<=8):m<=28:=by
 have:∀ n,n<=8->tri n<=28:=by decide
 have:=this n hn;omega
def zcF:Sp:=fun vs H Q _=>∃ (l:Addr),vs=[.ref l]/\XsAt H l /\
 ∀ (t h q:Addr) (hs:LI) (rs:List V) (ls:LP) (H':Hp),H' t=some (.tup [.ref h,.ref q])->H' h=some (.lst (hs.map V.int))->H' q=some (.lst rs)->LnAt H' rs ls->Hs hs->Ls hs ls->XsAt H' l->Ext l H H'->h≠l->q≠l->ls.length<=28->Q (.ref t) H'
theorem zb4(T:Txt w K mg a):FnOk P w K mg base CX0 3 409 (dK K 409) ["_law_xs"] zcF:=by
 have c__law_take:=cal P base T 25 rfl (xH T);have c__law_hands:=cal P base T 26 rfl (zcf T);have c__law_lines:=cal P base T 27 rfl (zce T);refine(T.fn 28 rfl).ok (scp 28 rfl) (fun vs H Q E h=>?_) (fun cdv A outer s H vs Q E hr h=>?_)
 ·obtain⟨l,rfl,_⟩:=h
  rfl
 ·obtain⟨l,rfl,hX,k⟩:=h
  refine zT (zd (zk (i:=1) (scp 28 rfl).nd rfl (Or.inl rfl) (zx zY (w_pe_lst (zK ze (zK ze (zK ze (zK ze (zK ze (zK ze (zK ze (zK ze w_pa_nil))))))))) (zn c__law_take hr.m (zb (w_pv 0) (zK ze w_pa_nil))) (fun _ _=>rfl)))
   (zd (zk (i:=2) (scp 28 rfl).nd rfl (Or.inl rfl) (zn c__law_hands hr.m (zb (w_pv 0) (zb (w_pv 1) w_pa_nil))))
   (zd (zk (i:=3) (scp 28 rfl).nd rfl (Or.inl rfl) (zn c__law_lines hr.m (zb (w_pv 0) (zb (w_pv 2) w_pa_nil))))
   (w_pss_one (zg (zD (zb (w_pv 2) (w_pa_cons (zx zY (w_pe_lst (zb (w_pv 3) (w_pa_cons (zH yq (w_pv 3) yj (w_po_some ze)) w_pa_nil))) (zo wC (w_pv 1) ze) (fun _ _=>rfl)) w_pa_nil)))))))) ?_
  refine⟨(by show 8<=sizeLine;decide),fun q0 hq0=>?_⟩;refine⟨_,rfl,l,8,rfl,hX.new hq0,by decide,fun d H1 d0 d1 x1 y1=>?_⟩;have nq0:=hX.ne hq0;have hq1:=y1 _ _ za nq0;obtain⟨m,hat,hm⟩:∃ m:Int,atI ([V.int 8,V.int 8,V.int 8,V.int 8,V.int 8,V.int 8,V.int 8,V.int 12]) d=some (V.int m)/\(m=8\/m=12):=by
   obtain⟨n,rfl⟩:∃ n:Nat,d=(n:Int):=⟨d.toNat,by omega⟩;have hn:n<8:=by omega
   match n,hn with
   |0,_=>exact⟨8,zV rfl,.inl rfl⟩
   |1,_=>exact⟨8,zV rfl,.inl rfl⟩
   |2,_=>exact⟨8,zV rfl,.inl rfl⟩
   |3,_=>exact⟨8,zV rfl,.inl rfl⟩
   |4,_=>exact⟨8,zV rfl,.inl rfl⟩
   |5,_=>exact⟨8,zV rfl,.inl rfl⟩
   |6,_=>exact⟨8,zV rfl,.inl rfl⟩
   |7,_=>exact⟨12,zV rfl,.inr rfl⟩
   |n+8,hn=>omega
  refine⟨q0,_,_,_,rfl,rfl,sO hq1,hat,?_⟩;refine⟨_,rfl,_,rfl,l,m,rfl,by omega,by omega,x1,fun h hs H2 hh hh2 wh hmo x2 y2=>?_⟩;have nhl:h≠l:=x1.ne hh;refine⟨_,rfl,_,rfl,l,h,hs,rfl,x2,hh2,nhl,wh,fun q rs ls H3 hq hq3 L3 wl htr x3 y3=>?_⟩;have nql:q≠l:=x2.ne hq;have hh3:=y3 _ _ hh2 nhl;have ye:=(((Ext.new (l:=l) (o:=HO.lst [V.int 8,V.int 8,V.int 8,V.int 8,V.int 8,V.int 8,V.int 8,V.int 12]) hq0).trans y1).trans y2).trans y3;refine⟨_,rfl,_,rfl,_,rfl,_,rfl,q,_,rfl,sO hq3,fun p1 hp1=>?_⟩;rw[zcu];have s4:=sW (o:=HO.lst (rs.take 14)) hp1;have hp4:=za (H:=H3) (a:=p1) (o:=HO.lst (rs.take 14));have np1:p1≠l:=x3.ne hp1;generalize upd H3 p1 (HO.lst (rs.take 14))=H4 at *;refine⟨(by show 2<=sizeLine;decide),fun pl hpl=>?_⟩;have s5:=sW (o:=HO.lst [V.ref q,V.ref p1]) hpl;have hpl5:=za (H:=H4) (a:=pl) (o:=HO.lst [V.ref q,V.ref p1]);generalize upd H4 pl (HO.lst [V.ref q,V.ref p1])=H5 at *;have s35:=s4.trans s5;refine⟨_,rfl,_,_,rfl,rfl,⟨by decide,by decide⟩,?_⟩;have fin:∀ (q':Addr) (rs':List V) (ls':LP),H5 q'=some (.lst rs')->LnAt H5 rs' ls'->Ls hs ls'->q'≠l->ls'.length<=28->∀ pt,H5 pt=none->Q (.ref pt) (upd H5 pt (.tup [.ref h,.ref q'])):=fun q' rs' ls' e1 e2 e3 e4 e5 pt hpt=>by
   have s6:=sW (o:=HO.tup [V.ref h,V.ref q']) hpt;exact k pt h q' hs rs' ls' _ za (s6 _ _ (s35 _ _ hh3)) (s6 _ _ e1) (e2.same s6) wh e3 ((x3.same s35).same s6) (ye.trans (Ext.same (s35.trans s6))) nhl e4 e5
  rcases hm with rfl | rfl
  ·refine⟨pl,_,_,V.ref q,rfl,rfl,sO hpl5,zV (j:=0) rfl,(by show 2<=sizeLine;decide),fun pt hpt=>?_⟩
   exact fin q rs ls (s35 _ _ hq3) (L3.same s35) wl nql (zdb htr (by omega)) pt hpt
  ·refine⟨pl,_,_,V.ref p1,rfl,rfl,sO hpl5,zV (j:=1) rfl,(by show 2<=sizeLine;decide),fun pt hpt=>?_⟩
   exact fin p1 (rs.take 14) (ls.take 14) (s5 _ _ hp4) (L3.take.same s35) ⟨wl.nd.sublist (take_sublist _ _),fun p hp=>wl.ok p (mem_of_mem_take hp),by rw[length_take];have:=wl.le;omega⟩ np1 (by rw[length_take];omega) pt hpt
end
end K04
namespace L2
open PySem
section
variable {prog:Program}{w:World}{KK:Type} [DecidableEq KK]{knd:HeapKind prog w KK}{A:Around}{E:Value->Shared->Prop}{s:Shared}
theorem UG{a b:Addr}{xs ys:List (KK×Addr×Value)}{Q:Value->Shared->Prop}(hr:knd.room A.in1)(ha:(a == sysModules)=false)(hb:(b == sysModules)=false)
  (da:s.heap.DictOfH knd a xs) (db:s.heap.DictOfH knd b ys) (hu:A.units<cLine) (hl:xs.length=ys.length) (hits:∀ x∈xs,∃ p,(x.1,p)∈ys/\SeqAt.EqAt A.in1 s x.2.2 p.2 true) (h:Q (.bool true) s) :
  wpAny (model prog w) A (compareOp .Eq (.ref a) (.ref b)) Q E s:=by
 refine wpAny_richCompare_same_room (op:=.Eq) da.typeIs db.typeIs PySem.F.slot_dict_eq (wpAny_call_entry PySem.F.slot_dict_eq da.typeIs PySem.F.entry_dict_eq ?_ (PySem.F.args_dict_eq_2 _ _)) hu;show wpAny _ _ (Builtin.Dict.dictSlotArgs "__eq__" ⟨[.ref a,.ref b],[]⟩ >>= _) _ _ s;refine wpAny_bind ?_;unfold Builtin.Dict.dictSlotArgs;refine wpAny_bind (wpAny_notOrdered_dict da.typeIs ?_);show wpAny _ _ (pure (Value.ref a,Value.ref b)) _ _ s;refine wpAny_pure ?_;refine wpAny_bind (wpAny_isInstance (T := "dict") db.typeIs PySem.F.sub_dict_dict ?_);simp only[Bool.not_true,false_eq_true,if_false];refine wpAny_bind (wpAny_pure (wpAny_bind (wpAny_pure ?_)));refine wpAny_bind (YO hr ha hb da db hl hits ?_);refine wpAny_pure ⟨_,rfl,?_,?_⟩
 ·exact fun x=>nomatch x
 ·simpa using h
end
section
variable {X:Cx}
def zbX(X:Cx):R2:=fun x y H Q=>∃ (a b:Addr) (kva kvb:List (List Key×V)) (n:Nat),x=.ref a/\y=.ref b/\H a=some (.dT kva)/\H b=some (.dT kvb)/\kva.length=kvb.length/\X.A.units+n+2<cLine /\
 (∀ p∈kva,∃ y,(p.1,y)∈kvb/\EqP X H p.2 y true n)/\Q (.bl true) H
theorem Up:OpR X (compareOp .Eq) (zbX X):=by
 intro pins s σ H x y v u Q I rx ry h;obtain⟨a,b,kva,kvb,n,rfl,rfl,ha,hb,hl,hu,hi,q⟩:=h;cases rx;cases ry;obtain⟨z1,d1,xs,r1,o1⟩:=vi I.hok (.inl ha);obtain⟨z2,d2,ys,r2,o2⟩:=vi I.hok (.inl hb);refine UG (tupleKind_room_in1 (by omega)) d1 d2 o1 o2 (by omega) (by rw[<- r1.length,<- r2.length,hl]) (fun x hx=>?_) ⟨.bl true,H,I,rfl,q⟩;obtain⟨p,hp,e1,rv⟩:=r1.get1 hx;obtain⟨y,hy,he⟩:=hi p hp;obtain⟨x',hx',e2,rv2⟩:=r2.get2 hy;refine⟨x'.2,?_,he pins σ s I _ _ _ (by rw[yd];omega) rv rv2⟩;have:(x.1,x'.2)=x':=by rw[<- e1,e2]
 rw[this];exact hx'
theorem Xa:OpR X (compareOp .IsNot) (fun x y H Q=>∃ b,x=.bl b/\y=.bl false/\Q (.bl b) H):=by
 intro pins s σ H x y v u Q I rx ry h;obtain⟨b,rfl,rfl,q⟩:=h;cases rx;cases ry;have e:compareOp .IsNot (.bool b) (.bool false)=pure (.bool b):=by cases b<;>rfl
 rw[e];exact wpAny_pure ⟨.bl b,H,I,rfl,q⟩
theorem zaB:OpR X (compareOp .Is) (fun x y H Q=>∃ b,x=.bl b/\y=.bl true/\Q (.bl b) H):=by
 intro pins s σ H x y v u Q I rx ry h;obtain⟨b,rfl,rfl,q⟩:=h;cases rx;cases ry;have e:compareOp .Is (.bool b) (.bool true)=pure (.bool b):=by cases b<;>rfl
 rw[e];exact wpAny_pure ⟨.bl b,H,I,rfl,q⟩
end
end L2
namespace K04
open PySem L2
theorem sqX{K:W.Frag}{H H':Hp}{a l:Addr}{xs:List V}(h:SqL K H a xs)(hn:H l=none)(y:Ext l H H'):SqL K H' a xs:=by
 rcases h with(h | ⟨o,h⟩) | h
 ·exact .inl (.inl (y _ _ h (nZ h hn)))
 ·exact .inl (.inr ⟨o,y _ _ h (nZ h hn)⟩)
 ·exact .inr h
theorem Gd.pa{hs:LI}{ls:LP}{pf:Int->Option Int}{pa:Int->LI}{us:LI}{bs:LP}(D:Gd hs ls pf pa us bs){x:Int}(hx:x∈us):paO pf x=pa x:=vz (D.U.en hx)
theorem za2{pa pb:Int->LI}{x:Int}(h:pa x=pb x):ldr pa x=ldr pb x:=by unfold ldr;rw[h]
theorem Gd.gg{hs:LI}{ls:LP}{pf:Int->Option Int}{pa:Int->LI}{us:LI}{bs:LP}(D:Gd hs ls pf pa us bs)(wl:Ls hs ls):GG us ls pf bs:=by
 have el:∀ {x},x∈us->ldr (paO pf) x=ldr pa x:=fun {x} hx=>za2 (D.pa hx);have bu:∀ {b},b∈bs->b.1∈us/\b.2∈us:=fun {b} hb=>⟨(D.m _).mpr (D.B.ok b hb).1,(D.m _).mpr (D.B.ok b hb).2.1⟩;refine⟨⟨D.ad,fun x hx=>⟨_,D.U.en hx⟩,fun b hb=>⟨by unfold adB;rw[or_eq_true];exact .inl (decide_eq_true (D.inl b hb)),Int.le_of_lt (D.B.ok b hb).2.2,?_⟩,D.B.nd⟩,fun p hp hne=>?_⟩
 ·rw[el (bu hb).1,el (bu hb).2]
  exact D.df b hb
 ·have hpu:p.1∈us/\p.2∈us:=⟨(D.m _).mpr (wl.ok p hp).1,(D.m _).mpr (wl.ok p hp).2.1⟩
  rw[el hpu.1,el hpu.2] at hne;obtain⟨b,hb,e⟩:=D.cov p hp hne;refine⟨b,hb,?_⟩;unfold jk at e ⊢;rw[el hpu.1,el hpu.2,el (bu hb).1,el (bu hb).2];exact e
theorem RdB.ho{us:LI}{ls:LP}{pf:Int->Option Int}{bs:LP}{js:List ((Int×Int)×Addr×LI)}(B:RdB us ls pf bs js)(g:GrB us ls pf bs):HoB us ls pf bs js :=
 ⟨g,fun j hj=>by rw[<- B.ks];exact mem_map.mpr ⟨j,hj,rfl⟩,by rw[<- B.ks,length_map],fun j hj=>List.mem_of_head? (B.hd j hj)⟩
theorem HoB.gg{hs us:LI}{ls bs:LP}{pf:Int->Option Int}{js:List ((Int×Int)×Addr×LI)}(h:HoB us ls pf bs js)(nd:(js.map (·.1)).Nodup)(wl:Ls hs ls):GG us ls pf bs:=by
 refine⟨h.g,fun p hp hne=>?_⟩;have hk:=Vg nd wl.dnd (fun u hu=>by obtain⟨j,hj,rfl⟩:=mem_map.mp hu;exact h.kk j hj) (by rw[length_map];exact h.ln) p (mem_ds.mpr (mem_dbl.mpr (.inl hp)));obtain⟨j,hj,e⟩:=mem_map.mp hk;have hr:=h.rd j hj;rw[e] at hr;unfold rfs at hr;rw[if_neg fun z=>hne z.symm] at hr;obtain⟨q,hq,_⟩:=mem_map.mp hr;obtain⟨h1,h2⟩:=mem_filter.mp hq;have h2:=of_decide_eq_true h2;have e1:=congrArg Prod.fst h2;have e2:=congrArg Prod.snd h2;dsimp only at e1 e2;rcases mem_dbl.mp (mem_ds.mp h1) with z | z
 ·refine⟨q,z,?_⟩
  unfold jk;rw[e1,e2,Int.min_comm,Int.max_comm]
 ·refine⟨_,z,?_⟩
  unfold jk;dsimp only;rw[e1,e2]
theorem HoB.nil{us:LI}{ls bs:LP}{pf:Int->Option Int}:HoB us ls pf bs []↔GG us ls pf bs/\ls=[]:=by
 constructor
 ·intro h
  have e:ls=[]:=by
   have h1:=h.ln;rw[dbl_len,(srt_perm ls).length_eq] at h1;have h1:0=2*ls.length:=h1;exact List.eq_nil_of_length_eq_zero (by omega)
  refine⟨⟨h.g,fun p hp=>?_⟩,e⟩;rw[e] at hp;cases hp
 ·rintro⟨g,e⟩
  refine⟨g.g,(fun j hj=>(nomatch hj)),?_,fun j hj=>(nomatch hj)⟩;rw[dbl_len,(srt_perm ls).length_eq,e];rfl
section
variable {X:Cx}
theorem zbf{H:Hp}{i:Int}:EqP X H (.int i) (.int i) true 0:=by
 have:=EqP.of (X:=X) (H:=H) (n:=0) (EqD.flat (K:=X.K) (H:=H) (x:=.int i) (y:=.int i) rfl rfl);have e:eqV (.int i) (.int i)=true:=by simp[eqV]
 rw[e] at this;exact this
theorem UH{H:Hp}{a b:Addr}{ns:LI}(ha:H a=some (.lst (ns.map V.int)))(hb:H b=some (.lst (ns.map V.int))):EqP X H (.ref a) (.ref b) true 2:=EqP.lst (n:=0) (sO ha) (sO hb) rfl fun j x y e1 e2=>by
 rw[e1] at e2;cases e2;rw[List.getElem?_map] at e1;obtain⟨i,_,rfl⟩:=map_eq_some_iff.mp e1;exact zbf
end
theorem zcv{H:Hp}{d:Addr}{hs:LI}{ls:LP}{pf:Int->Option Int}{pa:Int->LI}{us:LI}{bs:LP}(hd:H d=some (.dK (tabV (fun x=>opV (pf x)) us)))(D:Gd hs ls pf pa us bs):∃ pf':Int->Option Int,H d=some (.dK (tabV (fun x=>opV (pf' x)) us))/\Gd hs ls pf' pa us bs/\∀ x,x∉us->pf' x=none:=by
 refine⟨fun x=>if x∈us then pf x else none,?_,⟨?_,D.m,fun x hx y h=>D.ad x hx y (by rw[if_pos hx] at h;exact h),D.B,D.inl,D.df,D.cov⟩,fun x hx=>if_neg hx⟩
 ·have e:tabV (fun x=>opV (pf x)) us=tabV (fun x=>opV (if x∈us then pf x else none)) us:=map_congr_left fun x hx=>by dsimp only;rw[if_pos hx]
  rw[<- e];exact hd
 ·obtain⟨sf,U⟩:=D.U
  exact⟨sf,fun x hx=>by dsimp only;rw[if_pos hx];exact U x hx⟩
section
variable {P:Program}{w:World}{K:W.Frag}{mg:Str->Option Value}{base:Heap}{a:Ad}
def spLaw(K:W.Frag):Sp:=fun vs H Q _=>∃ (a:Addr) (ns:LI),vs=[.ref a]/\SqL K H a (ns.map V.int)/\ns.length<=63/\∀ H',Q (.bl true) H'
theorem sp_law_of{K:W.Frag}{H:Hp}{a:Addr}{ns:LI}(hl:ns.length<=63)(hO:zbq H)(hS:SqL K H a (ns.map V.int)):spLaw K [.ref a] H (fun v _=>v=.bl true) fun _ _ _=>False:=⟨a,ns,rfl,hS,hl,fun _=>rfl⟩
theorem ok_law(T:Txt w K mg a):FnOk P w K mg base CX0 26 485 (dK K 485) ["_law_script"] (spLaw K):=by
 have c__law_cell_at:=cal P base T 23 rfl (Ut T);have c__law_draws:=cal P base T 24 rfl (Wu T);have c__law_web_drawn:=cal P base T 28 rfl (zb4 T);have c__law_drawn_way:=cal P base T 32 rfl (zck T);have c__law_otherwise:=cal P base T 38 rfl (zca T);have c__law_lets:=cal P base T 35 rfl (zcd T);have c__law_told:=cal P base T 39 rfl (zb6 T);have c_holds:=cal P base T 18 rfl (zch T);have c_lets:=cal P base T 8 rfl (Vw T);have c_roads:Callee P w K mg base "roads" 250 (dK K 250) ["web", "way"] 11 (fun vs H Q _=>zbJ a vs H Q E0):=⟨calm (zaK T),(T.g 15 rfl),(T.fn 15 rfl).kp,(T.bi 15 rfl)⟩;have m_Way:Maker P w K mg base "Way" 150 84 (dK K 84) ["self", "parents", "bridges"] 7 (Vh a):=⟨zaI T,(T.gc 0 rfl),(T.mm 0 rfl),(T.bi 41 rfl)⟩;have m_Web:Maker P w K mg base "Web" 365 313 (dK K 313) ["self", "hands", "lines"] 4 (zaf a):=⟨zaH T,(T.gc 1 rfl),(T.mm 1 rfl),(T.bi 47 rfl)⟩;refine(T.fn 40 rfl).ok (scp 40 rfl) (fun vs H Q E h=>?_) (fun cdv A outer s H vs Q E hr h=>?_)
 ·obtain⟨x,ns,rfl,_⟩:=h
  rfl
 ·obtain⟨sc,ns,rfl,hS,hlen,k⟩:=h
  have un:∀ n:Nat,n<=8->(A.deeper (PyProof.Rows.envOfC "law" (defScope (top 54)) s.heap.objs.size 485 cdv)).units+n+2<cLine:=fun n hn=>by
   have:=hr.units;omega
  have hu:=yY hr;refine zT (zd (zk (i:=1) (scp 40 rfl).nd rfl (Or.inl rfl) (zn c__law_draws hr.m (zM (zn c__law_cell_at hr.m (zb (w_pv 0) (zK ze w_pa_nil))) (zK ze w_pa_nil))))
   (zd (vG (zn c__law_web_drawn hr.m (zb (w_pv 1) w_pa_nil)) (yf rfl (zr (zm (i:=2) (scp 40 rfl).nd rfl (Or.inl rfl)) (zr (zm (i:=3) (scp 40 rfl).nd rfl (Or.inl rfl)) zO))))
   (zd (vG (zn c__law_drawn_way hr.m (zb (w_pv 1) (zb (w_pv 2) (zb (w_pv 3) w_pa_nil)))) (yf rfl (zr (zm (i:=4) (scp 40 rfl).nd rfl (Or.inl rfl)) (zr (zm (i:=5) (scp 40 rfl).nd rfl (Or.inl rfl)) zO))))
   (zd (zk (i:=6) (scp 40 rfl).nd rfl (Or.inl rfl) (YA m_Web hr.m (zb (w_pv 2) (zb (w_pv 3) w_pa_nil))))
   (zd (zk (i:=7) (scp 40 rfl).nd rfl (Or.inl rfl) (YA m_Way hr.m (zb (w_pv 4) (zb (w_pv 5) w_pa_nil))))
   (zd (zq (zh Y8 (zn c_lets hr.m (zb (w_pv 6) (zb (w_pv 7) w_pa_nil))) zy (zu _))
    (w_pss_one (zg zy))
    zi)
   (zd (zk (i:=8) (scp 40 rfl).nd rfl (Or.inl rfl) (zn c_roads hr.m (zb (w_pv 6) (zb (w_pv 7) w_pa_nil))))
   (zd (zL PassesOwn.never rfl (zB (zo yU (w_pe_lst (zM (zn c__law_cell_at hr.m (zb (w_pv 0) (zK ze w_pa_nil))) w_pa_nil)) (zH yq (w_pv 0) (w_po_some ze) (w_po_some ze)))) (zm (i:=9) (scp 40 rfl).nd rfl (Or.inl rfl))
    (zd (vG (zn c__law_otherwise hr.m (zM (zn c__law_draws hr.m (zb (w_pv 9) (zK ze w_pa_nil))) (zb (w_pv 2) (zb (w_pv 3) (zb (w_pv 4) (zb (w_pv 5) w_pa_nil)))))) (yf rfl (zr (zm (i:=10) (scp 40 rfl).nd rfl (Or.inl rfl)) (zr (zm (i:=11) (scp 40 rfl).nd rfl (Or.inl rfl)) zO))))
    (zd (zk (i:=12) (scp 40 rfl).nd rfl (Or.inl rfl) (YA m_Way hr.m (zb (w_pv 10) (zb (w_pv 11) w_pa_nil))))
    (zd (zk (i:=13) (scp 40 rfl).nd rfl (Or.inl rfl) (zn c_lets hr.m (zb (w_pv 6) (zb (w_pv 12) w_pa_nil))))
    (zd (zq (wf (yh (zE (zA (zl zG (by rfl) (T.n 5 rfl) zp (zb (w_pv 13) (zb (ya (T.n 10 rfl) vd) w_pa_nil))))) (zZ (zh wO (w_pv 13) (zn c__law_lets hr.m (zb (w_pv 2) (zb (w_pv 3) (zb (w_pv 10) (zb (w_pv 11) w_pa_nil))))) (zu _)))))
     (w_pss_one (zg zy))
     zi)
    (zd (zk (i:=14) (scp 40 rfl).nd rfl (Or.inl rfl) (zn c__law_told hr.m (zb (w_pv 6) (zb (w_pv 12) w_pa_nil))))
    (zd (zq (wf (yh (zh wO (w_pv 13) (zP wa (w_pv 14) zW (zu _)) (zu _)) (zZ (wf (yJ (zA (w_pv 13)) (yt (zh Y8 (zn c_holds hr.m (zb (w_pv 6) (zb (w_pv 12) (zb (w_pv 14) w_pa_nil)))) zy (zu _))))))))
     (w_pss_one (zg zy))
     zi)
    (w_pss_one (zq (zE (zA (w_pv 13)))
     (w_pss_one (zq (wf (yh (zh Xa (zn c_holds hr.m (zb (w_pv 6) (zb (w_pv 12) (zb (w_pv 8) w_pa_nil)))) zy (zu _)) (zZ (zh Xa (zn c_holds hr.m (zb (w_pv 6) (zb (w_pv 12) (w_pa_cons yN w_pa_nil)))) zy (zu _)))))
      (w_pss_one (zg zy))
      zi))
     zi)))))))))
   (w_pss_one (zg (yA (zP zaB (zn c_lets hr.m (zb (w_pv 6) (zb (w_pv 7) w_pa_nil))) zy (zu _)) (yz (zP Up (zn c_roads hr.m (zb (w_pv 6) (zb (w_pv 7) w_pa_nil))) (w_pv 8) (zu _)))))))))))))) ?_
  refine⟨_,rfl,sc,ns,0,rfl,hS,by decide,fun c0=>?_⟩;refine⟨c0,170,rfl,by decide,fun l H1 hl0 x1 y1=>?_⟩;refine⟨_,rfl,l,rfl,x1,fun t h q hs rs ls H2 ht hh hq L wh wl x2 y2 nhl nql l28=>?_⟩;refine⟨t,_,rfl,sP ht,rfl,_,_,rfl,_,_,rfl,rfl,?_⟩;have yy:Ext l H H2:=(Ext.same y1).trans y2;refine⟨_,rfl,_,rfl,_,rfl,l,h,q,rs,hs,ls,rfl,x2,hh,nhl,hq,nql,L,wh,wl,fun t5 d lb us pf0 pa bs rb H5 ht5 hd0 hlb Lb nd D0 x5 y5 nbl=>?_⟩;obtain⟨pf,hd,D,cn⟩:=zcv hd0 D0;clear D0 hd0 pf0;have l12:us.length<=12:=le_trans (xy nd fun x hx=>(D.m x).mp hx) wh.l12;have l28b:bs.length<=28:=le_trans (vD D.B.nd D.inl) l28;have hh5:=y5 _ _ hh nhl;have hq5:=y5 _ _ hq nql;have L5:=L.extX x2 y5;have yy:=yy.trans y5;clear y5 hh hq L x2 y1 y2 x1 ht;refine⟨t5,_,rfl,sP ht5,rfl,_,_,rfl,_,_,rfl,rfl,?_⟩;refine⟨_,rfl,_,rfl,fun x wx nx ndx nex=>?_⟩;have m1:Same H5 (upd (upd H5 wx (.own x)) x (.ins 365 wx [])):=(sW ndx).updF nx;refine⟨x,wx,h,q,rs,hs,ls,rfl,za,m1 _ _ hh5,m1 _ _ hq5,L5.same m1,wh,wl,by omega,fun oh ol wd ad H4 foh fol fd fad x4' Wb4=>⟨rfl,?_⟩⟩;have s4:Same H5 H4:=fun b o e=>x4' b o (m1 b o e) (nZ e nx);have WP:WbP a H4 x hs ls:=⟨wh,wl,by omega,wx,oh,ol,wd,ad,Wb4⟩;clear m1 x4' foh fol fd fad Wb4;refine⟨_,rfl,_,rfl,fun y dx ny ndx' ney=>?_⟩;have sY:Same H4 (hd1 y (upd (upd H4 dx (.own y)) y (.ins 150 dx []))):=fun b o e=>zR (((sW ndx').updF ny) b o e) (nZ e ny);have s4Y:=s4.trans sY;refine⟨y,dx,.ref d,.ref lb,tabS pf us,lnS bs,rfl,za,Vc (s4Y _ _ hd) nd (by omega),⟨lb,rb,rfl,s4Y _ _ hlb,Uz (Lb.same s4Y),by have:=Lb.1;omega⟩,fun w1 w2 H6 x6' Y=>⟨rfl,?_⟩⟩;have s46:Same H4 H6:=fun b o e=>x6' b o (hd1_sub _ _ (sY b o e)) (nZ e ny);have s6:=s4.trans s46;have WP:=WP.same s46;have hh6:=s6 _ _ hh5;have hq6:=s6 _ _ hq5;have L6:=L5.same s6;have hd6:=s6 _ _ hd;have hlb6:=s6 _ _ hlb;have Lb6:=Lb.same s6;have hS6:=sqX hS hl0 (yy.trans (Ext.same s6));have gg:=D.gg wl;have GW:GdW hs (tabS pf us) (lnS bs) us pf bs:=⟨rfl,rfl,D.m,D.U.cl,cn⟩;have OW:OkW (tabS pf us) (lnS bs):=⟨True.intro,(fun ks xs z=>nomatch z),_,rfl⟩;clear s4 sY s4Y s46 s6 x6' hh5 hq5 L5 hd hlb Lb hS yy x5 ht5;refine⟨_,rfl,_,rfl,x,y,dx,_,_,w1,w2,hs,ls,rfl,WP,Y,OW,fun b H7 hb s7=>?_⟩;obtain rfl:=hb.mpr ⟨_,_,_,GW,gg⟩;refine⟨true,rfl,rfl,_,rfl,zF rfl ?_⟩;refine⟨_,rfl,_,rfl,x,y,dx,_,_,w1,w2,hs,ls,rfl,WP.same s7,Y.same s7,OW,fun us' pf' bs' g' gg' pd js H8 _ pp rd s8=>?_,fun n=>absurd ⟨_,_,_,GW,gg⟩ n⟩;obtain⟨rfl,rfl,rfl⟩:=GW.uniq g';clear gg' g' hb;have s68:=s7.trans s8;have hSC:=s68.seq hS6;refine⟨_,rfl,sc,ns,1,rfl,hSC,by decide,fun c1=>?_⟩;refine⟨(by show 1<=sizeLine;decide),fun p1 hp1=>?_⟩;have s1:=sW (o:=HO.lst [V.int c1]) hp1;refine⟨_,rfl,_,rfl,_,rfl,sc,_,rfl,s1.seq hSC,fun p2 hp2=>?_⟩;have s2:=sW (o:=HO.lst (cutV (ns.map V.int) (some 2) (some 13))) hp2;have hcl:=yo (ns.map V.int) (some 2) (some 13);rw[length_map] at hcl;have hz:[V.int c1].length+(cutV (ns.map V.int) (some 2) (some 13)).length<=sizeLine:=by
   have:1000<=sizeLine:=by decide
   show 1+_<=_;omega
  refine⟨p1,p2,_,_,rfl,rfl,s2 _ _ za,za,hz,fun p3 hp3=>?_⟩;refine⟨p3,rfl,⟨_,sO za⟩,?_⟩;have hall:∀ (i:Nat) v,([V.int c1]++cutV (ns.map V.int) (some 2) (some 13))[i]?=some v->∃ c,v=V.int c:=fun i v hi=>by
   cases i with
   |zero=>exact⟨c1,by cases hi;rfl⟩
   |succ i=>exact WW (i:=i) (by simpa using hi)
  have sD:=(s1.trans s2).trans (sW (o:=HO.lst ([V.int c1]++cutV (ns.map V.int) (some 2) (some 13))) hp3);have h3:=za (H:=(upd (upd H8 p1 (HO.lst [V.int c1])) p2 (HO.lst (cutV (ns.map V.int) (some 2) (some 13))))) (a:=p3) (o:=HO.lst ([V.int c1]++cutV (ns.map V.int) (some 2) (some 13)));generalize hxs:[V.int c1]++cutV (ns.map V.int) (some 2) (some 13)=xs at *;generalize upd (upd (upd H8 p1 (HO.lst [V.int c1])) p2 (HO.lst (cutV (ns.map V.int) (some 2) (some 13)))) p3 (HO.lst xs)=HD at *;clear hxs hz hcl s1 s2 hp1 hp2 hp3;have hh8:=s68 _ _ hh6;have hq8:=s68 _ _ hq6;have hd8:=s68 _ _ hd6;have hlb8:=s68 _ _ hlb6;have L8:=L6.same s68;have Lb8:=Lb6.same s68;refine for_list (K:=K) (a:=p3) (xs:=xs) (fun i σ H'=>∃ (o10 o11 o12 o13 o14 o15:Option V),σ=[some (.ref sc),some (.ref l),some (.ref h),some (.ref q),some (.ref d),some (.ref lb),some (.ref x),some (.ref y),some (.ref pd),o10,o11,o12,o13,o14,o15]/\Same HD H') ?_ ?_ ?_ ?_
  ·exact⟨_,_,_,_,_,_,rfl,sR _⟩
  ·rintro i σ H' _ ⟨_,_,_,_,_,_,_,sm⟩
   exact sO (sm _ _ h3)
  ·rintro i v σ G hi ⟨o10,o11,o12,o13,o14,o15,rfl,sm⟩
   obtain⟨c,rfl⟩:=hall i v hi;have sG:=sD.trans sm;refine⟨_,rfl,c,12,rfl,by decide,fun l2 G1 hl2 x1 y1=>?_⟩;have s1:=sG.trans y1;have nl2:∀ {b:Addr}{o:HO},H8 b=some o->b≠l2:=fun e=>nZ (sG _ _ e) hl2;refine⟨_,rfl,_,rfl,_,rfl,_,rfl,l2,h,q,d,lb,rs,rb,hs,us,ls,bs,pf,pa,rfl,x1,s1 _ _ hh8,nl2 hh8,wh,s1 _ _ hq8,nl2 hq8,L8.same s1,l28,s1 _ _ hd8,nd,l12,D.U,D.m,s1 _ _ hlb8,nl2 hlb8,Lb8.same s1,l28b,fun t v1 lr rr s1' zs G2 ht hv ps hlr hrr hp hcm ye=>?_⟩;have sg2:Same G G2:=fun b o e=>ye _ _ (y1 _ _ e) (nZ e hl2);clear y1 x1 s1 nl2 ye hl2 hi;refine⟨t,_,rfl,sP ht,rfl,_,_,rfl,_,_,rfl,rfl,?_⟩;refine⟨_,rfl,_,rfl,fun y2 d2 ny2 nd2 ne2=>?_⟩;have sY:Same G2 (hd1 y2 (upd (upd G2 d2 (.own y2)) y2 (.ins 150 d2 []))):=fun b o e=>zR (((sW nd2).updF ny2) b o e) (nZ e ny2);refine⟨y2,d2,v1,.ref lr,s1',ShF.lst zs,rfl,za,hv.same sY,⟨lr,rr,rfl,sY _ _ hlr,Paired.mapP hp fun _ _ h=>h.same sY,hrr⟩,fun u1 u2 G3 x3 Y3=>⟨rfl,?_⟩⟩;have s23:Same G2 G3:=fun b o e=>x3 b o (hd1_sub _ _ (sY b o e)) (nZ e ny2);have O2:OkW s1' (ShF.lst zs):=⟨ps.1,ps.2,_,rfl⟩;have s83:=sG.trans (sg2.trans s23);have hv3:=hv.same s23;have hlr3:=s23 _ _ hlr;have hp3:=Paired.mapP hp fun _ _ h=>h.same s23;have sm3:=sm.trans (sg2.trans s23);clear sY x3 hv hlr hp ht s23 sg2 sG sm;have WP3:=WP.same (s68.trans s83);refine⟨_,rfl,_,rfl,x,y2,d2,s1',.lst zs,u1,u2,hs,ls,rfl,WP3,Y3,O2,fun b G4 hb4 s4=>?_⟩;refine⟨_,rfl,_,_,_,_,_,rfl,rfl,.bl b,(T.k 17 rfl),_,rfl,zF rfl ?_⟩;have s84:=s83.trans s4;refine⟨_,rfl,_,rfl,_,rfl,_,rfl,_,rfl,h,q,lr,v1,s1',rs,rr,zs,hs,ls,rfl,s84 _ _ hh8,s84 _ _ hq8,L8.same s84,hv3.same s4,s4 _ _ hlr3,Paired.mapP hp3 fun _ _ h=>h.same s4,hrr,hcm,wh,wl,O2,fun b' G5 hb5 s5=>?_⟩;have ebb:b=b':=by rw[Bool.eq_iff_iff,hb4,hb5]
   subst ebb;refine⟨rfl,_,rfl,zF (by rw[decide_eq_true rfl];rfl) ?_⟩;have s35:=s4.trans s5;have WP5:=WP3.same s35;have Y5:=Y3.same s35;have s85:=s83.trans s35;clear hv3 hlr3 hp3 hb5 s84;refine⟨_,rfl,_,rfl,x,y2,d2,s1',.lst zs,u1,u2,hs,ls,rfl,WP5,Y5,O2,fun us' pf' bs' g' gg' dt jt G6 pt rt s6=>?_,fun ng G6 s6=>?_⟩
   ·have eb:b=true:=hb4.mpr ⟨_,_,_,g',gg'⟩
    subst eb;have w6:=WP5.same s6;have Y6:=Y5.same s6;refine⟨_,rfl,_,rfl,rfl,rfl,_,rfl,zF (by simp) ?_⟩;refine⟨_,rfl,_,rfl,iteT ?_⟩;refine⟨_,rfl,_,rfl,_,rfl,x,y2,dt,d2,s1',.lst zs,u1,u2,hs,ls,jt,rfl,w6,Y6,O2,pt,fun b G7 hb7 s7=>?_⟩;obtain rfl:=hb7.mpr ⟨_,_,_,g',rt.ho gg'.g⟩;refine⟨true,rfl,rfl,_,rfl,zF rfl ?_⟩;refine⟨_,rfl,_,rfl,zF rfl ?_⟩;exact⟨_,_,_,_,_,_,rfl,sm3.trans (s35.trans (s6.trans s7))⟩
   ·have eb:b=false:=by
     cases hb:b with
     |false=>rfl
     |true=>exact absurd (hb4.mp hb) ng
    subst eb;have w6:=WP5.same s6;have Y6:=Y5.same s6;refine⟨_,rfl,_,rfl,rfl,rfl,_,rfl,zF (by simp) ?_⟩;refine⟨_,rfl,_,rfl,zF rfl ?_⟩;refine zF rfl ?_;refine⟨_,rfl,_,rfl,iteT ?_⟩;refine⟨_,rfl,_,rfl,_,rfl,x,y2,pd,d2,s1',.lst zs,u1,u2,hs,ls,js,rfl,w6,Y6,O2,pp.same (s85.trans s6),fun b G7 hb7 s7=>?_⟩;have eb:b=false:=by
     cases hb:b with
     |false=>rfl
     |true =>
      obtain⟨_,_,_,g1,g2⟩:=hb7.mp hb;exact absurd ⟨_,_,_,g1,g2.gg pp.nd wl⟩ ng
    subst eb;refine⟨false,rfl,rfl,_,rfl,zF rfl ?_⟩;refine⟨_,rfl,_,rfl,fun pe hpe=>?_⟩;have ne:=sW (o:=HO.dT []) hpe;have s6e:=s7.trans ne;refine⟨x,y2,pe,d2,s1',.lst zs,u1,u2,hs,ls,[],rfl,w6.same s6e,Y6.same s6e,O2,⟨za,nodup_nil,(fun j hj=>nomatch hj),zero_le _⟩,fun b G8 hb8 s8=>?_⟩;have eb:b=false:=by
     cases hb:b with
     |false=>rfl
     |true =>
      obtain⟨_,_,_,g1,g2⟩:=hb8.mp hb;exact absurd ⟨_,_,_,g1,(HoB.nil.mp g2).1⟩ ng
    subst eb;refine⟨false,rfl,rfl,_,rfl,zF rfl ?_⟩;exact⟨_,_,_,_,_,_,rfl,sm3.trans (s35.trans (s6.trans (s6e.trans s8)))⟩
  ·rintro σ H' ⟨_,_,_,_,_,_,rfl,sm⟩
   have s8h:=sD.trans sm;have s6h:=s68.trans s8h;refine⟨_,rfl,_,rfl,x,y,dx,_,_,w1,w2,hs,ls,rfl,WP.same s6h,Y.same s6h,OW,fun b G hb s'=>?_⟩;obtain rfl:=hb.mpr ⟨_,_,_,GW,gg⟩;have s6g:=s6h.trans s';refine⟨true,rfl,rfl,_,rfl,iteT ?_⟩;refine⟨_,rfl,_,rfl,x,y,dx,_,_,w1,w2,hs,ls,rfl,WP.same s6g,Y.same s6g,OW,fun us' pf' bs' g' gg' d3 jf H9 _ pf3 rf s9=>?_,fun n=>absurd ⟨_,_,_,GW,gg⟩ n⟩;obtain⟨rfl,rfl,rfl⟩:=GW.uniq g';have pp9:=pp.same (s8h.trans (s'.trans s9));have lk:jf.map (·.1)=js.map (·.1):=rf.ks.trans rd.ks.symm;refine⟨_,rfl,d3,pd,kvP jf,kvP js,2,rfl,rfl,pf3.dd,pp9.dd,?_,un 2 (by omega),fun x hx=>?_,k _⟩
   ·have:=congrArg List.length lk
    rw[length_map,length_map] at this;unfold kvP;rw[length_map,length_map,this]
   ·unfold kvP at hx
    obtain⟨j,hj,rfl⟩:=mem_map.mp hx;have:j.1∈js.map (·.1):=by rw[<- lk];exact mem_map.mpr ⟨j,hj,rfl⟩
    obtain⟨j',hj',e⟩:=mem_map.mp this;refine⟨.ref j'.2.1,?_,?_⟩
    ·rw[<- e]
     exact mem_map.mpr ⟨j',hj',rfl⟩
    ·have h1:=rf.hd j hj
     have h2:=rd.hd j' hj';rw[e,h1] at h2;have h3:j.2.2=j'.2.2:=by injection h2
     have h4:=pf3.row j hj;have h5:=pp9.row j' hj';rw[<- h3] at h5;exact UH h4 h5
end
end K04
noncomputable section
def PySem.W.Fast.tw13037876142153790933:=0
def PySem.W.Fast.tw14633931826345236324:=0
def PySem.W.Fast.tw8856144728478018897:=0
def PySem.W.Fast.tw17062198468877432609:=0
def PySem.W.Fast.tw11229564333759573049:=0
def PySem.W.Fast.tw10598372733321371305:=0
def PySem.W.Fast.tw11616086253799572649:=0
def PySem.W.Fast.tw17758467707605542250:=0
def PySem.W.Fast.tw14338876466950056905:=0
def PySem.W.Fast.tw6496138341281078435:=0
def PySem.W.Fast.tw6216741656489410486:=0
def PySem.W.Fast.tw6123116592370679677:=0
def PySem.W.Fast.tw16627384631628985244:=0
def PySem.W.Fast.tw1688954305291010661:=0
def PySem.W.Fast.tw8697170791317315040:=0
def PySem.W.Fast.tw10579265108948214604:=0
def PySem.W.Fast.tw9532633636177338432:=0
def PySem.W.Fast.tw3299963512692046226:=0
def PySem.W.Fast.tw9316987155075272405:=0
def PySem.W.Fast.tw5518260327533038333:=0
def PySem.W.Fast.tw13793158388811680729:=0
def PySem.W.Fast.tw10330366778594210143:=0
def PySem.W.Fast.tw2679819212127310782:=0
def PySem.W.Fast.tw1689613642844212636:=0
def PySem.W.Fast.tw9031915412781655692:=0
def PySem.W.Fast.tw3858109914732617049:=0
namespace Hd
open PySem PySem.W PySem.Calls PyProof.Rows
abbrev pw:=PySem.Challenge.pw_beatless_k28_ways_with_something_wrong
def tt{α:Type}(_:α):Bool:=true
def S(i:Nat):Stmt:=pw.main.body.getD i (.Pass ⟨0,0,0,0⟩)
def C(i j:Nat):Stmt:=L2.inClass (S i) j
def fd(n q:Str)(s:Stmt)(g:Addr)(d k c m:Value)(cd:Value):FuncData:=⟨n,q,L2.defArgs s,.stmts (L2.defBody s),L2.defScope s,g,[],d,k,c,m,none,cd,.none,0⟩
def zs:List Str:=List.map Str.ofString ["<module>", "/claim/cut.py", "__main__", "beatless.errors", "__name__", "__doc__", "__package__", "__loader__", "__spec__", "__annotations__", "__builtins__", "__file__", "__cached__", "_wall", "BeatlessError", "NoWeb", "k", "__module__", "__qualname__", "__firstlineno__", "__static_attributes__", "__weakref__", "beatless.ways", "NoWay", "is_whole", "copied", "value", "beatless.wholes", "Way", "are_parents", "come_to_leaders", "__init__", "parent_of", "all_parents", "all_bridges", "path_up", "leader", "depth_of", "depth", "children", "bridges_at", "self", "parents", "bridges", "Way.__init__", "hand", "each", "parent", "Way.parent_of", "Way.all_parents", "Way.all_bridges", "path", "above", "Way.path_up", "Way.leader", "Way.depth_of", "Way.depth", "Way.children", "Way.bridges_at", "own_bridges", "own_parents", "__dict__", "web", "way", "beatless.webs", "is_bridge", "are_bridges", "is_grounded", "first_joins", "lets", "refuse_unlet", "road_within", "road_over", "bridges_by_leaders", "roads_for", "pairs_of", "roads", "are_wholes", "has_just_pairs", "holds", "MOST_HANDS", "LAST_HAND", "are_hands", "is_line", "bridge", "seen", "lines", "found", "one", "other", "leaders", "bridged", "neighbour", "down", "beatless.roads", "pairs", "paper", "values", "key", "road", "hands", "ahead", "line", "law_beatless_k28_ways_with_something_wrong", "are_lines", "near_by_hand", "Web", "_law_cell_at", "_law_draws", "near", "has_hand", "has_line", "neighbours", "groups", "group_of", "Web.__init__", "Web.hands", "Web.lines", "Web.has_hand", "Web.has_line", "Web.neighbours", "Web.groups", "Web.group_of", "own_hands", "own_lines", "_law_script", "_law_k", "_law_cell", "_law_many", "_law_found", "_law_rest", "_law_number", "_law_mixed", "_law_take", "_law_hands", "_law_lines", "_law_web_drawn", "_law_near", "_law_up", "_law_both", "_law_drawn_way", "_law_is_whole", "_law_is_line", "_law_lets", "_law_other_parents", "_law_other_bridges", "_law_otherwise", "_law_told", "law", "_law_xs", "_law_size", "_law_hands_here", "_law_way", "_law_j", "_law_near_here", "_law_draw", "_law_at", "_law_most", "_law_lines_here", "_law_parents", "_law_hand", "_law_one", "_law_other", "_law_thing", "_law_odd", "_law_bridges", "_law_some", "_law_web", "_law_told_here", "_law_good", "_law_paper", "_law_more"]
def s(n:Nat):Str:=zs.getD n ⟨#[]⟩
def k0:Value:=.type "tuple"
def k1:Value:=.type "code"
def k2:Value:=.type "frame"
def k3:Value:=.type "dict"
def k4:Value:=.builtin "__main__.__loader__#opaque"
def k5:Value:=.type "function"
def k6:Value:=.type "ValueError"
def k7:Value:=.type "builtin_function_or_method"
def k8:Value:=.builtin "type.__prepare__"
def k9:Value:=.type "type"
def k10:Value:=.type "Exception"
def k11:Value:=.type "BaseException"
def k12:Value:=.type "object"
def k13:Value:=.builtin "ValueError.__new__"
def k14:Value:=.type "getset_descriptor"
def k15:Value:=.builtin "ExceptionGroup.__weakref__"
def k16:Value:=.type "super"
def k17:Value:=.builtin "object.__init_subclass__"
def k18:Value:=.builtin "object.__new__"
def k19:Value:=.builtin "function.__dict__"
def k20:Value:=.builtin "function.__dict__#set"
instance (n:Nat):OfNat Value n:=⟨.ref n⟩
def iv(n:Int):Value:=.int n 0
def sv(n:Nat)(t:Tok):Value:=.str (s n) t
def en(P:Params)(x:Nat)(t:Tok)(v:Value):DictEntry:=⟨PyData.keyHash P (s x),sv x t,v⟩
def O(c:Value)(l:Array Value):Obj:=Obj.mk c .none (Data.fields l) #[]
def tO(l:Array Value):Obj:=Obj.mk k0 .none (Data.seq l 0) #[]
def vO(l:Array Value):Obj:=O .none l
def Q(l:Array DictEntry)(e:Nat):Obj:=Obj.mk k3 .none (Data.dict l e) #[]
def gO(n q:Nat)(z:Stmt):Obj:=Obj.mk .none .none (Data.func (fd (s n) (s q) z 0 .none .none .none .none .none)) #[]
def uO(n q:Nat)(z:Stmt)(m:Value)(r:Addr):Obj:=Obj.mk k5 .none (Data.func (fd (s n) (s q) z 3 .none .none .none m (.ref r))) #[]
def cO(n q:Nat)(t l m k:Nat)(r1 r2:Addr)(b:Bool)(r3 r4 r5:Value)(x:Nat):Obj:=O k1 #[sv n t,sv q (t+1),sv 1 (t+2),iv l,iv m,iv 0,iv 0,iv k,.ref r1,.bool b,iv 181,.ref r2,.none,r3,r4,r5,iv x,iv l,sv 1 (x+1)]
def F(b t n q:Nat)(z:Stmt)(l m:Nat)(M:Value)(vs:List Nat):List Obj:=[tO #[],vO #[],tO (vs.zipIdx.map fun p=>sv p.1 (t+3+p.2)).toArray,tO #[],gO n q z,cO n q t l m 3 b (b+1) true (.ref (b+2)) (.ref (b+3)) (.ref (b+4)) (t+3+vs.length),uO n q z M (b+5)]
def G(b t n q:Nat)(z:Stmt)(l m:Nat)(M:Value):List Obj:=[tO #[],vO #[],gO n q z,cO n q t l m 3 b (b+1) true .none .none (.ref (b+2)) (t+3),uO n q z M (b+3)]
def X(P:Params)(b t n:Nat)(l:Nat)(M:Value)(c:Addr):List Obj:=[tO #[.ref c],O k7 #[k8,k9],Q #[en P 17 (t+7) M,en P 18 (t+9) (sv n (t+8)),en P 19 (t+11) (.int l (t+10)),en P 20 (t+12) (.ref (b+7))] 4,tO #[],vO #[],cO n n (t+2) l 0 0 (b+3) (b+4) false .none .none .none (t+5),Obj.mk k2 .none Data.plain #[some (.ref (b+5)),some 3,some (.ref (b+2)),none,some M,none,some 0],tO #[],Q #[en P 17 (t+7) M,en P 19 (t+11) (.int l (t+10)),en P 20 (t+12) (.ref (b+7)),en P 5 (t+13) .none] 2,Obj.mk k9 .none (Data.cls (ClassData.mk (s n) [.ref c] [.ref (b+9),.ref c,k6,k10,k11,k12] (b+8) (s n) true [] [] false none false)) #[some (.ref b),none,some (sv n t),some (sv n (t+8)),some k13,some (.bool true)],O k16 #[.ref (b+9),.ref (b+9),.ref (b+9)],O k7 #[k17,.ref (b+9)]]
def M0:Value:=(sv 2 164)
def M1:Value:=(sv 27 246)
def M2:Value:=(sv 22 255)
def M3:Value:=(sv 94 444)
def M4:Value:=(sv 64 535)
def M5:Value:=(sv 103 666)
def M6:Value:=(sv 3 194)
def v3(P:Params)(n:Nat)(e:Nat)(M:Value):Obj:=Obj.mk k3 .none (Data.dict (([en P 4 165 M,en P 5 166 .none,en P 6 167 .none,en P 7 168 k4,en P 8 169 .none,en P 9 170 6,en P 10 171 4,en P 11 173 (sv 1 172),en P 12 174 .none,en P 13 193 21,en P 14 213 31,en P 15 229 44,en P 23 245 56,en P 24 254 65,en P 25 262 70,en P 28 366 150,en P 29 376 161,en P 30 385 168,en P 65 394 175,en P 66 405 182,en P 67 413 189,en P 68 425 196,en P 69 435 203,en P 70 443 210,en P 71 455 217,en P 72 465 224,en P 73 475 231,en P 74 481 236,en P 75 491 243,en P 76 503 250,en P 77 511 257,en P 78 520 264,en P 79 534 271,en P 80 538 (.int 12 537),en P 81 540 (.int 99 539),en P 82 549 278,en P 83 557 285,en P 104 567 292,en P 105 579 299,en P 106 665 365,en P 107 675 376,en P 108 688 383,en P 133 696 390,en P 134 702 395,en P 135 717 402,en P 136 727 409,en P 137 733 414,en P 138 742 421,en P 139 751 428,en P 140 757 433,en P 141 764 440,en P 142 772 447,en P 143 778 452,en P 144 790 459,en P 145 796 464,en P 146 811 471,en P 147 820 478,en P 148 841 485]:List _).take n).toArray e) #[]
def v12(P:Params)(n:Nat):Obj:=Obj.mk .none .none (Data.fields (([(iv 1),(iv 0),20,(iv 5),(iv 0),27,(iv 7),(iv 0),40,(iv 9),(iv 0),52,(iv 12),(iv 0),64,(iv 15),(iv 0),69,(iv 23),(iv 0),76,(iv 63),(iv 0),160,(iv 72),(iv 0),167,(iv 77),(iv 0),174,(iv 83),(iv 0),181,(iv 92),(iv 0),188,(iv 96),(iv 0),195,(iv 103),(iv 0),202,(iv 111),(iv 0),209,(iv 115),(iv 0),216,(iv 118),(iv 0),223,(iv 120),(iv 0),230,(iv 126),(iv 0),235,(iv 131),(iv 0),242,(iv 137),(iv 0),249,(iv 144),(iv 0),256,(iv 149),(iv 0),263,(iv 154),(iv 0),270,(iv 169),(iv 0),277,(iv 178),(iv 0),284,(iv 184),(iv 0),291,(iv 193),(iv 0),298,(iv 201),(iv 0),305,(iv 233),(iv 0),375,(iv 237),(iv 0),382,(iv 251),(iv 0),389,(iv 255),(iv 0),394,(iv 264),(iv 0),401,(iv 275),(iv 0),408,(iv 280),(iv 0),413,(iv 283),(iv 0),420,(iv 290),(iv 0),427,(iv 292),(iv 0),432,(iv 310),(iv 0),439,(iv 312),(iv 0),446,(iv 316),(iv 0),451,(iv 336),(iv 0),458,(iv 355),(iv 0),463,(iv 375),(iv 0),470,(iv 381),(iv 0),477,(iv 388),(iv 0),484]:List _).take n).toArray) #[]
def v31(P:Params)(n:Nat):Obj:=Obj.mk k9 .none (Data.cls (ClassData.mk (s 14) [k6] [31,k6,k10,k11,k12] 30 (s 14) true [] ([44,56].take n) false .none false)) #[(some 22),.none,(some (sv 14 196)),(some (sv 14 204)),(some k13),(some (.bool true))]
def z0(P:Params):List Obj:=[boot_o_0 P,boot_o_1 P,boot_o_2 P,v3 P 58 58 (sv 103 666),boot_o_4 P,boot_o_5 P,boot_o_6 P,boot_o_7 P,boot_o_8 P,boot_o_9 P,boot_o_10 P,tO #[],v12 P 141,O k1 #[(sv 0 182),(sv 0 183),(sv 1 184),(iv 1),(iv 0),(iv 0),(iv 0),(iv 0),11,(.bool false),(iv 181),12,.none,.none,.none,.none,(iv 185),(iv 1),(sv 1 186)],Obj.mk k2 .none Data.plain #[(some 13),(some 3),(some 3),.none,(some (sv 2 164)),.none,(some 0)]]++(F 15 187 13 13 (S 0) 1 1 M0 [16]++([tO #[k6],O k7 #[k8,k9],Q #[en P 17 203 (sv 3 194),en P 18 205 (sv 14 204),en P 19 207 (.int 5 206),en P 20 208 29] 4,tO #[],vO #[],O k1 #[(sv 14 198),(sv 14 199),(sv 1 200),(iv 5),(iv 0),(iv 0),(iv 0),(iv 0),25,(.bool false),(iv 181),26,.none,.none,.none,.none,(iv 201),(iv 5),(sv 1 202)],Obj.mk k2 .none Data.plain #[(some 27),(some 3),(some 24),.none,(some (sv 3 194)),.none,(some 0)],tO #[],Q #[en P 17 203 (sv 3 194),en P 19 207 (.int 5 206),en P 20 208 29,en P 21 210 32,en P 5 211 .none] 3,v31 P 2,O k14 #[(sv 21 209),31,k15,.none],O k16 #[31,31,31],O k7 #[k17,31]]++(X P 35 214 15 7 M6 31++(X P 47 230 23 9 M6 31++(F 59 248 24 24 (S 6) 12 1 M1 [26]++(G 66 257 25 25 (S 8) 15 1 M2++([tO #[],O k7 #[k8,k9],Q #[en P 17 270 (sv 22 255),en P 18 272 (sv 28 271),en P 19 274 (.int 23 273),en P 31 283 84,en P 32 293 91,en P 33 300 98,en P 34 307 105,en P 35 317 112,en P 36 325 119,en P 37 333 126,en P 38 340 133,en P 39 348 140,en P 40 356 147,en P 20 359 148] 14,tO #[],vO #[(iv 25),(iv 4),83,(iv 29),(iv 4),90,(iv 35),(iv 4),97,(iv 38),(iv 4),104,(iv 41),(iv 4),111,(iv 49),(iv 4),118,(iv 52),(iv 4),125,(iv 55),(iv 4),132,(iv 58),(iv 4),139,(iv 61),(iv 4),146],O k1 #[(sv 28 265),(sv 28 266),(sv 1 267),(iv 23),(iv 0),(iv 0),(iv 0),(iv 0),74,(.bool false),(iv 181),75,.none,.none,.none,.none,(iv 268),(iv 23),(sv 1 269)],Obj.mk k2 .none Data.plain #[(some 76),(some 3),(some 73),.none,(some (sv 22 255)),.none,(some 0)]]++(F 78 275 31 44 (C 9 0) 25 3 M2 [41,42,43]++(F 85 284 32 48 (C 9 1) 29 2 M2 [41,45,46,47]++(F 92 294 33 49 (C 9 2) 35 1 M2 [41]++(F 99 301 34 50 (C 9 3) 38 1 M2 [41]++(F 106 308 35 53 (C 9 4) 41 2 M2 [41,45,51,52]++(F 113 318 36 54 (C 9 5) 49 2 M2 [41,45]++(F 120 326 37 55 (C 9 6) 52 2 M2 [41,45]++(F 127 334 38 56 (C 9 7) 55 1 M2 [41])))))))))))))))
def z1(P:Params):List Obj:=F 134 341 39 57 (C 9 8) 58 2 M2 [41,45]++(F 141 349 40 58 (C 9 9) 61 2 M2 [41,45]++([tO #[(sv 59 357),(sv 60 358)],Q #[en P 17 270 (sv 22 255),en P 19 274 (.int 23 273),en P 31 283 84,en P 32 293 91,en P 33 300 98,en P 34 307 105,en P 35 317 112,en P 36 325 119,en P 37 333 126,en P 38 340 133,en P 39 348 140,en P 40 356 147,en P 20 359 148,en P 61 361 151,en P 21 363 152,en P 5 364 .none] 4,Obj.mk k9 .none (Data.cls (ClassData.mk (s 28) [k12] [150,k12] 149 (s 28) true [] [] false .none false)) #[.none,.none,(some (sv 28 263)),(some (sv 28 271)),(some k18),(some (.bool true))],O k14 #[(sv 61 360),150,k19,k20],O k14 #[(sv 21 362),150,k15,.none],O k16 #[150,150,150],O k7 #[k17,150]]++(F 155 367 29 29 (S 10) 63 2 M2 [62,42,45,47]++(F 162 377 30 30 (S 11) 72 2 M2 [62,63,45]++(F 169 386 65 65 (S 12) 77 3 M2 [62,63,84]++(F 176 395 66 66 (S 13) 83 3 M2 [62,63,43,85,84]++(F 183 406 67 67 (S 14) 92 2 M2 [62,63]++(F 190 414 68 68 (S 15) 96 2 M2 [63,86,87,88,89,90]++(F 197 426 69 69 (S 16) 103 2 M2 [62,63,91,90]++(F 204 436 70 70 (S 17) 111 2 M2 [62,63]++(F 211 446 71 71 (S 19) 115 3 M3 [63,45,92,93]++(F 218 456 72 72 (S 20) 118 4 M3 [63,45,92,84]++(F 225 466 73 73 (S 21) 120 1 M3 [63,87,88,89]++(G 232 476 74 74 (S 22) 126 4 M3++(F 237 482 75 75 (S 23) 131 1 M3 [62,95,88,89])))))))))))))))
def z2(P:Params):List Obj:=F 244 492 76 76 (S 24) 137 2 M3 [62,63,43,96,45,92]++(F 251 504 77 77 (S 25) 144 1 M3 [97,26]++(F 258 512 78 78 (S 26) 149 2 M3 [96,95,98]++(F 265 521 79 79 (S 27) 154 3 M3 [62,63,96,95,43,45,92,99]++(F 272 541 82 82 (S 31) 169 1 M4 [100,101,45]++(F 279 550 83 83 (S 32) 178 2 M4 [102,100]++(F 286 558 104 104 (S 33) 184 2 M4 [86,100,85,102]++(F 293 568 105 105 (S 34) 193 2 M4 [100,86,109,45,88,89]++([tO #[],O k7 #[k8,k9],Q #[en P 17 587 (sv 64 535),en P 18 589 (sv 106 588),en P 19 591 (.int 201 590),en P 31 600 313,en P 100 607 320,en P 86 614 327,en P 110 622 334,en P 111 631 341,en P 112 639 348,en P 113 646 355,en P 114 654 362,en P 20 658 363] 12,tO #[],vO #[(iv 203),(iv 4),312,(iv 212),(iv 4),319,(iv 215),(iv 4),326,(iv 218),(iv 4),333,(iv 221),(iv 4),340,(iv 224),(iv 4),347,(iv 227),(iv 4),354,(iv 230),(iv 4),361],O k1 #[(sv 106 582),(sv 106 583),(sv 1 584),(iv 201),(iv 0),(iv 0),(iv 0),(iv 0),303,(.bool false),(iv 181),304,.none,.none,.none,.none,(iv 585),(iv 201),(sv 1 586)],Obj.mk k2 .none Data.plain #[(some 305),(some 3),(some 302),.none,(some (sv 64 535)),.none,(some 0)]]++(F 307 592 31 115 (C 35 0) 203 3 M4 [41,100,86]++(F 314 601 100 116 (C 35 1) 212 1 M4 [41]++(F 321 608 86 117 (C 35 2) 215 1 M4 [41]++(F 328 615 110 118 (C 35 3) 218 2 M4 [41,45]++(F 335 623 111 119 (C 35 4) 221 3 M4 [41,88,89]++(F 342 632 112 120 (C 35 5) 224 2 M4 [41,45]++(F 349 640 113 121 (C 35 6) 227 1 M4 [41])))))))))))))))
def z3(P:Params):List Obj:=F 356 647 114 122 (C 35 7) 230 2 M4 [41,45]++([tO #[(sv 109 655),(sv 123 656),(sv 124 657)],Q #[en P 17 587 (sv 64 535),en P 19 591 (.int 201 590),en P 31 600 313,en P 100 607 320,en P 86 614 327,en P 110 622 334,en P 111 631 341,en P 112 639 348,en P 113 646 355,en P 114 654 362,en P 20 658 363,en P 61 660 366,en P 21 662 367,en P 5 663 .none] 4,Obj.mk k9 .none (Data.cls (ClassData.mk (s 106) [k12] [365,k12] 364 (s 106) true [] [] false .none false)) #[.none,.none,(some (sv 106 580)),(some (sv 106 588)),(some k18),(some (.bool true))],O k14 #[(sv 61 659),365,k19,k20],O k14 #[(sv 21 661),365,k15,.none],O k16 #[365,365,365],O k7 #[k17,365]]++(F 370 668 107 107 (S 37) 233 2 M5 [125,126]++(F 377 676 108 108 (S 38) 237 2 M5 [127,128,129,130,131,126,132]++(F 384 689 133 133 (S 39) 251 2 M5 [149,150]++(G 391 697 134 134 (S 40) 255 2 M5++(F 396 703 135 135 (S 41) 264 2 M5 [149,151,152,129,153,126,154,155,156]++(F 403 718 136 136 (S 42) 275 1 M5 [149,157,151,158]++(G 410 728 137 137 (S 43) 280 2 M5++(F 415 734 138 138 (S 44) 283 2 M5 [159,160,129]++(F 422 743 139 139 (S 45) 290 3 M5 [159,161,162]++(G 429 752 140 140 (S 46) 292 3 M5++(F 434 758 141 141 (S 47) 310 1 M5 [163]++(F 441 765 142 142 (S 48) 312 2 M5 [158,163]++(G 448 773 143 143 (S 49) 316 4 M5++(F 453 779 144 144 (S 50) 336 5 M5 [149,152,160,162,159,164])))))))))))))))
def z4(P:Params):List Obj:=G 460 791 145 145 (S 51) 355 6 M5++(F 465 797 146 146 (S 52) 375 5 M5 [149,151,158,159,165,152,160,162,166]++(F 472 812 147 147 (S 53) 381 2 M5 [167,152,168]++(F 479 821 148 148 (S 54) 388 1 M5 [125,149,151,158,159,165,167,169,170,127,166,171,162,129,168])))
def zf(P:Params):List Obj:=z0 P++(z1 P++(z2 P++(z3 P++(z4 P))))
def alt{α:Type}:Bool->List α->List α
 |_,[]=>[]
 |true,x::l=>x::alt false l
 |false,_::l=>alt true l
def bt:Nat->List Obj->BT
 |0,_=>.nil
 |_,[]=>.nil
 |n+1,x::l=>.node x (bt n (alt true l)) (bt n (alt false l))
def pat:Nat->Nat->List (Nat×Obj)->List Obj->List Obj
 |0,_,_,_=>[]
 |_,_,_,[]=>[]
 |m+1,i,[],x::l=>x::pat m (i+1) [] l
 |m+1,i,(a,o)::r,x::l=>if i == a then o::pat m (i+1) r l else x::pat m (i+1) ((a,o)::r) l
abbrev an:Option Value:=(some (.ref 6))
def env:Env:={ scope:=pw.main.scope,locals:=mainNs,globals:=mainNs,cells:=[],code:=(.ref 13),frame:=some 14 }
abbrev bE:List Stmt:=behindTheImports pw
abbrev cE:Code:=.body bE env
abbrev qE:Pos:=(Pos.mk 0 0 0 0)
abbrev B:List Frame:=[topFrame qE]
def s0(w:World)(os:OsState):Shared:=⟨boot_heap w.params,⟨[]⟩,boot_drawn,boot_toks,os⟩
def LF:Life:=(Life.mk [] [] [] 0 [] [] false #[] [] 0 false false false 0 [2000,10,10] false 0 true [] [] 0 false)
def DR:Drawn:=(Drawn.mk 0 0 0 0)
def sS(n:Nat)(ov:List (Nat×Obj))(t:Tok)(w:World)(os:OsState):SharedT:=⟨bt 10 (pat n 0 ov (zf w.params)),n,LF,⟨[]⟩,DR,t,os⟩
def sa(w:World):OsState->SharedT:=let P:=w.params;sS 15 [(3,boot_o_3 P),(12,v12 P 0)] 187 w
def szT:List (Nat×Nat):=[(15,187),(47,230),(71,263),(169,386),(286,558),(384,689),(486,842)]
def ovT(P:Params):List (List (Nat×Obj)):=[[(3,boot_o_3 P),(12,v12 P 0)],[(3,v3 P 12 12 (sv 3 194)),(12,v12 P 9),(31,v31 P 1)],[(3,v3 P 15 15 (sv 22 255)),(12,v12 P 18)],[(3,v3 P 18 18 (sv 22 255)),(12,v12 P 27)],[(3,v3 P 37 37 (sv 64 535)),(12,v12 P 78)],[(3,v3 P 42 42 (sv 103 666)),(12,v12 P 93)],[]]
def sb(k:Nat)(w:World):OsState->SharedT:=sS (szT.getD k (0,0)).1 ((ovT w.params).getD k []) (szT.getD k (0,0)).2 w
def sgT:List (Nat×Nat×Nat):=[(438,0,4),(287,4,5),(577,9,3),(573,12,21),(588,33,6),(496,39,16)]
def psT:List Pos:=[⟨0,0,0,0⟩,⟨7,0,8,8⟩,⟨15,0,22,16⟩,⟨72,0,76,15⟩,⟨178,0,183,72⟩,⟨237,0,250,21⟩,⟨388,0,409,89⟩]
def sg(k:Nat):=sgT.getD k (0,0,0)
def po(k:Nat):Pos:=psT.getD k ⟨0,0,0,0⟩
def sts(k:Nat):List Stmt:=(List.range (sg k).2.2).map fun i=>S ((sg k).2.1+i)
def La(w:World)(os:OsState):Option (Shared×Thread):=topGo treeTable pw w 11 an 12 (s0 w os) (topStub pw)
def Ra(w:World)(os:OsState):Option (Shared×Thread):=some ((sa w os).abs,⟨denote treeTable cE,cE,(Pos.mk 0 0 0 0),B⟩)
def Lb(w:World)(os:OsState):Option (Flow×SharedT×Code×Pos):=segRunT treeTable pw w 11 an 1 1 (sa w os) (blockOf bE env cE (Pos.mk 0 0 0 0) B)
def Rb(w:World)(os:OsState):Option (Flow×SharedT×Code×Pos):=some (.next,sb 0 w os,cE,(Pos.mk 0 0 0 0))
def L(k:Nat)(w:World)(os:OsState):Option (Flow×SharedT×Code×Pos):=segRunT treeTable pw w 11 an 1 (sg k).1 (sb k w os) (piecesOf (sts k) env cE (po k) B)
def R(k:Nat)(w:World)(os:OsState):Option (Flow×SharedT×Code×Pos):=some (.next,sb (k+1) w os,cE,po (k+1))
theorem q1:tt (Hd.La,Hd.Ra,Hd.Lb,Hd.L)=true:=by k_qdec
theorem ra:∀ w,Fast.tw11367235000924431832 w=Fast.tw15912052731592885781 w:=fun w=>by kernel_rfl
theorem ea(w:World)(os:OsState):La w os=Ra w os:=(congrFun (congrFun Fast.te11367235000924431832 w) os).trans ((congrFun (ra w) os).trans (congrFun (congrFun Fast.te15912052731592885781 w) os).symm)
theorem rb:∀ w,Fast.tw16430817790641568776 w=Rb w:=fun w=>by kernel_rfl
theorem eb(w:World)(os:OsState):Lb w os=Rb w os:=(congrFun (congrFun Fast.te16430817790641568776 w) os).trans (congrFun (rb w) os)
abbrev T:=Fast.tw9140266817696972190
theorem e{k:Nat}(h:∀ w,T k w=R k w)(w:World)(os:OsState):L k w os=R k w os:=(congrFun (congrFun (congrFun Fast.te9140266817696972190 k) w) os).trans (congrFun (h w) os)
theorem r0:∀ w,T 0 w=R 0 w:=fun w=>by kernel_rfl
theorem r1:∀ w,T 1 w=R 1 w:=fun w=>by kernel_rfl
theorem r2:∀ w,T 2 w=R 2 w:=fun w=>by kernel_rfl
theorem r3:∀ w,T 3 w=R 3 w:=fun w=>by kernel_rfl
theorem r4:∀ w,T 4 w=R 4 w:=fun w=>by kernel_rfl
theorem r5:∀ w,T 5 w=R 5 w:=fun w=>by kernel_rfl
def H1(P:Params):Heap:=⟨⟨zf P⟩,LF⟩
def sf(w:World)(os:OsState):Shared:=⟨H1 w.params,⟨[]⟩,(Drawn.mk 0 0 0 0),842,os⟩
def Lf(w:World)(os:OsState):Option Shared:=topRun treeTable pw w 11 an 2 (sb 6 w os).abs ⟨doneF .next,cE,(Pos.mk 388 0 409 89),B⟩
def Rf(w:World)(os:OsState):Option Shared:=some (sf w os)
theorem qf:tt Hd.Lf=true:=by k_qdec
theorem rf:∀ w,Fast.tw2640074843757178226 w=Rf w:=fun w=>by kernel_rfl
theorem ef(w:World)(os:OsState):Lf w os=Rf w os:=(congrFun (congrFun Fast.te2640074843757178226 w) os).trans (congrFun (rf w) os)
theorem cut:bE=sts 0++(sts 1++(sts 2++(sts 3++(sts 4++(sts 5++([])))))):=by kernel_rfl
def M:Nat:=12+(1+(438+(287+(577+(573+(588+(496+2)))))))
theorem run(w:World)(os:OsState):topRun treeTable pw w 11 an M (s0 w os) (topStub pw)=some (sf w os):=by
 refine go_top (ea w os) (piece_block (q:=qE) (env:=env) (b:=bE) (segRun_of (eb w os)) ?_);rw[show restOf bE env cE (Pos.mk 0 0 0 0) [topFrame qE]=restOf _ env cE _ [topFrame qE] from congrArg (fun l=>restOf l env cE (Pos.mk 0 0 0 0) [topFrame qE]) cut];exact piece_app (segRun_of (e r0 w os)) (piece_app (segRun_of (e r1 w os)) (piece_app (segRun_of (e r2 w os)) (piece_app (segRun_of (e r3 w os)) (piece_app (segRun_of (e r4 w os)) (piece_app (segRun_of (e r5 w os)) (ef w os))))))
abbrev rW:RowW:=(PySem.Challenge.rw_beatless_k28_ways_with_something_wrong.row).toRowW
def Qi:List Nat:=[0,2,3,4,6,8,9,10,11,12,13,14,15,16,17,19,20,21,22,23,24,25,26,27,29,30,31,32,33,34,35,37,38,39,40,41,42,43,44,45,46,47,48,49,50,51,52,53,54]
def Qp:Program:={ pw with main:={ pw.main with body:=Qi.map S } }
def Xt(s:Shared):Bool:=xlAt Qp [] s&&recOk (RowW.records rW) s
def as:List Addr:=[2,3,15,17,18,20,21,22,29,30,31,32,35,42,43,44,47,54,55,56,59,61,62,64,65,66,69,70,78,80,81,83,84,85,87,88,90,91,92,94,95,97,98,99,101,102,104,105,106,108,109,111,112,113,115,116,118,119,120,122,123,125,126,127,129,130,132,133,134,136,137,139,140,141,143,144,146,147,148,149,150,151,152,155,157,158,160,161,162,164,165,167,168,169,171,172,174,175,176,178,179,181,182,183,185,186,188,189,190,192,193,195,196,197,199,200,202,203,204,206,207,209,210,211,213,214,216,217,218,220,221,223,224,225,227,228,230,231,232,235,236,237,239,240,242,243,244,246,247,249,250,251,253,254,256,257,258,260,261,263,264,265,267,268,270,271,272,274,275,277,278,279,281,282,284,285,286,288,289,291,292,293,295,296,298,299,307,309,310,312,313,314,316,317,319,320,321,323,324,326,327,328,330,331,333,334,335,337,338,340,341,342,344,345,347,348,349,351,352,354,355,356,358,359,361,362,363,364,365,366,367,370,372,373,375,376,377,379,380,382,383,384,386,387,389,390,391,394,395,396,398,399,401,402,403,405,406,408,409,410,413,414,415,417,418,420,421,422,424,425,427,428,429,432,433,434,436,437,439,440,441,443,444,446,447,448,451,452,453,455,456,458,459,460,463,464,465,467,468,470,471,472,474,475,477,478,479,481,482,484,485]
def K(P:Params):Frag:=as.map fun a=>(a,(zf P).getD a (vO #[]))
theorem asK(P:Params):as=(K P).map (·.1):=by kernel_rfl
def Ly(w:World)(os:OsState):List (Option Obj):=as.map (sf w os).heap.get?
def Ry(w:World)(_:OsState):List (Option Obj):=(K w.params).map fun p=>some p.2
abbrev hk:Hook:=kHook K as asK
abbrev zc5:List Str:=importedModules pw.main.body
def A(w:World)(os:OsState):=openSeen Qp [] zc5 Xt true (sf w os)
def Ga(_:World)(_:OsState):=openGood Qp []
def Ls(w:World)(os:OsState):Bool:=staticsOk zc5 (boot_heap w.params) (H1 w.params)&&namesBound pw (H1 w.params)&&gensDone (sf w os)&&laidKept (boot_heap w.params) (H1 w.params)
def Rs(_:World)(_:OsState):Bool:=true
def Lz(w:World)(_:OsState):=((boot_heap w.params).isNs mainGlobals&&(⟨[]⟩:Array GenState).size == 0,(boot_heap w.params).objs.size,(boot_heap w.params).nsMap mainGlobals "__annotations__")
def Rz(_:World)(_:OsState):Bool×Nat×Option Value:=(true,11,an)
theorem q2:tt (Hd.Ly,Hd.A,Hd.Ls,Hd.Lz)=true:=by k_qdec
theorem rLy:∀ w,Fast.tw691215026958702249 w=Ry w:=fun w=>by kernel_rfl
theorem eLy(w:World)(os:OsState):Ly w os=Ry w os:=(congrFun (congrFun Fast.te691215026958702249 w) os).trans (congrFun (rLy w) os)
theorem rA:∀ w,Fast.tw18113995546815864426 w=Ga w:=fun w=>by kernel_rfl
theorem eA(w:World)(os:OsState):A w os=Ga w os:=(congrFun (congrFun Fast.te18113995546815864426 w) os).trans (congrFun (rA w) os)
theorem rLs:∀ w,Fast.tw4959303863618478765 w=Rs w:=fun w=>by kernel_rfl
theorem eLs(w:World)(os:OsState):Ls w os=Rs w os:=(congrFun (congrFun Fast.te4959303863618478765 w) os).trans (congrFun (rLs w) os)
theorem rLz:∀ w,Fast.tw17831390912981975158 w=Rz w:=fun w=>by kernel_rfl
theorem eLz(w:World)(os:OsState):Lz w os=Rz w os:=(congrFun (congrFun Fast.te17831390912981975158 w) os).trans (congrFun (rLz w) os)
theorem op:opening pw=plainProg pw.main.scope.names:=by kernel_rfl
theorem fe(s:Shared):fenceModules? pw s=some s:=by kernel_rfl
theorem left:LeftO pw Qp [] Xt hk.obs hk.val 6032 :=
 LeftO.of_pieces (M:=M) (m₀:=11) (ann:=an) (H₀:=boot_heap) (H₁:=H1) (boot_open op (by kernel_rfl) fe) (fun w=>eLz w (start pw).1.os) run (by kernel_rfl) (fun w=>funext fun os=>looks_pair (eLs w os) (looks_pair (eA w os) (eLy w os)))
theorem both{a b:Bool}(z:(a&&b)=true):a=true/\b=true:=and_eq_true_iff.mp z
end Hd
end
namespace K04
open PySem L2
theorem rdy(P:Params):chk tbT (Hd.K P)=true:=by kernel_rfl
theorem fnE(P:Params):tbT.f.map (fun e=>(Hd.K P).lookup e.a)=tbT.f.map (fnB (Hd.K P)):=by kernel_rfl
theorem bdT:∀ (g:FuncData) (us:List Value),us.length<=8->bdA tbT g us:=zcw (fun _=>by kernel_rfl) (fun _ _=>by kernel_rfl) (fun _ _ _=>by kernel_rfl) (fun _ _ _ _=>by kernel_rfl) (fun _ _ _ _ _=>by kernel_rfl) (fun _ _ _ _ _ _=>by kernel_rfl) (fun _ _ _ _ _ _ _=>by kernel_rfl) (fun _ _ _ _ _ _ _ _=>by kernel_rfl) (fun _ _ _ _ _ _ _ _ _=>by kernel_rfl)
end K04
open PySem PySem.W PyProof.Rows
set_option maxRecDepth 100000 in
set_option maxHeartbeats 0 in
theorem PySem.Challenge.cw_beatless_k28_ways_with_something_wrong_holds : PySem.Challenge.rw_beatless_k28_ways_with_something_wrong.Holds := by
 w_on;o_law
 refine holds_open (XP:=XL Hd.Qp []) (YP:=(kHook Hd.K Hd.as Hd.asK).says) Hd.left Hd.hk.of Hd.hk.keeps
  (fun s z=>xl_of s (Hd.both z).1) XL.keeps (by rfl) (by rfl) (by rfl)
  (fun s z=>recFacts_of (Hd.both z).2) (by rfl) (by assumption) (by decide +kernel)
  ⟨rfl,rfl,rfl,rfl,rfl,by decide +kernel⟩ ?hw ?hc
 case hw=>w_witness2
 k_fill
 refine L2.walk_ofK (l:=PySem.Challenge.rw_beatless_k28_ways_with_something_wrong) (n:=63) (k:=26) (x := "_law_script") (CX:=L2.CX0) (sp:=K04.spLaw) rfl (by decide) rfl ⟨rfl,by decide,by decide,rfl⟩ (fun w h Y=>PySem.W.kIn_of Y) ?F ?S ?C
 case F =>
  intro w mg fa h KX G hmg;have T:K04.Txt w (L2.KOf KX) mg ():=⟨K04.rdy _,K04.fnE _,K04.bdT,fun x v e=>match v,e with | none,e=>mg_none_of KX G e | some _,e=>mg_of KX G e⟩;have e0:=hmg.symm.trans (T.g 40);cases e0;exact⟨_,fun s v=>.of_eq (T.be 40 (us:=[v]) (hl:=rfl)),fun base kb nb=>K04.ok_law T⟩
 case S=>exact fun K H a ns hl hO hS=>K04.sp_law_of hl hO hS
 case C=>exact fun _ _ _ _ z=>z