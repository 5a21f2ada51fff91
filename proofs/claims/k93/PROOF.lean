import PyProof.Rows.All
import Wide.All
import OpenK.AllK
import Wide.FinOn
import PySem.Challenge.RW_beatless_k93_settings_that_are_none
import Lean
import PyProof.EqAt
import PyProof.EqKinds
import PyProof.TupleCall
import PyProof.ZipIter
import PyProof.WalksMore
import KE.KRevSl
import KE.KIntText
import KE.KRevIter
import PyProof.Draws
import PyProof.EnumFor
import PyProof.EnumStmt
import PyProof.AttrMissHeap
import PyProof.DictUpdate
import PyProof.DictValues
import KE.KDictList
import PyProof.DictItemsLoops
import PyProof.DictWalks
import PyProof.Rows.SetFrom
import PyProof.DictItems
import PyProof.Rows.StrFacts2
import PyProof.StrLawsTight
import PyProof.StrLawsChain
set_option Elab.async false
set_option compiler.extract_closed false
noncomputable section
open Nat (le_add_left le_max_left le_max_right le_of_eq le_of_lt le_succ le_trans lt_irrefl lt_of_le_of_lt lt_of_lt_of_le lt_trans min_eq_left min_self ne_of_lt pow_succ sub_self zero_le)
open List (all_cons all_eq_true all_nil any_cons append_assoc append_nil cons_ne_nil drop_zero filter_append getElem_mem getElem_of_mem length_append length_cons length_drop length_map length_nil length_pos_of_mem length_range length_take lookup_cons map_append map_cons map_drop map_map map_nil map_take mem_append mem_append_left mem_append_right mem_cons mem_cons_of_mem mem_cons_self mem_filter mem_filterMap mem_map mem_of_getElem? mem_of_mem_drop mem_of_mem_take mem_range mem_singleton nil_append nodup_append nodup_cons not_mem_nil of_mem_zip pairwise_append pairwise_cons pairwise_map range_succ size_toArray take_add_one take_length take_of_length_le take_sublist)
open Array (length_toList mem_def toList_map toList_zip)
open Option (getD_none isSome_iff_exists isSome_map map_eq_some_iff)
open Bool (and_eq_true and_eq_true_iff eq_false_iff false_eq_true not_eq_true not_eq_true' or_eq_true)
open Int (emod_lt_of_pos emod_nonneg)
set_option linter.all false
set_option maxRecDepth 100000
abbrev LI:=List Int
abbrev LP:=List (Int×Int)
namespace L2
open PySem PySem.Spec PyProof.Rows
structure Bx (p:Prop):Prop where
 of:p
abbrev Key:=Sum Int Str
noncomputable def Zi:Key->Value->Bool
 |.inl k,v=>Value.isInt k v
 |.inr x,v=>Value.isStrOf x v
noncomputable def zhg(w:World):Key->Int
 |.inl k=>hashInt k
 |.inr x=>hashStr w x
theorem yu:∀ {k:Key}{v:Value},Zi k v=true->(∃ i t,k=Sum.inl i/\v=Value.int i t)\/(∃ x t,k=Sum.inr x/\v=Value.str x t)
 |.inl i,v,h=>by
  obtain⟨t,e⟩:=Value.isInt_shape (k:=i) (v:=v) h;exact .inl ⟨i,t,rfl,e⟩
 |.inr x,v,h=>by
  obtain⟨t,e⟩:=Value.isStrOf_shape (x:=x) (v:=v) h;exact .inr ⟨x,t,rfl,e⟩
theorem V1(i:Int)(t:Tok):Zi (.inl i) (.int i t)=true:=by simp[Zi,Value.isInt]
theorem V0(x:Str)(t:Tok):Zi (.inr x) (.str x t)=true:=by simp[Zi,Value.isStrOf]
theorem zew(a b:Int):decide ((Sum.inl a:Key)=Sum.inl b)=(a == b):=by
 by_cases e:a=b
 ·subst e;simp
 ·have h:¬ (Sum.inl a:Key)=Sum.inl b:=fun q=>e (Sum.inl.inj q)
  rw[decide_eq_false h];exact(beq_eq_false_iff_ne.mpr e).symm
theorem zet(a b:Str):decide ((Sum.inr a:Key)=Sum.inr b)=decide (a=b):=by
 by_cases e:a=b
 ·subst e;simp
 ·have h:¬ (Sum.inr a:Key)=Sum.inr b:=fun q=>e (Sum.inr.inj q)
  rw[decide_eq_false h,decide_eq_false e]
theorem zev(a:Int)(b:Str):decide ((Sum.inl a:Key)=Sum.inr b)=false:=decide_eq_false (fun q=>nomatch q)
theorem zeu(a:Str)(b:Int):decide ((Sum.inr a:Key)=Sum.inl b)=false:=decide_eq_false (fun q=>nomatch q)
def zP(prog:Program)(w:World):PySem.KeyKind prog w Key where
 is:=Zi
 hash:=zhg w
 inj:=fun v a b ha hb=>by
  rcases yu ha with⟨i,t,rfl,rfl⟩ | ⟨x,t,rfl,rfl⟩
  ·rcases yu hb with⟨j,u,rfl,e⟩ | ⟨y,u,rfl,e⟩
   ·injection e with e1 _;rw[e1]
   ·exact nomatch e
  ·rcases yu hb with⟨j,u,rfl,e⟩ | ⟨y,u,rfl,e⟩
   ·exact nomatch e
   ·injection e with e1 _;rw[e1]
 byValue:=fun k v h=>by
  rcases yu h with⟨i,t,rfl,rfl⟩ | ⟨x,t,rfl,rfl⟩<;>rfl
 pyHash:=fun hv h=>by
  rcases yu hv with⟨i,t,rfl,rfl⟩ | ⟨x,t,rfl,rfl⟩
  ·exact wpAny_pyHash_int h
  ·exact wpAny_pyHash_str h
 eqBool:=fun hu hv h=>by
  rcases yu hu with⟨i,t,rfl,rfl⟩ | ⟨x,t,rfl,rfl⟩
  ·rcases yu hv with⟨j,u,rfl,rfl⟩ | ⟨y,u,rfl,rfl⟩
   ·rw[zew] at h;exact wpAny_eqBool_int h
   ·rw[zev] at h;exact SeqAt.EqAt.int_str i t y u _ _ _ _ h
  ·rcases yu hv with⟨j,u,rfl,rfl⟩ | ⟨y,u,rfl,rfl⟩
   ·rw[zeu] at h;exact SeqAt.EqAt.str_int x t j u _ _ _ _ h
   ·rw[zet] at h;exact wpAny_eqBool_str h
 «strs»:=fun k x t v h=>by
  rcases yu h with⟨i,u,rfl,e⟩ | ⟨y,u,rfl,e⟩
  ·exact nomatch e
  ·injection e with e1 _
   subst e1;cases v<;>rfl
theorem Wm(prog:Program)(w:World)(k:Key)(v:Value):(zP prog w).is k v=Zi k v:=rfl
theorem YS(prog:Program)(w:World)(i:Int)(t:Tok):(zP prog w).is (.inl i) (.int i t)=true:=V1 i t
theorem YR(prog:Program)(w:World)(x:Str)(t:Tok):(zP prog w).is (.inr x) (.str x t)=true:=V0 x t
inductive V where
 |non | bl (b:Bool) | int (i:Int) | str (x:Str) | byt (b:Array UInt8) | flt (b:UInt64) | ref (a:Addr) | ty (n:String)
 deriving DecidableEq
def RelV:V->Value->Prop
 |.non,u=>u=Value.none
 |.bl b,u=>u=Value.bool b
 |.int i,u=>∃ t,u=Value.int i t
 |.str x,u=>∃ t,u=Value.str x t
 |.byt b,u=>∃ t,u=Value.bytes b t
 |.flt b,u=>∃ t,u=Value.float b t
 |.ref a,u=>u=Value.ref a
 |.ty n,u=>u=Value.type n
abbrev Vals:List V->List Value->Prop:=Paired RelV
theorem Vals.length{xs:List V}{us:List Value}(r:Vals xs us):xs.length=us.length:=Paired.length r
theorem Vals.get:∀ {xs:List V}{us:List Value}{i:Nat}{x:V},Vals xs us->xs[i]?=some x->∃ u,us[i]?=some u/\RelV x u
 |_,_,_,_,.nil,e=>by simp at e
 |_,_,0,_,.cons r _,e=>by simp at e;subst e;exact⟨_,rfl,r⟩
 |_,_,i+1,x,.cons _ t,e=>by
  obtain⟨u,h1,h2⟩:=Vals.get (i:=i) (x:=x) t (by simpa using e);exact⟨u,by simpa using h1,h2⟩
theorem Vals.set{x:V}{u:Value}(r:RelV x u):∀ {xs:List V}{us:List Value}(i:Nat),Vals xs us->Vals (xs.set i x) (us.set i u)
 |_,_,_,.nil=>.nil
 |_,_,0,.cons _ t=>.cons r t
 |_,_,i+1,.cons q t=>.cons q (Vals.set r i t)
theorem Vals.append:∀ {xs ys:List V}{us ws:List Value},Vals xs us->Vals ys ws->Vals (xs++ys) (us++ws)
 |_,_,_,_,.nil,s=>s
 |_,_,_,_,.cons r t,s=>.cons r (Vals.append t s)
theorem Vals.take:∀ {xs:List V}{us:List Value}(n:Nat),Vals xs us->Vals (xs.take n) (us.take n)
 |_,_,0,_=>.nil
 |_,_,_+1,.nil=>.nil
 |_,_,n+1,.cons r t=>.cons r (Vals.take n t)
theorem Vals.drop:∀ {xs:List V}{us:List Value}(n:Nat),Vals xs us->Vals (xs.drop n) (us.drop n)
 |_,_,0,r=>r
 |_,_,_+1,.nil=>.nil
 |_,_,n+1,.cons _ t=>Vals.drop n t
def RelO:Option V->Option Value->Prop
 |some v,some u=>RelV v u
 |none,none=>True
 |_,_=>False
def KV{κ:Type}:List (κ×V)->List (κ×Value)->Prop:=Paired fun(p:κ×V) (q:κ×Value)=>p.1=q.1/\RelV p.2 q.2
noncomputable def kV:Key->V
 |.inl i=>.int i
 |.inr x=>.str x
inductive HO where
 /-- a list -/
 |lst (xs:List V)
 /-- a tuple (never changes) -/
 |tup (xs:List V)
 /-- a dict whose keys are ints and texts;one whose keys are tuples of ints and texts (the empty one is both) -/
 |dK (kvs:List (Key×V)) | dT (kvs:List (List Key×V))
 /-- a set of ints: its members,its size -/
 |set (S:Int->Bool) (n:Nat)
 /-- an instance of the class at C,its dict at dx,its attributes -/
 |ins (C dx:Addr) (fs:List (Str×V))
 /-- the dict of the instance at x -/
 |own (x:Addr)
 /-- the dict of an exception -/
 |xd (fs:List (Str×V))
 /-- a bound method,f of x -/
 |met (f x:Addr)
 /-- a range object lo,lo+1,.. below hi -/
 |rng (lo hi:Int)
 /-- a thing that is known to the object (the script;a dict while a loop walks it): read,never written while it is so -/
 |frz (o:Obj) (u:HO)
 /-- a code object's table -/
 |tbl (ps:Array Value)
 /-- any other thing,by what is true of its one object (a def of one's own: SetO a S n:=HO.ext fun h=>..) -/
 |ext (φ:Heap->Prop)
abbrev Hp:=Addr->Option HO
noncomputable def upd(H:Hp)(a:Addr)(o:HO):Hp:=fun b=>if b=a then some o else H b
theorem upd_same{H:Hp}{a:Addr}{o:HO}:upd H a o a=some o:=by unfold upd;rw[if_pos rfl]
theorem upd_ne{H:Hp}{a b:Addr}{o:HO}(h:b≠a):upd H a o b=H b:=by unfold upd;rw[if_neg h]
theorem yH{H:Hp}{a:Addr}{o u:HO}:upd (upd H a o) a u=upd H a u:=by
 funext b;unfold upd;split<;>rfl
theorem Z5{H:Hp}{a b:Addr}{o u:HO}(h:H a=some o)(h':H b=some u)(d:o≠u):a≠b:=by
 intro e;subst e;rw[h] at h';exact d (Option.some.inj h')
theorem nZ{H:Hp}{a b:Addr}{o:HO}(h:H a=some o)(h':H b=none):a≠b:=by
 intro e;subst e;rw[h] at h';cases h'
section
variable (P:Program) (w:World)
def ObjOk(H:Hp)(h:Heap)(a:Addr):HO->Prop
 |.lst xs=>xs.length<=sizeLine/\∃ (its:List Value) (n:Nat),Vals xs its/\h.get? a=some { cls:=.type "list",data:=.seq its.toArray n }
 |.tup xs=>xs.length<=sizeLine/\∃ its:List Value,Vals xs its/\IsTup h a its.toArray
 |.dK kvs=>kvs.length<=sizeLine/\(a == sysModules)=false/\∃ vs,KV kvs vs/\h.DictOf (zP P w) a vs
 |.dT kvs=>kvs.length<=sizeLine/\(a == sysModules)=false/\∃ xs:List (List Key×Addr×Value),
   Paired (fun(p:List Key×V) (q:List Key×Addr×Value)=>p.1=q.1/\H q.2.1=some (.tup (p.1.map kV))/\RelV p.2 q.2.2) kvs xs /\
   ∃ o es ep,h.get? a=some o/\o.ExactDict/\o.data=.dict es ep/\es.toList=xs.map (entryOfKey (tupleKind (zP P w)))/\(xs.map (·.1)).Nodup
 |.set S n=>h.SetOf (intKind P w) a S n
 |.ins C dx fs=>H dx=some (.own a)/\fs.length<=1000/\dx≠a/\h.get? a=some (PySem.W.instObj C dx) /\
   ∃ mA,h.Ns1 dx mA/\(∀ f,RelO (fs.lookup f) (mA f))/\PySem.Within mA (fs.map (·.1))
 |.own _=>∃ o,h.get? a=some o
 |.xd fs=>∃ mA,h.Ns1 a mA/\∀ f,RelO (fs.lookup f) (mA f)
 |.rng lo hi=>∃ t u v,h.get? a=some { cls:=.type "range",data:=.fields #[.int lo t,.int hi u,.int 1 v] }
 |.frz o u=>h.get? a=some o/\ObjOk H h a u
 |.tbl ps=>h.get? a=some { cls:=.none,data:=.fields ps }
 |.met f x=>h.get? a=some (PySem.W.methodObj (.ref f) (.ref x))
 |.ext φ=>φ h/\(∃ o,h.get? a=some o)/\∀ h1 h2:Heap,φ h1->(∀ o,h1.get? a=some o->h2.get? a=some o)->φ h2
def HOk(H:Hp)(h:Heap):Prop:=∀ a o,H a=some o->ObjOk P w H h a o
end
section
variable {P:Program}{w:World}{H H':Hp}{h h':Heap}{a:Addr}{o:HO}
theorem ObjOk.lt(x:ObjOk P w H h a o):a<h.objs.size:=by
 cases o with
 |lst xs=>obtain⟨_,_,_,_,e⟩:=x;exact Heap.lt_size e
 |tup xs=>obtain⟨_,_,_,p⟩:=x;exact p.lt
 |dK kvs=>obtain⟨_,_,_,_,o,_,_,e,_⟩:=x;exact Heap.lt_size e
 |dT kvs=>obtain⟨_,_,_,_,o,_,_,e,_⟩:=x;exact Heap.lt_size e
 |set S n=>obtain⟨o,_,_,_,e,_⟩:=x;exact Heap.lt_size e
 |ins C dx fs=>obtain⟨_,_,_,e,_⟩:=x;exact Heap.lt_size e
 |own y=>obtain⟨_,e⟩:=x;exact Heap.lt_size e
 |xd fs=>obtain⟨_,⟨_,_,_,e,_⟩,_⟩:=x;exact Heap.lt_size e
 |rng lo hi=>obtain⟨_,_,_,e⟩:=x;exact Heap.lt_size e
 |frz ob u=>obtain⟨e,_⟩:=x;exact Heap.lt_size e
 |tbl ps=>exact Heap.lt_size (show h.get? a=some _ from x)
 |met f y=>exact Heap.lt_size (show h.get? a=some _ from x)
 |ext φ=>obtain⟨_,⟨_,e⟩,_⟩:=x;exact Heap.lt_size e
theorem Paired.mapP{α β:Type}{F G:α->β->Prop}:∀ {l₁:List α}{l₂:List β},Paired F l₁ l₂->(∀ a b,F a b->G a b)->Paired G l₁ l₂
 |_,_,.nil,_=>.nil
 |_,_,.cons r t,f=>.cons (f _ _ r) (Paired.mapP t f)
theorem ObjOk.stay(x:ObjOk P w H h a o)(k:∀ b u,(b=a\/H b=some (.own a))->h.get? b=some u->h'.get? b=some u)
  (ho:∀ b,H b=some (.own a)->H' b=some (.own a)) (ht:∀ b xs,H b=some (.tup xs)->H' b=some (.tup xs)):ObjOk P w H' h' a o:=by
 induction o with
 |lst xs=>obtain⟨z,its,n,r,e⟩:=x;exact⟨z,its,n,r,k _ _ (.inl rfl) e⟩
 |tup xs=>obtain⟨z,its,r,ob,e,c⟩:=x;exact⟨z,its,r,ob,k _ _ (.inl rfl) e,c⟩
 |dK kvs=>obtain⟨z,y,vs,r,ob,es,ep,e,c⟩:=x;exact⟨z,y,vs,r,ob,es,ep,k _ _ (.inl rfl) e,c⟩
 |dT kvs =>
  obtain⟨z,y,xs,r,ob,es,ep,e,c⟩:=x;exact⟨z,y,xs,Paired.mapP r fun p q z=>⟨z.1,ht _ _ z.2.1,z.2.2⟩,ob,es,ep,k _ _ (.inl rfl) e,c⟩
 |set S n=>obtain⟨ob,es,ep,t,e,c⟩:=x;exact⟨ob,es,ep,t,k _ _ (.inl rfl) e,c⟩
 |ins C dx fs =>
  obtain⟨d,z,ne,e,mA,⟨od,es,ep,e2,c⟩,r⟩:=x;exact⟨ho _ d,z,ne,k _ _ (.inl rfl) e,mA,⟨od,es,ep,k _ _ (.inr d) e2,c⟩,r⟩
 |own y=>obtain⟨ob,e⟩:=x;exact⟨ob,k _ _ (.inl rfl) e⟩
 |xd fs=>obtain⟨mA,⟨od,es,ep,e,c⟩,r⟩:=x;exact⟨mA,⟨od,es,ep,k _ _ (.inl rfl) e,c⟩,r⟩
 |rng lo hi=>obtain⟨t,u,v,e⟩:=x;exact⟨t,u,v,k _ _ (.inl rfl) e⟩
 |frz ob u ih=>obtain⟨e,q⟩:=x;exact⟨k _ _ (.inl rfl) e,ih q⟩
 |tbl ps =>
  have e:h.get? a=some { cls:=.none,data:=.fields ps }:=x;show h'.get? a=some { cls:=.none,data:=.fields ps };exact k a _ (.inl rfl) e
 |met f y =>
  have e:h.get? a=some (PySem.W.methodObj (.ref f) (.ref y)):=x;show h'.get? a=some (PySem.W.methodObj (.ref f) (.ref y));exact k a _ (.inl rfl) e
 |ext φ=>obtain⟨p,⟨o,e⟩,st⟩:=x;exact⟨st _ _ p fun o q=>k _ _ (.inl rfl) q,⟨o,k _ _ (.inl rfl) e⟩,st⟩
theorem HOk.lt(x:HOk P w H h)(e:H a=some o):a<h.objs.size:=(x a o e).lt
theorem HOk.fresh(x:HOk P w H h)(e:h.objs.size<=a):H a=none:=by
 cases q:H a with
 |none=>rfl
 |some u=>exact absurd (lt_of_lt_of_le (x.lt q) e) (lt_irrefl _)
theorem HOk.kept(x:HOk P w H h)(k:∀ b u,h.get? b=some u->h'.get? b=some u):HOk P w H h':=fun a o e =>
 (x a o e).stay (fun b u _ q=>k b u q) (fun _ q=>q) fun _ _ q=>q
theorem HOk.laid(x:HOk P w H h)(k:∀ b u,h.get? b=some u->h'.get? b=some u)(hp:h.objs.size<=a)(new:ObjOk P w (upd H a o) h' a o):HOk P w (upd H a o) h':=fun b u e=>by
 have hn:=x.fresh hp;by_cases hb:b=a
 ·subst hb;rw[upd_same] at e;cases e;exact new
 ·rw[upd_ne hb] at e
  exact(x b u e).stay (fun c v _ q=>k c v q) (fun c q=>by rw[upd_ne (nZ q hn)];exact q) fun c xs q=>by rw[upd_ne (nZ q hn)];exact q
end
def Rd(H:Hp)(a:Addr)(u:HO):Prop:=H a=some u\/∃ o,H a=some (.frz o u)
theorem Rd.ok{P:Program}{w:World}{H:Hp}{h:Heap}{a:Addr}{u:HO}(r:Rd H a u)(x:HOk P w H h):ObjOk P w H h a u:=by
 rcases r with r | ⟨o,r⟩
 ·exact x a u r
 ·obtain⟨_,q⟩:=x a _ r
  exact q
def Mut:Option HO->Prop
 |some (.lst _)=>True
 |some (.dK _)=>True
 |some (.dT _)=>True
 |some (.set _ _)=>True
 |some (.ins _ _ _)=>True
 |some (.ext _)=>True
 |_=>False
section
variable {P:Program}{w:World}{H:Hp}{h h':Heap}{x e:Addr}{o':HO}
theorem HOk.write(ok:HOk P w H h)(mu:Mut (H x))(he:e=x\/H e=some (.own x))(k:∀ b u,b≠e->h.get? b=some u->h'.get? b=some u)(heo:∃ u,h'.get? e=some u)
  (new:ObjOk P w (upd H x o') h' x o'):HOk P w (upd H x o') h':=fun b u q=>by
 have nown:∀ c y,H c=some (.own y)->c≠x:=fun c y r z=>by subst z;rw[r] at mu;exact mu
 have ntup:∀ c xs,H c=some (.tup xs)->c≠x:=fun c xs r z=>by subst z;rw[r] at mu;exact mu
 by_cases hb:b=x
 ·subst hb;rw[upd_same] at q;cases q;exact new
 ·rw[upd_ne hb] at q
  by_cases hbe:b=e
  ·have q':H b=some (.own x):=by
    rcases he with z | z
    ·exact absurd (hbe.trans z) hb
    ·rw[hbe];exact z
   rw[q] at q';cases q';obtain⟨v,hv⟩:=heo;exact⟨v,by rw[hbe];exact hv⟩
  ·refine(ok b u q).stay (fun c v hc r=>k c v ?_ r) (fun c r=>by rw[upd_ne (nown c b r)];exact r) fun c xs r=>by rw[upd_ne (ntup c xs r)];exact r
   rcases hc with rfl | hc
   ·exact hbe
   ·rintro rfl
    rcases he with z | z
    ·exact nown c b hc z
    ·rw[hc] at z;cases z;exact hb rfl
end
structure Un (fs ex:List Addr) (H H':Hp) (h h':Heap):Prop where
 keep:∀ b o,h.get? b=some o->H b=none->b∉fs->b∉ex->h'.get? b=some o
 slot:∀ b o,h.get? b=some o->H b=none->b∈fs->b∉ex->∃ sl,h'.get? b=some { o with slots:=sl }
 free:∀ b o,h.get? b=some o->H b=none->b∉ex->H' b=none
 there:∀ b o,h.get? b=some o->b∉ex->∃ o',h'.get? b=some o'
 tups:∀ b xs,H b=some (.tup xs)->H' b=some (.tup xs)
 frzs:∀ b o u,H b=some (.frz o u)->H' b=some (.frz o u)
 tbls:∀ b ps,H b=some (.tbl ps)->∃ more,H' b=some (.tbl (ps++more))
section
variable {fs fs' ex ex':List Addr}{H H1 H2:Hp}{h h1 h2 h':Heap}{a x e:Addr}{o:HO}
theorem Un.any(u:Un fs ex H H1 h h1){b:Addr}{ob:Obj}(q:h.get? b=some ob)(n:H b=none)(hx:b∉ex):∃ sl,h1.get? b=some { ob with slots:=sl }:=by
 by_cases hb:b∈fs
 ·exact u.slot b ob q n hb hx
 ·exact⟨ob.slots,u.keep b ob q n hb hx⟩
theorem Un.kept(k:∀ b u,h.get? b=some u->h'.get? b=some u):Un fs ex H H h h' :=
 ⟨fun b ob q _ _ _=>k b ob q,fun b ob q _ _ _=>⟨ob.slots,k b ob q⟩,fun _ _ _ n _=>n,fun b ob q _=>⟨ob,k b ob q⟩,fun _ _ q=>q,fun _ _ _ q=>q,fun _ ps q=>⟨#[],by rw[q];simp⟩⟩
theorem Un.refl:Un fs ex H H h h:=Un.kept fun _ _ q=>q
theorem Un.laid(k:∀ b u,h.get? b=some u->h'.get? b=some u)(hp:h.objs.size<=a)(hn:H a=none):Un fs ex H (upd H a o) h h' where
 keep:=fun b u q _ _ _=>k b u q
 slot:=fun b u q _ _ _=>⟨u.slots,k b u q⟩
 free:=fun b u q n _=>by rw[upd_ne (ne_of_lt (lt_of_lt_of_le (Heap.lt_size q) hp))];exact n
 there:=fun b u q _=>⟨u,k b u q⟩
 tups:=fun b xs q=>by rw[upd_ne (nZ q hn)];exact q
 frzs:=fun b u xs q=>by rw[upd_ne (nZ q hn)];exact q
 tbls:=fun b ps q=>⟨#[],by rw[upd_ne (nZ q hn),q];simp⟩
theorem Un.write(mu:Mut (H x))(he:e=x\/H e=some (.own x))(k:∀ b u,b≠e->h.get? b=some u->h'.get? b=some u)(heo:∃ u,h'.get? e=some u):Un fs ex H (upd H x o) h h':=by
 have hx:∀ b,H b=none->b≠x:=fun b n z=>by subst z;rw[n] at mu;exact mu
 have hb:∀ b,H b=none->b≠e:=fun b n z=>by
  subst z;rcases he with r | r
  ·exact hx b n r
  ·rw[n] at r;cases r
 have hm:∀ b u,H b=some u->¬ Mut (some u)->b≠x:=fun b u q nm z=>by subst z;rw[q] at mu;exact nm mu
 refine⟨fun b u q n _ _=>k b u (hb b n) q,fun b u q n _ _=>⟨u.slots,k b u (hb b n) q⟩,fun b u q n _=>by rw[upd_ne (hx b n)];exact n,fun b u q _=>?_,
  fun b xs q=>by rw[upd_ne (hm b _ q fun z=>z)];exact q,fun b u xs q=>by rw[upd_ne (hm b _ q fun z=>z)];exact q,fun b ps q=>⟨#[],by rw[upd_ne (hm b _ q fun z=>z),q];simp⟩⟩
 by_cases hbe:b=e
 ·subst hbe;exact heo
 ·exact⟨u,k b u hbe q⟩
end
noncomputable def trk(h:Heap)(H:Hp):List Addr:=(List.range h.objs.size).filter fun a=>(H a).isSome
def zaB(h:Heap)(H:Hp):Heap:=PySem.W.hideAll h (trk h H)
theorem Uc(h:Heap)(H:Hp):(zaB h H).objs.size=h.objs.size:=PySem.W.hideAll_size _ _
theorem zaA{h:Heap}{H:Hp}{b:Addr}{o:Obj}(e:h.get? b=some o)(n:H b=none):(zaB h H).get? b=some o :=
 PySem.W.hideAll_get _ e fun hm=>by
  have q:(H b).isSome=true:=(mem_filter.mp hm).2;rw[n] at q;simp at q
theorem zcg{h:Heap}{H:Hp}{b:Addr}{o:Obj}(e:(zaB h H).get? b=some o):h.get? b=some o/\H b=none:=by
 have e':h.get? b=some o:=PySem.W.of_hideAll (trk h H) e;refine⟨e',?_⟩;cases q:H b with
 |none=>rfl
 |some x =>
  have hm:b∈trk h H:=mem_filter.mpr ⟨mem_range.mpr (Heap.lt_size e'),by simp[q]⟩;have z:(zaB h H).get? b=none:=PySem.W.hideAll_none (trk h H) hm;rw[z] at e;cases e
structure Mod (K:W.Frag) (mg:Str->Option Value) (base:Heap):Prop where
 kin:K.In base
 glob:base.Ns mainGlobals mg
 blt:∃ mb,base.Ns builtinsNs mb/\∀ x:Str,x ≠ "__name__" -> mb x=bootBuiltins x
 nolimit:base.NoLimit
structure Cx where
 prog:Program
 w:World
 K:PySem.W.Frag
 mg:Str->Option Value
 base:Heap
 A:Around
 N:List Str
 s₀:Shared
 H₀:Hp
 env:Env
 outer:List Env
 stack:List Env
 ex:List Addr
 fn:Str->Bool
 calm:Bool
 pn:List (Addr×Obj)
 xe:Value->Shared->Prop
noncomputable def frs(l:List Env):List Addr:=l.filterMap (·.frame)
abbrev Cx.fs(X:Cx):List Addr:=frs X.outer
def Vis(sc:Scope)(x:Str):Prop:=sc.names.lookup x=some .local\/sc.names.lookup x=some .cell\/sc.names.lookup x=some .free
def Loc(sc:Scope)(x:Str):Prop:=sc.names.lookup x=some .local\/sc.names.lookup x=some .cell
def zhw(env:Env)(h:Heap)(m:Str->Option Value)(x:Str)(u:Value):Prop :=
 (env.kindOf x=some .local/\m x=some u)\/((env.kindOf x=some .cell\/env.kindOf x=some .free)/\∃ c,env.cells.lookup x=some c/\h.IsCell c (some u))
structure Cx.Ok (X:Cx):Prop where
 mod:Mod X.K X.mg X.base
 kind:X.env.scope.kind=.function
 glob:X.env.globals=mainGlobals
 blt:X.env.builtins=builtinsNs
 above:X.s₀.heap.objs.size<=X.env.locals
 inj:∀ x y c,X.env.cells.lookup x=some c->X.env.cells.lookup y=some c->x=y
 has:∀ x,(X.env.kindOf x=some .cell\/X.env.kindOf x=some .free)->∃ c,X.env.cells.lookup x=some c
 cab:∀ x c,X.fn x=true->X.env.cells.lookup x=some c->X.s₀.heap.objs.size<=c
 hd:X.calm=true->X.A.handled=none
 frames:X.A.frames=some X.stack
 stk:X.stack=X.outer\/(X.stack=X.env::X.outer/\X.env.frame=some X.env.locals)
 exf:∀ b∈X.ex,b≠X.env.locals/\∀ x c,X.env.cells.lookup x=some c->c≠b
 bs:∀ b o,X.base.get? b=some o->X.s₀.heap.get? b=some o/\X.H₀ b=none
 bsz:X.base.objs.size<=X.s₀.heap.objs.size
 noex:∀ b o,X.base.get? b=some o->b∉X.ex
 exfs:∀ b∈X.ex,b∉X.fs
 funs:X.s₀.heap.FunFrames X.base X.outer
 frf:∀ b∈X.fs,X.H₀ b=none
structure Inv (X:Cx) (pins:List (Addr×Obj)) (σ:List (Option V)) (H:Hp) (s:Shared):Prop where
 ok:X.Ok
 os:s.os=X.s₀.os
 bare:AllBare s.gens
 base:Un X.fs X.ex X.H₀ H X.s₀.heap s.heap
 loc:∃ m,s.heap.Ns X.env.locals m/\∀ (i:Nat) (x:Str) (v:V),X.N[i]?=some x->σ[i]?=some (some v)->Vis X.env.scope x->∃ u,RelV v u/\zhw X.env s.heap m x u
 cell:∀ x c,X.env.cells.lookup x=some c->∃ v,s.heap.IsCell c v
 free:H X.env.locals=none
 freeC:∀ x c,X.env.cells.lookup x=some c->H c=none
 pin:∀ p∈X.pn++pins,s.heap.get? p.1=some p.2/\H p.1=none/\p.1≠X.env.locals/\p.1∉X.fs/\∀ v,p.2.data≠.cell v
 hok:HOk X.prog X.w H s.heap
 len:σ.length=X.N.length
section
variable {X:Cx}{pins:List (Addr×Obj)}{σ:List (Option V)}{H H':Hp}{s:Shared}{h':Heap}
theorem Cx.Ok.nofr(ok:X.Ok){b:Addr}{o:Obj}(e:X.base.get? b=some o):b∉X.fs:=fun hb=>by
 have:=(ok.funs.mem hb).1;rw[e] at this;cases this
theorem Inv.bs(I:Inv X pins σ H s):∀ b o,X.base.get? b=some o->s.heap.get? b=some o/\H b=none:=fun b o e =>
 ⟨I.base.keep b o (I.ok.bs b o e).1 (I.ok.bs b o e).2 (I.ok.nofr e) (I.ok.noex b o e),I.base.free b o (I.ok.bs b o e).1 (I.ok.bs b o e).2 (I.ok.noex b o e)⟩
theorem Inv.bk(I:Inv X pins σ H s):∀ b o,X.base.get? b=some o->s.heap.get? b=some o:=fun b o e=>(I.bs b o e).1
theorem Inv.mod(I:Inv X pins σ H s):Mod X.K X.mg X.base:=I.ok.mod
theorem Inv.kIn(I:Inv X pins σ H s):X.K.In s.heap:=I.ok.mod.kin.keeps I.bk
theorem Inv.lt(I:Inv X pins σ H s):X.env.locals<s.heap.objs.size:=let ⟨_,hn,_⟩:=I.loc;hn.lt
theorem Inv.sz(I:Inv X pins σ H s):X.s₀.heap.objs.size<=s.heap.objs.size:=le_trans I.ok.above (le_of_lt I.lt)
theorem Inv.nofs(I:Inv X pins σ H s){a:Addr}(h:s.heap.objs.size<=a):a∉X.fs:=fun hb=>by
 obtain⟨_,o,ho,_⟩:=I.ok.funs.mem hb;exact absurd (lt_of_lt_of_le (Heap.lt_size ho) (le_trans I.sz h)) (lt_irrefl _)
theorem Inv.cne(I:Inv X pins σ H s):∀ x c,X.env.cells.lookup x=some c->c≠X.env.locals:=fun x c e z=>by
 obtain⟨v,o,ho,hd⟩:=I.cell x c e;obtain⟨m,⟨o',es,ep,ho',hd',_⟩,_⟩:=I.loc;rw[z,ho'] at ho;cases ho;rw[hd'] at hd;cases hd
theorem Inv.funs(I:Inv X pins σ H s):s.heap.FunFrames X.base X.outer:=by
 have all:∀ (l:List Env),(∀ b∈frs l,b∈X.fs)->X.s₀.heap.FunFrames X.base l->s.heap.FunFrames X.base l:=by
  intro l
  induction l with
  |nil=>intro _ _;trivial
  |cons env r ih =>
   intro hs hl;obtain⟨hk,⟨L,o,hf,hn,ho,hd⟩,hr⟩:=hl;have hL:L∈X.fs:=hs L (by unfold frs;rw[List.filterMap_cons,hf];exact mem_cons_self);obtain⟨sl,e⟩:=I.base.slot L o ho (I.ok.frf L hL) hL fun z=>I.ok.exfs L z hL;exact⟨hk,⟨L,_,hf,hn,e,hd⟩,ih (fun b hb=>hs b (by unfold frs;rw[List.filterMap_cons,hf];exact mem_cons_of_mem _ hb)) hr⟩
 exact all X.outer (fun _ hb=>hb) I.ok.funs
theorem Inv.stack(I:Inv X pins σ H s):s.heap.FunFrames X.base X.stack:=by
 rcases I.ok.stk with e | ⟨e,hf⟩
 ·rw[e];exact I.funs
 ·rw[e]
  obtain⟨m,hn,_⟩:=I.loc;refine .cons (by rw[I.ok.kind];decide) hf hn ?_ I.funs;exact Heap.get?_none_of_le (le_trans I.ok.bsz I.ok.above)
theorem Inv.stkSub(I:Inv X pins σ H s):∀ b∈frs X.stack,b∈X.env.locals::X.fs:=fun b hb=>by
 rcases I.ok.stk with e | ⟨e,hf⟩
 ·rw[e] at hb;exact mem_cons_of_mem _ hb
 ·rw[e] at hb
  unfold frs at hb;rw[List.filterMap_cons,hf] at hb;exact hb
theorem Inv.stkFree(I:Inv X pins σ H s):∀ b∈frs X.stack,H b=none:=fun b hb=>by
 rcases mem_cons.mp (I.stkSub b hb) with e | hb
 ·rw[e];exact I.free
 ·obtain⟨_,o,ho,_⟩:=I.ok.funs.mem hb
  exact I.base.free b o ho (I.ok.frf b hb) fun z=>I.ok.exfs b z hb
theorem Inv.step{g':Array GenState}{t':Nat}{d':Drawn}{ch:List Addr}(I:Inv X pins σ H s)
  (hch:∀ b∈ch,(b∈X.ex\/X.s₀.heap.objs.size<=b)/\b≠X.env.locals/\(∀ x c,X.env.cells.lookup x=some c->c≠b)/\∀ p∈X.pn++pins,p.1≠b)
  (keep:∀ b o,b≠X.env.locals->b∉X.fs->b∉ch->s.heap.get? b=some o->H b=none->h'.get? b=some o)
  (slot:∀ b o,b≠X.env.locals->b∈X.fs->b∉ch->s.heap.get? b=some o->H b=none->∃ sl,h'.get? b=some { o with slots:=sl }) (free:∀ b o,b∉ch->s.heap.get? b=some o->H b=none->H' b=none)
  (there:∀ b o,b∉ch->s.heap.get? b=some o->∃ o',h'.get? b=some o')
  (tups:∀ b xs,H b=some (.tup xs)->H' b=some (.tup xs)) (frzs:∀ b o u,H b=some (.frz o u)->H' b=some (.frz o u)) (tbls:∀ b ps,H b=some (.tbl ps)->∃ more,H' b=some (.tbl (ps++more)))
  (ns:∀ m,s.heap.Ns X.env.locals m->h'.Ns X.env.locals m) (hok:HOk X.prog X.w H' h') (hg:AllBare g') :
  Inv X pins σ H' { s with heap:=h',gens:=g',drawn:=d',toks:=t' }:=by
 have neL:∀ b o,X.s₀.heap.get? b=some o->b≠X.env.locals:=fun b o e=>ne_of_lt (lt_of_lt_of_le (Heap.lt_size e) I.ok.above);have neC:∀ b o,X.s₀.heap.get? b=some o->b∉X.ex->b∉ch:=fun b o e hx hb=>by
  rcases(hch b hb).1 with z | z
  ·exact hx z
  ·exact absurd (lt_of_lt_of_le (Heap.lt_size e) z) (lt_irrefl _)
 have cellK:∀ x c,X.env.cells.lookup x=some c->∀ v,s.heap.IsCell c v->h'.IsCell c v:=fun x c e v ⟨o,ho,hd⟩=>by
  have nch:c∉ch:=fun z=>(hch c z).2.2.1 x c e rfl;by_cases hc:c∈X.fs
  ·obtain⟨sl,q⟩:=slot c o (I.cne x c e) hc nch ho (I.freeC x c e)
   exact⟨_,q,hd⟩
  ·exact⟨o,keep c o (I.cne x c e) hc nch ho (I.freeC x c e),hd⟩
 refine⟨I.ok,I.os,hg,⟨fun b o e n hb hx=>?_,fun b o e n hb hx=>?_,fun b o e n hx=>?_,fun b o e hx=>?_,fun b xs e=>tups b xs (I.base.tups b xs e),fun b o xs e=>frzs b o xs (I.base.frzs b o xs e),fun b ps e=>?_⟩,?_,fun x c e=>?_,?_,fun x c e=>?_,fun p hp=>?_,hok,I.len⟩
 ·exact keep b o (neL b o e) hb (neC b o e hx) (I.base.keep b o e n hb hx) (I.base.free b o e n hx)
 ·obtain⟨sl,e1⟩:=I.base.slot b o e n hb hx
  obtain⟨sl',e2⟩:=slot b _ (neL b o e) hb (neC b o e hx) e1 (I.base.free b o e n hx);exact⟨sl',e2⟩
 ·obtain⟨o',e1⟩:=I.base.there b o e hx
  exact free b o' (neC b o e hx) e1 (I.base.free b o e n hx)
 ·obtain⟨o',e1⟩:=I.base.there b o e hx
  exact there b o' (neC b o e hx) e1
 ·obtain⟨m1,e1⟩:=I.base.tbls b ps e
  obtain⟨m2,e2⟩:=tbls b _ e1;exact⟨m1++m2,by rw[e2,Array.append_assoc]⟩
 ·obtain⟨m,hn,hl⟩:=I.loc
  refine⟨m,ns m hn,fun i x v e1 e2 e3=>?_⟩;obtain⟨u,r,l⟩:=hl i x v e1 e2 e3;refine⟨u,r,?_⟩;rcases l with l | ⟨k,c,e,z⟩
  ·exact .inl l
  ·exact .inr ⟨k,c,e,cellK x c e _ z⟩
 ·obtain⟨v,z⟩:=I.cell x c e
  exact⟨v,cellK x c e v z⟩
 ·obtain⟨m,⟨o,_,_,ho,_⟩,_⟩:=I.loc
  exact free _ o (fun z=>(hch _ z).2.1 rfl) ho I.free
 ·obtain⟨v,o,ho,hd⟩:=I.cell x c e
  exact free c o (fun z=>(hch c z).2.2.1 x c e rfl) ho (I.freeC x c e)
 ·obtain⟨e,n,ne,nf,d⟩:=I.pin p hp
  have nch:p.1∉ch:=fun z=>(hch p.1 z).2.2.2 p hp rfl;exact⟨keep p.1 p.2 ne nf nch e n,free p.1 p.2 nch e n,ne,nf,d⟩
theorem Inv.un{t':Nat}(I:Inv X pins σ H s)(u:Un X.fs [] H H' s.heap h')(hok:HOk X.prog X.w H' h'):Inv X pins σ H' { s with heap:=h',toks:=t' }:=by
 obtain⟨m,⟨o,es,ep,ho,r⟩,_⟩:=id I.loc;obtain⟨sl,hL⟩:=u.any ho I.free (by simp);exact I.step (g':=s.gens) (d':=s.drawn) (ch:=[]) (fun _ z=>nomatch z) (fun b o _ hb _ e n=>u.keep b o e n hb (by simp)) (fun b o _ hb _ e n=>u.slot b o e n hb (by simp)) (fun b o _ e n=>u.free b o e n (by simp)) (fun b o _ e=>u.there b o e (by simp)) u.tups u.frzs u.tbls (fun m' hm=>by
  obtain⟨o',es',ep',ho',r'⟩:=hm;rw[ho] at ho';cases ho';exact⟨_,es',ep',hL,r'⟩) hok I.bare
theorem Inv.call{g':Array GenState}{t':Nat}{d':Drawn}{ch:List Addr}(I:Inv X pins σ H s)(u:Un (frs X.stack) ch H H' s.heap h')(hok:HOk X.prog X.w H' h')(hg:AllBare g')
  (hch:∀ b∈ch,(b∈X.ex\/X.s₀.heap.objs.size<=b)/\b≠X.env.locals/\(∀ x c,X.env.cells.lookup x=some c->c≠b)/\∀ p∈X.pn++pins,p.1≠b) :
  Inv X pins σ H' { s with heap:=h',gens:=g',drawn:=d',toks:=t' }:=by
 obtain⟨m,⟨o,es,ep,ho,r⟩,_⟩:=id I.loc;obtain⟨sl,hL⟩:=u.any ho I.free fun z=>(hch _ z).2.1 rfl;exact I.step (ch:=ch) hch (fun b o hL hb hc e n=>u.keep b o e n (fun z=>(mem_cons.mp (I.stkSub b z)).elim hL hb) hc) (fun b o _ _ hc e n=>u.any e n hc) (fun b o hc e n=>u.free b o e n hc) (fun b o hc e=>u.there b o e hc) u.tups u.frzs u.tbls (fun m' hm=>by
  obtain⟨o',es',ep',ho',r'⟩:=hm;rw[ho] at ho';cases ho';exact⟨_,es',ep',hL,r'⟩) hok hg
theorem Inv.turned{t':Nat}{it:Addr}(I:Inv X pins σ H s)(k:∀ b o,b≠it->s.heap.get? b=some o->h'.get? b=some o)(hn:H it=none)(hL:it≠X.env.locals)
  (h1:it∈X.ex\/X.s₀.heap.objs.size<=it) (h2:∀ x c,X.env.cells.lookup x=some c->c≠it) (h3:∀ p∈X.pn++pins,p.1≠it):Inv X pins σ H { s with heap:=h',toks:=t' }:=by
 have nit:∀ b u,H b=some u->b≠it:=fun b u e z=>by rw[z,hn] at e;cases e
 refine I.step (g':=s.gens) (d':=s.drawn) (ch:=[it]) (fun b hb=>?_) (fun b o _ _ hc e _=>k b o (fun z=>hc (by simp[z])) e) (fun b o _ _ hc e _=>⟨o.slots,k b o (fun z=>hc (by simp[z])) e⟩) (fun _ _ _ _ n=>n)
  (fun b o hc e=>⟨o,k b o (fun z=>hc (by simp[z])) e⟩) (fun _ _ e=>e) (fun _ _ _ e=>e) (fun b ps e=>⟨#[],by rw[e];simp⟩) (fun m hm=>?_) (fun b u e=>?_) I.bare
 ·have e:b=it:=by simpa using hb
  subst e;exact⟨h1,hL,h2,h3⟩
 ·obtain⟨o,es,ep,ho,r⟩:=hm
  exact⟨o,es,ep,k _ o (Ne.symm hL) ho,r⟩
 ·refine(I.hok b u e).stay (fun c v hc q=>k c v ?_ q) (fun _ q=>q) fun _ _ q=>q
  rcases hc with z | z
  ·rw[z];exact nit b u e
  ·exact nit c _ z
theorem Inv.tok(I:Inv X pins σ H s)(t:Nat):Inv X pins σ H { s with toks:=t }:=I.un (h':=s.heap) (t':=t) Un.refl I.hok
theorem Inv.kept{t':Nat}(I:Inv X pins σ H s)(k:∀ b u,s.heap.get? b=some u->h'.get? b=some u):Inv X pins σ H { s with heap:=h',toks:=t' }:=I.un (Un.kept k) (I.hok.kept k)
theorem Inv.laid{a:Addr}{o:HO}{t':Nat}(I:Inv X pins σ H s)(k:∀ b u,s.heap.get? b=some u->h'.get? b=some u)(hp:s.heap.objs.size<=a)(new:ObjOk X.prog X.w (upd H a o) h' a o) :
  Inv X pins σ (upd H a o) { s with heap:=h',toks:=t' }:=I.un (Un.laid k hp (I.hok.fresh hp)) (I.hok.laid k hp new)
theorem Inv.write{x e:Addr}{o:HO}{t':Nat}(I:Inv X pins σ H s)(mu:Mut (H x))(he:e=x\/H e=some (.own x))(k:∀ b u,b≠e->s.heap.get? b=some u->h'.get? b=some u)(heo:∃ u,h'.get? e=some u)
  (new:ObjOk X.prog X.w (upd H x o) h' x o):Inv X pins σ (upd H x o) { s with heap:=h',toks:=t' }:=I.un (Un.write mu he k heo) (I.hok.write mu he k heo new)
theorem Inv.pins_of{pins':List (Addr×Obj)}(I:Inv X pins σ H s)(h:∀ p∈pins',s.heap.get? p.1=some p.2/\H p.1=none/\p.1≠X.env.locals/\p.1∉X.fs/\∀ v,p.2.data≠.cell v):Inv X pins' σ H s :=
 ⟨I.ok,I.os,I.bare,I.base,I.loc,I.cell,I.free,I.freeC,fun p hp=>(mem_append.mp hp).elim (fun z=>I.pin p (mem_append_left _ z)) (h p),I.hok,I.len⟩
theorem nodup_ix{N:List Str}(hN:N.Nodup){i j:Nat}{x:Str}(a:N[i]?=some x)(b:N[j]?=some x):i=j:=by
 obtain⟨h1,e1⟩:=List.getElem?_eq_some_iff.mp a;obtain⟨h2,e2⟩:=List.getElem?_eq_some_iff.mp b;exact(List.getElem_inj hN).mp (e1.trans e2.symm)
theorem W7{M:Model}{A:Around}{E:Value->Shared->Prop}{i:Nat}{x:Str}{v:V}{u:Value}{Q:Unit->Shared->Prop}(I:Inv X pins σ H s)(hN:X.N.Nodup)(hi:X.N[i]?=some x)(hx:Loc X.env.scope x)(r:RelV v u)
  (h:∀ s',Inv X pins (σ.set i (some v)) H s'->(∃ a,Heap.SameBut a s.heap s'.heap/\(a=X.env.locals\/X.env.cells.lookup x=some a))->Q () s') (hf:X.fn x=true\/X.env.scope.names.lookup x=some .local:=by first | exact .inl rfl | exact .inr rfl | assumption):wpAny M A (storeName X.env x u) Q E s:=by
 obtain⟨m,hn,hl⟩:=id I.loc;have hcls:(X.env.scope.kind == .class||(X.env.scope.kind == .module&&X.env.locals != X.env.globals))=false:=by rw[I.ok.kind];rfl
 have hiσ:i<σ.length:=by rw[I.len];exact(List.getElem?_eq_some_iff.mp hi).1
 have cne:=I.cne;have tracked:∀ {a:Addr}{h':Heap},(∃ o,s.heap.get? a=some o/\H a=none)->Heap.SameBut a s.heap h'->HOk X.prog X.w H h':=fun {a h'} ha hs b ob e=>by
  obtain⟨_,_,hfree⟩:=ha;refine(I.hok b ob e).stay (fun c w' hc q=>(hs.2 c ?_).trans q) (fun _ q=>q) fun _ _ q=>q;rintro rfl;rcases hc with rfl | hc
  ·rw[hfree] at e;cases e
  ·rw[hfree] at hc;cases hc
 rcases hx with hk | hk
 ·refine wpAny_storeName_local hk hn (fun h' hn' hs=>?_) hcls
  obtain⟨oL,_,_,hoL,_⟩:=id hn;refine h _ ⟨I.ok,I.os,I.bare,⟨fun b o e n hb hx=>?_,fun b o e n hb hx=>?_,I.base.free,fun b o e hx=>?_,I.base.tups,I.base.frzs,I.base.tbls⟩,⟨_,hn',fun j y v' e1 e2 e3=>?_⟩,fun y c e=>?_,I.free,I.freeC,fun p hp=>?_,tracked ⟨oL,hoL,I.free⟩ hs,by simpa using I.len⟩ ⟨_,hs,.inl rfl⟩
  ·exact(hs.2 b (ne_of_lt (lt_of_lt_of_le (Heap.lt_size e) I.ok.above))).trans (I.base.keep b o e n hb hx)
  ·obtain⟨sl,e1⟩:=I.base.slot b o e n hb hx
   exact⟨sl,(hs.2 b (ne_of_lt (lt_of_lt_of_le (Heap.lt_size e) I.ok.above))).trans e1⟩
  ·obtain⟨o',e1⟩:=I.base.there b o e hx
   exact⟨o',(hs.2 b (ne_of_lt (lt_of_lt_of_le (Heap.lt_size e) I.ok.above))).trans e1⟩
  ·by_cases hj:j=i
   ·subst hj
    rw[hi] at e1;cases e1;rw[List.getElem?_set_self hiσ] at e2;cases e2;exact⟨u,r,.inl ⟨hk,by simp⟩⟩
   ·rw[List.getElem?_set_ne (Ne.symm hj)] at e2
    obtain⟨u',r',q⟩:=hl j y v' e1 e2 e3;refine⟨u',r',?_⟩;rcases q with⟨k,e⟩ | ⟨k,c,e,z⟩
    ·refine .inl ⟨k,?_⟩
     have:y≠x:=fun e=>hj (nodup_ix hN e1 (e ▸ hi));simp[this,e]
    ·exact .inr ⟨k,c,e,z.sameBut hs (cne y c e)⟩
  ·obtain⟨w',z⟩:=I.cell y c e
   exact⟨w',z.sameBut hs (cne y c e)⟩
  ·obtain⟨e,n,ne,nf,d⟩:=I.pin p hp
   exact⟨(hs.2 p.1 ne).trans e,n,ne,nf,d⟩
 ·have hfn:X.fn x=true:=by
   rcases hf with z | z
   ·exact z
   ·rw[z] at hk;cases hk
  obtain⟨c,hc⟩:=I.ok.has x (.inl hk);obtain⟨w',z⟩:=I.cell x c hc;refine wpAny_storeName_cell I.ok.kind hk hc z (fun h' hc' hs=>?_);obtain⟨oc,hoc,hocd⟩:=id z;refine h { s with heap:=h' } ⟨I.ok,I.os,I.bare,⟨fun b o e n hb hx=>?_,fun b o e n hb hx=>?_,I.base.free,fun b o e hx=>?_,I.base.tups,I.base.frzs,I.base.tbls⟩,⟨m,hn.sameBut hs (Ne.symm (cne x c hc)),fun j y v' e1 e2 e3=>?_⟩,fun y c' e=>?_,I.free,I.freeC,fun p hp=>?_,tracked ⟨oc,hoc,I.freeC x c hc⟩ hs,by simpa using I.len⟩ ⟨c,hs,.inr hc⟩
  ·exact(hs.2 b (ne_of_lt (lt_of_lt_of_le (Heap.lt_size e) (I.ok.cab x c hfn hc)))).trans (I.base.keep b o e n hb hx)
  ·obtain⟨sl,e1⟩:=I.base.slot b o e n hb hx
   exact⟨sl,(hs.2 b (ne_of_lt (lt_of_lt_of_le (Heap.lt_size e) (I.ok.cab x c hfn hc)))).trans e1⟩
  ·obtain⟨o',e1⟩:=I.base.there b o e hx
   exact⟨o',(hs.2 b (ne_of_lt (lt_of_lt_of_le (Heap.lt_size e) (I.ok.cab x c hfn hc)))).trans e1⟩
  ·by_cases hj:j=i
   ·subst hj
    rw[hi] at e1;cases e1;rw[List.getElem?_set_self hiσ] at e2;cases e2;exact⟨u,r,.inr ⟨.inl hk,c,hc,hc'⟩⟩
   ·rw[List.getElem?_set_ne (Ne.symm hj)] at e2
    obtain⟨u',r',q⟩:=hl j y v' e1 e2 e3;refine⟨u',r',?_⟩;rcases q with q | ⟨k,c',e,z'⟩
    ·exact .inl q
    ·refine .inr ⟨k,c',e,z'.sameBut hs ?_⟩
     rintro rfl;exact hj (nodup_ix hN e1 (I.ok.inj _ _ _ e hc ▸ hi))
  ·by_cases hcc:c'=c
   ·subst hcc;exact⟨_,hc'⟩
   ·obtain⟨w2,z2⟩:=I.cell y c' e
    exact⟨w2,z2.sameBut hs hcc⟩
  ·obtain⟨e,n,ne,nf,d⟩:=I.pin p hp
   refine⟨(hs.2 p.1 ?_).trans e,n,ne,nf,d⟩;intro q;rw[q,hoc] at e;have q':oc=p.2:=Option.some.inj e;exact d w' (by rw[<- q'];exact hocd)
theorem store_ok{M:Model}{A:Around}{E:Value->Shared->Prop}{i:Nat}{x:Str}{v:V}{u:Value}{Q:Unit->Shared->Prop}(I:Inv X pins σ H s)(hN:X.N.Nodup)(hi:X.N[i]?=some x)(hx:Loc X.env.scope x)(r:RelV v u)
  (h:∀ s',Inv X pins (σ.set i (some v)) H s'->Q () s') (hf:X.fn x=true\/X.env.scope.names.lookup x=some .local:=by first | exact .inl rfl | exact .inr rfl | assumption):wpAny M A (storeName X.env x u) Q E s :=
 W7 I hN hi hx r (fun s' I' _=>h s' I') hf
theorem Inv.call'{s':Shared}{ch:List Addr}(I:Inv X pins σ H s)(ho:s'.os=s.os)(u:Un (frs X.stack) ch H H' s.heap s'.heap)(hok:HOk X.prog X.w H' s'.heap)(hg:AllBare s'.gens)
  (hch:∀ b∈ch,(b∈X.ex\/X.s₀.heap.objs.size<=b)/\b≠X.env.locals/\(∀ x c,X.env.cells.lookup x=some c->c≠b)/\∀ p∈X.pn++pins,p.1≠b):Inv X pins σ H' s':=by
 obtain⟨h',g',d',t',o'⟩:=s';have e:o'=s.os:=ho;subst e;exact I.call (g':=g') (t':=t') (d':=d') u hok hg hch
end
abbrev XK:=Value->Option Addr->Hp->Prop
abbrev St:=List (Option V)
abbrev VK:=V->Hp->Prop
abbrev TE:=St->Hp->VK->Prop
abbrev TT:=St->Hp->(Bool->Hp->Prop)->Prop
abbrev TA:=St->Hp->(List V->Hp->Prop)->Prop
structure Ends where
 nx:St->Hp->Prop
 rt:VK
 bk:St->Hp->Prop:=fun _ _=>False
 ct:St->Hp->Prop:=fun _ _=>False
abbrev TS:=Ends->St->Hp->Prop
def EP(X:Cx)(pins:List (Addr×Obj))(σ:St)(Q:VK)(u:Value)(s':Shared):Prop:=∃ v H',Inv X pins σ H' s'/\RelV v u/\Q v H'
def TP(X:Cx)(pins:List (Addr×Obj))(σ:St)(Q:Bool->Hp->Prop)(b:Bool)(s':Shared):Prop:=∃ H',Inv X pins σ H' s'/\Q b H'
def AP(X:Cx)(pins:List (Addr×Obj))(σ:St)(Q:List V->Hp->Prop)(us:List Value)(s':Shared):Prop:=∃ vs H',Inv X pins σ H' s'/\Vals vs us/\Q vs H'
def SP(X:Cx)(pins:List (Addr×Obj))(D:Ends)(f:Flow)(s':Shared):Prop :=
 match f with
 |.next=>∃ σ' H',Inv X pins σ' H' s'/\D.nx σ' H'
 |.brk=>∃ σ' H',Inv X pins σ' H' s'/\D.bk σ' H'
 |.cont=>∃ σ' H',Inv X pins σ' H' s'/\D.ct σ' H'
 |.ret u=>∃ v σ' H',Inv X pins σ' H' s'/\RelV v u/\D.rt v H'
def PE(X:Cx)(e:Expr)(t:TE):Prop :=
 ∀ (pins:List (Addr×Obj)) (s:Shared) (σ:St) (H:Hp) (Q:VK),Inv X pins σ H s->t σ H Q->wpAny (model X.prog X.w) X.A (eval e X.env) (EP X pins σ Q) X.xe s
def PT(X:Cx)(e:Expr)(t:TT):Prop :=
 ∀ (pins:List (Addr×Obj)) (s:Shared) (σ:St) (H:Hp) (Q:Bool->Hp->Prop),Inv X pins σ H s->t σ H Q->wpAny (model X.prog X.w) X.A (isTrue e X.env (eval e X.env)) (TP X pins σ Q) X.xe s
def PW(X:Cx)(e:Expr)(t:TT):Prop :=
 ∀ (whole:Sem Value) (pins:List (Addr×Obj)) (s:Shared) (σ:St) (H:Hp) (Q:Bool->Hp->Prop),Inv X pins σ H s->t σ H Q->wpAny (model X.prog X.w) X.A (isTrue e X.env whole) (TP X pins σ Q) X.xe s
theorem PW.pt{X:Cx}{e:Expr}{t:TT}(h:PW X e t):PT X e t:=h _
def PA(X:Cx)(es:List Expr)(t:TA):Prop :=
 ∀ (pos:Pos) (pins:List (Addr×Obj)) (s:Shared) (σ:St) (H:Hp) (Q:List V->Hp->Prop),Inv X pins σ H s->t σ H Q->wpAny (model X.prog X.w) X.A (spliced (backTo pos (starEach es X.env))) (AP X pins σ Q) X.xe s
def PS(X:Cx)(st:Stmt)(t:TS):Prop :=
 ∀ (pins:List (Addr×Obj)) (s:Shared) (σ:St) (H:Hp) (D:Ends),Inv X pins σ H s->t D σ H->wpAny (model X.prog X.w) X.A (exec st X.env) (SP X pins D) X.xe s
def PSs(X:Cx)(st:List Stmt)(t:TS):Prop :=
 ∀ (pins:List (Addr×Obj)) (s:Shared) (σ:St) (H:Hp) (D:Ends),Inv X pins σ H s->t D σ H->wpAny (model X.prog X.w) X.A (execs st X.env) (SP X pins D) X.xe s
theorem thn{α:Type}{t:Sem α}{Q Q':α->Shared->Prop}{M:Model}{A:Around}{E:Value->Shared->Prop}{s:Shared}(h:wpAny M A t Q E s)(hQ:∀ a s,Q a s->Q' a s):wpAny M A t Q' E s:=wpAny_mono h hQ fun _ _ x=>x
section
variable {X:Cx}
theorem bin{a b:Expr}{ta tb:TE}(ha:PE X a ta)(hb:PE X b tb){pins:List (Addr×Obj)}{s:Shared}{σ:St}{H:Hp}{R:V->V->Hp->Prop}(I:Inv X pins σ H s)(h:ta σ H fun x H1=>tb σ H1 fun y H2=>R x y H2)
  {α:Type}{Q:α->Shared->Prop}{f:Value->Value->Sem α}
  (hf:∀ v u s2 x y H2,Inv X pins σ H2 s2->RelV x v->RelV y u->R x y H2->wpAny (model X.prog X.w) X.A (f v u) Q X.xe s2) :
  wpAny (model X.prog X.w) X.A (eval a X.env) (fun v s₁=>wpAny (model X.prog X.w) X.A (eval b X.env) (fun u s₂=>wpAny (model X.prog X.w) X.A (f v u) Q X.xe s₂) X.xe s₁) X.xe s:=by
 refine thn (ha pins s σ H _ I h) fun v s1 hq0=>?_;obtain⟨x,H1,I1,r1,q1⟩:=hq0;refine thn (hb pins s1 σ H1 _ I1 q1) fun u s2 hq0=>?_;obtain⟨y,H2,I2,r2,q2⟩:=hq0;exact hf v u s2 x y H2 I2 r1 r2 q2
def yV(i:Nat):TE:=fun σ H Q=>∃ v,σ[i]?=some (some v)/\Q v H
def tC(v:V):TE:=fun _ H Q=>Q v H
theorem zd0{i:Nat}{x:Str}{pos:Pos}(hN:X.N[i]?=some x)(hv:Vis X.env.scope x)(hd:(x == ("__debug__" : Str))=false:=by decide)(hcd:(x == ("__classdict__" : Str))=false:=by decide):PE X (.Name x pos) (yV i):=by
 intro pins s σ H Q I h;obtain⟨v,e,h⟩:=h;obtain⟨m,hn,hl⟩:=I.loc;obtain⟨u,r,l⟩:=hl i x v hN e hv;have fin:EP X pins σ Q u s:=⟨v,H,I,r,h⟩;rcases l with⟨hk,hm⟩ | ⟨hk,c,hc,hcell⟩
 ·exact wpAny_Name (wpAny_loadName_local I.ok.kind hk hn hm fin) hd
 ·rcases hk with hk | hk
  ·exact wpAny_Name (wpAny_loadName_cell I.ok.kind hk hc hcell fin) hd
  ·exact wpAny_Name (wpAny_loadName_free I.ok.kind hk hc hcell fin hcd) hd
theorem wg{i j pos}:PE X (.Constant (.int i) j pos) (tC (.int i)):=fun _ _ _ H _ I h=>wpAny_Constant_int ⟨.int i,H,I.tok _,⟨_,rfl⟩,h⟩
theorem uf{b j pos}:PE X (.Constant (.bool b) j pos) (tC (.bl b)):=fun _ _ _ H _ I h=>Constant_bool ⟨.bl b,H,I,rfl,h⟩
theorem zJ{j pos}:Bx (PE X (.Constant .none j pos) (tC .non)):=by
 exact⟨fun _ _ _ H _ I h=>Constant_none ⟨.non,H,I,rfl,h⟩⟩
theorem ZQ{x j pos}:PE X (.Constant (.str x) j pos) (tC (.str x)):=fun _ _ _ H _ I h=>Calls.Constant_str ⟨.str x,H,I.tok _,⟨_,rfl⟩,h⟩
def Gl(X:Cx)(x:Str):Prop:=X.env.kindOf x=some .globalImplicit
theorem ld_glob{E:Value->Shared->Prop}{pins:List (Addr×Obj)}{s:Shared}{σ:St}{H:Hp}{x:Str}{u:Value}{pos:Pos}{Q:Value->Shared->Prop}(I:Inv X pins σ H s)(hg:Gl X x)(hm:X.mg x=some u)(h:Q u s)
  (hd:(x == ("__debug__" : Str))=false:=by decide):wpAny (model X.prog X.w) X.A (eval (.Name x pos) X.env) Q E s :=
 Calls.Name_function_global I.ok.kind hg (Calls.loadGlobal_global (by rw[I.ok.glob];exact I.mod.glob.keeps I.bk) hm h) hd
theorem ld_blt{E:Value->Shared->Prop}{pins:List (Addr×Obj)}{s:Shared}{σ:St}{H:Hp}{x:Str}{u:Value}{pos:Pos}{Q:Value->Shared->Prop}(I:Inv X pins σ H s)(hg:Gl X x)(hm:X.mg x=none)(hv:bootBuiltins x=some u)(h:Q u s)
  (hn:x ≠ "__name__" := by decide) (hd:(x == ("__debug__" : Str))=false:=by decide):wpAny (model X.prog X.w) X.A (eval (.Name x pos) X.env) Q E s:=by
 obtain⟨mb,h1,h2⟩:=I.mod.blt;exact Calls.Name_function_global I.ok.kind hg (Calls.loadGlobal_builtin (by rw[I.ok.glob];exact I.mod.glob.keeps I.bk) hm (by rw[I.ok.blt];exact h1.keeps I.bk) ((h2 x hn).trans hv) h) hd
theorem xj{x:Str}{v:V}{u:Value}{pos:Pos}(hg:Gl X x)(hm:X.mg x=some u)(r:RelV v u)(hd:(x == ("__debug__" : Str))=false:=by decide):PE X (.Name x pos) (tC v) :=
 fun _ _ _ H _ I h=>ld_glob I hg hm ⟨v,H,I,r,h⟩ hd
theorem zb6{x:Str}{v:V}{u:Value}{pos:Pos}(hg:Gl X x)(hm:X.mg x=none)(hv:bootBuiltins x=some u)(r:RelV v u)(hn:x ≠ "__name__" := by decide)(hd:(x == ("__debug__" : Str))=false:=by decide):PE X (.Name x pos) (tC v) :=
 fun _ _ _ H _ I h=>ld_blt I hg hm hv ⟨v,H,I,r,h⟩ hn hd
variable {a b:Expr}{ta tb:TE}{pos:Pos}
def PC(X:Cx)(op:CmpOp)(a b:Expr)(t:TE):Prop :=
 ∀ (pins:List (Addr×Obj)) (s:Shared) (σ:St) (H:Hp) (Q:VK),Inv X pins σ H s->t σ H Q ->
  wpAny (model X.prog X.w) X.A (eval a X.env) (fun v s₁=>wpAny (model X.prog X.w) X.A (eval b X.env) (fun u s₂=>wpAny (model X.prog X.w) X.A (compareOp op v u) (EP X pins σ Q) X.xe s₂) X.xe s₁) X.xe s
def tB(t:TE):TT:=fun σ H Q=>t σ H fun x H1=>∃ c,x=.bl c/\Q c H1
theorem UJ{op:CmpOp}{t:TE}(h:Bx (PC X op a b t))(h1:behindInMarks op b=false:=by first | exact nobehind _ (by decide) (by decide) | rfl):Bx (PE X (.Compare a [op] [b] pos) t):=by
 have h:=h.of;exact⟨fun pins s σ H Q I hw=>wpAny_Compare1 (h pins s σ H Q I hw) h1⟩
theorem za9{op:CmpOp}{t:TE}(h:PC X op a b t)(h1:behindInMarks op b=false:=by first | exact nobehind _ (by decide) (by decide) | rfl):PT X (.Compare a [op] [b] pos) (tB t):=by
 intro pins s σ H Q I hw;refine wpAny_isTrue_Compare1 (thn (h pins s σ H _ I hw) fun v s1 h1=>thn h1 fun u s2 h2=>thn h2 fun c s3 hq0=>?_) h1;obtain⟨x,H1,I1,r1,q1⟩:=hq0;obtain⟨d,rfl,q⟩:=q1;cases r1;exact wpAny_truthy_bool ⟨H1,I1,q⟩
theorem xP{e:Expr}{t:TE}(h:PE X e t)(he:∀ whole,isTrue e X.env whole=(do let v <- whole;standAt e.pos;holding [v] (truthy v)):=by intro _;rfl):PT X e (tB t):=by
 intro pins s σ H Q I hw;refine isTrue_plain (thn (h pins s σ H _ I hw) fun v s1 hq0=>?_) (he _);obtain⟨x,H1,I1,r1,q1⟩:=hq0;obtain⟨d,rfl,q⟩:=q1;cases r1;exact wpAny_truthy_bool ⟨H1,I1,q⟩
variable {tA tB':TT}{rest:List Expr}
def zfj(t u:TT):TT:=fun σ H Q=>t σ H fun c H1=>if c=true then u σ H1 Q else Q false H1
def tOr(t u:TT):TT:=fun σ H Q=>t σ H fun c H1=>if c=true then Q true H1 else u σ H1 Q
def zfg(t:TT):TT:=fun σ H Q=>t σ H fun c H1=>Q (!c) H1
theorem yw(ha:Bx (PT X a tA)):Bx (PW X (.BoolOp .And [a] pos) tA):=by
 have ha:=ha.of;refine⟨?_⟩;intro wh pins s σ H Q I h;refine isTrue_and (thn (ha pins s σ H Q I h) fun c s1 e=>?_);cases c with
 |true=>exact isTrue_and_nil e
 |false=>exact e
theorem uu(ha:PT X a tA):PW X (.BoolOp .Or [a] pos) tA:=by
 intro wh pins s σ H Q I h;refine isTrue_or (thn (ha pins s σ H Q I h) fun c s1 e=>?_);cases c with
 |false=>exact isTrue_or_nil e
 |true=>exact e
theorem yB(ha:Bx (PT X a tA))(hb:Bx (PW X (.BoolOp .And (b::rest) pos) tB')):Bx (PW X (.BoolOp .And (a::b::rest) pos) (zfj tA tB')):=by
 have ha:=ha.of;have hb:=hb.of;refine⟨?_⟩;intro wh pins s σ H Q I h;refine isTrue_and (thn (ha pins s σ H _ I h) fun c s1 hq0=>?_);obtain⟨H1,I1,q1⟩:=hq0;cases c with
 |true=>exact hb wh pins s1 σ H1 Q I1 q1
 |false=>exact⟨H1,I1,q1⟩
theorem ZL(ha:PT X a tA)(hb:PW X (.BoolOp .Or (b::rest) pos) tB'):PW X (.BoolOp .Or (a::b::rest) pos) (tOr tA tB'):=by
 intro wh pins s σ H Q I h;refine isTrue_or (thn (ha pins s σ H _ I h) fun c s1 hq0=>?_);obtain⟨H1,I1,q1⟩:=hq0;cases c with
 |true=>exact⟨H1,I1,q1⟩
 |false=>exact hb wh pins s1 σ H1 Q I1 q1
theorem xQ(ha:PT X a tA):PT X (.UnaryOp .Not a pos) (zfg tA):=by
 intro pins s σ H Q I h;exact isTrue_not (ha pins s σ H (fun c H1=>Q (!c) H1) I h)
def tAndV(ta tb:TE):TE:=fun σ H Q=>ta σ H fun x H1=>∃ c,x=.bl c/\if c=true then tb σ H1 Q else Q (.bl false) H1
def zgO(ta tb:TE):TE:=fun σ H Q=>ta σ H fun x H1=>∃ c,x=.bl c/\if c=true then Q (.bl true) H1 else tb σ H1 Q
def zdB(ta:TE):TE:=fun σ H Q=>ta σ H fun x H1=>∃ c,x=.bl c/\Q (.bl (!c)) H1
theorem Vw{op}{t:TE}(h:PE X a t):PE X (.BoolOp op [a] pos) t:=fun pins s σ H Q I hw=>BoolOp_one (h pins s σ H Q I hw)
theorem XD(ha:PE X a ta)(hb:PE X (.BoolOp .And (b::rest) pos) tb):PE X (.BoolOp .And (a::b::rest) pos) (tAndV ta tb):=by
 intro pins s σ H Q I h;refine BoolOp_and (thn (ha pins s σ H _ I h) fun v s1 hq0=>?_);obtain⟨x,H1,I1,r1,q1⟩:=hq0;obtain⟨c,rfl,q1⟩:=q1;cases r1;refine wpAny_truthy_bool ?_;cases c with
 |true=>exact hb pins s1 σ H1 Q I1 q1
 |false=>exact⟨.bl false,H1,I1,rfl,q1⟩
theorem WM(ha:Bx (PE X a ta))(hb:Bx (PE X (.BoolOp .Or (b::rest) pos) tb)):Bx (PE X (.BoolOp .Or (a::b::rest) pos) (zgO ta tb)):=by
 have ha:=ha.of;have hb:=hb.of;refine⟨?_⟩;intro pins s σ H Q I h;refine BoolOp_or (thn (ha pins s σ H _ I h) fun v s1 hq0=>?_);obtain⟨x,H1,I1,r1,q1⟩:=hq0;obtain⟨c,rfl,q1⟩:=q1;cases r1;refine wpAny_truthy_bool ?_;cases c with
 |false=>exact hb pins s1 σ H1 Q I1 q1
 |true=>exact⟨.bl true,H1,I1,rfl,q1⟩
theorem zbc(ha:PE X a ta):PE X (.UnaryOp .Not a pos) (zdB ta):=by
 intro pins s σ H Q I h;refine UnaryOp_ (thn (ha pins s σ H _ I h) fun v s1 hq0=>?_);obtain⟨x,H1,I1,r1,q1⟩:=hq0;obtain⟨c,rfl,q1⟩:=q1;cases r1;exact not_of (wpAny_truthy_bool ⟨.bl (!c),H1,I1,rfl,q1⟩)
def tIf(t:TT)(ta tb:TE):TE:=fun σ H Q=>t σ H fun c H1=>if c=true then ta σ H1 Q else tb σ H1 Q
theorem yQ{c:Expr}(hc:Bx (PT X c tA))(ha:Bx (PE X a ta))(hb:Bx (PE X b tb)):Bx (PE X (.IfExp c a b pos) (tIf tA ta tb)):=by
 have hc:=hc.of;have ha:=ha.of;have hb:=hb.of;refine⟨?_⟩;intro pins s σ H Q I h;refine wpAny_IfExp (thn (hc pins s σ H _ I h) fun d s1 hq0=>?_);obtain⟨H1,I1,q1⟩:=hq0;cases d with
 |true=>exact ha pins s1 σ H1 Q I1 q1
 |false=>exact hb pins s1 σ H1 Q I1 q1
end
def SqL(K:W.Frag)(H:Hp)(a:Addr)(xs:List V):Prop :=
 Rd H a (.lst xs) \/
  ∃ (o:Obj) (its:Array Value) (n:Nat),K.lookup a=some o/\o.cls=.type "list" /\ o.dict=none/\o.data=.seq its n/\its.size<=sizeLine/\Vals xs its.toList
def SqT(K:W.Frag)(H:Hp)(a:Addr)(xs:List V):Prop :=
 Rd H a (.tup xs) \/
  ∃ (o:Obj) (its:Array Value) (n:Nat),K.lookup a=some o/\o.cls=.type "tuple" /\ o.data=.seq its n/\its.size<=sizeLine/\Vals xs its.toList
noncomputable def zhr:Value->Option V
 |.none=>some .non
 |.bool b=>some (.bl b)
 |.int i _=>some (.int i)
 |.str x _=>some (.str x)
 |.bytes b _=>some (.byt b)
 |.float b _=>some (.flt b)
 |.ref a=>some (.ref a)
 |.type n=>some (.ty n)
 |_=>none
theorem RelV.abs{x:V}{u:Value}(r:RelV x u):zhr u=some x:=by
 cases x with
 |non=>cases r;rfl
 |bl _=>cases r;rfl
 |int _=>obtain⟨t,rfl⟩:=r;rfl
 |str _=>obtain⟨t,rfl⟩:=r;rfl
 |byt _=>obtain⟨t,rfl⟩:=r;rfl
 |flt _=>obtain⟨t,rfl⟩:=r;rfl
 |ref _=>cases r;rfl
 |ty _=>cases r;rfl
theorem RelV.inj{x y:V}{u:Value}(r:RelV x u)(q:RelV y u):x=y:=Option.some.inj (r.abs.symm.trans q.abs)
theorem Vals.inj:∀ {xs ys:List V}{us:List Value},Vals xs us->Vals ys us->xs=ys
 |_,_,_,.nil,.nil=>rfl
 |_,_,_,.cons r t,.cons r' t'=>by rw[r.inj r',Vals.inj t t']
section
variable {X:Cx}{pins:List (Addr×Obj)}{σ:St}{H:Hp}{s:Shared}{a:Addr}{xs ys:List V}
theorem sO{K:W.Frag}(h:H a=some (.lst xs)):SqL K H a xs:=.inl (.inl h)
theorem sP{K:W.Frag}(h:H a=some (.tup xs)):SqT K H a xs:=.inl (.inl h)
theorem Inv.list(I:Inv X pins σ H s)(h:SqL X.K H a xs):∃ its:List Value,Vals xs its/\PlainL s.heap a its.toArray/\xs.length<=sizeLine:=by
 rcases h with h | ⟨o,its,n,hk,hc,hd,hs,hz,r⟩
 ·obtain⟨z,its,n,r,e⟩:=h.ok I.hok
  exact⟨its,r,⟨_,n,e,rfl,rfl,rfl⟩,z⟩
 ·refine⟨its.toList,r,⟨o,n,I.kIn a o hk,hc,hd,by simpa using hs⟩,?_⟩
  have e:=r.length;simp only[length_toList] at e;omega
theorem Inv.tuple(I:Inv X pins σ H s)(h:SqT X.K H a xs):∃ its:List Value,Vals xs its/\IsTup s.heap a its.toArray/\xs.length<=sizeLine:=by
 rcases h with h | ⟨o,its,n,hk,hc,hs,hz,r⟩
 ·obtain⟨z,its,r,p⟩:=h.ok I.hok
  exact⟨its,r,p,z⟩
 ·refine⟨its.toList,r,⟨o,I.kIn a o hk,hc,n,by simpa using hs⟩,?_⟩
  have e:=r.length;simp only[length_toList] at e;omega
theorem Inv.list_inj(I:Inv X pins σ H s)(h:SqL X.K H a xs)(h':SqL X.K H a ys):xs=ys:=by
 obtain⟨its,r,⟨o,n,e,_,_,d⟩,_⟩:=I.list h;obtain⟨its',r',⟨o',n',e',_,_,d'⟩,_⟩:=I.list h';rw[e] at e';cases e';rw[d] at d';injection d' with d1 _;have:its=its':=by simpa using congrArg Array.toList d1
 subst this;exact r.inj r'
theorem Inv.tuple_inj(I:Inv X pins σ H s)(h:SqT X.K H a xs)(h':SqT X.K H a ys):xs=ys:=by
 obtain⟨its,r,⟨o,e,_,n,d⟩,_⟩:=I.tuple h;obtain⟨its',r',⟨o',e',_,n',d'⟩,_⟩:=I.tuple h';rw[e] at e';cases e';rw[d] at d';injection d' with d1 _;have:its=its':=by simpa using congrArg Array.toList d1
 subst this;exact r.inj r'
end
noncomputable abbrev Cx.wish(X:Cx)(E:Value->Shared->Prop):Cx:={ X with xe:=E }
noncomputable abbrev Cx.nox(X:Cx):Cx:=X.wish fun _ _=>False
theorem Cx.Ok.wish{X:Cx}(ok:X.Ok)(E:Value->Shared->Prop):(X.wish E).Ok :=
 ⟨ok.mod,ok.kind,ok.glob,ok.blt,ok.above,ok.inj,ok.has,ok.cab,ok.hd,ok.frames,ok.stk,ok.exf,ok.bs,ok.bsz,ok.noex,ok.exfs,ok.funs,ok.frf⟩
theorem Cx.Ok.unwish{X:Cx}{E:Value->Shared->Prop}(ok:(X.wish E).Ok):X.Ok :=
 ⟨ok.mod,ok.kind,ok.glob,ok.blt,ok.above,ok.inj,ok.has,ok.cab,ok.hd,ok.frames,ok.stk,ok.exf,ok.bs,ok.bsz,ok.noex,ok.exfs,ok.funs,ok.frf⟩
section
variable {X:Cx}{pins:List (Addr×Obj)}{σ:St}{H:Hp}{s:Shared}{E:Value->Shared->Prop}
theorem Inv.wish(I:Inv X pins σ H s)(E:Value->Shared->Prop):Inv (X.wish E) pins σ H s:=⟨I.ok.wish E,I.os,I.bare,I.base,I.loc,I.cell,I.free,I.freeC,I.pin,I.hok,I.len⟩
theorem Inv.unwish(I:Inv (X.wish E) pins σ H s):Inv X pins σ H s:=⟨I.ok.unwish,I.os,I.bare,I.base,I.loc,I.cell,I.free,I.freeC,I.pin,I.hok,I.len⟩
theorem SP.unwish{D:Ends}{f:Flow}{s':Shared}(h:SP (X.wish E) pins D f s'):SP X pins D f s':=by
 cases f with
 |next=>obtain⟨σ',H',I,q⟩:=h;exact⟨σ',H',I.unwish,q⟩
 |brk=>obtain⟨σ',H',I,q⟩:=h;exact⟨σ',H',I.unwish,q⟩
 |cont=>obtain⟨σ',H',I,q⟩:=h;exact⟨σ',H',I.unwish,q⟩
 |ret u=>obtain⟨v,σ',H',I,r,q⟩:=h;exact⟨v,σ',H',I.unwish,r,q⟩
theorem PSs.nox{st:List Stmt}{t:TS}(h:PSs X.nox st t):PSs X st t:=fun pins s σ H D I hw =>
 wpAny_mono (h pins s σ H D (I.wish _) hw) (fun _ _ q=>q.unwish) fun _ _ z=>False.elim z
end
section
variable {X:Cx}{st:Stmt}{rest:List Stmt}{t u:TS}{e:Expr}{te:TE}{pos:Pos}
def W6:TS:=fun D σ H=>D.nx σ H
def UP(t u:TS):TS:=fun D σ H=>t { D with nx:=u D } σ H
theorem xh:PSs X [] W6:=fun _ _ σ H _ I h=>wpAny_execs_nil ⟨σ,H,I,h⟩
theorem zS(h1:PS X st t)(h2:PSs X rest u):PSs X (st::rest) (UP t u):=by
 intro pins s σ H D I h;refine wpAny_execs_cons (thn (h1 pins s σ H { D with nx:=u D } I h) fun f s1 q=>?_);cases f with
 |next =>
  obtain⟨σ',H',I',q⟩:=q;exact h2 pins s1 σ' H' D I' q
 |ret v=>exact q
 |brk=>exact q
 |cont=>exact q
theorem yg(h1:PS X st t):PSs X [st] t:=by
 intro pins s σ H D I h;refine wpAny_execs_cons (thn (h1 pins s σ H D I h) fun f s1 q=>?_);cases f with
 |next=>exact wpAny_execs_nil q
 |ret v=>exact q
 |brk=>exact q
 |cont=>exact q
theorem Inv.quiet{pins:List (Addr×Obj)}{σ:St}{H:Hp}{s:Shared}(I:Inv X pins σ H s):interactive X.env=false:=by simp[interactive,I.ok.kind]
def UR(te:TE):TS:=fun D σ H=>te σ H fun _ H1=>D.nx σ H1
theorem YF(he:PE X e te)(hs:swapsWith e none pos.line X.env=pure false:=by rfl):PS X (.Expr e pos) (UR te):=by
 intro pins s σ H D I h;exact wpAny_Expr_any (thn (he pins s σ H _ I h) fun v s1 ⟨x,H1,I1,r1,q1⟩=>⟨σ,H1,I1,q1⟩) I.quiet hs
def zdA(te:TE):TS:=fun D σ H=>te σ H D.rt
theorem xx(he:PE X e te):PS X (.Return (some e) pos) (zdA te):=by
 intro pins s σ H D I h;exact wpAny_Return_some (thn (he pins s σ H _ I h) fun v s1 ⟨x,H1,I1,r1,q1⟩=>⟨x,σ,H1,I1,r1,q1⟩)
def zc6(c:TT)(t u:TS):TS:=fun D σ H=>c σ H fun b H1=>if b=true then t D σ H1 else u D σ H1
theorem vJ{c:Expr}{a b:List Stmt}{tc:TT}(hc:PT X c tc)(ha:PSs X a t)(hb:PSs X b u):PS X (.If c a b pos) (zc6 tc t u):=by
 intro pins s σ H D I h;refine wpAny_If (thn (hc pins s σ H _ I h) fun d s1 hq0=>?_);obtain⟨H1,I1,q1⟩:=hq0;cases d with
 |true=>exact ha pins s1 σ H1 D I1 q1
 |false=>exact hb pins s1 σ H1 D I1 q1
end
abbrev TG:=V->St->Hp->(St->Hp->Prop)->Prop
abbrev TGs:=List V->St->Hp->(St->Hp->Prop)->Prop
def PG(X:Cx)(target:Expr)(t:TG):Prop :=
 ∀ (pins:List (Addr×Obj)) (s:Shared) (σ:St) (H:Hp) (v:V) (u:Value) (Q:St->Hp->Prop),Inv X pins σ H s->RelV v u->t v σ H Q ->
  wpAny (model X.prog X.w) X.A (assign target X.env u) (fun _ s'=>∃ σ' H',Inv X pins σ' H' s'/\Q σ' H') X.xe s
def PGs(X:Cx)(ts:List Expr)(t:TGs):Prop :=
 ∀ (pins:List (Addr×Obj)) (s:Shared) (σ:St) (H:Hp) (vs:List V) (us:List Value) (Q:St->Hp->Prop),Inv X pins σ H s->Vals vs us->t vs σ H Q ->
  wpAny (model X.prog X.w) X.A (assignInOrder ((assignEach ts X.env).map (·.2)) us) (fun _ s'=>∃ σ' H',Inv X pins σ' H' s'/\Q σ' H') X.xe s
abbrev ze8:=V->V->V->Hp->(Hp->Prop)->Prop
def zf4(X:Cx)(t:ze8):Prop :=
 ∀ (pins:List (Addr×Obj)) (s:Shared) (σ:St) (H:Hp) (o i v:V) (ov iv u:Value) (Q:Hp->Prop),Inv X pins σ H s->RelV o ov->RelV i iv->RelV v u->t o i v H Q ->
  wpAny (model X.prog X.w) X.A (setItem ov iv u) (fun _ s'=>∃ H',Inv X pins σ H' s'/\Q H') X.xe s
section
variable {X:Cx}{pos:Pos}
def Yg(i:Nat):TG:=fun v σ H Q=>Q (σ.set i (some v)) H
theorem wt{i:Nat}{x:Str}(hN:X.N.Nodup)(hi:X.N[i]?=some x)(hx:Loc X.env.scope x)(hf:X.fn x=true\/X.env.scope.names.lookup x=some .local:=by first | exact .inl rfl | exact .inr rfl | assumption):PG X (.Name x pos) (Yg i):=by
 intro pins s σ H v u Q I r h;exact wpAny_assign_Name (store_ok I hN hi hx r (fun s' I'=>⟨_,H,I',h⟩) hf)
def gNil:TGs:=fun vs σ H Q=>vs=[]/\Q σ H
def zeJ(t:TG)(u:TGs):TGs:=fun vs σ H Q=>∃ v r,vs=v::r/\t v σ H fun σ' H'=>u r σ' H' Q
theorem Vu:PGs X [] gNil:=by
 intro pins s σ H vs us Q I r h;obtain⟨e,h⟩:=h;subst e;cases r;exact assignInOrder_nil ⟨σ,H,I,h⟩
theorem u5{e:Expr}{es:List Expr}{t:TG}{u:TGs}(h1:PG X e t)(h2:PGs X es u)
  (hs:(assignEach (e::es) X.env).map (·.2)=assign e X.env::(assignEach es X.env).map (·.2):=by rfl):PGs X (e::es) (zeJ t u):=by
 intro pins s σ H vs us Q I r h;obtain⟨v,vr,e1,h⟩:=h;subst e1;cases r with
 |cons r rr =>
  rw[hs];refine assignInOrder_cons (thn (h1 pins s σ H _ _ _ I r h) fun _ s1 hq0=>?_);obtain⟨σ1,H1,I1,q1⟩:=hq0;exact h2 pins s1 σ1 H1 _ _ Q I1 rr q1
def zgD(K:W.Frag)(n:Nat)(t:TGs):TG:=fun v σ H Q=>∃ a xs,v=.ref a/\SqT K H a xs/\xs.length=n/\t xs σ H Q
theorem zbb{es:List Expr}{k:Nat}{t:TGs}{n:Nat}(hc:X.calm=true)(h:PGs X es t)
  (hn:(assignEach es X.env).length=n:=by rfl) (hst:(assignEach es X.env).findIdx? (·.1)=none:=by rfl):PG X (.Tuple es k pos) (zgD X.K n t):=by
 intro pins s σ H v u Q I r hw;obtain⟨a,xs,e1,hq,hl,hw⟩:=hw;subst e1;cases r;obtain⟨its,rv,ht,hz⟩:=I.tuple hq;refine assign_Tuple_tuple (I.ok.hd hc) ht (by simp[hn,<- hl,rv.length]) hst fun h' hx=>?_;have I1:Inv X pins σ H { s with heap:=h' }:=I.kept (t':=s.toks) fun b o e=>hx b o (ne_of_lt (Heap.lt_size e)) e;exact h pins _ σ H xs _ Q I1 (by simpa using rv) hw
def zgE(to ti:TE)(t:ze8):TG:=fun v σ H Q=>to σ H fun o H1=>ti σ H1 fun i H2=>t o i v H2 fun H3=>Q σ H3
theorem zdZ{o i:Expr}{to ti:TE}{t:ze8}(ho:PE X o to)(hi:PE X i ti)(hs:zf4 X t)
  (ha:∀ v,assign (.Subscript o i pos) X.env v=(do
   let ov <- holding [v] (eval o X.env)
   let iv <- holding [v,ov] (eval i X.env)
   standAt pos
   holding [v,ov,iv] (setItem ov iv v)
   release [v,ov,iv] []):=by intro _;rfl):PG X (.Subscript o i pos) (zgE to ti t):=by
 intro pins s σ H v u Q I r h;rw[ha];refine wpAny_bind (wpAny_holding (thn (ho pins s σ H _ I h) fun ov s1 hq0=>?_));obtain⟨x,H1,I1,r1,q1⟩:=hq0;refine wpAny_bind (wpAny_holding (thn (hi pins s1 σ H1 _ I1 q1) fun iv s2 hq0=>?_));obtain⟨y,H2,I2,r2,q2⟩:=hq0;refine wpAny_bind (wpAny_standAt (wpAny_bind (wpAny_holding (thn (hs pins s2 σ H2 x y v ov iv u _ I2 r1 r2 r q2) fun _ s3 hq0=>?_))));obtain⟨H3,I3,q3⟩:=hq0;exact wpAny_release ⟨σ,H3,I3,q3⟩
def zc7(te:TE)(g:TG):TS:=fun D σ H=>te σ H fun x H1=>g x σ H1 D.nx
theorem vd{tg e:Expr}{te:TE}{g:TG}(he:Bx (PE X e te))(hg:Bx (PG X tg g))(hs:swapsWithSole [tg] e pos.line X.env=pure false:=by rfl)(hw:swappedStores [tg] e X.env=pure none:=by rfl)(h1:(assignEach [tg] X.env).map (·.2)=[assign tg X.env]:=by rfl):Bx (PS X (.Assign [tg] e pos) (zc7 te g)):=by
 have he:=he.of;have hg:=hg.of;refine⟨?_⟩;intro pins s σ H D I h;refine wpAny_Assign_stores (thn (he pins s σ H _ I h) fun v s1 hq0=>?_) hs hw;obtain⟨x,H1,I1,r1,q1⟩:=hq0;rw[h1];exact thn (hg pins s1 σ H1 x v _ I1 r1 q1) fun _ s2 q=>q
theorem ZM{i:Nat}{x:Str}{e:Expr}{te:TE}{pos':Pos}(hN:X.N.Nodup)(hi:X.N[i]?=some x)(hx:Loc X.env.scope x)(he:PE X e te)(hs:swapsWith e (some (.Name x pos')) pos.line X.env=pure false:=by rfl)(hf:X.fn x=true\/X.env.scope.names.lookup x=some .local:=by first | exact .inl rfl | exact .inr rfl | assumption) :
  PS X (.Assign [.Name x pos'] e pos) (zc7 te (Yg i)):=by
 intro pins s σ H D I h;refine wpAny_Assign_Name (thn (he pins s σ H _ I h) fun v s1 hq0=>?_) hs;obtain⟨y,H1,I1,r1,q1⟩:=hq0;exact store_ok I1 hN hi hx r1 (fun s2 I2=>⟨_,H1,I2,q1⟩) hf
def zdx(c:TT)(tb:TS):TS:=fun D σ H=>∃ W:Nat->St->Hp->Prop,(∃ m,W m σ H)/\∀ m σ H,W m σ H ->
 c σ H fun b H1=>if b=true then ∃ N:St->Hp->Prop,(∀ σ' H',N σ' H'->∃ m',m'<m/\W m' σ' H')/\tb { D with nx:=N,ct:=N,bk:=D.nx } σ H1 else D.nx σ H1
theorem X8{c:Expr}{body:List Stmt}{tc:TT}{tb:TS}(hp:PassesOwn (model X.prog X.w) X.A X.env X.xe)(hc:Bx (PT X c tc))(hb:Bx (PSs X body tb)):Bx (PS X (.While c body [] pos) (zdx tc tb)):=by
 have hc:=hc.of;have hb:=hb.of;refine⟨?_⟩;intro pins s σ H D I h;obtain⟨W,⟨m0,w0⟩,turn⟩:=h;refine wpAny_While (codeAny_whileLoop (fun n s'=>∃ σ' H',Inv X pins σ' H' s'/\W n σ' H') ?_ m0 ⟨σ,H,I,w0⟩);rintro n s1 ⟨σ1,H1,I1,w1⟩;refine wpAny_passesOwn hp (thn (hc pins s1 σ1 H1 _ I1 (turn n σ1 H1 w1)) fun b s2 hq0=>?_);obtain⟨H2,I2,q2⟩:=hq0;cases b with
 |true =>
  obtain⟨N,hN,q2⟩:=q2;rw[if_pos rfl];refine wpAny_passesOwn hp (thn (hb pins s2 σ1 H2 _ I2 q2) fun f s3 q3=>?_);cases f with
  |next =>
   obtain⟨σ3,H3,I3,n3⟩:=q3;obtain⟨m',hm,w3⟩:=hN σ3 H3 n3;exact⟨m',hm,σ3,H3,I3,w3⟩
  |cont =>
   obtain⟨σ3,H3,I3,n3⟩:=q3;obtain⟨m',hm,w3⟩:=hN σ3 H3 n3;exact⟨m',hm,σ3,H3,I3,w3⟩
  |brk=>exact q3
  |ret v=>exact q3
 |false =>
  rw[if_neg Bool.false_ne_true];exact wpAny_execs_nil ⟨σ1,H2,I2,q2⟩
end
structure It where
 go:Nat->Hp->Prop
 yld:Nat->Hp->V->Hp->Prop
 stop:Nat->Hp->Prop
def FpOk(X:Cx)(pins:List (Addr×Obj))(H:Hp)(b:Addr):Prop :=
 H b=none/\b≠X.env.locals/\b∉X.fs/\(b∈X.ex\/X.s₀.heap.objs.size<=b)/\(∀ x c,X.env.cells.lookup x=some c->c≠b)/\∀ p∈X.pn++pins,p.1≠b
theorem Inv.fpOk{X:Cx}{pins:List (Addr×Obj)}{σ:St}{H H':Hp}{s:Shared}{b:Addr}(I:Inv X pins σ H s)(hb:s.heap.objs.size<=b)(hn:H' b=none):FpOk X pins H' b:=by
 refine⟨hn,Nat.ne_of_gt (lt_of_lt_of_le I.lt hb),I.nofs hb,.inr (le_trans I.sz hb),fun x c e z=>?_,fun p hp z=>?_⟩
 ·obtain⟨v,q⟩:=I.cell x c e
  exact absurd (lt_of_lt_of_le q.lt (by rw[z];exact hb)) (lt_irrefl _)
 ·exact absurd (lt_of_lt_of_le (Heap.lt_size (I.pin p hp).1) (by rw[z];exact hb)) (lt_irrefl _)
structure Turn (P:Program) (w:World) (K:W.Frag) (tg:Expr) (J:It) (fp:List Addr) (it:Addr) (tn:Nat->Heap->Prop):Prop where
 mem:it∈fp
 obj:∀ i h,tn i h->∀ b∈fp,∃ o,h.get? b=some o/\∀ v,o.data≠.cell v
 keep:∀ i h h',tn i h->(∀ b∈fp,∀ o,h.get? b=some o->h'.get? b=some o)->tn i h'
 item:∀ (X:Cx),X.prog=P->X.w=w->X.K=K->X.calm=true->∀ (i:Nat) (pins:List (Addr×Obj)) (s:Shared) (σ:St) (H:Hp) (E:Value->Shared->Prop),Inv X pins σ H s->(∀ b∈fp,FpOk X pins H b)->tn i s.heap->J.go i H ->
  wpAny (model P w) X.A (pyNext (.ref it)) (fun r s1=>∃ u,r=some u /\
   wpAny (model P w) X.A (letOwnedTupleGo tg (.ref it) u) (fun _ s2=>∃ x H',Inv X pins σ H' s2/\RelV x u/\J.yld i H x H'/\tn (i+1) s2.heap/\∀ b∈fp,H' b=none) E s1) E s
 done:∀ (X:Cx),X.prog=P->X.w=w->X.K=K->X.calm=true->∀ (i:Nat) (pins:List (Addr×Obj)) (s:Shared) (σ:St) (H:Hp) (E:Value->Shared->Prop),Inv X pins σ H s->(∀ b∈fp,FpOk X pins H b)->tn i s.heap->J.stop i H ->
  wpAny (model P w) X.A (pyNext (.ref it)) (fun r s1=>r=none/\Inv X pins σ H s1) E s
 self:∀ (A:Around) (i:Nat) (s:Shared) (Q:Value->Shared->Prop) (E:Value->Shared->Prop),tn i s.heap->Q (.ref it) s->wpAny (model P w) A (pyIter (.ref it)) Q E s
abbrev TI:=St->Hp->(It->Hp->Prop)->Prop
def PIE(X:Cx)(pins:List (Addr×Obj))(σ:St)(tg:Expr)(R:It->Hp->Prop)(itv:Value)(s2:Shared):Prop :=
 ∃ (it:Addr) (fp:List Addr) (tn:Nat->Heap->Prop) (J:It) (H':Hp),itv=.ref it/\Inv X pins σ H' s2/\Turn X.prog X.w X.K tg J fp it tn/\tn 0 s2.heap/\(∀ b∈fp,FpOk X pins H' b)/\R J H'
def PI(X:Cx)(tg iter:Expr)(wi:TI):Prop :=
 ∀ (pins:List (Addr×Obj)) (s:Shared) (σ:St) (H:Hp) (R:It->Hp->Prop),Inv X pins σ H s->wi σ H R ->
  wpAny (model X.prog X.w) X.A (eval iter X.env) (fun v s1=>wpAny (model X.prog X.w) X.A (pyIter v) (PIE X pins σ tg R) X.xe s1) X.xe s
theorem Wt{M:Model}{A:Around}{E:Value->Shared->Prop}{s:Shared}{tg:Expr}{it:Addr}{u:Value}{o:Obj}{n:String}{vs:Array Value}{Q:Unit->Shared->Prop}(ho:s.heap.get? it=some o)(hc:o.cls=.type n)(hd:o.data=.fields vs)
  (hn:["enumerate", "zip", "dict_itemiterator", "dict_reverseitemiterator", "odict_iterator", "itertools.zip_longest", "itertools.pairwise"].contains n=false) (hQ:Q () s):wpAny M A (letOwnedTupleGo tg (.ref it) u) Q E s:=by
 unfold letOwnedTupleGo;cases tg<;>first
  |exact wpAny_pure hQ
  |(cases u<;>first
    |exact wpAny_pure hQ
    |(refine wpAny_bind (wpAny_load ho ?_)
      rw[hc,hd];show wpAny M A (if (["enumerate", "zip", "dict_itemiterator", "dict_reverseitemiterator", "odict_iterator", "itertools.zip_longest", "itertools.pairwise"].contains n&&vs[0]? == some (rawInt _))=true then _ else _) Q E s;rw[if_neg (by intro h;rw[hn,Bool.false_and] at h;cases h)];exact wpAny_pure hQ))
noncomputable def Itl(K:W.Frag)(a:Addr):It :=
 ⟨fun i H=>∃ xs x,SqL K H a xs/\xs[i]?=some x,fun i H x H'=>H'=H/\∀ xs,SqL K H a xs->xs[i]?=some x,fun i H=>∃ xs,SqL K H a xs/\xs.length<=i⟩
def Itt(K:W.Frag)(a:Addr):It :=
 ⟨fun i H=>∃ xs x,SqT K H a xs/\xs[i]?=some x,fun i H x H'=>H'=H/\∀ xs,SqT K H a xs->xs[i]?=some x,fun i H=>∃ xs,SqT K H a xs/\xs.length<=i⟩
def Itr(lo:Int)(n:Nat):It:=⟨fun i _=>i<n,fun i H x H'=>H'=H/\x=.int (lo+i),fun i _=>n<=i⟩
theorem WX{P:Program}{w:World}{K:W.Frag}{tg:Expr}(a it:Addr):Turn P w K tg (Itl K a) [it] it (fun i h=>h.IsListIter it a i) where
 mem:=by simp
 obj:=fun i h st b hb=>by
  have e:b=it:=by simpa using hb
  subst e;obtain⟨o,e,c,d⟩:=st;exact⟨o,e,fun v z=>by rw[d] at z;cases z⟩
 keep:=fun i h h' st k=>st.at fun o e=>k it (by simp) o e
 item:=by
  intro X hP hw hK hc i pins s σ H E I hf st hg;subst hP hw hK;obtain⟨xs,x,hq,hx⟩:=hg;obtain⟨its,rv,p,hz⟩:=I.list hq;obtain⟨u,hu,ru⟩:=rv.get hx;obtain⟨f0,f1,f2,f3,f4,f5⟩:=hf it (by simp);refine wpAny_pyNext_list_item st p.isList (x:=u) (by simpa using hu) fun h' st' sb=>?_;have I1:Inv X pins σ H { s with heap:=h' }:=I.turned (t':=s.toks) (fun b o hb e=>(sb.2 b hb).trans e) f0 f1 f3 f4 f5;obtain⟨o,e,c,d⟩:=id st';exact⟨u,rfl,Wt (s:={ s with heap:=h' }) e c d (by decide) ⟨x,H,I1,ru,⟨rfl,fun ys hy=>by rw[I.list_inj hy hq];exact hx⟩,st',fun b hb=>(hf b hb).1⟩⟩
 done:=by
  intro X hP hw hK hc i pins s σ H E I hf st hg;subst hP hw hK;obtain⟨xs,hq,hx⟩:=hg;obtain⟨its,rv,p,hz⟩:=I.list hq;obtain⟨f0,f1,f2,f3,f4,f5⟩:=hf it (by simp);have hl:=rv.length;exact wpAny_pyNext_list_end (I.ok.hd hc) st p.isList (by simp;omega) fun h' eb=>⟨rfl,I.turned (t':=s.toks) (fun b o hb e=>eb b o hb e) f0 f1 f3 f4 f5⟩
 self:=fun _ _ _ _ _ st h=>wpAny_pyIter_listiter st h
theorem Wb{P:Program}{w:World}{K:W.Frag}{tg:Expr}(a it:Addr):Turn P w K tg (Itt K a) [it] it (fun i h=>h.IsTupleIter it a i) where
 mem:=by simp
 obj:=fun i h st b hb=>by
  have e:b=it:=by simpa using hb
  subst e;obtain⟨o,e,c,d⟩:=st;exact⟨o,e,fun v z=>by rw[d] at z;cases z⟩
 keep:=fun i h h' st k=>st.at fun o e=>k it (by simp) o e
 item:=by
  intro X hP hw hK hc i pins s σ H E I hf st hg;subst hP hw hK;obtain⟨xs,x,hq,hx⟩:=hg;obtain⟨its,rv,p,hz⟩:=I.tuple hq;obtain⟨u,hu,ru⟩:=rv.get hx;obtain⟨f0,f1,f2,f3,f4,f5⟩:=hf it (by simp);refine wpAny_pyNext_tuple_item st (show s.heap.IsTuple a its.toArray from p) (x:=u) (by simpa using hu) fun h' st' sb=>?_;have I1:Inv X pins σ H { s with heap:=h' }:=I.turned (t':=s.toks) (fun b o hb e=>(sb.2 b hb).trans e) f0 f1 f3 f4 f5;obtain⟨o,e,c,d⟩:=id st';exact⟨u,rfl,Wt (s:={ s with heap:=h' }) e c d (by decide) ⟨x,H,I1,ru,⟨rfl,fun ys hy=>by rw[I.tuple_inj hy hq];exact hx⟩,st',fun b hb=>(hf b hb).1⟩⟩
 done:=by
  intro X hP hw hK hc i pins s σ H E I hf st hg;subst hP hw hK;obtain⟨xs,hq,hx⟩:=hg;obtain⟨its,rv,p,hz⟩:=I.tuple hq;obtain⟨f0,f1,f2,f3,f4,f5⟩:=hf it (by simp);have hl:=rv.length;exact wpAny_pyNext_tuple_end (I.ok.hd hc) st (show s.heap.IsTuple a its.toArray from p) (by simp;omega) fun h' eb=>⟨rfl,I.turned (t':=s.toks) (fun b o hb e=>eb b o hb e) f0 f1 f3 f4 f5⟩
 self:=fun _ _ _ _ _ st h=>wpAny_pyIter_tupleiter st h
theorem Wc{P:Program}{w:World}{K:W.Frag}{tg:Expr}(it:Addr)(lo:Int)(n:Nat):Turn P w K tg (Itr lo n) [it] it (fun i h=>IsRangeIter h it (lo+(i:Nat)*1) ((n:Int)-(i:Nat)) 1) where
 mem:=by simp
 obj:=fun i h st b hb=>by
  have e:b=it:=by simpa using hb
  subst e;exact⟨_,st,fun v z=>by
   have z':Data.fields _=Data.cell v:=z;cases z'⟩
 keep:=fun i h h' st k=>k it (by simp) _ st
 item:=by
  intro X hP hw hK hc i pins s σ H E I hf st hg;subst hP hw hK;obtain⟨f0,f1,f2,f3,f4,f5⟩:=hf it (by simp);have W:=Walks.range (prog:=X.prog) (w:=X.w) (I.ok.hd hc) it lo 1 n;refine W.item i s _ _ hg st fun v h' tk hv st' kk=>?_;obtain⟨t,rfl⟩:=hv;have I1:Inv X pins σ H { s with heap:=h',toks:=tk }:=I.turned (fun b o hb e=>kk b o (by simpa using hb) e) f0 f1 f3 f4 f5;refine⟨_,rfl,Wt (s:={ s with heap:=h',toks:=tk }) (n := "range_iterator") st' rfl rfl (by decide) ⟨.int (lo+i),H,I1,⟨t,?_⟩,⟨rfl,rfl⟩,st',fun b hb=>(hf b hb).1⟩⟩;rw[Int.mul_one]
 done:=by
  intro X hP hw hK hc i pins s σ H E I hf st hg;subst hP hw hK;obtain⟨f0,f1,f2,f3,f4,f5⟩:=hf it (by simp);exact wpAny_pyNext_range_end (I.ok.hd hc) st (by have:n<=i:=hg;omega) fun h' eb=>⟨rfl,I.turned (t':=s.toks) (fun b o hb e=>eb b o hb e) f0 f1 f3 f4 f5⟩
 self:=fun _ _ _ _ _ st h=>wpAny_pyIter_rangeiter st h
section
variable {X:Cx}{tg:Expr}
def zeD(K:W.Frag)(tl:TE):TI:=fun σ H R=>tl σ H fun x H1=>∃ a,x=.ref a/\(∃ xs,SqL K H1 a xs)/\R (Itl K a) H1
def zhi(K:W.Frag)(tl:TE):TI:=fun σ H R=>tl σ H fun x H1=>∃ a,x=.ref a/\(∃ xs,SqT K H1 a xs)/\R (Itt K a) H1
theorem wV{l:Expr}{tl:TE}(hl:PE X l tl):PI X tg l (zeD X.K tl):=by
 intro pins s σ H R I h;refine thn (hl pins s σ H _ I h) fun v s1 hq0=>?_;obtain⟨x,H1,I1,r1,q1⟩:=hq0;obtain⟨a,e,⟨xs,hq⟩,q⟩:=q1;subst e;cases r1;obtain⟨its,rv,p,hz⟩:=I1.list hq;refine wpAny_pyIter_list p.isList ?_;refine⟨s1.heap.objs.size,[s1.heap.objs.size],_,_,H1,rfl,I1.kept (t':=s1.toks) fun b o e=>Heap.get?_push_of_some _ e,WX a _,⟨_,Heap.get?_push_size _ rfl,rfl,rfl⟩,fun b hb=>?_,q⟩;have e:b=s1.heap.objs.size:=by simpa using hb
 subst e;exact I1.fpOk (Nat.le_refl _) (I1.hok.fresh (Nat.le_refl _))
theorem uH{l:Expr}{tl:TE}(hl:Bx (PE X l tl)):Bx (PI X tg l (zhi X.K tl)):=by
 have hl:=hl.of;refine⟨?_⟩;intro pins s σ H R I h;refine thn (hl pins s σ H _ I h) fun v s1 hq0=>?_;obtain⟨x,H1,I1,r1,q1⟩:=hq0;obtain⟨a,e,⟨xs,hq⟩,q⟩:=q1;subst e;cases r1;obtain⟨its,rv,p,hz⟩:=I1.tuple hq;refine wpAny_pyIter_tuple (show s1.heap.IsTuple a its.toArray from p) ?_;refine⟨s1.heap.objs.size,[s1.heap.objs.size],_,_,H1,rfl,I1.kept (t':=s1.toks) fun b o e=>Heap.get?_push_of_some _ e,Wb a _,⟨_,Heap.get?_push_size _ rfl,rfl,rfl⟩,fun b hb=>?_,q⟩;have e:b=s1.heap.objs.size:=by simpa using hb
 subst e;exact I1.fpOk (Nat.le_refl _) (I1.hok.fresh (Nat.le_refl _))
theorem Xz{pins:List (Addr×Obj)}{σ:St}{H:Hp}{s:Shared}{R:It->Hp->Prop}{E:Value->Shared->Prop}{lo hi:Int}{t u v:Tok}{tk:Nat}(I:Inv X pins σ H s)(h1 : -(2 ^ 62)<=lo)(h2:lo<2 ^ 62)(h3 : -(2 ^ 62)<=hi)(h4:hi<2 ^ 62)
  (q:R (Itr lo (hi-lo).toNat) H):wpAny (model X.prog X.w) X.A (pyIter (.ref s.heap.objs.size)) (PIE X pins σ tg R) E { s with heap:=s.heap.push { cls:=.type "range",data:=.fields #[.int lo t,.int hi u,.int 1 v] },toks:=tk }:=by
 refine wpAny_pyIter_range (IsRange.new ..) (small_one h1 h2 h3 h4) ?_;have I1:Inv X pins σ H { s with heap:=s.heap.push { cls:=.type "range",data:=.fields #[.int lo t,.int hi u,.int 1 v] },toks:=tk }:=I.kept fun b o e=>Heap.get?_push_of_some _ e;refine⟨(s.heap.push { cls:=.type "range",data:=.fields #[.int lo t,.int hi u,.int 1 v] }).objs.size,[(s.heap.push { cls:=.type "range",data:=.fields #[.int lo t,.int hi u,.int 1 v] }).objs.size],_,_,H,rfl,
  I1.kept (t':=tk) fun b o e=>Heap.get?_push_of_some _ e,Wc _ lo (hi-lo).toNat,?_,fun b hb=>?_,q⟩
 ·have e1:lo+((0:Nat):Int)*1=lo:=by simp
  have e2:(((hi-lo).toNat:Nat):Int)-((0:Nat):Int)=Builtin.Range.rangeSize lo hi 1:=by rw[rangeSize_one];split<;>omega
  show IsRangeIter _ _ (lo+((0:Nat):Int)*1) ((((hi-lo).toNat:Nat):Int)-((0:Nat):Int)) 1;rw[e1,e2];exact Heap.get?_push_size _ rfl
 ·have e:b=(s.heap.push { cls:=.type "range",data:=.fields #[.int lo t,.int hi u,.int 1 v] }).objs.size:=by simpa using hb
  subst e;exact I1.fpOk (Nat.le_refl _) (I1.hok.fresh (Nat.le_refl _))
def zfY(ta:TA):TI:=fun σ H R=>ta σ H fun vs H1=>∃ j:Int,vs=[.int j]/\-(2 ^ 62)<=j/\j<2 ^ 62/\R (Itr 0 j.toNat) H1
def zfX(ta:TA):TI:=fun σ H R=>ta σ H fun vs H1=>∃ i j:Int,vs=[.int i,.int j]/\(-(2 ^ 62)<=i/\i<2 ^ 62/\-(2 ^ 62)<=j/\j<2 ^ 62)/\R (Itr i (j-i).toNat) H1
theorem wn{a:Expr}{ta:TA}{p pos:Pos}(hg:Gl X "range")(hm:X.mg "range" = none)(ha:Bx (PA X [a] ta))(hs:starEach [a] X.env=[(false,eval a X.env)]:=by rfl):Bx (PI X tg (.Call (.Name "range" p) [a] [] pos) (zfY ta)):=by
 have ha:=ha.of;refine⟨?_⟩;intro pins s σ H R I h;refine Call_ (ld_blt I hg hm boot_range (PyProof.Rows.callWith_type1 (thn (ha pos pins s σ H _ I h) fun us s1 hq0=>?_) hs rfl));obtain⟨vs,H1,I1,r1,q1⟩:=hq0;obtain⟨j,e,q1,q2,q⟩:=q1;subst e;cases r1 with
 |cons r rr =>
  cases rr;obtain⟨t,rfl⟩:=r;exact call_range_1 (Xz I1 (by omega) (by omega) q1 q2 (by simpa using q))
theorem Yv{a b:Expr}{ta:TA}{p pos:Pos}(hg:Gl X "range")(hm:X.mg "range" = none)(ha:Bx (PA X [a,b] ta))(hs:starEach [a,b] X.env=[(false,eval a X.env),(false,eval b X.env)]:=by rfl)(hs2:starEach [b] X.env=[(false,eval b X.env)]:=by rfl):Bx (PI X tg (.Call (.Name "range" p) [a,b] [] pos) (zfX ta)):=by
 have ha:=ha.of;refine⟨?_⟩;intro pins s σ H R I h;refine Call_ (ld_blt I hg hm boot_range (PyProof.Rows.callWith_type1 (thn (ha pos pins s σ H _ I h) fun us s1 hq0=>?_) (by rw[hs,hs2]) (by rw[hs2];rfl)));obtain⟨vs,H1,I1,r1,q1⟩:=hq0;obtain⟨i,j,e,⟨q1,q2,q3,q4⟩,q⟩:=q1;subst e;cases r1 with
 |cons r rr =>
  cases rr with
  |cons r' rr =>
   cases rr;obtain⟨t,rfl⟩:=r;obtain⟨t',rfl⟩:=r';exact call_range_2 (Xz I1 q1 q2 q3 q4 q)
def zgb(wi:TI)(g:TG)(tb:TS):TS:=fun D σ H=>wi σ H fun J H1=>∃ W:Nat->Nat->St->Hp->Prop,(∃ m,W 0 m σ H1)/\∀ i m σ H,W i m σ H ->
 (J.stop i H/\D.nx σ H)\/(J.go i H/\∃ N:St->Hp->Prop,(∀ σ' H',N σ' H'->∃ m',m'<m/\W (i+1) m' σ' H')/\∀ x H',J.yld i H x H'->g x σ H' fun σ2 H2=>tb { D with nx:=N,ct:=N,bk:=D.nx } σ2 H2)
noncomputable def ZP(fp:List Addr)(h:Heap):List (Addr×Obj):=fp.filterMap fun b=>(h.get? b).map fun o=>(b,o)
theorem x9{fp:List Addr}{h:Heap}{b:Addr}{o:Obj}(hb:b∈fp)(e:h.get? b=some o):(b,o)∈ZP fp h:=mem_filterMap.mpr ⟨b,hb,by rw[e];rfl⟩
theorem VJ{fp:List Addr}{h:Heap}{p:Addr×Obj}(hp:p∈ZP fp h):p.1∈fp/\h.get? p.1=some p.2:=by
 obtain⟨b,hb,e⟩:=mem_filterMap.mp hp;cases q:h.get? b with
 |none=>rw[q] at e;cases e
 |some o =>
  rw[q] at e;have e':(b,o)=p:=Option.some.inj e;subst e';exact⟨hb,q⟩
theorem Inv.pinned{pins:List (Addr×Obj)}{σ:St}{H:Hp}{s:Shared}{fp:List Addr}(I:Inv X pins σ H s)(hf:∀ b∈fp,FpOk X pins H b)(ho:∀ b∈fp,∃ o,s.heap.get? b=some o/\∀ v,o.data≠.cell v):Inv X (pins++ZP fp s.heap) σ H s :=
 I.pins_of fun p hp=>(mem_append.mp hp).elim (fun z=>I.pin p (mem_append_right _ z)) fun z=>by
  obtain⟨hb,e⟩:=VJ z;obtain⟨f0,f1,f2,_⟩:=hf p.1 hb;obtain⟨o,e',d⟩:=ho p.1 hb;rw[e] at e';cases e';exact⟨e,f0,f1,f2,d⟩
theorem Inv.unpinned{pins pl:List (Addr×Obj)}{σ:St}{H:Hp}{s:Shared}(I:Inv X (pins++pl) σ H s):Inv X pins σ H s:=I.pins_of fun p hp=>I.pin p (mem_append_right _ (mem_append_left _ hp))
theorem ZN{iter:Expr}{body:List Stmt}{wi:TI}{g:TG}{tb:TS}{pos:Pos}(hp:PassesOwn (model X.prog X.w) X.A X.env X.xe)(hc:X.calm=true)(hi:PI X tg iter wi)(hg:PG X tg g)(hb:PSs X body tb)
  (hs:∀ x,foldedSetIterable iter X.env x=pure x:=by intro _;rfl):PS X (.For tg iter body [] pos) (zgb wi g tb):=by
 intro pins s σ H D I h;refine wpAny_For (thn (hi pins s σ H _ I h) fun v s1 h1=>thn h1 fun itv s2 h2=>?_) hs;obtain⟨it,fp,tn,J,H2,e,I2,T,st2,f2,W,⟨m0,w0⟩,turn⟩:=h2;subst e
 -- what stays true of the iterator's objects through the loop
 have stat:∀ {H':Hp},(∀ b∈fp,H' b=none)->∀ b∈fp,FpOk X pins H' b:=fun hn b hb=>⟨hn b hb,(f2 b hb).2⟩;refine codeAny_forLoop_any (fun n s'=>∃ i σ' H',Inv X pins σ' H' s'/\tn i s'.heap/\(∀ b∈fp,H' b=none)/\W i n σ' H') ?_ m0 ⟨0,σ,H2,I2,st2,fun b hb=>(f2 b hb).1,w0⟩;rintro n s3 ⟨i,σ3,H3,I3,st3,fr3,w3⟩;rcases turn i n σ3 H3 w3 with⟨stop,qn⟩ | ⟨go,N,hN,step⟩
 ·refine wpAny_passesOwn hp (thn (T.done X rfl rfl rfl hc i pins s3 σ3 H3 X.xe I3 (stat fr3) st3 stop) fun r s4 ⟨hr,I4⟩=>?_)
  subst hr;exact wpAny_execs_nil ⟨σ3,H3,I4,qn⟩
 ·refine wpAny_passesOwn hp (thn (T.item X rfl rfl rfl hc i pins s3 σ3 H3 X.xe I3 (stat fr3) st3 go) fun r s4 ⟨u,hr,h4⟩=>?_)
  subst hr;refine wpAny_passesOwn hp (thn h4 fun _ s5 hq0=>?_);obtain⟨x,H5,I5,r5,y5,st5,fr5⟩:=hq0;have I5':=I5.pinned (stat fr5) (T.obj _ _ st5);refine wpAny_passesOwn hp (thn (hg _ s5 σ3 H5 x u _ I5' r5 (step x H5 y5)) fun _ s6 hq0=>?_);obtain⟨σ6,H6,I6,q6⟩:=hq0;refine wpAny_passesOwn hp (thn (hb _ s6 σ6 H6 _ I6 q6) fun f s7 q7=>?_);have again:∀ {σ7:St}{H7:Hp},Inv X (pins++ZP fp s5.heap) σ7 H7 s7->N σ7 H7->∃ m,m<n/\∃ i σ' H',Inv X pins σ' H' s7/\tn i s7.heap/\(∀ b∈fp,H' b=none)/\W i m σ' H':=fun {σ7 H7} I7 n7=>by
   obtain⟨m',hm,w7⟩:=hN σ7 H7 n7;refine⟨m',hm,i+1,σ7,H7,I7.unpinned,T.keep _ _ _ st5 fun b hb o e=>(I7.pin (b,o) (mem_append_right _ (mem_append_right _ (x9 hb e)))).1,fun b hb=>?_,w7⟩;obtain⟨o,e,d⟩:=T.obj _ _ st5 b hb;exact(I7.pin (b,o) (mem_append_right _ (mem_append_right _ (x9 hb e)))).2.1
  cases f with
  |next=>obtain⟨σ7,H7,I7,n7⟩:=q7;exact again I7 n7
  |cont=>obtain⟨σ7,H7,I7,n7⟩:=q7;exact again I7 n7
  |brk=>obtain⟨σ7,H7,I7,q7⟩:=q7;exact⟨σ7,H7,I7.unpinned,q7⟩
  |ret v=>obtain⟨x7,σ7,H7,I7,r7,q7⟩:=q7;exact⟨x7,σ7,H7,I7.unpinned,r7,q7⟩
end
theorem for_list{K:W.Frag}{a:Addr}{xs:List V}{g:TG}{tb:TS}{D:Ends}{σ:St}{H:Hp}(Pv:Nat->St->Hp->Prop)(h0:Pv 0 σ H)(hl:∀ i σ H,i<=xs.length->Pv i σ H->SqL K H a xs)
  (hs:∀ i x σ H,xs[i]?=some x->Pv i σ H->g x σ H fun σ2 H2=>tb { D with nx:=Pv (i+1),ct:=Pv (i+1),bk:=D.nx } σ2 H2) (hd:∀ σ H,Pv xs.length σ H->D.nx σ H) :
  ∃ W:Nat->Nat->St->Hp->Prop,(∃ m,W 0 m σ H)/\∀ i m σ H,W i m σ H ->
   ((Itl K a).stop i H/\D.nx σ H)\/((Itl K a).go i H/\∃ N:St->Hp->Prop,(∀ σ' H',N σ' H'->∃ m',m'<m/\W (i+1) m' σ' H')/\∀ x H',(Itl K a).yld i H x H'->g x σ H' fun σ2 H2=>tb { D with nx:=N,ct:=N,bk:=D.nx } σ2 H2):=by
 refine⟨fun i m σ H=>m=xs.length-i/\i<=xs.length/\Pv i σ H,⟨xs.length,by simp,zero_le _,h0⟩,?_⟩;rintro i m σ H ⟨rfl,hi,p⟩;have q:=hl i σ H hi p;by_cases hlt:i<xs.length
 ·refine .inr ⟨⟨xs,xs[i],q,by simp[hlt]⟩,Pv (i+1),fun σ' H' p'=>⟨xs.length-(i+1),by omega,rfl,hlt,p'⟩,fun x H' y=>?_⟩
  obtain⟨e,y⟩:=y;subst e;exact hs i x σ _ (y xs q) p
 ·have e:i=xs.length:=by omega
  subst e;exact .inl ⟨⟨xs,q,Nat.le_refl _⟩,hd σ H p⟩
theorem zcK{K:W.Frag}{a:Addr}{xs:List V}{g:TG}{tb:TS}{D:Ends}{σ:St}{H:Hp}(Pv:Nat->St->Hp->Prop)(h0:Pv 0 σ H)(hl:∀ i σ H,i<=xs.length->Pv i σ H->SqT K H a xs)
  (hs:∀ i x σ H,xs[i]?=some x->Pv i σ H->g x σ H fun σ2 H2=>tb { D with nx:=Pv (i+1),ct:=Pv (i+1),bk:=D.nx } σ2 H2) (hd:∀ σ H,Pv xs.length σ H->D.nx σ H) :
  ∃ W:Nat->Nat->St->Hp->Prop,(∃ m,W 0 m σ H)/\∀ i m σ H,W i m σ H ->
   ((Itt K a).stop i H/\D.nx σ H)\/((Itt K a).go i H/\∃ N:St->Hp->Prop,(∀ σ' H',N σ' H'->∃ m',m'<m/\W (i+1) m' σ' H')/\∀ x H',(Itt K a).yld i H x H'->g x σ H' fun σ2 H2=>tb { D with nx:=N,ct:=N,bk:=D.nx } σ2 H2):=by
 refine⟨fun i m σ H=>m=xs.length-i/\i<=xs.length/\Pv i σ H,⟨xs.length,by simp,zero_le _,h0⟩,?_⟩;rintro i m σ H ⟨rfl,hi,p⟩;have q:=hl i σ H hi p;by_cases hlt:i<xs.length
 ·refine .inr ⟨⟨xs,xs[i],q,by simp[hlt]⟩,Pv (i+1),fun σ' H' p'=>⟨xs.length-(i+1),by omega,rfl,hlt,p'⟩,fun x H' y=>?_⟩
  obtain⟨e,y⟩:=y;subst e;exact hs i x σ _ (y xs q) p
 ·have e:i=xs.length:=by omega
  subst e;exact .inl ⟨⟨xs,q,Nat.le_refl _⟩,hd σ H p⟩
theorem Uh{lo:Int}{n:Nat}{g:TG}{tb:TS}{D:Ends}{σ:St}{H:Hp}(Pv:Nat->St->Hp->Prop)(h0:Pv 0 σ H)
  (hs:∀ i σ H,i<n->Pv i σ H->g (.int (lo+i)) σ H fun σ2 H2=>tb { D with nx:=Pv (i+1),ct:=Pv (i+1),bk:=D.nx } σ2 H2) (hd:∀ σ H,Pv n σ H->D.nx σ H) :
  ∃ W:Nat->Nat->St->Hp->Prop,(∃ m,W 0 m σ H)/\∀ i m σ H,W i m σ H ->
   ((Itr lo n).stop i H/\D.nx σ H)\/((Itr lo n).go i H/\∃ N:St->Hp->Prop,(∀ σ' H',N σ' H'->∃ m',m'<m/\W (i+1) m' σ' H')/\∀ x H',(Itr lo n).yld i H x H'->g x σ H' fun σ2 H2=>tb { D with nx:=N,ct:=N,bk:=D.nx } σ2 H2):=by
 refine⟨fun i m σ H=>m=n-i/\i<=n/\Pv i σ H,⟨n,by simp,zero_le _,h0⟩,?_⟩;rintro i m σ H ⟨rfl,hi,p⟩;by_cases hlt:i<n
 ·refine .inr ⟨hlt,Pv (i+1),fun σ' H' p'=>⟨n-(i+1),by omega,rfl,hlt,p'⟩,fun x H' y=>?_⟩
  obtain⟨e,y⟩:=y;subst e y;exact hs i σ _ hlt p
 ·have e:i=n:=by omega
  subst e;exact .inl ⟨Nat.le_refl _,hd σ H p⟩
abbrev R2:=V->V->Hp->VK->Prop
def OpR(X:Cx)(f:Value->Value->Sem Value)(r:R2):Prop :=
 ∀ (pins:List (Addr×Obj)) (s:Shared) (σ:St) (H:Hp) (x y:V) (v u:Value) (Q:VK),Inv X pins σ H s->RelV x v->RelV y u->r x y H Q ->
  wpAny (model X.prog X.w) X.A (f v u) (EP X pins σ Q) X.xe s
def UnR(X:Cx)(f:Value->Sem Value)(r:V->Hp->VK->Prop):Prop :=
 ∀ (pins:List (Addr×Obj)) (s:Shared) (σ:St) (H:Hp) (x:V) (v:Value) (Q:VK),Inv X pins σ H s->RelV x v->r x H Q ->
  wpAny (model X.prog X.w) X.A (f v) (EP X pins σ Q) X.xe s
def xr(X:Cx)(f:Value)(r:List V->Hp->VK->Prop):Prop :=
 ∀ (pins:List (Addr×Obj)) (s:Shared) (σ:St) (H:Hp) (xs:List V) (us:List Value) (Q:VK),Inv X pins σ H s->Vals xs us->r xs H Q ->
  wpAny (model X.prog X.w) X.A (call f us) (EP X pins σ Q) X.xe s
def zhu(X:Cx)(r:V->Hp->(Bool->Hp->Prop)->Prop):Prop :=
 ∀ (pins:List (Addr×Obj)) (s:Shared) (σ:St) (H:Hp) (x:V) (v:Value) (Q:Bool->Hp->Prop),Inv X pins σ H s->RelV x v->r x H Q ->
  wpAny (model X.prog X.w) X.A (truthy v) (TP X pins σ Q) X.xe s
def tOp(r:R2)(ta tb:TE):TE:=fun σ H Q=>ta σ H fun x H1=>tb σ H1 fun y H2=>r x y H2 Q
def tUn(r:V->Hp->VK->Prop)(ta:TE):TE:=fun σ H Q=>ta σ H fun x H1=>r x H1 Q
def rI(C:Int->Int->Prop)(g:Int->Int->V):R2:=fun x y H Q=>∃ i j,x=.int i/\y=.int j/\C i j/\Q (g i j) H
def rI0(g:Int->Int->V):R2:=fun x y H Q=>∃ i j,x=.int i/\y=.int j/\Q (g i j) H
def rU(g:Int->V):V->Hp->VK->Prop:=fun x H Q=>∃ i,x=.int i/\Q (g i) H
section
variable {X:Cx}{a b c:Expr}{ta tb tc:TE}{pos:Pos}
theorem binT(ha:PE X a ta)(hb:PE X b tb){pins:List (Addr×Obj)}{s:Shared}{σ:St}{H:Hp}{R:V->V->Hp->Prop}(I:Inv X pins σ H s)
  (h:ta σ H fun x H1=>tb σ H1 fun y H2=>R x y H2){Q:Value->Shared->Prop}{f:Value->Value->Sem Value}
  (hf:∀ v u s2 x y H2,Inv X pins σ H2 s2->RelV x v->RelV y u->R x y H2->wpAny (model X.prog X.w) X.A (f v u) Q X.xe s2) :
  wpAny (model X.prog X.w) X.A (eval a X.env) (fun v s₁=>wpAny (model X.prog X.w) X.A (eval b X.env) (fun u s₂=>wpAny (model X.prog X.w) X.A (f v u) Q X.xe s₂) X.xe s₁) X.xe s:=by
 refine thn (ha pins s σ H _ I h) fun v s1 hq0=>?_;obtain⟨x,H1,I1,r1,q1⟩:=hq0;refine thn (hb pins s1 σ H1 _ I1 q1) fun u s2 hq0=>?_;obtain⟨y,H2,I2,r2,q2⟩:=hq0;exact hf v u s2 x y H2 I2 r1 r2 q2
theorem zk{op:Operator}{r:R2}(ho:OpR X (binaryOp op) r)(ha:Bx (PE X a ta))(hb:Bx (PE X b tb)):Bx (PE X (.BinOp a op b pos) (tOp r ta tb)):=by
 have ha:=ha.of;have hb:=hb.of;refine⟨?_⟩;intro pins s σ H Q I h;exact wpAny_BinOp (binT ha hb I h fun v u s2 x y H2 I2 rx ry q=>ho pins s2 σ H2 x y v u Q I2 rx ry q)
theorem zd1{op:UnaryOp}{r:V->Hp->VK->Prop}(ho:UnR X (unaryOp op) r)(ha:PE X a ta):PE X (.UnaryOp op a pos) (tUn r ta):=by
 intro pins s σ H Q I h;exact UnaryOp_ (thn (ha pins s σ H _ I h) fun v s1 ⟨x,H1,I1,r1,q1⟩=>ho pins s1 σ H1 x v Q I1 r1 q1)
theorem opI{f:Value->Value->Sem Value}{C:Int->Int->Prop}{g:Int->Int->Int}
  (rule:∀ (i j:Int) (t u:Tok) (s:Shared) (Q:Value->Shared->Prop) (E:Value->Shared->Prop),C i j->Q (.int (g i j) s.toks) { s with toks:=s.toks+1 }->wpAny (model X.prog X.w) X.A (f (.int i t) (.int j u)) Q E s) :
  OpR X f (rI C fun i j=>.int (g i j)):=by
 intro pins s σ H x y v u Q I rx ry h;obtain⟨i,j,rfl,rfl,hc,q⟩:=h;obtain⟨t,rfl⟩:=rx;obtain⟨t',rfl⟩:=ry;exact rule i j t t' s _ _ hc ⟨.int (g i j),H,I.tok _,⟨_,rfl⟩,q⟩
theorem zgx{f:Value->Value->Sem Value}{g:Int->Int->Int}
  (rule:∀ (i j:Int) (t u:Tok) (s:Shared) (Q:Value->Shared->Prop) (E:Value->Shared->Prop),Q (.int (g i j) s.toks) { s with toks:=s.toks+1 }->wpAny (model X.prog X.w) X.A (f (.int i t) (.int j u)) Q E s) :
  OpR X f (rI0 fun i j=>.int (g i j)):=by
 intro pins s σ H x y v u Q I rx ry h;obtain⟨i,j,rfl,rfl,q⟩:=h;obtain⟨t,rfl⟩:=rx;obtain⟨t',rfl⟩:=ry;exact rule i j t t' s _ _ ⟨.int (g i j),H,I.tok _,⟨_,rfl⟩,q⟩
theorem ze6{f:Value->Value->Sem Value}{g:Int->Int->Bool}
  (rule:∀ (i j:Int) (t u:Tok) (s:Shared) (Q:Value->Shared->Prop) (E:Value->Shared->Prop),Q (.bool (g i j)) s->wpAny (model X.prog X.w) X.A (f (.int i t) (.int j u)) Q E s) :
  OpR X f (rI0 fun i j=>.bl (g i j)):=by
 intro pins s σ H x y v u Q I rx ry h;obtain⟨i,j,rfl,rfl,q⟩:=h;obtain⟨t,rfl⟩:=rx;obtain⟨t',rfl⟩:=ry;exact rule i j t t' s _ _ ⟨.bl (g i j),H,I,rfl,q⟩
def zhy(i j:Int):Prop:=0<=j/\j<=1000000/\i.natAbs<2 ^ 64
def CMul(i j:Int):Prop:=(-(2 ^ 64)<i/\i<2 ^ 64)\/(-(2 ^ 64)<j/\j<2 ^ 64)
theorem CMul.ok{i j:Int}(h:CMul i j):IntMulOk i j:=by
 rcases h with⟨h1,h2⟩ | ⟨h1,h2⟩
 ·exact .of_left (intBits_le_64 h1 h2)
 ·exact .of_right (intBits_le_64 h1 h2)
theorem yA:OpR X (binaryOp .Add) (rI0 fun i j=>.int (i+j)):=zgx fun _ _ _ _ _ _ _ q=>add_int q
theorem wj:OpR X (binaryOp .Sub) (rI0 fun i j=>.int (i-j)):=zgx fun _ _ _ _ _ _ _ q=>sub_int q
theorem uy:OpR X (binaryOp .Mult) (rI CMul fun i j=>.int (i*j)):=opI fun _ _ _ _ _ _ _ hc q=>mul_int q hc.ok
theorem yS:OpR X (binaryOp .Mod) (rI (fun _ j=>0<j) fun i j=>.int (i%j)):=opI fun i j _ _ _ _ _ hc q=>by
 have h1:(0:Int)<j:=hc;exact mod_int' (by omega) (by rw[Int.fmod_eq_emod_of_nonneg i (by omega)];exact q)
theorem VA:OpR X (binaryOp .Pow) (rI zhy fun i j=>.int (i ^ j.toNat)):=opI fun _ _ _ _ _ _ _ hc q=>pow_int_small hc.1 hc.2.1 hc.2.2 q
theorem unI{f:Value->Sem Value}{g:Int->Int}
  (rule:∀ (i:Int) (t:Tok) (s:Shared) (Q:Value->Shared->Prop) (E:Value->Shared->Prop),Q (.int (g i) s.toks) { s with toks:=s.toks+1 }->wpAny (model X.prog X.w) X.A (f (.int i t)) Q E s) :
  UnR X f (rU fun i=>.int (g i)):=by
 intro pins s σ H x v Q I rx h;obtain⟨i,rfl,q⟩:=h;obtain⟨t,rfl⟩:=rx;exact rule i t s _ _ ⟨.int (g i),H,I.tok _,⟨_,rfl⟩,q⟩
theorem WV:UnR X (unaryOp .USub) (rU fun i=>.int (-i)):=unI fun _ _ _ _ _ q=>neg_int q
end
noncomputable def zfr:V->V->Bool
 |.non,.non=>true | .non,.int _=>true | .int _,.non=>true | .non,.bl _=>true | .bl _,.non=>true | .non,.str _=>true | .str _,.non=>true
 |.int _,.int _=>true | .bl _,.bl _=>true | .str _,.str _=>true | .byt _,.byt _=>true
 |.int _,.str _=>true | .str _,.int _=>true | .bl _,.str _=>true | .str _,.bl _=>true
 |_,_=>false
def rEq:R2:=fun x y H Q=>zfr x y=true/\Q (.bl (decide (x=y))) H
def rNe:R2:=fun x y H Q=>zfr x y=true/\Q (.bl (!decide (x=y))) H
theorem Uo{i j:Int}:decide (V.int i=V.int j)=(i == j):=by
 rw[Bool.eq_iff_iff];simp
theorem zbx{i j:Bool}:decide (V.bl i=V.bl j)=(i == j):=by
 rw[Bool.eq_iff_iff];simp
theorem yk{i j:Str}:decide (V.str i=V.str j)=(i == j):=by
 rw[Bool.eq_iff_iff];simp
theorem Up{i j:Array UInt8}:decide (V.byt i=V.byt j)=(i.toList == j.toList):=by
 rw[Bool.eq_iff_iff];cases i;cases j;simp
section
variable {X:Cx}{a b c:Expr}{ta tb tc:TE}{pos:Pos}
theorem yb{pins:List (Addr×Obj)}{σ:St}{H:Hp}{s:Shared}{Q:VK}{k k':Bool}(I:Inv X pins σ H s)(q:Q (.bl k) H)(e:k=k'):EP X pins σ Q (.bool k') s:=by
 subst e;exact⟨.bl k,H,I,rfl,q⟩
theorem yX:OpR X (compareOp .Eq) rEq:=by
 intro pins s σ H x y v u Q I rx ry h;obtain⟨hs,q⟩:=h;cases x with
 |non =>
  cases rx;cases y with
  |non=>cases ry;exact PySem.EqNone.eq_none_none (yb I q (by simp))
  |bl j=>cases ry;exact PySem.EqNone.eq_none_bool (yb I q (by simp))
  |int j=>obtain⟨t',rfl⟩:=ry;exact PySem.EqNone.eq_none_int (yb I q (by simp))
  |str j=>obtain⟨t',rfl⟩:=ry;exact PySem.EqNone.eq_none_str (yb I q (by simp))
  |_=>exact absurd (show false=true from hs) Bool.false_ne_true
 |bl i =>
  cases rx;cases y with
  |non=>cases ry;exact PySem.EqNone.eq_bool_none (yb I q (by simp))
  |bl j=>cases ry;exact eq_bool (yb I q zbx)
  |str j=>obtain⟨t',rfl⟩:=ry;exact PySem.EqMixed.eq_bool_str (yb I q (by simp))
  |_=>exact absurd (show false=true from hs) Bool.false_ne_true
 |int i =>
  obtain⟨t,rfl⟩:=rx;cases y with
  |non=>cases ry;exact PySem.EqNone.eq_int_none (yb I q (by simp))
  |int j=>obtain⟨t',rfl⟩:=ry;exact eq_int (yb I q Uo)
  |str j=>obtain⟨t',rfl⟩:=ry;exact PySem.EqMixed.eq_int_str (yb I q (by simp))
  |_=>exact absurd (show false=true from hs) Bool.false_ne_true
 |str i =>
  obtain⟨t,rfl⟩:=rx;cases y with
  |non=>cases ry;exact PySem.EqNone.eq_str_none (yb I q (by simp))
  |bl j=>cases ry;exact PySem.EqMixed.eq_str_bool (yb I q (by simp))
  |int j=>obtain⟨t',rfl⟩:=ry;exact PySem.EqMixed.eq_str_int (yb I q (by simp))
  |str j=>obtain⟨t',rfl⟩:=ry;exact eq_str (yb I q yk)
  |_=>exact absurd (show false=true from hs) Bool.false_ne_true
 |byt i =>
  obtain⟨t,rfl⟩:=rx;cases y with
  |byt j=>obtain⟨t',rfl⟩:=ry;exact PySem.W.eq_bytes (yb I q Up)
  |_=>exact absurd (show false=true from hs) Bool.false_ne_true
 |_=>cases y<;>exact absurd (show false=true from hs) Bool.false_ne_true
theorem wv:OpR X (compareOp .NotEq) rNe:=by
 intro pins s σ H x y v u Q I rx ry h;obtain⟨hs,q⟩:=h;cases x with
 |non =>
  cases rx;cases y with
  |non=>cases ry;exact PySem.EqNone.ne_none_none (yb I q (by simp))
  |bl j=>cases ry;exact PySem.EqNone.ne_none_bool (yb I q (by simp))
  |int j=>obtain⟨t',rfl⟩:=ry;exact PySem.EqNone.ne_none_int (yb I q (by simp))
  |str j=>obtain⟨t',rfl⟩:=ry;exact PySem.EqNone.ne_none_str (yb I q (by simp))
  |_=>exact absurd (show false=true from hs) Bool.false_ne_true
 |bl i =>
  cases rx;cases y with
  |non=>cases ry;exact PySem.EqNone.ne_bool_none (yb I q (by simp))
  |bl j=>cases ry;exact ne_bool (yb I q (congrArg not zbx))
  |str j=>obtain⟨t',rfl⟩:=ry;exact PySem.EqMixed.ne_bool_str (yb I q (by simp))
  |_=>exact absurd (show false=true from hs) Bool.false_ne_true
 |int i =>
  obtain⟨t,rfl⟩:=rx;cases y with
  |non=>cases ry;exact PySem.EqNone.ne_int_none (yb I q (by simp))
  |int j=>obtain⟨t',rfl⟩:=ry;exact ne_int (yb I q (congrArg not Uo))
  |str j=>obtain⟨t',rfl⟩:=ry;exact PySem.EqMixed.ne_int_str (yb I q (by simp))
  |_=>exact absurd (show false=true from hs) Bool.false_ne_true
 |str i =>
  obtain⟨t,rfl⟩:=rx;cases y with
  |non=>cases ry;exact PySem.EqNone.ne_str_none (yb I q (by simp))
  |bl j=>cases ry;exact PySem.EqMixed.ne_str_bool (yb I q (by simp))
  |int j=>obtain⟨t',rfl⟩:=ry;exact PySem.EqMixed.ne_str_int (yb I q (by simp))
  |str j=>obtain⟨t',rfl⟩:=ry;exact ne_str (yb I q (congrArg not yk))
  |_=>exact absurd (show false=true from hs) Bool.false_ne_true
 |byt i =>
  obtain⟨t,rfl⟩:=rx;cases y with
  |byt j=>obtain⟨t',rfl⟩:=ry;exact PySem.W.ne_bytes (yb I q (congrArg not Up))
  |_=>exact absurd (show false=true from hs) Bool.false_ne_true
 |_=>cases y<;>exact absurd (show false=true from hs) Bool.false_ne_true
theorem YJ:OpR X (compareOp .Lt) (rI0 fun i j=>.bl (decide (i<j))):=ze6 fun _ _ _ _ _ _ _ q=>lt_int q
theorem zb7:OpR X (compareOp .LtE) (rI0 fun i j=>.bl (decide (i<=j))):=ze6 fun _ _ _ _ _ _ _ q=>le_int q
theorem u8:OpR X (compareOp .Gt) (rI0 fun i j=>.bl (decide (j<i))):=ze6 fun _ _ _ _ _ _ _ q=>gt_int q
theorem zd7:OpR X (compareOp .GtE) (rI0 fun i j=>.bl (decide (j<=i))):=ze6 fun _ _ _ _ _ _ _ q=>ge_int q
theorem VD:OpR X (compareOp .Is) (fun x y H Q=>y=.non/\Q (.bl (decide (x=.non))) H):=by
 intro pins s σ H x y v u Q I rx ry h;obtain⟨rfl,q⟩:=h;cases ry;refine is_none_gen (yb I q ?_);cases x<;>first
  |(cases rx;rfl)
  |(obtain⟨t,rfl⟩:=rx;rfl)
theorem wu:OpR X (compareOp .IsNot) (fun x y H Q=>y=.non/\Q (.bl (!decide (x=.non))) H):=by
 intro pins s σ H x y v u Q I rx ry h;obtain⟨rfl,q⟩:=h;cases ry;refine isnot_none_gen (yb I q ?_);cases x<;>first
  |(cases rx;rfl)
  |(obtain⟨t,rfl⟩:=rx;rfl)
theorem zB(b:Expr){op:CmpOp}(h:op≠.In:=by decide)(h2:op≠.NotIn:=by decide):behindInMarks op b=false:=by
 have e1:(op == CmpOp.In)=false:=by cases op<;>first | rfl | exact absurd rfl h
 have e2:(op == CmpOp.NotIn)=false:=by cases op<;>first | rfl | exact absurd rfl h2
 cases b<;>simp[behindInMarks,e1,e2]
theorem u6{op:CmpOp}{r:R2}(ho:OpR X (compareOp op) r)(ha:PE X a ta)(hb:PE X b tb)(hm:behindInMarks op b=false):PE X (.Compare a [op] [b] pos) (tOp r ta tb):=by
 intro pins s σ H Q I h;exact wpAny_Compare1 (binT ha hb I h fun v u s2 x y H2 I2 rx ry q=>ho pins s2 σ H2 x y v u Q I2 rx ry q) hm
def W5(t:TE):TT:=fun σ H Q=>t σ H fun x H'=>∃ k,x=.bl k/\Q k H'
theorem wq{op:CmpOp}{r:R2}(ho:OpR X (compareOp op) r)(ha:PE X a ta)(hb:PE X b tb)(hm:behindInMarks op b=false):PT X (.Compare a [op] [b] pos) (W5 (tOp r ta tb)):=by
 intro pins s σ H Q I h;refine wpAny_isTrue_Compare1 (thn (ha pins s σ H _ I h) fun v s1 ⟨x,H1,I1,r1,q1⟩=>thn (hb pins s1 σ H1 _ I1 q1) fun u s2 ⟨y,H2,I2,r2,q2⟩ =>
  thn (ho pins s2 σ H2 x y v u _ I2 r1 r2 q2) fun c s3 ⟨z,H3,I3,r3,k,e,q3⟩=>?_) hm
 subst e;cases r3;exact wpAny_truthy_bool ⟨H3,I3,q3⟩
def zgF(K:W.Frag)(x:V)(H:Hp)(k:Bool):Prop :=
 match x with
 |.non=>k=false
 |.bl b=>k=b
 |.int i=>k=(i != 0)
 |.str y=>y.length<=sizeLine/\k=((y.length:Int) != 0)
 |.byt y=>y.size<=sizeLine/\k=((y.size:Int) != 0)
 |.ref p=>(∃ xs,SqL K H p xs/\k=!xs.isEmpty)\/(∃ xs,SqT K H p xs/\k=!xs.isEmpty)\/∃ kvs,H p=some (.dK kvs)/\k=!kvs.isEmpty
 |_=>False
theorem Ws{κ:Type}{kvs:List (κ×V)}{vs:List (κ×Value)}(r:KV kvs vs):(!vs.isEmpty)=!kvs.isEmpty:=by
 cases r<;>rfl
theorem uD{xs:List V}{its:List Value}(r:Vals xs its):(!its.toArray.isEmpty)=!xs.isEmpty:=by
 cases r<;>simp
theorem vR:(sizeLine:Nat)<2 ^ 63:=by rw[sizeLine_eq];decide
theorem tru_ok:zhu X (fun x H Q=>∃ k,zgF X.K x H k/\Q k H):=by
 intro pins s σ H x v Q I rx h;obtain⟨k,e,q⟩:=h;have hl:=vR;have hs:sizeLine=16777216:=sizeLine_eq;cases x with
 |non =>
  cases rx;have e':k=false:=e;subst e';exact truthy_none ⟨H,I,q⟩
 |bl b =>
  cases rx;have e':k=b:=e;subst e';exact wpAny_truthy_bool ⟨H,I,q⟩
 |int i =>
  obtain⟨t,rfl⟩:=rx;have e':k=(i != 0):=e;subst e';exact PySem.P.truthy_int ⟨H,I,q⟩
 |str y =>
  obtain⟨t,rfl⟩:=rx;obtain⟨hy,e'⟩:y.length<=sizeLine/\k=((y.length:Int) != 0):=e;subst e';exact PySem.P.truthy_str (by omega) ⟨H,I.tok _,q⟩
 |byt y =>
  obtain⟨t,rfl⟩:=rx;obtain⟨hy,e'⟩:y.size<=sizeLine/\k=((y.size:Int) != 0):=e;subst e';exact PySem.W.truthy_bytes (by omega) ⟨H,I.tok _,q⟩
 |ref p =>
  cases rx;have e':(∃ xs,SqL X.K H p xs/\k=!xs.isEmpty)\/(∃ xs,SqT X.K H p xs/\k=!xs.isEmpty)\/∃ kvs,H p=some (.dK kvs)/\k=!kvs.isEmpty:=e;rcases e' with⟨xs,hx,e'⟩ | ⟨xs,hx,e'⟩ | ⟨kvs,hx,e'⟩
  ·subst e'
   obtain⟨its,r,pl,hz⟩:=I.list hx;have hlen:=r.length;exact wpAny_truthy_list pl.isList (by simp only[size_toArray];omega) ⟨H,I.tok _,by rw[uD r];exact q⟩
  ·subst e'
   obtain⟨its,r,pl,hz⟩:=I.tuple hx;have hlen:=r.length;exact truthy_tuple pl (by simp only[size_toArray];omega) ⟨H,I.tok _,by rw[uD r];exact q⟩
  ·subst e'
   obtain⟨hz,hS,vs,r,m⟩:kvs.length<=sizeLine/\(p == sysModules)=false/\∃ vs,KV kvs vs/\s.heap.DictOf (zP X.prog X.w) p vs:=I.hok p _ hx;have hlen:kvs.length=vs.length:=Paired.length r;exact wpAny_truthy_dict hS m (by omega) ⟨H,I.tok _,by rw[Ws r];exact q⟩
 |_=>exact(show False from e).elim
theorem X7(ha:Bx (PE X a ta))(he:∀ whole,isTrue a X.env whole=(do let v <- whole;standAt a.pos;holding [v] (truthy v))):Bx (PT X a (fun σ H Q=>ta σ H fun x H'=>∃ k,zgF X.K x H' k/\Q k H')):=by
 have ha:=ha.of;refine⟨?_⟩;intro pins s σ H Q I h;exact isTrue_plain (thn (ha pins s σ H _ I h) fun v s1 ⟨x,H1,I1,r1,q1⟩=>tru_ok pins s1 σ H1 x v Q I1 r1 q1) (he _)
theorem zW:OpR X (binaryOp .Add) (fun x y H Q=>∃ i j,x=.str i/\y=.str j/\i.length+j.length<=sizeLine/\Q (.str (i++j)) H):=by
 intro pins s σ H x y v u Q I rx ry h;obtain⟨i,j,rfl,rfl,hz,q⟩:=h;obtain⟨t,rfl⟩:=rx;obtain⟨t',rfl⟩:=ry;exact add_str (fun t' tk=>⟨.str (i++j),H,I.tok _,⟨_,rfl⟩,q⟩) hz
theorem ud{x:V}{us:List Value}(r:Vals [x] us):∃ u,us=[u]/\RelV x u:=by
 cases r with
 |cons r1 r2=>cases r2;exact⟨_,rfl,r1⟩
theorem zdr{x y:V}{us:List Value}(r:Vals [x,y] us):∃ u w',us=[u,w']/\RelV x u/\RelV y w':=by
 cases r with
 |cons r1 r2 =>
  cases r2 with
  |cons r3 r4=>cases r4;exact⟨_,_,rfl,r1,r3⟩
theorem zaN:xr X (.builtin "abs") (fun xs H Q=>∃ i,xs=[.int i]/\Q (.int (if i<0 then -i else i)) H):=by
 intro pins s σ H xs us Q I r h;obtain⟨i,rfl,q⟩:=h;obtain⟨u,rfl,t,rfl⟩:=ud r;exact call_abs_int fun u tk=>⟨.int (if i<0 then -i else i),H,I.tok _,⟨_,rfl⟩,q⟩
theorem Uz(hc:X.calm=true):xr X (.builtin "max") (fun xs H Q=>∃ i j,xs=[.int i,.int j]/\Q (.int (if j>i then j else i)) H):=by
 intro pins s σ H xs us Q I r h;obtain⟨i,j,rfl,q⟩:=h;obtain⟨u,w',rfl,⟨t,rfl⟩,⟨t',rfl⟩⟩:=zdr r;refine max_two_ints (I.ok.hd hc) fun h' tk k=>⟨_,H,I.kept k,?_,q⟩;by_cases hj:j>i
 ·rw[if_pos hj,if_pos hj];exact⟨_,rfl⟩
 ·rw[if_neg hj,if_neg hj];exact⟨_,rfl⟩
theorem Uy(hc:X.calm=true):xr X (.builtin "min") (fun xs H Q=>∃ i j,xs=[.int i,.int j]/\Q (.int (if j<i then j else i)) H):=by
 intro pins s σ H xs us Q I r h;obtain⟨i,j,rfl,q⟩:=h;obtain⟨u,w',rfl,⟨t,rfl⟩,⟨t',rfl⟩⟩:=zdr r;refine min_two_ints (I.ok.hd hc) fun h' tk k=>⟨_,H,I.kept k,?_,q⟩;by_cases hj:j<i
 ·rw[if_pos hj,if_pos hj];exact⟨_,rfl⟩
 ·rw[if_neg hj,if_neg hj];exact⟨_,rfl⟩
theorem UE:xr X (.type "int") (fun xs H Q=>(∃ i,xs=[.int i]/\Q (.int i) H)\/∃ k,xs=[.bl k]/\Q (.int (if k then 1 else 0)) H):=by
 intro pins s σ H xs us Q I r h;rcases h with⟨i,rfl,q⟩ | ⟨k,rfl,q⟩
 ·obtain⟨u,rfl,t,rfl⟩:=ud r
  exact call_int_int ⟨.int i,H,I,⟨_,rfl⟩,q⟩
 ·obtain⟨u,rfl,r1⟩:=ud r
  cases r1;exact call_int_bool ⟨.int (if k then 1 else 0),H,I.tok _,⟨_,rfl⟩,q⟩
theorem yc:xr X (.type "str") (fun xs H Q=>∃ i,xs=[.int i]/\i.natAbs.log2<1920/\Q (.str (toString i)) H):=by
 intro pins s σ H xs us Q I r h;obtain⟨i,rfl,hz,q⟩:=h;obtain⟨u,rfl,t,rfl⟩:=ud r;exact PySem.P.str_of_int hz ⟨.str _,H,I.tok _,⟨_,rfl⟩,q⟩
end
structure ObjM (h:Heap) (x dx C:Addr) (mA:Str->Option Value):Prop where
 obj:h.get? x=some (PySem.W.instObj C dx)
 ns:h.Ns1 dx mA
 ne:dx≠x
theorem Z8{h:Heap}{dx:Addr}{mA:Str->Option Value}(n:h.Ns1 dx mA):∃ od,h.get? dx=some od/\∀ name,PySem.W.lookIn name od=some (mA name):=by
 obtain⟨o,es,ep,ho,hd,hk,_,hm⟩:=n;refine⟨o,ho,fun name=>?_⟩;have e:=hm name;unfold nsFind findBy at e;rw[<- Array.find?_toList] at e;unfold PySem.W.lookIn;rw[hd];dsimp only
 split
 ·rename_i y q
  rw[q] at e;exact congrArg some e
 ·rename_i q
  rw[q] at e;have a:es.toList.any (·.refKey)=false:=by
   rw[List.any_eq_false];intro y hy;obtain⟨z,t,hkey⟩:=hk y (Array.mem_toList_iff.mp hy);simp[DictEntry.refKey,hkey]
  have a':¬ es.toList.any (·.refKey)=true:=by rw[a];exact Bool.false_ne_true
  rw[if_neg a'];exact congrArg some e
theorem ObjM.look{h:Heap}{x dx C:Addr}{mA:Str->Option Value}(I:ObjM h x dx C mA):∃ od,PySem.W.InstAt h x (PySem.W.instObj C dx) C (some od)/\∀ name,PySem.W.lookIn name od=some (mA name) :=
 let ⟨od,ho,hl⟩:=Z8 I.ns
 ⟨od,⟨I.obj,rfl,rfl,ho⟩,hl⟩
section
variable {prog:Program}{w:World}{A:Around}{E:Value->Shared->Prop}{s:Shared}{K:W.Frag}{x dx C f:Addr}{mA:Str->Option Value}{name:Str}{v:Value}
theorem zcH{expr:Bool}{Q:Value->Shared->Prop}(X:K.In s.heap)(I:ObjM s.heap x dx C mA)(hg:PySem.W.plainGet K C name=true)(hh:PySem.W.hasDictIn K C=true)
  (ha:PySem.W.findIn K (.ref C) name=some none) (hv:mA name=some v) (hv':PySem.W.handedIn v=true) (h:Q v { s with toks:=s.toks+1 }) :
  wpAny (model prog w) A (getAttr (.ref x) name expr) Q E s:=by
 obtain⟨od,J,hl⟩:=I.look;exact PySem.W.get_value X J (PySem.W.plainGet_of hg).1 (PySem.W.findObj_own hh ha rfl (by rw[hl,hv])) hv' h
theorem zaC{pl:Sem Bool}{Q:Value×List Value->Shared->Prop}(X:K.In s.heap)(I:ObjM s.heap x dx C mA)(hg:PySem.W.plainGet K C name=true)
  (hf:PySem.W.findIn K (.ref C) name=some (some (.ref f))) (ht:PySem.W.isFn K (.ref f)=true) (hv:mA name=none) (h:Q (.ref f,[.ref x]) s) :
  wpAny (model prog w) A (getMethod (.ref x) name pl) Q E s:=by
 obtain⟨od,J,hl⟩:=I.look;exact PySem.W.method_fn X J (PySem.W.plainGet_of hg).1 (PySem.W.plainGet_of hg).2 hf (beq_iff_eq.mp ht) (by show(PySem.W.lookIn name od).map (·.isSome)=some false;rw[hl,hv];rfl) h
theorem zbO{ns:List Str}{Q:Unit->Shared->Prop}(X:K.In s.heap)(I:ObjM s.heap x dx C mA)
  (hs:PySem.W.findIn K (.ref C) "__setattr__" = some (some (.builtin "object.__setattr__"))) (hp:PySem.W.plainOver K C=true) (ht:PySem.W.takerIn K C name=some none) (hh:PySem.W.hasDictIn K C=true)
  (hw:PySem.Within mA ns) (hsz:ns.length<=sizeLine)
  (h:∀ h',ObjM h' x dx C (fun y=>if y=name then some v else mA y)->Heap.SameBut dx s.heap h'->Q () { s with heap:=h',toks:=s.toks+2 }) :
  wpAny (model prog w) A (setAttr (.ref x) name v) Q E s:=by
 obtain⟨od,J,hl⟩:=I.look;refine PySem.W.set_plain X J hs (PySem.W.osa_open (s:={ s with toks:=s.toks+1 }) (r:=none) X J hp ht fun b=>?_);obtain⟨cd,hc,hd'⟩:=PySem.W.any_some hh;have hx:s.heap.get? x=some ⟨.ref C,some dx,.plain,#[]⟩:=I.obj;refine wpAny_bind (wpAny_pure (wpAny_bind (wpAny_bind (wpAny_loadPart hx (wpAny_bind (PySem.W.Looks.here (s:={ s with toks:=s.toks+1 }) (PySem.W.looks_clsIn X hc) ?_))))));rw[hd'];refine wpAny_pure (a:=some dx) (wpAny_bind (wpAny_pure (wpAny_bind ?_)));refine wpAny_nsSet1 (s:={ s with toks:=s.toks+1 }) I.ns fun h' hn2 hs2=>?_;obtain⟨oD,esD,epD,hoD,hdD,hcD⟩:=hn2.count (PySem.Within.cons name v hw);refine wpAny_bind (wpAny_lookBehind hoD (by rw[hdD];exact pastItsLine_dict (le_trans hcD (by rw[length_cons];omega))) ?_);exact wpAny_pure (h _ ⟨(hs2.2 _ (Ne.symm I.ne)).trans I.obj,hn2,I.ne⟩ hs2)
theorem zal{R:Result->Shared->Prop}{vs:List Value}{kw:List (Str×Value)}(X:K.In s.heap)(hm:PySem.W.makesIn K C=true)
  (hi:PySem.W.findIn K (.ref C) "__init__" = some (some (.ref f))) (hf:PySem.W.typeIn K (.ref f)=some (.type "function"))
  (h:codeAny (model prog w) (A.under (.builtin "type.__call__" ⟨.ref C::vs,kw⟩)) (.call (.ref f) ⟨.ref (s.heap.objs.size+1)::vs,kw⟩) (PySem.W.InitBack (s.heap.objs.size+1) R)
   { s with heap:=(s.heap.push PySem.W.emptyDict).push (PySem.W.instObj C s.heap.objs.size) }) :
  codeAny (model prog w) A (.call (.ref C) ⟨vs,kw⟩) R s:=by
 obtain⟨hh,g,d,t,os⟩:=s;exact PySem.W.make_core (PySem.W.makes_of X hm) (PySem.W.looks_findIn X hi) (fun self=>PySem.W.bind_fn X self hf) (.inl rfl) h
end
noncomputable def Ys(f:Str)(v:V):List (Str×V)->List (Str×V)
 |[]=>[(f,v)]
 |(g,x)::r=>if g=f then(g,v)::r else(g,x)::Ys f v r
theorem vQ(f g:Str)(v:V):∀ fs:List (Str×V),(Ys f v fs).lookup g=if g=f then some v else fs.lookup g
 |[]=>by
  show List.lookup g [(f,v)]=_;by_cases h:g=f
  ·have hb:(g == f)=true:=beq_iff_eq.mpr h
   simp only[List.lookup,hb,if_pos h]
  ·have hb:(g == f)=false:=beq_eq_false_iff_ne.mpr h
   simp only[List.lookup,hb,if_neg h]
 |(k,x)::r=>by
  have ih:=vQ f g v r;rw[show Ys f v ((k,x)::r)=(if k=f then(k,v)::r else(k,x)::Ys f v r) from rfl];by_cases hk:k=f
  ·rw[if_pos hk]
   by_cases h:g=k
   ·have hb:(g == k)=true:=beq_iff_eq.mpr h
    simp only[List.lookup,hb,if_pos (h.trans hk)]
   ·have hb:(g == k)=false:=beq_eq_false_iff_ne.mpr h
    simp only[List.lookup,hb,if_neg (fun e:g=f=>h (e.trans hk.symm))]
  ·rw[if_neg hk]
   by_cases h:g=k
   ·have hb:(g == k)=true:=beq_iff_eq.mpr h
    simp only[List.lookup,hb,if_neg (fun e:g=f=>hk (h.symm.trans e))]
   ·have hb:(g == k)=false:=beq_eq_false_iff_ne.mpr h
    simp only[List.lookup,hb];exact ih
theorem vU(f:Str)(v:V):∀ fs:List (Str×V),f∈(Ys f v fs).map (·.1)/\∀ g,g∈fs.map (·.1)->g∈(Ys f v fs).map (·.1)
 |[]=>⟨by simp[Ys],fun g h=>by simp at h⟩
 |(k,x)::r=>by
  obtain⟨i1,i2⟩:=vU f v r;rw[show Ys f v ((k,x)::r)=(if k=f then(k,v)::r else(k,x)::Ys f v r) from rfl];by_cases hk:k=f
  ·rw[if_pos hk]
   subst hk;exact⟨by simp,fun g h=>by simpa using h⟩
  ·rw[if_neg hk]
   refine⟨?_,fun g h=>?_⟩
   ·rw[map_cons]
    exact mem_cons_of_mem _ i1
   ·rw[map_cons] at h ⊢
    rcases mem_cons.mp h with e | e
    ·exact mem_cons.mpr (.inl e)
    ·exact mem_cons_of_mem _ (i2 g e)
theorem vS(f:Str)(v:V):∀ fs:List (Str×V),(Ys f v fs).length<=fs.length+1
 |[]=>by simp[Ys]
 |(k,x)::r=>by
  have ih:=vS f v r;rw[show Ys f v ((k,x)::r)=(if k=f then(k,v)::r else(k,x)::Ys f v r) from rfl];by_cases hk:k=f
  ·rw[if_pos hk,length_cons,length_cons];omega
  ·rw[if_neg hk,length_cons,length_cons];omega
theorem RelO.some_of{v:V}{o:Option Value}(r:RelO (some v) o):∃ u,o=some u/\RelV v u:=by
 cases o with
 |none=>exact(show False from r).elim
 |some u=>exact⟨u,rfl,r⟩
theorem RelO.none_of{o:Option Value}(r:RelO none o):o=none:=by
 cases o with
 |none=>rfl
 |some u=>exact(show False from r).elim
theorem Yd{v:V}{u:Value}(r:RelV v u):PySem.W.handedIn u=true:=by
 cases v with
 |non=>cases (show u=Value.none from r);rfl
 |bl b=>cases (show u=Value.bool b from r);rfl
 |int i=>obtain⟨t,e⟩:=(show ∃ t,u=Value.int i t from r);cases e;rfl
 |str x=>obtain⟨t,e⟩:=(show ∃ t,u=Value.str x t from r);cases e;rfl
 |byt b=>obtain⟨t,e⟩:=(show ∃ t,u=Value.bytes b t from r);cases e;rfl
 |flt b=>obtain⟨t,e⟩:=(show ∃ t,u=Value.float b t from r);cases e;rfl
 |ref a=>cases (show u=Value.ref a from r);rfl
 |ty n=>cases (show u=Value.type n from r);rfl
section
variable {P:Program}{w:World}{H H':Hp}{h h':Heap}{a C dx:Addr}{fs fs':List (Str×V)}
theorem Zl(hok:HOk P w H h)(e:H a=some (.ins C dx fs)):∃ mA,ObjM h a dx C mA/\(∀ f,RelO (fs.lookup f) (mA f))/\PySem.Within mA (fs.map (·.1))/\fs.length<=1000/\H dx=some (.own a):=by
 obtain⟨d,z,ne,ob,mA,n,r,q⟩:=(show ObjOk P w H h a (.ins C dx fs) from hok a _ e);exact⟨mA,⟨ob,n,ne⟩,r,q,z,d⟩
end
structure Cls (K:W.Frag) (C:Addr):Prop where
 pg:PySem.W.plainGet K C Str.empty=true
 hd:PySem.W.hasDictIn K C=true
 po:PySem.W.plainOver K C=true
 sa:PySem.W.findIn K (.ref C) "__setattr__" = some (some (.builtin "object.__setattr__"))
theorem Cls.get{K:W.Frag}{C:Addr}(c:Cls K C)(f:Str):PySem.W.plainGet K C f=true:=c.pg
def NoAttr(K:W.Frag)(C:Addr)(f:Str):Prop:=PySem.W.findIn K (.ref C) f=some none
theorem NoAttr.taker{K:W.Frag}{C:Addr}{f:Str}(n:NoAttr K C f):PySem.W.takerIn K C f=some none:=by
 unfold PySem.W.takerIn;rw[show PySem.W.findIn K (.ref C) f=some none from n];rfl
structure Meth (K:W.Frag) (C:Addr) (m:Str) (f:Addr):Prop where
 at_:PySem.W.findIn K (.ref C) m=some (some (.ref f))
 fn:PySem.W.isFn K (.ref f)=true
 kp:PySem.W.keepIn K (.ref f)=true
section
variable {X:Cx}{pins:List (Addr×Obj)}{σ:St}{H:Hp}{s:Shared}{a C dx:Addr}{fs:List (Str×V)}{f:Str}{v:V}{A:Around}{E:Value->Shared->Prop}
theorem Wu{b:Bool}{Q:Value->Shared->Prop}(I:Inv X pins σ H s)(e:H a=some (.ins C dx fs))(c:Cls X.K C)(n:NoAttr X.K C f)(l:fs.lookup f=some v)
  (h:∀ u s',Inv X pins σ H s'->RelV v u->Q u s'):wpAny (model X.prog X.w) A (getAttr (.ref a) f b) Q E s:=by
 obtain⟨mA,O,r,_,_,_⟩:=Zl I.hok e;obtain⟨u,hu,ru⟩:=RelO.some_of (v:=v) (o:=mA f) (by rw[<- l];exact r f);exact zcH I.kIn O (c.get f) c.hd n hu (Yd ru) (h u _ (I.tok _) ru)
theorem wa{m:Str}{g:Addr}{pl:Sem Bool}{Q:Value×List Value->Shared->Prop}(I:Inv X pins σ H s)(e:H a=some (.ins C dx fs))(c:Cls X.K C)(k:Meth X.K C m g)(l:fs.lookup m=none)
  (h:Q (.ref g,[.ref a]) s):wpAny (model X.prog X.w) A (getMethod (.ref a) m pl) Q E s:=by
 obtain⟨mA,O,r,_,_,_⟩:=Zl I.hok e;have hn:mA m=none:=RelO.none_of (by rw[<- l];exact r m);exact zaC I.kIn O (c.get m) k.at_ k.fn hn h
theorem Wh{y:V}{u:Value}{Q:Unit->Shared->Prop}(I:Inv X pins σ H s)(e:H a=some (.ins C dx fs))(c:Cls X.K C)(n:NoAttr X.K C f)(hl:fs.length<1000)(ry:RelV y u)
  (h:∀ s',Inv X pins σ (upd H a (.ins C dx (Ys f y fs))) s'->Q () s'):wpAny (model X.prog X.w) A (setAttr (.ref a) f u) Q E s:=by
 obtain⟨mA,O,r,wi,_,ho⟩:=Zl I.hok e;have hz:(fs.map (·.1)).length<=sizeLine:=by rw[length_map,sizeLine_eq];omega
 refine zbO I.kIn O c.sa c.po n.taker c.hd wi hz fun h' O' sb=>h _ ?_;have hd:∃ o,h'.get? dx=some o:=let ⟨o,_,_,e',_⟩:=O'.ns;⟨o,e'⟩
 refine I.write (x:=a) (e:=dx) (by rw[e];exact True.intro) (.inr ho) (fun b q hb z=>(sb.2 b hb).trans z) hd ?_;refine⟨by rw[upd_ne O.ne];exact ho,?_,O.ne,O'.obj,_,O'.ns,fun g=>?_,fun g hg=>?_⟩
 ·have:=vS f y fs;omega
 ·show RelO ((Ys f y fs).lookup g) (if g=f then some u else mA g)
  rw[vQ];by_cases q:g=f
  ·rw[if_pos q,if_pos q];exact ry
  ·rw[if_neg q,if_neg q];exact r g
 ·by_cases q:g=f
  ·rw[q];exact(vU f y fs).1
  ·refine(vU f y fs).2 g (wi g fun z=>hg ?_)
   show(if g=f then some u else mA g)=none;rw[if_neg q];exact z
theorem Inv.made(I:Inv X pins σ H s):Inv X pins σ (upd (upd H s.heap.objs.size (.own (s.heap.objs.size+1))) (s.heap.objs.size+1) (.ins C s.heap.objs.size []))
  { s with heap:=(s.heap.push PySem.W.emptyDict).push (PySem.W.instObj C s.heap.objs.size) }:=by
 have e1:(s.heap.push PySem.W.emptyDict).get? s.heap.objs.size=some PySem.W.emptyDict:=Heap.get?_push_size s.heap rfl;have e2:((s.heap.push PySem.W.emptyDict).push (PySem.W.instObj C s.heap.objs.size)).get? (s.heap.objs.size+1)=some (PySem.W.instObj C s.heap.objs.size):=by
  have:=Heap.get?_push_size (s.heap.push PySem.W.emptyDict) (o:=PySem.W.instObj C s.heap.objs.size) rfl
  rwa [Heap.size_push] at this
 have e3:(s.heap.push PySem.W.emptyDict).Ns s.heap.objs.size (fun _=>none):=⟨PySem.W.emptyDict,#[],_,e1,rfl,(fun e he=>absurd he (by simp)),fun _=>rfl⟩;have I1:=I.laid (a:=s.heap.objs.size) (o:=.own (s.heap.objs.size+1)) (h':=s.heap.push PySem.W.emptyDict) (t':=s.toks) (fun b u q=>Heap.get?_push_of_some _ q) (Nat.le_refl _) ⟨_,e1⟩;refine I1.laid (a:=s.heap.objs.size+1) (o:=.ins C s.heap.objs.size []) (t':=s.toks) (fun b u q=>Heap.get?_push_of_some _ q) (le_of_eq (Heap.size_push _ _)) ?_;have ne:s.heap.objs.size≠s.heap.objs.size+1:=ne_of_lt (Nat.lt_succ_self _);refine⟨by rw[upd_ne ne,upd_same],zero_le _,ne,e2,fun _=>none,(Heap.Ns1.of_empty e3).at fun o q=>Heap.get?_push_of_some _ q,fun _=>True.intro,fun y hy=>absurd rfl hy⟩
theorem attr_of{prog:Program}{w:World}{env:Env}{e:Expr}{f:Str}{pos:Pos}{s:Shared}{Q:Value->Shared->Prop}(hb:attributeBase e f env (eval e env)=eval e env)
  (h:wpAny (model prog w) A (eval e env) (fun o s₁=>wpAny (model prog w) A (getAttr o f true) Q E s₁) E s):wpAny (model prog w) A (eval (.Attribute e f pos) env) Q E s :=
 Attribute_any_ h (by rw[arm_eval_Attribute,hb])
end
def zgP(K:W.Frag)(ta:TE)(f:Str):TE:=fun σ H Q=>ta σ H fun x H1=>∃ a C dx fs v,x=.ref a/\H1 a=some (.ins C dx fs)/\Cls K C/\NoAttr K C f/\fs.lookup f=some v/\Q v H1
def zgu(K:W.Frag)(ta tv:TE)(f:Str):TS:=fun D σ H=>tv σ H fun y H1=>ta σ H1 fun x H2=>∃ a C dx fs,x=.ref a/\H2 a=some (.ins C dx fs)/\Cls K C/\NoAttr K C f/\fs.length<1000 /\
 D.nx σ (upd H2 a (.ins C dx (Ys f y fs)))
section
variable {X:Cx}{o e value:Expr}{f:Str}{pos pos' tpos:Pos}{ta tv:TE}
theorem zI(he:Bx (PE X e ta))(hb:attributeBase e f X.env (eval e X.env)=eval e X.env):Bx (PE X (.Attribute e f pos) (zgP X.K ta f)):=by
 have he:=he.of;refine⟨?_⟩;intro pins s σ H Q I h;refine attr_of hb (thn (he pins s σ H _ I h) fun u s1 hq0=>?_);obtain⟨x,H1,I1,rx,a,C,dx,fs,v,ex,ea,c,n,l,q⟩:=hq0;subst ex;obtain rfl:u=Value.ref a:=rx;exact Wu I1 ea c n l fun u' s2 I2 ru=>⟨v,H1,I2,ru,q⟩
theorem ZO(ha:PE X o ta)(hv:PE X value tv)(hs:swapsWith value (some (.Attribute o f pos')) pos.line X.env=pure false):PS X (.Assign [.Attribute o f pos'] value pos) (zgu X.K ta tv f):=by
 intro pins s σ H D I h;refine plainObj_wpAny_Assign_Attribute (thn (hv pins s σ H _ I h) fun u s1 ⟨y,H1,I1,ry,q⟩=>thn (ha pins s1 σ H1 _ I1 q) fun ov s2 hq0=>?_) hs;obtain⟨x,H2,I2,rx,a,C,dx,fs,ex,ea,c,n,l,q2⟩:=hq0;subst ex;obtain rfl:ov=Value.ref a:=rx;exact Wh I2 ea c n l ry fun s3 I3=>⟨σ,_,I3,q2⟩
theorem zcp{pl:Sem Bool}{m:Str}{apos:Pos}{args:List Expr}{pins:List (Addr×Obj)}{s:Shared}{σ:St}{H:Hp}{Q:Value->Shared->Prop}{te:TE}(he:PE X e te)(I:Inv X pins σ H s)
  (h:te σ H fun x H1=>∃ a C dx fs g,x=.ref a/\H1 a=some (.ins C dx fs)/\Cls X.K C/\Meth X.K C m g/\fs.lookup m=none /\
   ∀ s1,Inv X pins σ H1 s1->wpAny (model X.prog X.w) X.A (callWith pos (.ref g) [.ref a] (backTo pos (starEach args X.env)) (backToKw pos (keywordEach [] X.env))) Q X.xe s1)
  (ht:eval (.Call (.Attribute e m apos) args [] pos) X.env=(do
   let ov <- eval e X.env
   standAt apos.atName
   let (f,first) <- holding [ov] (getMethod ov m pl)
   callWith pos f first (backTo pos (starEach args X.env)) (backToKw pos (keywordEach [] X.env)))) :
  wpAny (model X.prog X.w) X.A (eval (.Call (.Attribute e m apos) args [] pos) X.env) Q X.xe s:=by
 refine PySem.W.methodCall_KW (pl:=pl) (thn (he pins s σ H _ I h) fun u s1 hq0=>?_) ht;obtain⟨x,H1,I1,rx,a,C,dx,fs,g,ex,ea,c,k,l,q⟩:=hq0;subst ex;obtain rfl:u=Value.ref a:=rx;exact wa I1 ea c k l (q s1 I1)
end
section
variable {X:Cx}{pins:List (Addr×Obj)}{σ:St}{H:Hp}{s:Shared}{A:Around}{E:Value->Shared->Prop}{Q:Value->Shared->Prop}{c:Value}{b:Bool}
inductive TyOf (K:W.Frag) (H:Hp):V->Value->Prop where
 |non:TyOf K H .non (.type "NoneType")
 |bl (x:Bool):TyOf K H (.bl x) (.type "bool")
 |int (i:Int):TyOf K H (.int i) (.type "int")
 |str (x:Str):TyOf K H (.str x) (.type "str")
 |flt (x:UInt64):TyOf K H (.flt x) (.type "float")
 |lst {a:Addr}{xs:List V}(e:H a=some (.lst xs)):TyOf K H (.ref a) (.type "list")
 |frz {a:Addr}{o:Obj}{xs:List V}(e:H a=some (.frz o (.lst xs))):TyOf K H (.ref a) (.type "list")
 |tup {a:Addr}{xs:List V}(e:H a=some (.tup xs)):TyOf K H (.ref a) (.type "tuple")
 |dK {a:Addr}{kvs:List (Key×V)}(e:H a=some (.dK kvs)):TyOf K H (.ref a) (.type "dict")
 |dT {a:Addr}{kvs:List (List Key×V)}(e:H a=some (.dT kvs)):TyOf K H (.ref a) (.type "dict")
 |ins {a C dx:Addr}{fs:List (Str×V)}(e:H a=some (.ins C dx fs)) (cl:Cls K C) (ha:PySem.W.findIn K (.ref C) "__class__" = some (some (.builtin "object.__class__")))
   (hn:PySem.W.specialIn K (.builtin "object.__class__") "__get__" = some (some (.builtin "getset_descriptor.__get__"))) (htk:PySem.W.takesIn K (.builtin "object.__class__")=some true)
   (hm:PySem.W.mroIn K C (.type "object")=some true):TyOf K H (.ref a) (.ref C)
theorem V5{x:V}{u t:Value}(I:Inv X pins σ H s)(rx:RelV x u)(ty:TyOf X.K H x t)(e:PySem.W.kitOne X.K t c=some b)(h:∀ tk,Q (.bool b) { s with toks:=tk }) :
  wpAny (model X.prog X.w) A (call (.builtin "isinstance") [u,c]) Q E s:=by
 cases ty with
 |non=>cases (show u=Value.none from rx);exact PySem.W.kia_one PySem.W.kitx_none I.kIn True.intro e (fun z=>nomatch z) h
 |bl y=>cases (show u=Value.bool y from rx);exact PySem.W.kia_one PySem.W.kitx_bool I.kIn True.intro e (fun z=>nomatch z) h
 |int i=>obtain⟨t,q⟩:=(show ∃ t,u=Value.int i t from rx);cases q;exact PySem.W.kia_one PySem.W.kitx_int I.kIn True.intro e (fun z=>nomatch z) h
 |str y=>obtain⟨t,q⟩:=(show ∃ t,u=Value.str y t from rx);cases q;exact PySem.W.kia_one PySem.W.kitx_str I.kIn True.intro e (fun z=>nomatch z) h
 |flt y=>obtain⟨t,q⟩:=(show ∃ t,u=Value.float y t from rx);cases q;exact PySem.W.kia_one PySem.W.kitx_float I.kIn True.intro e (fun z=>nomatch z) h
 | @lst a xs ea =>
  cases (show u=Value.ref a from rx);obtain⟨_,_,n,_,h1⟩:=(show ObjOk X.prog X.w H s.heap a (.lst xs) from I.hok a _ ea);exact PySem.W.kia_one PySem.W.kitx_list I.kIn ⟨_,h1,rfl⟩ e (fun z=>nomatch z) h
 | @frz a ob xs ea =>
  cases (show u=Value.ref a from rx);obtain⟨_,_,_,n,_,h1⟩:=(show ObjOk X.prog X.w H s.heap a (.frz ob (.lst xs)) from I.hok a _ ea);exact PySem.W.kia_one PySem.W.kitx_list I.kIn ⟨_,h1,rfl⟩ e (fun z=>nomatch z) h
 | @tup a xs ea =>
  cases (show u=Value.ref a from rx);obtain⟨_,_,_,p⟩:=(show ObjOk X.prog X.w H s.heap a (.tup xs) from I.hok a _ ea);obtain⟨o,h1,h2,_⟩:=p;exact PySem.W.kia_one PySem.W.kitx_tuple I.kIn ⟨o,h1,h2⟩ e (fun z=>nomatch z) h
 | @dK a kvs ea =>
  cases (show u=Value.ref a from rx);obtain⟨_,_,vs,_,p⟩:=(show ObjOk X.prog X.w H s.heap a (.dK kvs) from I.hok a _ ea);obtain⟨o,es,ep,h1,h2,_⟩:=p;exact PySem.W.kia_one PySem.W.kitx_dict I.kIn ⟨o,h1,h2.1⟩ e (fun z=>nomatch z) h
 | @dT a kvs ea =>
  cases (show u=Value.ref a from rx);obtain⟨_,_,xs,_,o,es,ep,h1,h2,_⟩:=(show ObjOk X.prog X.w H s.heap a (.dT kvs) from I.hok a _ ea);exact PySem.W.kia_one PySem.W.kitx_dict I.kIn ⟨o,h1,h2.1⟩ e (fun z=>nomatch z) h
 | @ins a C dx fs ea cl ha hn htk hm =>
  cases (show u=Value.ref a from rx);obtain⟨mA,O,_⟩:=Zl I.hok ea;obtain⟨od,J,_⟩:=O.look;exact PySem.W.kia_one (PySem.W.kitx_own (cl.get _) cl.hd ha hn htk hm) I.kIn J e (fun z=>nomatch z) h
end
structure Room (k:Nat) (A:Around):Prop where
 hd:A.handled=none
 dp:A.depth+3*k+5<recursionLimit
 un:A.units+16*k+200<cLine
theorem Room.mono{j k:Nat}{A:Around}(r:Room k A)(h:j<=k):Room j A:=⟨r.hd,by have:=r.dp;omega,by have:=r.un;omega⟩
theorem Room.m{j k:Nat}{A:Around}(r:Room k A)(h:j<=k:=by omega):Room j A:=r.mono h
theorem Room.deeper{k:Nat}{A:Around}(r:Room (k+1) A)(env:Env):Room k (A.deeper env) :=
 ⟨r.hd,by have:=r.dp;show A.depth+1+3*k+5<_;omega,by have:=r.un;show A.units+3+16*k+200<_;omega⟩
theorem Wq{A:Around}{C:Addr}{us:List Value}{kw:List (Str×Value)}:(A.under (.builtin "type.__call__" ⟨.ref C::us,kw⟩)).depth=A.depth+1:=by
 first | rfl | simp[Around.under,Code.weight,Code.isCreation,Code.isGuard,Code.isCaller,Code.frames,Code.isFrame,guardIds]
theorem Wp{A:Around}{C:Addr}{us:List Value}{kw:List (Str×Value)}:(A.under (.builtin "type.__call__" ⟨.ref C::us,kw⟩)).units=A.units+1:=by
 first | rfl | simp[Around.under,Code.cUnits,Code.frames,Code.isFrame]
theorem Room.make{k:Nat}{A:Around}(r:Room (k+1) A)(C:Addr)(us:List Value)(kw:List (Str×Value)):Room k (A.under (.builtin "type.__call__" ⟨.ref C::us,kw⟩)) :=
 ⟨r.hd,by have:=r.dp;rw[Wq];omega,by have:=r.un;rw[Wp];omega⟩
theorem Room.depth{k:Nat}{A:Around}(r:Room k A):A.depth<recursionLimit:=by have:=r.dp;omega
theorem Room.units{k:Nat}{A:Around}(r:Room k A):A.units+64<cLine:=by have:=r.un;omega
theorem Room.units0{k:Nat}{A:Around}(r:Room k A):A.units<cLine:=by have:=r.un;omega
def wN:TA:=fun _ H Q=>Q [] H
def yr(ta:TE)(tr:TA):TA:=fun σ H Q=>ta σ H fun x H1=>tr σ H1 fun xs H2=>Q (x::xs) H2
section
variable {X:Cx}{e:Expr}{es:List Expr}{te:TE}{t:TA}{pos:Pos}
theorem ym:PA X [] wN:=fun _ _ _ _ H Q I h=>Calls.spliced_nil ⟨[],H,I,.nil,h⟩
theorem xo(ha:PE X e te)(hr:PA X es t)(hs:starEach (e::es) X.env=(false,eval e X.env)::starEach es X.env:=by rfl):PA X (e::es) (yr te t):=by
 intro pos pins s σ H Q I h;rw[hs];show wpAny _ _ (spliced ((false,eval e X.env)::backTo pos (starEach es X.env))) _ _ s;refine Calls.spliced_cons (thn (ha pins s σ H _ I h) fun u s1 hq0=>?_);obtain⟨x,H1,I1,r1,q1⟩:=hq0;exact thn (hr pos pins s1 σ H1 _ I1 q1) fun us s2 ⟨xs,H2,I2,r2,q2⟩=>⟨x::xs,H2,I2,.cons r1 r2,q2⟩
def ze3(t:TA):TE:=fun σ H Q=>t σ H fun xs H1=>xs.length<=sizeLine/\∀ p,H1 p=none->Q (.ref p) (upd H1 p (.tup xs))
def UQ(t:TA):TE:=fun σ H Q=>t σ H fun xs H1=>xs.length<=sizeLine/\∀ p,H1 p=none->Q (.ref p) (upd H1 p (.lst xs))
theorem yC{x1}(h:Bx (PA X es t)):Bx (PE X (.Tuple es x1 pos) (ze3 t)):=by
 have h:=h.of;refine⟨?_⟩;intro pins s σ H Q I hq;refine wpAny_Tuple_spliced (thn (h pos pins s σ H _ I hq) fun us s1 ⟨xs,H1,I1,r,z,q⟩=>⟨by rw[<- r.length];exact z,?_⟩);have hf:H1 s1.heap.objs.size=none:=I1.hok.fresh (Nat.le_refl _);refine⟨.ref s1.heap.objs.size,upd H1 s1.heap.objs.size (.tup xs),I1.laid (t':=s1.toks) (fun b u e=>Heap.get?_push_of_some _ e) (Nat.le_refl _) ?_,rfl,q _ hf⟩;exact⟨z,us,r,⟨_,Heap.get?_push_size _ rfl,rfl,_,rfl⟩⟩
theorem XB(h:PA X es t):PE X (.List es pos) (UQ t):=by
 intro pins s σ H Q I hq;refine wpAny_List_spliced (thn (h pos pins s σ H _ I hq) fun us s1 ⟨xs,H1,I1,r,z,q⟩=>⟨by rw[<- r.length];exact z,?_⟩);have hf:H1 s1.heap.objs.size=none:=I1.hok.fresh (Nat.le_refl _);refine⟨.ref s1.heap.objs.size,upd H1 s1.heap.objs.size (.lst xs),I1.laid (t':=s1.toks) (fun b u e=>Heap.get?_push_of_some _ e) (Nat.le_refl _) ?_,rfl,q _ hf⟩;exact⟨z,us,0,r,Heap.get?_push_size _ rfl⟩
end
abbrev Sp:=List V->Hp->VK->XK->Prop
abbrev CXT:=List Env->Hp->Shared->XK->Value->Shared->Prop
structure Env0 (P:Program) (w:World) (K:W.Frag) (mg:Str->Option Value) (base:Heap) (A:Around) (outer:List Env) (s:Shared) (H:Hp):Prop where
 frames:A.frames=some outer
 mod:Mod K mg base
 bs:∀ b o,base.get? b=some o->s.heap.get? b=some o/\H b=none
 bsz:base.objs.size<=s.heap.objs.size
 funs:s.heap.FunFrames base outer
 frf:∀ b∈frs outer,H b=none
 hok:HOk P w H s.heap
 bare:AllBare s.gens
def CE(outer:List Env)(P:Program)(w:World)(H:Hp)(s:Shared)(Q:VK)(u:Value)(s':Shared):Prop :=
 ∃ v H',s'.os=s.os/\AllBare s'.gens/\Un (frs outer) [] H H' s.heap s'.heap/\HOk P w H' s'.heap/\RelV v u/\Q v H'
def CR(CX:CXT)(outer:List Env)(P:Program)(w:World)(H:Hp)(s:Shared)(Q:VK)(E:XK)(r:Result)(s':Shared):Prop :=
 match r with
 |.ok (.ret u)=>CE outer P w H s Q u s'
 |.ok _=>False
 |.error e=>CX outer H s E e s'
structure FnOk (P:Program) (w:World) (K:W.Frag) (mg:Str->Option Value) (base:Heap) (CX:CXT) (k:Nat) (f:Addr) (fd:FuncData) (ps:List Str) (sp:Sp):Prop where
 len:∀ vs H Q E,sp vs H Q E->vs.length=ps.length
 run:∀ (A:Around) (outer:List Env) (s:Shared) (H:Hp) (args:Args) (us:List Value) (vs:List V) (Q:VK) (E:XK),Room k A->Env0 P w K mg base A outer s H->BindsTo s fd args (ps.zip us)->Vals vs us->sp vs H Q E ->
  codeAny (model P w) A (.call (.ref f) args) (CR CX outer P w H s Q E) s
theorem FnOk.imp{P:Program}{w:World}{K:W.Frag}{mg:Str->Option Value}{base:Heap}{CX:CXT}{k:Nat}{f:Addr}{fd:FuncData}{ps:List Str}{sp sp':Sp}(F:FnOk P w K mg base CX k f fd ps sp)
  (h:∀ vs H Q E,sp' vs H Q E->sp vs H Q E):FnOk P w K mg base CX k f fd ps sp' :=
 ⟨fun vs H Q E q=>F.len vs H Q E (h _ _ _ _ q),fun A outer s H args us vs Q E hr he hb hv hs=>F.run A outer s H args us vs Q E hr he hb hv (h _ _ _ _ hs)⟩
theorem Env0.make{P:Program}{w:World}{K:W.Frag}{mg:Str->Option Value}{base:Heap}{A:Around}{outer:List Env}{s:Shared}{H:Hp}(e:Env0 P w K mg base A outer s H)(C:Addr)(us:List Value)(kw:List (Str×Value)) :
  Env0 P w K mg base (A.under (.builtin "type.__call__" ⟨.ref C::us,kw⟩)) outer s H:=⟨by first | exact e.frames | (simpa[Around.under,Code.envs,Code.isFrame,pushEnvs] using e.frames),e.mod,e.bs,e.bsz,e.funs,e.frf,e.hok,e.bare⟩
section
variable {X:Cx}{pins:List (Addr×Obj)}{σ:St}{H:Hp}{s s':Shared}
theorem Inv.env0(I:Inv X pins σ H s):Env0 X.prog X.w X.K X.mg X.base X.A X.stack s H :=
 ⟨I.ok.frames,I.ok.mod,I.bs,le_trans I.ok.bsz I.sz,I.stack,I.stkFree,I.hok,I.bare⟩
theorem Inv.after{Q:VK}{u:Value}(I:Inv X pins σ H s)(h:CE X.stack X.prog X.w H s Q u s'):EP X pins σ Q u s':=by
 obtain⟨v,H',os,bare,un,hok,r,q⟩:=h;obtain⟨hh,g,d,t,os'⟩:=s';obtain rfl:os'=s.os:=os;exact⟨v,H',I.call (h':=hh) (g':=g) (d':=d) (t':=t) (ch:=[]) un hok bare (fun b z=>absurd z (by simp)),r,q⟩
end
def w8(sp:Sp)(dvs:List V)(E:XK)(t:TA):TE:=fun σ H Q=>t σ H fun vs H1=>sp (vs++dvs) H1 Q E
def zdC(C:Addr)(m:Str)(sp:Sp)(dvs:List V)(E:XK)(ta:TE)(t:TA):TE:=fun σ H Q=>ta σ H fun x H1=>∃ a dx fs,x=.ref a/\H1 a=some (.ins C dx fs)/\fs.lookup m=none /\
 t σ H1 fun vs H2=>sp (x::(vs++dvs)) H2 Q E
def zbF(C:Addr)(sp:Sp)(dvs:List V)(E:XK)(t:TA):TE:=fun σ H Q=>t σ H fun vs H1=>∀ x dx,H1 x=none->H1 dx=none->dx≠x ->
 sp (.ref x::(vs++dvs)) (upd (upd H1 dx (.own x)) x (.ins C dx [])) (fun v H2=>v=.non/\Q (.ref x) H2) E
def Binds(K:W.Frag)(fd:FuncData)(ps:List Str)(ds:List Value):Prop :=
 ∀ (s:Shared) (us:List Value),K.In s.heap->(us++ds).length=ps.length->BindsTo s fd ⟨us,[]⟩ (ps.zip (us++ds))
theorem Binds.all{K:W.Frag}{fd:FuncData}{ps:List Str}(h:∀ us:List Value,us.length=ps.length->bindArgs fd ⟨us,[]⟩=pure (ps.zip us)):Binds K fd ps []:=fun s us _ hl=>by
 rw[append_nil] at hl ⊢;exact .of_eq (h us hl)
def w6(CX:CXT)(X:Cx)(E:XK):Prop:=∀ (pins:List (Addr×Obj)) (σ:St) (H:Hp) (s:Shared) (e:Value) (s':Shared),Inv X pins σ H s->CX X.stack H s E e s'->X.xe e s'
section
variable {X:Cx}{CX:CXT}{k:Nat}{f C:Addr}{fd:FuncData}{ps:List Str}{sp:Sp}{dvs:List V}{ds:List Value}{E:XK}{x m:Str}{p pos apos:Pos}{e o:Expr}{es:List Expr}{ta:TE}{t:TA}
theorem Xv{pins:List (Addr×Obj)}{σ:St}{H:Hp}{s:Shared}{Q:VK}{us:List Value}{vs:List V}(F:FnOk X.prog X.w X.K X.mg X.base CX k f fd ps sp)(hr:Room k X.A)(hb:Binds X.K fd ps ds)(hd:Vals dvs ds)(hx:w6 CX X E)
  (I:Inv X pins σ H s) (r:Vals vs us) (h:sp (vs++dvs) H Q E):wpAny (model X.prog X.w) X.A (call (.ref f) us) (EP X pins σ Q) X.xe s:=by
 have r2:Vals (vs++dvs) (us++ds):=r.append hd;have hl:(us++ds).length=ps.length:=by rw[<- r2.length];exact F.len _ _ _ _ h
 refine wpAny_call (codeAny_mono (F.run X.A X.stack s H ⟨us,[]⟩ (us++ds) (vs++dvs) Q E hr I.env0 (hb s us I.kIn hl) r2 h) fun r s' hq=>?_);cases r with
 |error e=>exact hx pins σ H s e s' I hq
 |ok fl =>
  cases fl with
  |ret u=>exact I.after hq
  |next=>exact False.elim hq
  |brk=>exact False.elim hq
  |cont=>exact False.elim hq
theorem Vz(F:FnOk X.prog X.w X.K X.mg X.base CX k f fd ps sp)(hr:Room k X.A)(hg:Gl X x)(hm:X.mg x=some (.ref f))(hk:PySem.W.keepIn X.K (.ref f)=true)(hb:Binds X.K fd ps ds)(hd:Vals dvs ds)(hx:w6 CX X E)
  (ha:PA X (e::es) t) (hdb:(x == ("__debug__" : Str))=false:=by decide) (he:starEach (e::es) X.env=(false,eval e X.env)::starEach es X.env:=by rfl) (hpl:(backTo pos (starEach es X.env)).any (·.1)=false:=by rfl) :
  PE X (.Call (.Name x p) (e::es) [] pos) (w8 sp dvs E t):=by
 intro pins s σ H Q I h;refine wpAny_Call_Name_kw (ld_glob I hg hm ?_ hdb);refine PySem.W.callWith_K (h₀:=X.base) I.ok.mod.kin hk (thn (ha pos pins s σ H _ I h) fun us s1 ⟨vs,H1,I1,r,q⟩=>⟨I1.kIn,?_⟩) he hpl;exact Xv F hr hb hd hx I1 r q
theorem zb3{pl:Sem Bool}(he:PE X o ta)(c:Cls X.K C)(hm:Meth X.K C m f)(F:FnOk X.prog X.w X.K X.mg X.base CX k f fd ps sp)(hr:Room k X.A)(hb:Binds X.K fd ps ds)(hd:Vals dvs ds)(hx:w6 CX X E)(ha:PA X (e::es) t)
  (hst:starEach (e::es) X.env=(false,eval e X.env)::starEach es X.env:=by rfl) (hpl:(backTo pos (starEach es X.env)).any (·.1)=false:=by rfl)
  (ht:eval (.Call (.Attribute o m apos) (e::es) [] pos) X.env=(do
   let ov <- eval o X.env
   standAt apos.atName
   let (f,first) <- holding [ov] (getMethod ov m pl)
   callWith pos f first (backTo pos (starEach (e::es) X.env)) (backToKw pos (keywordEach [] X.env))):=by rfl) :
  PE X (.Call (.Attribute o m apos) (e::es) [] pos) (zdC C m sp dvs E ta t):=by
 intro pins s σ H Q I h;refine PySem.W.methodCall_KW (pl:=pl) (thn (he pins s σ H _ I h) fun u s1 hq0=>?_) ht;obtain⟨x,H1,I1,rx,a,dx,fs,ex,ea,l,q⟩:=hq0;subst ex;obtain rfl:u=Value.ref a:=rx;refine wa I1 ea c hm l ?_;refine PySem.W.callWith_K (first:=[.ref a]) (h₀:=X.base) I.ok.mod.kin hm.kp (thn (ha pos pins s1 σ H1 _ I1 q) fun us s2 ⟨vs,H2,I2,r,q2⟩=>⟨I2.kIn,?_⟩) hst hpl;exact Xv (us:=.ref a::us) (vs:=.ref a::vs) F hr hb hd hx I2 (.cons rfl r) q2
structure Mk (K:W.Frag) (C f:Addr):Prop where
 makes:PySem.W.makesIn K C=true
 init:PySem.W.findIn K (.ref C) "__init__" = some (some (.ref f))
 fn:PySem.W.isFn K (.ref f)=true
 kp:PySem.W.keepIn K (.ref C)=true
theorem UW{pins:List (Addr×Obj)}{σ:St}{H:Hp}{s:Shared}{Q:VK}{us:List Value}{vs:List V}(M:Mk X.K C f)(F:FnOk X.prog X.w X.K X.mg X.base CX k f fd ps sp)(hr:Room (k+1) X.A)(hb:Binds X.K fd ps ds)(hd:Vals dvs ds)
  (hx:w6 CX X E) (I:Inv X pins σ H s) (r:Vals vs us)
  (h:∀ x dx,H x=none->H dx=none->dx≠x->sp (.ref x::(vs++dvs)) (upd (upd H dx (.own x)) x (.ins C dx [])) (fun v H2=>v=.non/\Q (.ref x) H2) E) :
  wpAny (model X.prog X.w) X.A (call (.ref C) us) (EP X pins σ Q) X.xe s:=by
 have hq:=h (s.heap.objs.size+1) s.heap.objs.size (I.hok.fresh (le_succ _)) (I.hok.fresh (Nat.le_refl _)) (ne_of_lt (Nat.lt_succ_self _));have I2:=Inv.made (C:=C) I;have r2:Vals (V.ref (s.heap.objs.size+1)::(vs++dvs)) (Value.ref (s.heap.objs.size+1)::(us++ds)):=.cons rfl (r.append hd);have hl:(Value.ref (s.heap.objs.size+1)::us++ds).length=ps.length:=by
  have e:=r2.length;rw[F.len _ _ _ _ hq] at e;exact e.symm
 refine wpAny_call (zal (f:=f) I.kIn M.makes M.init (beq_iff_eq.mp M.fn) (codeAny_mono (F.run _ X.stack _ _ ⟨Value.ref (s.heap.objs.size+1)::us,[]⟩ (Value.ref (s.heap.objs.size+1)::(us++ds)) _ _ E (hr.make C us [])
  (I2.env0.make C us []) (hb _ (Value.ref (s.heap.objs.size+1)::us) I2.kIn hl) r2 hq) fun r s' hq'=>?_))
 cases r with
 |error e=>exact hx pins σ _ _ e s' I2 hq'
 |ok fl =>
  cases fl with
  |ret u =>
   obtain⟨v,H',I3,rv,ev,q3⟩:=I2.after hq';subst ev;exact⟨rv,⟨V.ref (s.heap.objs.size+1),H',I3,rfl,q3⟩⟩
  |next=>exact False.elim hq'
  |brk=>exact False.elim hq'
  |cont=>exact False.elim hq'
theorem Vx(M:Mk X.K C f)(F:FnOk X.prog X.w X.K X.mg X.base CX k f fd ps sp)(hr:Room (k+1) X.A)(hg:Gl X x)(hm:X.mg x=some (.ref C))(hb:Binds X.K fd ps ds)(hd:Vals dvs ds)(hx:w6 CX X E)
  (ha:PA X (e::es) t) (hdb:(x == ("__debug__" : Str))=false:=by decide) (he:starEach (e::es) X.env=(false,eval e X.env)::starEach es X.env:=by rfl) (hpl:(backTo pos (starEach es X.env)).any (·.1)=false:=by rfl) :
  PE X (.Call (.Name x p) (e::es) [] pos) (zbF C sp dvs E t):=by
 intro pins s σ H Q I h;refine wpAny_Call_Name_kw (ld_glob I hg hm ?_ hdb);refine PySem.W.callWith_K (h₀:=X.base) I.ok.mod.kin M.kp (thn (ha pos pins s σ H _ I h) fun us s1 ⟨vs,H1,I1,r,q⟩=>⟨I1.kIn,?_⟩) he hpl;exact UW M F hr hb hd hx I1 r q
end
structure FnScope (N P:List Str) (sc:Scope):Prop where
 kind:sc.kind=.function
 co:sc.isCoroutine=false
 gen:sc.isGenerator=false
 nd:N.Nodup
 pre:N.take P.length=P
 par:∀ x∈P,sc.names.lookup x=some .local\/sc.names.lookup x=some .cell
 nofree:∀ y∈sc.names,y.2≠.free
theorem Yo{kindOf:Str->Option NameKind}{x:Str}:∀ {binds:List (Str×Value)}{m:Str->Option Value},(∀ v,(x,v)∉binds)->bindL kindOf binds m x=m x
 |[],_,_=>rfl
 |(n,v)::r,m,h=>by
  unfold bindL;rw[Yo fun w hw=>h w (mem_cons_of_mem _ hw)]
  split
  ·have:x≠n:=by rintro rfl;exact h v mem_cons_self
   simp[this]
  ·rfl
theorem bindC_out{kindOf:Str->Option NameKind}{x:Str}:∀ {binds:List (Str×Value)}{m:Str->Option Value},(∀ v,(x,v)∉binds)->bindC kindOf binds m x=m x
 |[],_,_=>rfl
 |(n,v)::r,m,h=>by
  unfold bindC;rw[bindC_out fun w hw=>h w (mem_cons_of_mem _ hw)]
  split
  ·rfl
  ·have:x≠n:=by rintro rfl;exact h v mem_cons_self
   simp[this]
theorem bindL_get{kindOf:Str->Option NameKind}{x:Str}{v:Value}:∀ {P:List Str}{vs:List Value}{i:Nat}{m:Str->Option Value},P.Nodup->P[i]?=some x->vs[i]?=some v->kindOf x=some .local ->
  bindL kindOf (P.zip vs) m x=some v
 |[],_,_,_,_,h,_,_=>by simp at h
 |_::_,[],_,_,_,_,h,_=>by simp at h
 |p::P,w::vs,0,m,nd,h1,h2,hk=>by
  simp at h1 h2;subst h1;subst h2;show bindL kindOf ((p,w)::P.zip vs) m p=_;unfold bindL;rw[Yo fun v hv=>(nodup_cons.mp nd).1 (of_mem_zip hv).1,if_pos hk];simp
 |p::P,w::vs,i+1,m,nd,h1,h2,hk=>by
  show bindL kindOf ((p,w)::P.zip vs) m x=_;unfold bindL;exact bindL_get (i:=i) (nodup_cons.mp nd).2 (by simpa using h1) (by simpa using h2) hk
theorem Yp{kindOf:Str->Option NameKind}{x:Str}{v:Value}:∀ {P:List Str}{vs:List Value}{i:Nat}{m:Str->Option Value},P.Nodup->P[i]?=some x->vs[i]?=some v->kindOf x≠some .local ->
  bindC kindOf (P.zip vs) m x=some v
 |[],_,_,_,_,h,_,_=>by simp at h
 |_::_,[],_,_,_,_,h,_=>by simp at h
 |p::P,w::vs,0,m,nd,h1,h2,hk=>by
  simp at h1 h2;subst h1;subst h2;show bindC kindOf ((p,w)::P.zip vs) m p=_;unfold bindC;rw[bindC_out fun v hv=>(nodup_cons.mp nd).1 (of_mem_zip hv).1,if_neg hk];simp
 |p::P,w::vs,i+1,m,nd,h1,h2,hk=>by
  show bindC kindOf ((p,w)::P.zip vs) m x=_;unfold bindC;exact Yp (i:=i) (nodup_cons.mp nd).2 (by simpa using h1) (by simpa using h2) hk
def start(N:List Str)(vs:List V):St:=vs.map some++List.replicate (N.length-vs.length) none
noncomputable def yM(CX:CXT)(P:Program)(w:World)(K:W.Frag)(mg:Str->Option Value)(base:Heap)(N:List Str)(qual:Str)(scope:Scope)(f:Addr)(cd:Value)(A:Around)(outer:List Env)(s:Shared)(H:Hp)(E:XK):Cx where
 prog:=P
 w:=w
 K:=K
 mg:=mg
 base:=base
 A:=A.deeper (envOfC qual scope s.heap.objs.size f cd)
 N:=N
 s₀:=s
 H₀:=H
 env:=envOfC qual scope s.heap.objs.size f cd
 outer:=outer
 stack:=envOfC qual scope s.heap.objs.size f cd::outer
 ex:=[]
 calm:=true
 fn:=fun _=>true
 pn:=[]
 xe:=fun e s'=>wpAny (model P w) (A.deeper (envOfC qual scope s.heap.objs.size f cd)) (leaving (envOfC qual scope s.heap.objs.size f cd) e) (fun _ s''=>CX outer H s E e s'') (fun e' s''=>CX outer H s E e' s'') s'
theorem X4{sc:Scope}{n:Nat}{x:Str}(h:sc.names.lookup x=some .cell):∃ c,(cellsFrom n sc.names []).lookup x=some c:=by
 have q:=PySem.W.cellsFrom_some sc.names n [] (.inl h);exact isSome_iff_exists.mp q
theorem V7{CX:CXT}{P:Program}{w:World}{K:W.Frag}{mg:Str->Option Value}{base:Heap}{N ps:List Str}{qual:Str}{scope:Scope}{f:Addr}{cd:Value}{A:Around}{outer:List Env}{s s1:Shared}{H:Hp}{E:XK}{us:List Value}{vs:List V}
  (S:FnScope N ps scope) (hd:A.handled=none) (e0:Env0 P w K mg base A outer s H) (hl:vs.length=ps.length) (r:Vals vs us)
  (x:InCallC s s.heap.objs.size (bindL (envOfC qual scope s.heap.objs.size f cd).kindOf (ps.zip us) fun _=>none) (cellsFrom (s.heap.objs.size+1) scope.names []) (bindC (envOfC qual scope s.heap.objs.size f cd).kindOf (ps.zip us) fun _=>none) s1) :
  Inv (yM CX P w K mg base N qual scope f cd A outer s H E) [] (start N vs) H s1:=by
 have hpl:ps.length<=N.length:=by have:=congrArg List.length S.pre;rw[length_take] at this;omega
 obtain⟨h1,tk,rfl,hk⟩:=x.done;have noA:∀ b:Addr,b∉(yM CX P w K mg base N qual scope f cd A outer s H E).ex:=fun b z=>absurd (show b∈([]:List Addr) from z) (by simp);refine⟨⟨e0.mod,S.kind,rfl,rfl,Nat.le_refl _,fun y z c h1 h2=>?_,fun y hy=>?_,fun y c _ h=>?_,fun _=>hd,Around.frames_deeper e0.frames,.inr ⟨rfl,rfl⟩,fun b z=>absurd z (noA b),e0.bs,e0.bsz,fun b _ _=>noA b,fun b z=>absurd z (noA b),e0.funs,e0.frf⟩,
  rfl,e0.bare,Un.kept hk,⟨_,x.toInCall.ns,fun i y v h1 h2 h3=>?_⟩,fun y c h=>⟨_,x.cell y c h⟩,e0.hok.fresh (Nat.le_refl _),fun y c h=>?_,fun p hp=>absurd (show p∈([]:List (Addr×Obj)) from hp) (by simp),e0.hok.kept hk,?_⟩
 ·exact name_of_addr x.apart (PySem.mem_of_lookup h1) (PySem.mem_of_lookup h2)
 ·have hy:scope.names.lookup y=some .cell\/scope.names.lookup y=some .free:=hy
  rcases hy with hy | hy
  ·exact X4 hy
  ·exact absurd rfl (S.nofree _ (PySem.mem_of_lookup hy))
 ·exact le_of_lt (x.above y c (PySem.mem_of_lookup h))
 ·have hi:i<vs.length:=by
   unfold start at h2;by_cases hi:i<vs.length
   ·exact hi
   ·rw[List.getElem?_append_right (by simpa using hi)] at h2
    rw[List.getElem?_replicate] at h2
    split at h2<;>cases h2
  have ha:vs[i]?=some v:=by
   unfold start at h2;rw[List.getElem?_append_left (by simpa using hi),List.getElem?_map] at h2;cases e:vs[i]? with
   |none=>rw[e] at h2;cases h2
   |some a=>rw[e] at h2;cases h2;rfl
  obtain⟨u,hu,rv⟩:=r.get ha;have hp:ps[i]?=some y:=by
   rw[<- S.pre,List.getElem?_take_of_lt (by omega)];exact h1
  have ndP:ps.Nodup:=by rw[<- S.pre];exact S.nd.sublist (take_sublist _ _)
  refine⟨u,rv,?_⟩;rcases S.par y (mem_of_getElem? hp) with k | k
  ·exact .inl ⟨k,bindL_get ndP hp hu k⟩
  ·obtain⟨c,e⟩:=X4 (n:=s.heap.objs.size+1) k
   refine .inr ⟨.inl k,c,e,?_⟩;have q:=x.cell y c e;rw[Yp ndP hp hu (by show scope.names.lookup y≠_;rw[k];decide)] at q;exact q
 ·exact e0.hok.fresh (le_of_lt (x.above y c (PySem.mem_of_lookup h)))
 ·unfold start
  show _=N.length;rw[length_append,length_map,List.length_replicate];omega
theorem zeK{CX:CXT}{P:Program}{w:World}{K:W.Frag}{mg:Str->Option Value}{base:Heap}{k:Nat}{f:Addr}{name qual:Str}{params:Arguments}{body:List Stmt}{scope:Scope}{dV kV doc pm cdv ct oc:Value}{an od:Option Addr}
  {osl:Array (Option Value)}{N ps:List Str}{sp:Sp}(lk:K.lookup f=some ⟨oc,od,.func (PySem.W.fnOf name qual params body scope dV kV doc pm an cdv ct),osl⟩) (hcd:PySem.W.codeIn K cdv qual=true) (S:FnScope N ps scope)
  (len:∀ vs H Q E,sp vs H Q E->vs.length=ps.length)
  (hbody:∀ (A:Around) (outer:List Env) (s:Shared) (H:Hp) (vs:List V) (Q:VK) (E:XK),Room k (A.deeper (envOfC qual scope s.heap.objs.size f cdv))->sp vs H Q E ->
   ∃ t,PSs (yM CX P w K mg base N qual scope f cdv A outer s H E) body t/\t { nx:=fun _ H'=>Q .non H',rt:=Q } (start N vs) H) :
  FnOk P w K mg base CX (k+1) f (PySem.W.fnOf name qual params body scope dV kV doc pm an cdv ct) ps sp:=by
 refine⟨len,fun A outer s H args us vs Q E hr e0 hb r hsp=>?_⟩;have hl:=len _ _ _ _ hsp;have KX:K.In s.heap:=e0.mod.kin.keeps fun b o e=>(e0.bs b o e).1;have lim:s.heap.NoLimit:=e0.mod.nolimit.keeps fun b o e=>(e0.bs b o e).1;have hkind:∀ y∈ps.zip us,scope.names.lookup y.1=some .local\/(scope.names.lookup y.1=some .cell/\((cellsFrom (s.heap.objs.size+1) scope.names []).lookup y.1).isSome=true):=fun⟨n,v⟩ hy=>by
  rcases S.par n (of_mem_zip hy).1 with q | q
  ·exact .inl q
  ·exact .inr ⟨q,PySem.W.cellsFrom_some _ _ _ (.inl q)⟩
 refine codeAny_call_function hr.depth (KX _ _ lk) rfl S.co S.gen rfl (PySem.W.codeRec_of KX hcd) (hb _ _ _ _ ?_);refine wpAny_newFunctionEnv_cells S.kind hkind fun env he s1 x=>?_;subst he;refine⟨lim.keeps x.toInCall.keep,codeAny_func ?_⟩;obtain⟨t,ht,hq⟩:=hbody A outer s H vs Q E (hr.deeper _) hsp;have I:Inv (yM CX P w K mg base N qual scope f cdv A outer s H E) [] (start N vs) H s1:=V7 S hr.hd e0 hl r x;refine wpAny_mono (ht [] s1 (start N vs) H _ I hq) (fun fl s' hs=>?_) fun e s' hs=>hs;have fin:∀ {σ':St}{H':Hp}{v:V}{u:Value},Inv (yM CX P w K mg base N qual scope f cdv A outer s H E) [] σ' H' s'->RelV v u->Q v H'->CE outer P w H s Q u s' :=
  fun {σ' H' v u} J rv q=>⟨v,H',J.os,J.bare,J.base,J.hok,rv,q⟩
 cases fl with
 |ret u =>
  obtain⟨v,σ',H',J,rv,q⟩:=hs;exact fin J rv q
 |next =>
  obtain⟨σ',H',J,q⟩:=hs;exact fin (v:=V.non) (u:=Value.none) J rfl q
 |brk =>
  obtain⟨_,_,_,q⟩:=hs;exact False.elim q
 |cont =>
  obtain⟨_,_,_,q⟩:=hs;exact False.elim q
section
variable {X:Cx}{x:Str}{p pos:Pos}{e:Expr}{es:List Expr}{t:TA}{id T:String}{r:List V->Hp->VK->Prop}
def tCB(r:List V->Hp->VK->Prop)(t:TA):TE:=fun σ H Q=>t σ H fun vs H1=>r vs H1 Q
theorem yJ(hc:xr X (.builtin id) r)(hg:Gl X x)(hm:X.mg x=none)(hv:bootBuiltins x=some (.builtin id))(ha:PA X (e::es) t)(hn:x ≠ "__name__" := by decide)(hdb:(x == ("__debug__" : Str))=false:=by decide)
  (he:starEach (e::es) X.env=(false,eval e X.env)::starEach es X.env:=by rfl) (hpl:(backTo pos (starEach es X.env)).any (·.1)=false:=by rfl):PE X (.Call (.Name x p) (e::es) [] pos) (tCB r t):=by
 intro pins s σ H Q I h;refine wpAny_Call_Name_kw (ld_blt I hg hm hv ?_ hn hdb);exact PyProof.Rows.callWith_builtin1 (thn (ha pos pins s σ H _ I h) fun us s1 ⟨vs,H1,I1,r1,q1⟩=>hc pins s1 σ H1 vs us Q I1 r1 q1) he hpl
theorem zF(hc:xr X (.type T) r)(hg:Gl X x)(hm:X.mg x=none)(hv:bootBuiltins x=some (.type T))(ha:Bx (PA X (e::es) t))(hn:x ≠ "__name__" := by decide)(hdb:(x == ("__debug__" : Str))=false:=by decide)(he:starEach (e::es) X.env=(false,eval e X.env)::starEach es X.env:=by rfl)(hpl:(backTo pos (starEach es X.env)).any (·.1)=false:=by rfl):Bx (PE X (.Call (.Name x p) (e::es) [] pos) (tCB r t)):=by
 have ha:=ha.of;refine⟨?_⟩;intro pins s σ H Q I h;refine wpAny_Call_Name_kw (ld_blt I hg hm hv ?_ hn hdb);exact PyProof.Rows.callWith_type1 (thn (ha pos pins s σ H _ I h) fun us s1 ⟨vs,H1,I1,r1,q1⟩=>hc pins s1 σ H1 vs us Q I1 r1 q1) he hpl
end
end L2
namespace HT
open PySem PyProof.Rows
noncomputable def lexLt:LI->LI->Bool
 |[],[]=>false
 |[],_::_=>true
 |_::_,[]=>false
 |x::xs,y::ys=>if x=y then lexLt xs ys else decide (x<y)
theorem Wr(x y:Int)(xs ys:LI):lexLt (x::xs) (y::ys)=if x=y then lexLt xs ys else decide (x<y):=rfl
theorem Zg:lexLt [] []=false:=rfl
theorem ug(y:Int)(ys:LI):lexLt [] (y::ys)=true:=rfl
theorem uh(x:Int)(xs:LI):lexLt (x::xs) []=false:=rfl
theorem zaE(A:Around)(s:Shared)(a:Int)(t:Tok)(c:Int)(u:Tok):∃ e,SeqAt.EqAt A s (.int a t) (.int c u) e/\(e=true↔a=c) :=
 ⟨(a == c),SeqAt.EqAt.int_int a t c u,by simp⟩
theorem UY(A:Around)(s:Shared)(a:Int)(t:Tok)(c:Int)(u:Tok)(prog:Program)(w:World)(E:Value->Shared->Prop)(Q:Value->Shared->Prop)(h:Q (.bool (decide (a<c))) s) :
  wpAny (model prog w) A (richCompare .Lt (.int a t) (.int c u)) Q E s :=
 (PyProof.Rows.lt_int h:wpAny (model prog w) A (compareOp .Lt (.int a t) (.int c u)) Q E s)
section
open PySem.SeqAt
open PySem.AutoSeq1 (wpAny_loadPart')
open PySem.MeetsSeq PySem.MeetsSeq2 PySem.MeetsSeq3
theorem uN(l b:Addr)(items items2:Array Value)(n n2:Nat)(dd dd2:Option Addr)(sl sl2:Array (Option Value))(ns ms:LI)(hi:IntsAre items.toList ns)(hj:IntsAre items2.toList ms) :
  Meets (Builtin.«tuple.__lt__» ⟨[.ref l,.ref b],[]⟩)
   (fun _ R s=>s.heap.get? l=some { cls:=.type "tuple",dict:=dd,data:=.seq items n,slots:=sl }/\s.heap.get? b=some { cls:=.type "tuple",dict:=dd2,data:=.seq items2 n2,slots:=sl2 } /\
    R (.ok (.ret (.bool (lexLt ns ms)))) s) :=
 .of_wp fun prog w A R s h=>by
  obtain⟨hp,g,d,tk,os⟩:=s;obtain⟨hl,hb,h⟩:=h;have f2:=AutoSeq1.sub_tuple_tuple;have z1:items.size=ns.length:=by rw[<- hi.length];simp
  have z2:items2.size=ms.length:=by rw[<- hj.length];simp
  wp_walk using wpAny_loadPart' hl,wpAny_loadPart' hb,wpAny_forIn_list _ (fun rest b s'=>b.1=none/\s'=⟨hp,g,d,tk,os⟩/\∃ (vs ws:List Value) (ns' ms':LI),rest=vs.zip ws /\
   IntsAre vs ns'/\IntsAre ws ms'/\ns'.length+items2.size=ms'.length+items.size/\R (.ok (.ret (.bool (lexLt ns' ms')))) ⟨hp,g,d,tk,os⟩) _
  case turn =>
   rintro⟨y,x⟩ rest b s' ⟨hb',rfl,vs,ws,ns',ms',hz,hvi,hwi,hlen,hR⟩;cases hvi with
   |nil=>rw[List.zip_nil_left] at hz;cases hz
   |cons a t hvi' =>
    cases hwi with
    |nil=>rw[List.zip_nil_right] at hz;cases hz
    |cons c u hwi' =>
     rw[List.zip_cons_cons] at hz;injection hz with hyx hrest;injection hyx with hy hx;subst hy hx;rw[Wr] at hR;simp only[length_cons] at hlen;obtain⟨e,he,hiff⟩:=zaE A.in1 ⟨hp,g,d,tk,os⟩ a t c u;refine wpAny_bind (he prog w _ _ ?_);cases e with
     |true =>
      rw[if_pos (hiff.mp rfl)] at hR
      wp_walk
      exact⟨rfl,rfl,_,_,_,_,hrest,hvi',hwi',by omega,hR⟩
     |false =>
      rw[if_neg (fun q=>absurd (hiff.mpr q) Bool.false_ne_true)] at hR;have hri:=UY A.in1 ⟨hp,g,d,tk,os⟩ a t c u prog w
      wp_walk using hri
      exact⟨_,rfl,by simpa using hR⟩
  case fin =>
   rintro⟨b1,b2⟩ s' ⟨hb',rfl,vs,ws,ns',ms',hz,hvi,hwi,hlen,hR⟩;simp only at hb';subst hb';have hv:lexLt ns' ms'=decide (items.size<items2.size):=by
    cases hvi with
    |nil =>
     cases hwi with
     |nil =>
      simp only[length_nil] at hlen;rw[Zg];exact(decide_eq_false (by omega)).symm
     |cons c u hw =>
      simp only[length_nil,length_cons] at hlen;rw[ug];exact(decide_eq_true (by omega)).symm
    |cons a t hv =>
     cases hwi with
     |nil =>
      simp only[length_nil,length_cons] at hlen;rw[uh];exact(decide_eq_false (by omega)).symm
     |cons c u hw =>
      rw[List.zip_cons_cons] at hz;cases hz
   rw[hv] at hR
   wp_walk
   exact⟨_,rfl,by simpa[Builtin.Tuple.tupleCompareSizes] using hR⟩
  case h =>
   exact⟨rfl,rfl,items.toList,items2.toList,ns,ms,rfl,hi,hj,by omega,h⟩
end
section
variable {prog:Program}{w:World}{A:Around}{E:Value->Shared->Prop}{s:Shared}
theorem lt_tupInts{l b:Addr}{items items2:Array Value}{ns ms:LI}{Q:Value->Shared->Prop}(hl:IsTup s.heap l items)(hb:IsTup s.heap b items2)(hi:IntsAre items.toList ns)(hj:IntsAre items2.toList ms)
  (hu:A.units<cLine) (h:Q (.bool (lexLt ns ms)) s):wpAny (model prog w) A (compareOp .Lt (.ref l) (.ref b)) Q E s:=by
 obtain⟨⟨cls,dd,data,sl⟩,ho,hc,n,hd⟩:=id hl;obtain⟨⟨cls2,dd2,data2,sl2⟩,ho2,hc2,n2,hd2⟩:=id hb;simp only at hc hd hc2 hd2;subst hc hd hc2 hd2;exact richCompare_meets_room (op:=.Lt) ⟨_,ho,rfl⟩ ⟨_,ho2,rfl⟩ PySem.F.slot_tuple_lt PySem.F.entry_tuple_lt (PySem.F.args_tuple_lt_2 _ _) (uN l b items items2 n n2 dd dd2 sl sl2 ns ms hi hj)
  ⟨ho,ho2,show Value.bool (lexLt ns ms)≠Value.notImplemented/\Q (.bool (lexLt ns ms)) s from⟨(fun x=>nomatch x),h⟩⟩ hu
noncomputable def sIx(n d:Nat):Option Int->Nat
 |none=>d
 |some v=>if v<0 then(v+(n:Int)).toNat else min v.toNat n
end
end HT
namespace L2
open PySem PySem.Spec PyProof.Rows
abbrev TO:=St->Hp->(Option Int->Hp->Prop)->Prop
def PO(X:Cx)(e:Option Expr)(t:TO):Prop :=
 ∀ (pins:List (Addr×Obj)) (s:Shared) (σ:St) (H:Hp) (Q:Option Int->Hp->Prop),Inv X pins σ H s->t σ H Q ->
  wpAny (model X.prog X.w) X.A (evalPart e X.env) (fun u s'=>∃ o H',Inv X pins σ H' s'/\IsPart u o/\Q o H') X.xe s
def xN:TO:=fun _ H Q=>Q none H
def vv(t:TE):TO:=fun σ H Q=>t σ H fun x H1=>∃ i,x=.int i/\Q (some i) H1
theorem uE{ns:LI}:∀ {us:List Value},Vals (ns.map V.int) us->IntsAre us ns:=by
 induction ns with
 |nil=>intro us r;rw[map_nil] at r;cases r;exact .nil
 |cons n ns ih =>
  intro us r;rw[map_cons] at r;cases r with
  |cons r1 r2 =>
   obtain⟨t,e⟩:=r1;subst e;exact .cons n t (ih r2)
section
variable {X:Cx}{e:Expr}{te:TE}{lo hi:Option Expr}{tl th:TO}{pos p2:Pos}
theorem zD  : Bx (PO X none xN):=by
 refine⟨?_⟩;intro pins s σ H Q I h;rw[evalPart_none];exact wpAny_pure ⟨none,H,I,.none,h⟩
theorem w_po_some(h:Bx (PE X e te)):Bx (PO X (some e) (vv te)):=by
 have h:=h.of;refine⟨?_⟩;intro pins s σ H Q I hw;rw[evalPart_some];refine thn (h pins s σ H _ I hw) fun u s1 hq0=>?_;obtain⟨x,H1,I1,r1,q1⟩:=hq0;obtain⟨i,rfl,q⟩:=q1;obtain⟨t,rfl⟩:=r1;exact⟨some i,H1,I1,.int i t,q⟩
def SlR(X:Cx)(r:V->Option Int->Option Int->Hp->VK->Prop):Prop :=
 ∀ (pins:List (Addr×Obj)) (s:Shared) (σ:St) (H:Hp) (x:V) (v vl vu:Value) (lo hi:Option Int) (sl:Addr) (Q:VK),Inv X pins σ H s->RelV x v->s.heap.IsSliceOf sl vl vu .none->IsPart vl lo->IsPart vu hi->r x lo hi H Q ->
  ∃ T id,typeLookup (.type T) "__getitem__" = pure (some (.builtin id))/\s.TypeIs v T/\wpAny (model X.prog X.w) X.A (getItem v (.ref sl)) (EP X pins σ Q) X.xe s
def tSl(r:V->Option Int->Option Int->Hp->VK->Prop)(te:TE)(tl th:TO):TE:=fun σ H Q=>te σ H fun x H1=>tl σ H1 fun l H2=>th σ H2 fun u H3=>r x l u H3 Q
theorem zA{r:V->Option Int->Option Int->Hp->VK->Prop}(hr:SlR X r)(he:Bx (PE X e te))(hl:Bx (PO X lo tl))(hu:Bx (PO X hi th)):Bx (PE X (.Subscript e (.Slice lo hi none p2) pos) (tSl r te tl th)):=by
 have he:=he.of;have hl:=hl.of;have hu:=hu.of;refine⟨?_⟩;intro pins s σ H Q I h;refine Subscript_ (thn (he pins s σ H _ I h) fun v s1 hq0=>?_);obtain⟨x,H1,I1,r1,q1⟩:=hq0;refine wpAny_Slice (thn (hl pins s1 σ H1 _ I1 q1) fun vl s2 ⟨l,H2,I2,pl,q2⟩=>thn (hu pins s2 σ H2 _ I2 q2) fun vu s3 hq0=>?_);obtain⟨u,H3,I3,pu,q3⟩:=hq0;rw[evalPart_none];refine wpAny_pure ?_;have I4:Inv X pins σ H3 { s3 with heap:=s3.heap.push { cls:=.type "slice",data:=.fields #[vl,vu,.none] } }:=I3.kept (t':=s3.toks) fun b ob q=>Heap.get?_push_of_some _ q;obtain⟨T,id,hT,ht,hg⟩:=hr pins { s3 with heap:=s3.heap.push { cls:=.type "slice",data:=.fields #[vl,vu,.none] } } σ H3 x v vl vu l u s3.heap.objs.size Q I4 r1 (Heap.IsSliceOf.new ..) pl pu q3;show wpAny (model X.prog X.w) X.A (subscriptTail e (.Slice lo hi none p2) v (.ref s3.heap.objs.size)) (EP X pins σ Q) X.xe { s3 with heap:=s3.heap.push { cls:=.type "slice",data:=.fields #[vl,vu,.none] } };exact tail_any (ops:=[.ref s3.heap.objs.size,v]) ht hT hg (by with_unfolding_all rfl)
def uj(xs:List V)(lo hi:Option Int):List V:=(xs.drop (HT.sIx xs.length 0 lo)).take (HT.sIx xs.length xs.length hi-HT.sIx xs.length 0 lo)
theorem Y6(xs:List V)(lo hi:Option Int):(uj xs lo hi).length<=xs.length:=by
 unfold uj;rw[length_take,length_drop];omega
def zg1(K:W.Frag):R2:=fun x y H Q=>∃ a b ns ms,x=.ref a/\y=.ref b/\SqT K H a (ns.map V.int)/\SqT K H b (ms.map V.int)/\Q (.bl (HT.lexLt ns ms)) H
theorem zd6(hu:X.A.units<cLine):OpR X (compareOp .Lt) (zg1 X.K):=by
 intro pins s σ H x y v u Q I rx ry h;obtain⟨a,b,ns,ms,rfl,rfl,ha,hb,q⟩:=h;cases rx;cases ry;obtain⟨its,r1,p1,_⟩:=I.tuple ha;obtain⟨its2,r2,p2,_⟩:=I.tuple hb;have i1:IntsAre its.toArray.toList ns:=uE r1;have i2:IntsAre its2.toArray.toList ms:=uE r2;exact HT.lt_tupInts p1 p2 i1 i2 hu ⟨.bl (HT.lexLt ns ms),H,I,rfl,q⟩
end
noncomputable def ixN(n:Nat)(i:Int):Option Nat:=if 0<=i then(if i<n then some i.toNat else none) else if -(n:Int)<=i then some (i+n).toNat else none
def atI{α:Type}(xs:List α)(i:Int):Option α:=(ixN xs.length i).bind fun j=>xs[j]?
theorem V4{n:Nat}{i:Int}{j:Nat}(h:ixN n i=some j):seqIndex? i n=some j/\j<n/\-(n:Int)<=i/\i<n:=by
 unfold ixN at h;by_cases h0:0<=i
 ·rw[if_pos h0] at h
  by_cases h1:i<n
  ·rw[if_pos h1] at h
   have e:i.toNat=j:=Option.some.inj h;exact⟨by rw[seqIndex_of h0 h1,e],by omega,by omega,h1⟩
  ·rw[if_neg h1] at h;cases h
 ·rw[if_neg h0] at h
  by_cases h1 : -(n:Int)<=i
  ·rw[if_pos h1] at h
   have e:(i+n).toNat=j:=Option.some.inj h;exact⟨by rw[seqIndex_neg (by omega) h1,e],by omega,h1,by omega⟩
  ·rw[if_neg h1] at h;cases h
theorem Xa{α:Type}{xs:List α}{i:Int}{v:α}(h:atI xs i=some v):∃ j,seqIndex? i xs.length=some j/\xs[j]?=some v/\j<xs.length/\-(xs.length:Int)<=i/\i<xs.length:=by
 unfold atI at h;cases e:ixN xs.length i with
 |none=>rw[e] at h;cases h
 |some j =>
  rw[e] at h;obtain⟨h1,h2,h3,h4⟩:=V4 e;exact⟨j,h1,h,h2,h3,h4⟩
theorem zN{α:Type}{xs:List α}{j:Nat}{v:α}(h:xs[j]?=some v):atI xs (j:Int)=some v:=by
 have hj:j<xs.length:=(List.getElem?_eq_some_iff.mp h).1;have e:ixN xs.length (j:Int)=some j:=by
  unfold ixN;rw[if_pos (by omega),if_pos (by omega)];simp
 unfold atI;rw[e];exact h
def UH(b:Expr):Prop:=∀ o i,subscripted b false o i=operate [o,i] (getItem o i)
def IxR(X:Cx)(r:R2):Prop :=
 ∀ (value slice:Expr) (pins:List (Addr×Obj)) (s:Shared) (σ:St) (H:Hp) (x y:V) (v u:Value) (Q:VK),Inv X pins σ H s->RelV x v->RelV y u->r x y H Q ->
  subscripted slice false v u=operate [v,u] (getItem v u)->wpAny (model X.prog X.w) X.A (subscriptTail value slice v u) (EP X pins σ Q) X.xe s
def MtR(X:Cx)(id:String)(r:V->List V->Hp->VK->Prop):Prop :=
 ∀ (pins:List (Addr×Obj)) (s:Shared) (σ:St) (H:Hp) (x:V) (xs:List V) (v:Value) (us:List Value) (Q:VK),Inv X pins σ H s->RelV x v->Vals xs us->r x xs H Q ->
  wpAny (model X.prog X.w) X.A (call (.builtin id) (v::us)) (EP X pins σ Q) X.xe s
section
variable {X:Cx}{a b:Expr}{ta tb:TE}{pos:Pos}
theorem YH{r:R2}(hr:IxR X r)(ha:PE X a ta)(hb:PE X b tb)(hs:UH b):PE X (.Subscript a b pos) (tOp r ta tb):=by
 intro pins s σ H Q I h;exact Subscript_ (binT ha hb I h fun v u s2 x y H2 I2 rx ry q=>hr a b pins s2 σ H2 x y v u Q I2 rx ry q (hs _ _))
def za8(K:W.Frag):R2:=fun x y H Q=>∃ p xs i v,x=.ref p/\y=.int i/\SqL K H p xs/\atI xs i=some v/\Q v H
def zg2(K:W.Frag):R2:=fun x y H Q=>∃ p xs i v,x=.ref p/\y=.int i/\SqT K H p xs/\atI xs i=some v/\Q v H
def zg3:R2:=fun x y H Q=>∃ z i c,x=.str z/\y=.int i/\z.length<=sizeLine/\atI z.cps.toList i=some c/\Q (.str ⟨#[c]⟩) H
theorem zC:IxR X (za8 X.K):=by
 intro value slice pins s σ H x y v u Q I rx ry h hs;obtain⟨p,xs,i,z,rfl,rfl,hq,he,q⟩:=h;cases rx;obtain⟨t,rfl⟩:=ry;obtain⟨its,r,pl,hz⟩:=I.list hq;obtain⟨j,h1,h2,h3,h4,h5⟩:=Xa he;obtain⟨w,ew,rw'⟩:=r.get h2;have hl:=r.length;have hn:=vR;have fin:EP X pins σ Q w s:=⟨z,H,I,rw',q⟩;by_cases h0:0<=i
 ·have hj:i.toNat=j:=by
   rw[seqIndex_of h0 h5] at h1;exact Option.some.inj h1
  exact item_listR pl.isList h0 (by omega) (by rw[hj];simpa using ew) fin hs
 ·have hj:(i+(its.toArray.size:Int)).toNat=j:=by
   rw[seqIndex_neg (by omega) h4] at h1;rw[size_toArray,<- hl];exact Option.some.inj h1
  exact subscriptTail_builtinR (x:=w) pl.isList.typeIs slot_list_getitem.lookup
   (wpAny_getItem_list_neg (Q:=fun r s'=>r=w/\EP X pins σ Q r s') pl.isList (by omega) (by rw[size_toArray]<;>omega) (by omega) (by rw[hj];simpa using ew) ⟨rfl,fin⟩) hs
theorem yY:IxR X (zg2 X.K):=by
 intro value slice pins s σ H x y v u Q I rx ry h hs;obtain⟨p,xs,i,z,rfl,rfl,hq,he,q⟩:=h;cases rx;obtain⟨t,rfl⟩:=ry;obtain⟨its,r,pl,hz⟩:=I.tuple hq;obtain⟨j,h1,h2,h3,h4,h5⟩:=Xa he;obtain⟨w,ew,rw'⟩:=r.get h2;have hl:=r.length;have hn:=vR;have fin:EP X pins σ Q w s:=⟨z,H,I,rw',q⟩;exact subscriptTail_builtinR (x:=w) pl.typeIs slot_tuple_getitem.lookup
  (getItem_tuple (j:=j) (Q:=fun r s'=>r=w/\EP X pins σ Q r s') pl (by omega) (by omega) (by rw[size_toArray,<- hl];exact h1) (by simpa using ew) ⟨rfl,fin⟩) hs
theorem zbq:IxR X zg3:=by
 intro value slice pins s σ H x y v u Q I rx ry h hs;obtain⟨z,i,c,rfl,rfl,hz,he,q⟩:=h;obtain⟨t,rfl⟩:=rx;obtain⟨t',rfl⟩:=ry;obtain⟨j,h1,h2,h3,h4,h5⟩:=Xa he;have hl:z.cps.toList.length=z.length:=by simp[Str.length]
 rw[hl] at h1 h4 h5;have hn:=vR;exact tail_any (typeIs_str s z t) slot_str_getitem.lookup (getItem_str (c:=c) (by
  have e1:decide (i < -(2 ^ 63:Int))=false:=decide_eq_false (by omega);have e2:decide (i≥2 ^ 63)=false:=decide_eq_false (by omega);rw[e1,e2,Bool.or_false]) (by rw[h1];simpa using h2) ⟨.str ⟨#[c]⟩,H,I.tok _,⟨_,rfl⟩,q⟩) hs
theorem Wo(its:List Value)(n j:Nat)(u:Value):Obj.mapSeq (·.setIfInBounds j u) { cls:=.type "list",data:=.seq its.toArray n }={ cls:=.type "list",data:=.seq (its.set j u).toArray n }:=by
 simp[Obj.mapSeq]
theorem Inv.lst{pins:List (Addr×Obj)}{σ:St}{H:Hp}{s:Shared}{p:Addr}{xs:List V}(I:Inv X pins σ H s)(h:H p=some (.lst xs)) :
  ∃ (its:List Value) (n:Nat),Vals xs its/\s.heap.get? p=some { cls:=.type "list",data:=.seq its.toArray n }/\xs.length<=sizeLine:=by
 obtain⟨z,its,n,r,e⟩:=I.hok p _ h;exact⟨its,n,r,e,z⟩
theorem Inv.lstUpd{pins:List (Addr×Obj)}{σ:St}{H:Hp}{s:Shared}{p:Addr}{xs ys:List V}{its its':List Value}{n n':Nat}{f:Obj->Obj}(I:Inv X pins σ H s)(h:H p=some (.lst xs))
  (ho:s.heap.get? p=some { cls:=.type "list",data:=.seq its.toArray n }) (hf:f { cls:=.type "list",data:=.seq its.toArray n }={ cls:=.type "list",data:=.seq its'.toArray n' }) (r:Vals ys its') (hz:ys.length<=sizeLine) (t:Nat) :
  Inv X pins σ (upd H p (.lst ys)) { s with heap:=s.heap.update p f,toks:=t }:=by
 have e:(s.heap.update p f).get? p=some { cls:=.type "list",data:=.seq its'.toArray n' }:=by
  rw[Heap.get?_update_self f ho (by rw[hf]<;>rfl),hf]
 refine I.write (x:=p) (e:=p) (by rw[h];trivial) (.inl rfl) (fun b u hb q=>(Heap.get?_update_other _ _ (Ne.symm hb)).trans q) ⟨_,e⟩ ?_;exact⟨hz,its',n',r,e⟩
def zfu:V->V->V->Hp->(Hp->Prop)->Prop:=fun o i v H Q=>∃ p xs k j,o=.ref p/\i=.int k/\H p=some (.lst xs)/\ixN xs.length k=some j/\Q (upd H p (.lst (xs.set j v)))
theorem uV:zf4 X zfu:=by
 intro pins s σ H o i v ov iv u Q I ro ri rv h;obtain⟨p,xs,k,j,rfl,rfl,hp,hj,q⟩:=h;cases ro;obtain⟨t,rfl⟩:=ri;obtain⟨its,n,r,ho,hz⟩:=I.lst hp;obtain⟨h1,h2,h3,h4⟩:=V4 hj;have hl:=r.length;have hn:=vR;have I':Inv X pins σ (upd H p (.lst (xs.set j v))) { s with heap:=s.heap.update p (Obj.mapSeq (·.setIfInBounds j u)) } :=
  I.lstUpd hp ho (Wo its n j u) (r.set rv j) (by rw[List.length_set];exact hz) s.toks
 by_cases h0:0<=k
 ·have hk:k.toNat=j:=by
   rw[seqIndex_of h0 h4] at h1;exact Option.some.inj h1
  exact PySem.W.ki_setAt ho h0 (by omega) (by rw[size_toArray,<- hl];exact h4) (by rw[hk];exact⟨_,I',q⟩)
 ·have hk:(k+(its.toArray.size:Int)).toNat=j:=by
   rw[seqIndex_neg (by omega) h3] at h1;rw[size_toArray,<- hl];exact Option.some.inj h1
  exact PySem.W.ki_setBack ho (by omega) (by rw[size_toArray,<- hl];exact h3) (by omega) (by rw[hk];exact⟨_,I',q⟩)
theorem ZH(lo hi:Option Int)(n:Nat):(sliceBounds lo hi none n).1=((HT.sIx n 0 lo:Nat):Int)/\(sliceBounds lo hi none n).2.1=((HT.sIx n n hi:Nat):Int)/\(sliceBounds lo hi none n).2.2=1:=by
 refine⟨?_,?_,rfl⟩
 ·cases lo with
  |none=>simp[sliceBounds,HT.sIx]
  |some i =>
   simp only[sliceBounds,HT.sIx,getD_none,show(1:Int)>0 by decide,if_true];by_cases h:i<0
   ·simp only[h,if_true]<;>omega
   ·simp only[h,if_false]<;>omega
 ·cases hi with
  |none=>simp[sliceBounds,HT.sIx]
  |some i =>
   simp only[sliceBounds,HT.sIx,getD_none,show(1:Int)>0 by decide,if_true];by_cases h:i<0
   ·simp only[h,if_true]<;>omega
   ·simp only[h,if_false]<;>omega
theorem uU(its:List Value)(lo hi:Option Int):slicePick its.toArray lo hi none=((its.drop (HT.sIx its.length 0 lo)).take (HT.sIx its.length its.length hi-HT.sIx its.length 0 lo)).toArray:=by
 obtain⟨h1,h2,h3⟩:=ZH lo hi its.toArray.size;unfold slicePick;rw[h1,h2,h3];simp only[sliceRange_one,pick_run,size_toArray]<;>rfl
def za7(K:W.Frag):V->Option Int->Option Int->Hp->VK->Prop:=fun x lo hi H Q=>∃ a xs,x=.ref a/\SqL K H a xs/\∀ p,H p=none->Q (.ref p) (upd H p (.lst (uj xs lo hi)))
theorem zQ:SlR X (za7 X.K):=by
 intro pins s σ H x v vl vu lo hi sl Q I rx hs pl pu h;obtain⟨a,xs,rfl,hx,q⟩:=h;cases rx;obtain⟨its,r,ht,hz⟩:=I.list hx;have hlen:=r.length;refine⟨"list",_,slot_list_getitem.lookup,ht.isList.typeIs,?_⟩;refine wpAny_getItem_list_slice ht.isList hs pl pu .none (by simp) ?_ (by rw[size_toArray]<;>omega);rw[uU,<- hlen];refine⟨.ref s.heap.objs.size,_,I.laid (t':=s.toks) (o:=.lst (uj xs lo hi)) (fun b ob q=>Heap.get?_push_of_some _ q) (Nat.le_refl _) ?_,rfl,q _ (I.hok.fresh (Nat.le_refl _))⟩;exact⟨le_trans (Y6 xs lo hi) hz,_,0,(r.drop (HT.sIx xs.length 0 lo)).take (HT.sIx xs.length xs.length hi-HT.sIx xs.length 0 lo),Heap.get?_push_size _ rfl⟩
noncomputable def wK:V->Bool
 |.non=>true
 |.bl _=>true
 |.int _=>true
 |.str _=>true
 |_=>false
noncomputable def eqV:V->V->Bool
 |.non,.non=>true
 |.bl a,.bl b=>a == b
 |.bl a,.int b=>(if a then 1 else 0) == b
 |.int a,.bl b=>a == (if b then 1 else 0)
 |.int a,.int b=>a == b
 |.str a,.str b=>a == b
 |_,_=>false
theorem eqAt_V{A:Around}{s:Shared}{y x:V}{u v:Value}(ry:RelV y u)(rx:RelV x v)(fy:wK y=true)(fx:wK x=true):SeqAt.EqAt A s u v (eqV y x):=by
 cases y with
 |non =>
  cases ry;cases x with
  |non=>cases rx;exact SeqAt.EqAt.same _
  |bl b=>cases rx;exact SeqAt.EqAt.none_bool b
  |int b=>obtain⟨t,rfl⟩:=rx;exact SeqAt.EqAt.none_int b t
  |str b=>obtain⟨t,rfl⟩:=rx;exact SeqAt.EqAt.none_str b t
  |_=>exact absurd (show false=true from fx) Bool.false_ne_true
 |bl a =>
  cases ry;cases x with
  |non=>cases rx;exact SeqAt.EqAt.bool_none a
  |bl b=>cases rx;exact SeqAt.EqAt.bool_bool a b
  |int b=>obtain⟨t,rfl⟩:=rx;exact SeqAt.EqAt.bool_int a b t
  |str b=>obtain⟨t,rfl⟩:=rx;exact SeqAt.EqAt.bool_str a b t
  |_=>exact absurd (show false=true from fx) Bool.false_ne_true
 |int a =>
  obtain⟨t',rfl⟩:=ry;cases x with
  |non=>cases rx;exact SeqAt.EqAt.int_none a t'
  |bl b=>cases rx;exact SeqAt.EqAt.int_bool a t' b
  |int b=>obtain⟨t,rfl⟩:=rx;exact SeqAt.EqAt.int_int a t' b t
  |str b=>obtain⟨t,rfl⟩:=rx;exact SeqAt.EqAt.int_str a t' b t
  |_=>exact absurd (show false=true from fx) Bool.false_ne_true
 |str a =>
  obtain⟨t',rfl⟩:=ry;cases x with
  |non=>cases rx;exact SeqAt.EqAt.str_none a t'
  |bl b=>cases rx;exact SeqAt.EqAt.str_bool a t' b
  |int b=>obtain⟨t,rfl⟩:=rx;exact SeqAt.EqAt.str_int a t' b t
  |str b=>obtain⟨t,rfl⟩:=rx;exact SeqAt.EqAt.str_str a t' b t
  |_=>exact absurd (show false=true from fx) Bool.false_ne_true
 |_=>exact absurd (show false=true from fy) Bool.false_ne_true
def eqU(x:V)(u:Value):Bool:=match u with
 |.none=>eqV .non x
 |.bool b=>eqV (.bl b) x
 |.int i _=>eqV (.int i) x
 |.str z _=>eqV (.str z) x
 |_=>false
theorem zbw{x y:V}{u:Value}(r:RelV y u)(f:wK y=true):eqU x u=eqV y x:=by
 cases y with
 |non=>cases r;rfl
 |bl b=>cases r;rfl
 |int i=>obtain⟨t,rfl⟩:=r;rfl
 |str z=>obtain⟨t,rfl⟩:=r;rfl
 |_=>exact absurd (show false=true from f) Bool.false_ne_true
theorem v9{x:V}:∀ {xs:List V}{us:List Value},Vals xs us->xs.all wK=true->us.any (eqU x)=xs.any fun y=>eqV y x
 |_,_,.nil,_=>rfl
 |y::xs,u::us,.cons r t,f=>by
  rw[all_cons,and_eq_true] at f;rw[any_cons,any_cons,zbw r f.1,v9 t f.2]
theorem wH{A:Around}{s:Shared}{x:V}{v:Value}(rx:RelV x v)(fx:wK x=true):∀ {xs:List V}{us:List Value},Vals xs us->xs.all wK=true->∀ u∈us,SeqAt.EqAt A s u v (eqU x u)
 |_,_,.nil,_=>fun u hu=>by cases hu
 |y::xs,u::us,.cons r t,f=>fun u' hu=>by
  rw[all_cons,and_eq_true] at f;rcases mem_cons.mp hu with rfl | hu
  ·rw[zbw r f.1];exact eqAt_V r rx f.1 fx
  ·exact wH rx fx t f.2 u' hu
def inV(x:V)(xs:List V):Bool:=xs.any fun y=>eqV y x
def rIn(K:W.Frag)(neg:Bool):R2:=fun x y H Q=>∃ p xs,y=.ref p/\(SqL K H p xs\/SqT K H p xs)/\wK x=true/\xs.all wK=true/\Q (.bl (if neg then !inV x xs else inV x xs)) H
theorem yv:OpR X (compareOp .In) (rIn X.K false):=by
 intro pins s σ H x y v u Q I rx ry h;obtain⟨p,xs,rfl,hq,fx,fs,q⟩:=h;cases ry;rcases hq with hq | hq
 ·obtain⟨its,r,pl,hz⟩:=I.list hq
  refine SeqAt.in_listAt (eqU x) pl.isList (fun w hw=>wH rx fx r fs w (by simpa using hw)) ⟨.bl _,H,I,rfl,?_⟩;rw[show its.toArray.any (eqU x)=its.any (eqU x) by simp,v9 r fs];exact q
 ·obtain⟨its,r,pl,hz⟩:=I.tuple hq
  refine SeqAt.in_tupleAt (eqU x) pl (fun w hw=>wH rx fx r fs w (by simpa using hw)) ⟨.bl _,H,I,rfl,?_⟩;rw[show its.toArray.any (eqU x)=its.any (eqU x) by simp,v9 r fs];exact q
theorem xS:OpR X (compareOp .NotIn) (rIn X.K true):=by
 intro pins s σ H x y v u Q I rx ry h;obtain⟨p,xs,rfl,hq,fx,fs,q⟩:=h;cases ry;rcases hq with hq | hq
 ·obtain⟨its,r,pl,hz⟩:=I.list hq
  refine SeqAt.notIn_listAt (eqU x) pl.isList (fun w hw=>wH rx fx r fs w (by simpa using hw)) ⟨.bl _,H,I,rfl,?_⟩;rw[show its.toArray.any (eqU x)=its.any (eqU x) by simp,v9 r fs];exact q
 ·obtain⟨its,r,pl,hz⟩:=I.tuple hq
  refine SeqAt.notIn_tupleAt (eqU x) pl (fun w hw=>wH rx fx r fs w (by simpa using hw)) ⟨.bl _,H,I,rfl,?_⟩;rw[show its.toArray.any (eqU x)=its.any (eqU x) by simp,v9 r fs];exact q
theorem zx:xr X (.builtin "len") (fun xs H Q=>∃ p ys,xs=[.ref p]/\(SqL X.K H p ys\/SqT X.K H p ys)/\Q (.int ys.length) H):=by
 intro pins s σ H xs us Q I r h;obtain⟨p,ys,rfl,hq,q⟩:=h;obtain⟨u,rfl,rx⟩:=ud r;cases rx;have hn:=vR;rcases hq with hq | hq
 ·obtain⟨its,r',pl,hz⟩:=I.list hq
  have hlen:=r'.length;exact Calls.call_len_list pl.isList (by simp only[size_toArray]<;>omega) ⟨.int ys.length,H,I.tok _,⟨s.toks+1,by rw[size_toArray,hlen]⟩,q⟩
 ·obtain⟨its,r',pl,hz⟩:=I.tuple hq
  have hlen:=r'.length;exact len_tuple pl (by simp only[size_toArray]<;>omega) ⟨.int ys.length,H,I.tok _,⟨s.toks+1,by rw[size_toArray,hlen]⟩,q⟩
theorem xZ:xr X (.builtin "len") (fun xs H Q=>∃ z,xs=[.str z]/\z.length<=sizeLine/\Q (.int z.length) H):=by
 intro pins s σ H xs us Q I r h;obtain⟨z,rfl,hz,q⟩:=h;obtain⟨u,rfl,t,rfl⟩:=ud r;have hn:=vR;exact len_str (by omega) ⟨.int z.length,H,I.tok _,⟨_,rfl⟩,q⟩
theorem xY:xr X (.type "list") (fun xs H Q=>∃ p ys,xs=[.ref p]/\(SqL X.K H p ys\/SqT X.K H p ys)/\∀ l,H l=none->Q (.ref l) (upd H l (.lst ys))):=by
 intro pins s σ H xs us Q I r h;obtain⟨p,ys,rfl,hq,q⟩:=h;obtain⟨u,rfl,rx⟩:=ud r;cases rx;have fin:∀ (its:List Value),Vals ys its->ys.length<=sizeLine->∀ (h':Heap) (c':Nat),(∀ b o',s.heap.get? b=some o'->h'.get? b=some o') ->
   h'.get? s.heap.objs.size=some { cls:=.type "list",dict:=none,data:=.seq its.toArray c',slots:=#[] }->EP X pins σ Q (.ref s.heap.objs.size) { s with heap:=h' }:=fun its r' hz h' c' kp e =>
  ⟨.ref s.heap.objs.size,_,I.laid (t':=s.toks) kp (Nat.le_refl _) (show ObjOk X.prog X.w _ h' _ (.lst ys) from⟨hz,its,c',r',e⟩),rfl,q _ (I.hok.fresh (Nat.le_refl _))⟩
 rcases hq with hq | hq
 ·obtain⟨its,r',pl,hz⟩:=I.list hq
  have hlen:=r'.length;obtain⟨o,ho,hc,n,hd⟩:=pl.isList;exact call_list_seq p (.inl rfl) ho hc hd (fun h' c' kp e=>fin its r' hz h' c' kp e) (by simp only[size_toArray]<;>omega)
 ·obtain⟨its,r',pl,hz⟩:=I.tuple hq
  have hlen:=r'.length;obtain⟨o,ho,hc,n,hd⟩:=pl;exact call_list_seq p (.inr rfl) ho hc hd (fun h' c' kp e=>fin its r' hz h' c' kp e) (by simp only[size_toArray]<;>omega)
theorem xJ:xr X (.type "tuple") (fun xs H Q=>∃ p ys,xs=[.ref p]/\((SqL X.K H p ys/\∀ l,H l=none->Q (.ref l) (upd H l (.tup ys)))\/(SqT X.K H p ys/\Q (.ref p) H))):=by
 intro pins s σ H xs us Q I r h;obtain⟨p,ys,rfl,h⟩:=h;obtain⟨u,rfl,rx⟩:=ud r;cases rx;rcases h with⟨hq,q⟩ | ⟨hq,q⟩
 ·obtain⟨its,r',pl,hz⟩:=I.list hq
  have hlen:=r'.length;refine call_tuple_list pl.isList (fun h' kp=>?_) (by simp only[size_toArray]<;>omega);have I1:Inv X pins σ H { s with heap:=h' }:=I.kept (t':=s.toks) kp;have I2:Inv X pins σ (upd H h'.objs.size (.tup ys)) { s with heap:=h'.push { cls:=.type "tuple",data:=.seq its.toArray } } :=
   I1.laid (t':=s.toks) (fun b o e=>Heap.get?_push_of_some _ e) (Nat.le_refl _) (show ObjOk X.prog X.w _ _ _ (.tup ys) from⟨hz,its,r',IsTup.new _ _⟩)
  exact⟨.ref h'.objs.size,_,I2,rfl,q _ (I1.hok.fresh (Nat.le_refl _))⟩
 ·obtain⟨its,r',pl,hz⟩:=I.tuple hq
  exact call_tuple_same pl ⟨.ref p,H,I,rfl,q⟩
def tyV(K:W.Frag)(T:String)(x:V)(H:Hp):Prop:=match x with
 |.str _=>T = "str"
 |.int _=>T = "int"
 |.ref p=>(T = "list" /\ ∃ xs,SqL K H p xs)\/(T = "tuple" /\ ∃ o,K.lookup p=some o/\o.cls=.type "tuple" /\ o.dict=none) \/
   (T = "dict" /\ ((∃ kvs,H p=some (.dK kvs))\/∃ kvs,H p=some (.dT kvs)))\/(T = "set" /\ ∃ S n,H p=some (.set S n))
 |_=>False
theorem zaT{pins:List (Addr×Obj)}{σ:St}{H:Hp}{s:Shared}{T:String}{x:V}{v:Value}(I:Inv X pins σ H s)(r:RelV x v)(ty:tyV X.K T x H) :
  s.TypeIs v T/\∀ a,v=.ref a->∃ ob,s.heap.get? a=some ob/\ob.dict=none:=by
 cases x with
 |str z =>
  obtain⟨t,rfl⟩:=r;cases (show T = "str" from ty);exact⟨typeIs_str s z t,fun _ e=>nomatch e⟩
 |int i =>
  obtain⟨t,rfl⟩:=r;cases (show T = "int" from ty);exact⟨typeIs_int s i t,fun _ e=>nomatch e⟩
 |ref p =>
  cases r;rcases ty with⟨rfl,xs,hq⟩ | ⟨rfl,o,hk,hc,hd⟩ | ⟨rfl,hk⟩ | ⟨rfl,S,n,hk⟩
  ·obtain⟨its,_,pl,_⟩:=I.list hq
   refine⟨pl.isList.typeIs,fun a e=>?_⟩;cases e;obtain⟨o,n,e,c,hd,_⟩:=pl;exact⟨o,e,hd⟩
  ·refine⟨⟨o,I.kIn p o hk,hc⟩,fun a e=>?_⟩
   cases e;exact⟨o,I.kIn _ o hk,hd⟩
  ·have z:∃ o,s.heap.get? p=some o/\o.ExactDict:=by
    rcases hk with⟨kvs,hk⟩ | ⟨kvs,hk⟩
    ·obtain⟨_,_,_,_,o,_,_,e,ex,_⟩:=I.hok p _ hk
     exact⟨o,e,ex⟩
    ·obtain⟨_,_,_,_,o,_,_,e,ex,_⟩:=I.hok p _ hk
     exact⟨o,e,ex⟩
   obtain⟨o,e,ex⟩:=z;refine⟨⟨o,e,ex.1⟩,fun a e2=>?_⟩;cases e2;exact⟨o,e,ex.2.1⟩
  ·obtain⟨o,_,_,_,e,ex,_⟩:=I.hok p _ hk
   refine⟨⟨o,e,ex.1⟩,fun a e2=>?_⟩;cases e2;exact⟨o,e,ex.2.1⟩
 |_=>exact False.elim ty
def zgQ(K:W.Frag)(T:String)(r:V->List V->Hp->VK->Prop)(to:TE):TE:=fun σ H Q=>to σ H fun x H1=>tyV K T x H1/\r x [] H1 Q
def tBM(K:W.Frag)(T:String)(r:V->List V->Hp->VK->Prop)(to:TE)(t:TA):TE:=fun σ H Q=>to σ H fun x H1=>tyV K T x H1/\t σ H1 fun xs H2=>r x xs H2 Q
variable {o e:Expr}{es:List Expr}{to:TE}{t:TA}{name:Str}{apos cpos:Pos}{T id:String}{r:V->List V->Hp->VK->Prop}
theorem UK(pa:PlainAttrs T)(slot:Slot T name id)(hty:typeOf (.builtin id)=pure (.type "method_descriptor"))(hm:MtR X id r)(ho:Bx (PE X o to))(hbase:attributeBase o name X.env (eval o X.env)=eval o X.env:=by rfl)(hline:(apos.endLine == cpos.line)=true:=by rfl):Bx (PE X (.Call (.Attribute o name apos) [] [] cpos) (zgQ X.K T r to)):=by
 have ho:=ho.of;refine⟨?_⟩;intro pins s σ H Q I h;refine wpAny_Call_method0_late hbase hline (thn (ho pins s σ H _ I h) fun v s1 hq0=>?_);obtain⟨x,H1,I1,r1,ty,q1⟩:=hq0;obtain⟨h1,h2⟩:=zaT I1 r1 ty;exact⟨T,id,pa,slot,hty,h1,h2,Calls.callWith_builtin rfl (PySem.evalArgs_none (hm pins s1 σ H1 x [] v [] Q I1 r1 .nil q1))⟩
theorem zb5(pa:PlainAttrs T)(slot:Slot T name id)(hty:typeOf (.builtin id)=pure (.type "method_descriptor"))(hm:MtR X id r)(ho:PE X o to)(ha:PA X (e::es) t)
  (hbase:attributeBase o name X.env (eval o X.env)=eval o X.env:=by rfl)
  (hfew:((backTo cpos (starEach (e::es) X.env)).all (fun x=>!x.1)&&(backToKw cpos (keywordEach [] X.env)).all (fun x=>x.1.isSome)
   && decide ((e::es).length+([]:List Keyword).length+(if ([]:List Keyword).isEmpty then 0 else 1)<30))=true:=by rfl)
  (hline:(apos.endLine == cpos.line)=true:=by rfl) (hs:starEach (e::es) X.env=(false,eval e X.env)::starEach es X.env:=by rfl) (hplain:(backTo cpos (starEach es X.env)).any (·.1)=false:=by rfl) :
  PE X (.Call (.Attribute o name apos) (e::es) [] cpos) (tBM X.K T r to t):=by
 intro pins s σ H Q I h;refine wpAny_Call_method_late hbase hfew hline rfl (thn (ho pins s σ H _ I h) fun v s1 hq0=>?_);obtain⟨x,H1,I1,r1,ty,q1⟩:=hq0;obtain⟨h1,h2⟩:=zaT I1 r1 ty;refine⟨T,id,pa,slot,hty,h1,h2,?_⟩;have hA:=ha cpos pins s1 σ H1 _ I1 q1;rw[hs] at hA ⊢;refine Calls.callWith_builtin (by show(false||(backTo cpos (starEach es X.env)).any (·.1))=false;rw[hplain]<;>rfl) (Calls.evalArgs_plain ?_);exact thn hA fun us s2 ⟨vs,H2,I2,r2,q2⟩=>hm pins s2 σ H2 x vs v us Q I2 r1 r2 q2
end
def MtM(X:Cx)(id:String)(r:V->List V->Hp->VK->Prop):Prop :=
 ∀ (pins:List (Addr×Obj)) (s:Shared) (σ:St) (H:Hp) (x:V) (xs:List V) (v:Value) (us:List Value) (Q:VK),Inv X pins σ H s->RelV x v->Vals xs us->r x xs H Q ->
  wpAny (model X.prog X.w) X.A (call (.builtin id) (v::us)) (EP X pins σ Q) X.xe s
theorem Vals.one:∀ {x:V}{us:List Value},Vals [x] us->∃ u,us=[u]/\RelV x u
 |_,_,.cons r .nil=>⟨_,rfl,r⟩
theorem Vals.two:∀ {x y:V}{us:List Value},Vals [x,y] us->∃ u v,us=[u,v]/\RelV x u/\RelV y v
 |_,_,_,.cons r (.cons q .nil)=>⟨_,_,rfl,r,q⟩
section
variable {X:Cx}{pins:List (Addr×Obj)}{σ:St}{H:Hp}{s:Shared}{l b:Addr}{xs ys zs:List V}
theorem Inv.lset{its its':List Value}{n:Nat}{f:Array Value->Array Value}{t':Nat}(I:Inv X pins σ H s)(hH:H l=some (.lst xs))
  (e:s.heap.get? l=some { cls:=.type "list",data:=.seq its.toArray n }) (hf:f its.toArray=its'.toArray) (hv:Vals ys its') (hz:ys.length<=sizeLine) :
  Inv X pins σ (upd H l (.lst ys)) { s with heap:=s.heap.update l (Obj.mapSeq f),toks:=t' }:=by
 have q:=PySem.IsL.update e f;rw[hf] at q;refine I.write (x:=l) (e:=l) (by rw[hH];exact trivial) (.inl rfl) (fun b' u hb hu=>(Heap.get?_update_other s.heap (Obj.mapSeq f) (Ne.symm hb)).trans hu) ⟨_,q⟩ ?_;exact⟨hz,its',_,hv,q⟩
theorem Inv.lnew{its:List Value}{t':Nat}(I:Inv X pins σ H s)(hv:Vals ys its)(hz:ys.length<=sizeLine) :
  Inv X pins σ (upd H s.heap.objs.size (.lst ys)) { s with heap:=s.heap.push { cls:=.type "list",data:=.seq its.toArray },toks:=t' } :=
 I.laid (fun _ _ q=>Heap.get?_push_of_some _ q) (Nat.le_refl _) ⟨hz,its,0,hv,Heap.get?_push_size _ rfl⟩
theorem Inv.fresh(I:Inv X pins σ H s):H s.heap.objs.size=none:=I.hok.fresh (Nat.le_refl _)
theorem Inv.lstM(I:Inv X pins σ H s)(hH:H l=some (.lst xs)):xs.length<=sizeLine/\∃ (its:List Value) (n:Nat),Vals xs its/\xs.length=its.length/\s.heap.get? l=some { cls:=.type "list",data:=.seq its.toArray n }:=by
 obtain⟨z,its,n,r,e⟩:=I.hok l _ hH;exact⟨z,its,n,r,r.length,e⟩
theorem zag{n:Nat}(h:n<=sizeLine):Builtin.List.listTooLong n=false:=by
 unfold Builtin.List.listTooLong;exact decide_eq_false (by omega)
end
section
variable {X:Cx}
def Vq:V->List V->Hp->VK->Prop:=fun x vs H Q=>∃ l xs y,x=.ref l/\vs=[y]/\H l=some (.lst xs)/\xs.length<sizeLine/\Q .non (upd H l (.lst (xs++[y])))
theorem xB:MtM X "list.append" Vq:=by
 intro pins s σ H x vs v us Q I rx rv h;obtain⟨l,xs,y,rfl,rfl,hH,hz,q⟩:=h;cases rx;obtain⟨u,rfl,ru⟩:=rv.one;obtain⟨z,its,n,r,hl,e⟩:=I.lstM hH;refine call_meets F.slot_list_append ⟨_,e,rfl⟩ F.entry_list_append (F.args_list_append_2 _ _) (PySem.list_append l its.toArray n u (by rw[size_toArray];omega)) ⟨e,?_⟩;refine⟨.non,_,I.lset (its':=its++[u]) hH e (by simp) (r.append (.cons ru .nil)) ?_,rfl,q⟩;rw[length_append,List.length_singleton];omega
def zbV:V->List V->Hp->VK->Prop:=fun x vs H Q=>∃ l b xs zs,x=.ref l/\vs=[.ref b]/\H l=some (.lst xs)/\H b=some (.lst zs)/\xs.length+zs.length<=sizeLine/\Q .non (upd H l (.lst (xs++zs)))
theorem VR:MtM X "list.extend" zbV:=by
 intro pins s σ H x vs v us Q I rx rv h;obtain⟨l,b,xs,zs,rfl,rfl,hH,hB,hz,q⟩:=h;cases rx;obtain⟨u,rfl,ru⟩:=rv.one;cases ru;obtain⟨z,its,n,r,hl,e⟩:=I.lstM hH;obtain⟨z2,its2,n2,r2,hl2,e2⟩:=I.lstM hB;have hsz:its.toArray.size+its2.toArray.size<=sizeLine:=by rw[size_toArray,size_toArray];omega
 have hlong:¬ (!its.toArray.isEmpty&&Builtin.List.listTooLong (its.toArray.size+its2.toArray.size))=true:=by
  rw[zag hsz,Bool.and_false];exact Bool.false_ne_true
 refine call_meets F.slot_list_extend ⟨_,e,rfl⟩ F.entry_list_extend (F.args_list_extend_2 _ _)
  (AutoSeq1.list_extend_list_list_0 l its.toArray n b its2.toArray n2 hlong (by rw[size_toArray];omega) (by omega)) ⟨e,e2,?_⟩
 refine⟨.non,_,I.lset (its':=its++its2) hH e (by simp) (r.append r2) ?_,rfl,q⟩;rw[length_append];omega
def WB:R2:=fun x y H Q=>∃ l b xs zs,x=.ref l/\y=.ref b/\H l=some (.lst xs)/\H b=some (.lst zs)/\xs.length+zs.length<=sizeLine/\∀ p,H p=none->Q (.ref p) (upd H p (.lst (xs++zs)))
theorem zL:OpR X (binaryOp .Add) WB:=by
 intro pins s σ H x y v u Q I rx ry h;obtain⟨l,b,xs,zs,rfl,rfl,hH,hB,hz,q⟩:=h;cases rx;cases ry;obtain⟨z,its,n,r,hl,e⟩:=I.lstM hH;obtain⟨z2,its2,n2,r2,hl2,e2⟩:=I.lstM hB;refine PySem.P.add_list e e2 ?_ (by rw[size_toArray,size_toArray];omega);have ea:its.toArray++its2.toArray=(its++its2).toArray:=by simp
 rw[ea];exact⟨.ref _,_,I.lnew (t':=s.toks) (r.append r2) (by rw[length_append];omega),rfl,q _ I.fresh⟩
end
section
variable {κ:Type} [DecidableEq κ]
noncomputable def xK(kvs:List (κ×V))(k:κ):Option V:=(kvs.find? fun kv=>decide (kv.1=k)).map (·.2)
def putK(kvs:List (κ×V))(k:κ)(v:V):List (κ×V) :=
 if (kvs.any fun kv=>decide (kv.1=k))=true then kvs.map (fun kv=>if kv.1=k then(kv.1,v) else kv) else kvs++[(k,v)]
theorem wD{p:κ×V}{r:List (κ×V)}{k:κ}(e:p.1=k):xK (p::r) k=some p.2:=by simp[xK,List.find?_cons,e]
theorem wE{p:κ×V}{r:List (κ×V)}{k:κ}(e:¬ p.1=k):xK (p::r) k=xK r k:=by simp[xK,List.find?_cons,e]
theorem xD(k:κ):∀ kvs:List (κ×V),(kvs.any fun kv=>decide (kv.1=k))=(xK kvs k).isSome
 |[]=>rfl
 |p::r=>by
  rw[any_cons];by_cases e:p.1=k
  ·simp only[wD e,decide_eq_true e,Bool.true_or,Option.isSome_some]
  ·rw[wE e,decide_eq_false e,Bool.false_or];exact xD k r
theorem xG(kvs:List (κ×V))(k:κ)(v:V):(putK kvs k v).length<=kvs.length+1:=by
 unfold putK
 split
 ·rw[length_map];omega
 ·rw[length_append,length_cons,length_nil];omega
theorem putK_new{kvs:List (κ×V)}{k:κ}(v:V)(h:xK kvs k=none):putK kvs k v=kvs++[(k,v)]:=by
 unfold putK;rw[xD,h];exact if_neg (by decide)
theorem RelO.isSome_eq{o:Option V}{u:Option Value}(r:RelO o u):o.isSome=u.isSome:=by
 cases o with
 |none=>cases u with
  |none=>rfl
  |some _=>exact(show False from r).elim
 |some _=>cases u with
  |none=>exact(show False from r).elim
  |some _=>rfl
theorem RelO.getD{o:Option V}{u:Option Value}{d:V}{d':Value}(r:RelO o u)(rd:RelV d d'):RelV (o.getD d) (u.getD d'):=by
 cases o with
 |none=>cases u with
  |none=>exact rd
  |some _=>exact(show False from r).elim
 |some _=>cases u with
  |none=>exact(show False from r).elim
  |some _=>exact r
theorem KV.val{kvs:List (κ×V)}{vs:List (κ×Value)}(r:KV kvs vs)(k:κ):RelO (xK kvs k) (valueAt vs k):=by
 unfold KV at r
 induction r with
 |nil=>exact True.intro
 | @cons p q ps qs h t ih =>
  obtain⟨h1,h2⟩:=h;by_cases e:p.1=k
  ·have e':q.1=k:=h1.symm.trans e
   have b:valueAt (q::qs) k=some q.2:=by simp[valueAt,List.find?_cons,e']
   rw[wD e,b];exact h2
  ·have e':¬ q.1=k:=fun z=>e (h1.trans z)
   have b:valueAt (q::qs) k=valueAt qs k:=by simp[valueAt,List.find?_cons,e']
   rw[wE e,b];exact ih
theorem KV.any{kvs:List (κ×V)}{vs:List (κ×Value)}(r:KV kvs vs)(k:κ):(kvs.any fun kv=>decide (kv.1=k))=vs.any fun kv=>decide (kv.1=k):=by
 unfold KV at r
 induction r with
 |nil=>rfl
 |cons h t ih=>rw[any_cons,any_cons,ih,h.1]
theorem KV.repl{kvs:List (κ×V)}{vs:List (κ×Value)}(r:KV kvs vs)(k:κ){y:V}{u:Value}(ry:RelV y u) :
  KV (kvs.map fun kv=>if kv.1=k then(kv.1,y) else kv) (vs.map fun kv=>if kv.1=k then(kv.1,u) else kv):=by
 unfold KV at r ⊢
 induction r with
 |nil=>exact .nil
 | @cons p q ps qs h t ih =>
  rw[map_cons,map_cons];refine .cons ?_ ih;obtain⟨h1,h2⟩:=h;by_cases e:p.1=k
  ·rw[if_pos e,if_pos (h1.symm.trans e)];exact⟨h1,ry⟩
  ·rw[if_neg e,if_neg (fun z=>e (h1.trans z))];exact⟨h1,h2⟩
theorem KV.put{kvs:List (κ×V)}{vs:List (κ×Value)}(r:KV kvs vs)(k:κ){y:V}{u:Value}(ry:RelV y u):KV (putK kvs k y) (stored vs k u):=by
 unfold putK stored;rw[r.any k];by_cases e:(vs.any fun kv=>decide (kv.1=k))=true
 ·rw[if_pos e,if_pos e];exact r.repl k ry
 ·rw[if_neg e,if_neg e];exact Paired.snoc r ⟨rfl,ry⟩
theorem KV.length{kvs:List (κ×V)}{vs:List (κ×Value)}(r:KV kvs vs):kvs.length=vs.length:=Paired.length r
end
theorem Z9{P:Program}{w:World}{k:Key}{u:Value}(r:RelV (kV k) u):(zP P w).is k u=true:=by
 cases k with
 |inl i=>obtain⟨t,e⟩:=(show ∃ t,u=Value.int i t from r);subst e;exact YS P w i t
 |inr x=>obtain⟨t,e⟩:=(show ∃ t,u=Value.str x t from r);subst e;exact YR P w x t
theorem Ya{P:Program}{w:World}:∀ {ks:List Key}{us:List Value},Vals (ks.map kV) us->ItemsAre (zP P w) ks us
 |[],_,r=>by rw[map_nil] at r;cases r;exact .nil
 |k::ks,_,r=>by
  rw[map_cons] at r;cases r with
  |cons h t=>exact .cons (Z9 h) (Ya t)
abbrev KT(H:Hp):List (List Key×V)->List (List Key×Addr×Value)->Prop:=Paired fun p q=>p.1=q.1/\H q.2.1=some (.tup (p.1.map kV))/\RelV p.2 q.2.2
theorem KT.val{H:Hp}{kvs:List (List Key×V)}{xs:List (List Key×Addr×Value)}(r:KT H kvs xs)(k:List Key):RelO (xK kvs k) ((atKey xs k).map (·.2)):=by
 induction r with
 |nil=>exact True.intro
 | @cons p q ps qs h t ih =>
  obtain⟨h1,_,h2⟩:=h;by_cases e:p.1=k
  ·have e':q.1=k:=h1.symm.trans e
   have b:atKey (q::qs) k=some q.2:=by simp[atKey,List.find?_cons,e']
   rw[wD e,b];exact h2
  ·have e':¬ q.1=k:=fun z=>e (h1.trans z)
   have b:atKey (q::qs) k=atKey qs k:=by simp[atKey,List.find?_cons,e']
   rw[wE e,b];exact ih
theorem KT.repl{H:Hp}{kvs:List (List Key×V)}{xs:List (List Key×Addr×Value)}(r:KT H kvs xs)(k:List Key){y:V}{u:Value}(ry:RelV y u) :
  KT H (kvs.map fun kv=>if kv.1=k then(kv.1,y) else kv) (xs.map (putAt k u)):=by
 induction r with
 |nil=>exact .nil
 | @cons p q ps qs h t ih =>
  rw[map_cons,map_cons];refine .cons ?_ ih;obtain⟨h1,h2,h3⟩:=h;unfold putAt;by_cases e:p.1=k
  ·rw[if_pos e,if_pos (h1.symm.trans e)];exact⟨h1,h2,ry⟩
  ·rw[if_neg e,if_neg (fun z=>e (h1.trans z))];exact⟨h1,h2,h3⟩
theorem KT.put{H:Hp}{kvs:List (List Key×V)}{xs:List (List Key×Addr×Value)}(r:KT H kvs xs)(k:List Key){b:Addr}{y:V}{u:Value}(hb:H b=some (.tup (k.map kV)))(ry:RelV y u) :
  KT H (putK kvs k y) (storedH xs k b u):=by
 have e:(kvs.any fun kv=>decide (kv.1=k))=(atKey xs k).isSome:=by
  rw[xD,(r.val k).isSome_eq,isSome_map]
 unfold putK storedH;rw[e];by_cases q:(atKey xs k).isSome=true
 ·rw[if_pos q,if_pos q];exact r.repl k ry
 ·rw[if_neg q,if_neg q];exact Paired.snoc r ⟨rfl,hb,ry⟩
theorem KT.keeps{H H':Hp}{kvs:List (List Key×V)}{xs:List (List Key×Addr×Value)}(r:KT H kvs xs)(ht:∀ b ys,H b=some (.tup ys)->H' b=some (.tup ys)):KT H' kvs xs :=
 Paired.mapP r fun _ _ z=>⟨z.1,ht _ _ z.2.1,z.2.2⟩
section
variable {P:Program}{w:World}{H:Hp}{h:Heap}{a:Addr}
theorem zdT{u:HO}(ok:HOk P w H h)(e:Rd H a u):ObjOk P w H h a u:=e.ok ok
theorem Yh{kvs:List (Key×V)}(ok:HOk P w H h)(e:Rd H a (.dK kvs)):kvs.length<=sizeLine/\(a == sysModules)=false/\∃ vs,KV kvs vs/\h.DictOf (zP P w) a vs :=
 show ObjOk P w H h a (.dK kvs) from zdT ok e
theorem Um{kvs:List (Key×V)}(ok:HOk P w H h)(e:H a=some (.dK kvs)):kvs.length<=sizeLine/\(a == sysModules)=false/\∃ vs,KV kvs vs/\h.DictOf (zP P w) a vs:=Yh ok (.inl e)
theorem vV{ks:List Key}(ok:HOk P w H h)(e:H a=some (.tup (ks.map kV))):(tupleKind (zP P w)).is h ks a:=by
 obtain⟨_,its,r,o,h1,h2,n,h3⟩:=(show ObjOk P w H h a (.tup (ks.map kV)) from ok a _ e);exact⟨o,its.toArray,n,h1,h2,h3,by simpa using Ya r⟩
theorem Y4{kvs:List (List Key×V)}(ok:HOk P w H h)(e:Rd H a (.dT kvs)):kvs.length<=sizeLine/\(a == sysModules)=false /\
  ∃ xs,KT H kvs xs/\h.DictOfH (tupleKind (zP P w)) a xs:=by
 obtain⟨z,y,xs,r,o,es,ep,h1,h2,h3,h4,h5⟩:=(show ObjOk P w H h a (.dT kvs) from zdT ok e);refine⟨z,y,xs,r,o,es,ep,h1,h2,h3,h4,fun x hx=>?_,h5⟩;have all:∀ {l:List (List Key×V)}{m:List (List Key×Addr×Value)},KT H l m->∀ x∈m,(tupleKind (zP P w)).is h x.1 x.2.1:=by
  intro l m q
  induction q with
  |nil=>intro x hx;exact nomatch hx
  | @cons p q ps qs hq t ih =>
   intro x hx;rcases mem_cons.mp hx with e | hx
   ·subst e
    exact vV ok (by rw[<- hq.1];exact hq.2.1)
   ·exact ih x hx
 exact all r x hx
theorem zcS{kvs:List (List Key×V)}(ok:HOk P w H h)(e:H a=some (.dT kvs)):kvs.length<=sizeLine/\(a == sysModules)=false /\
  ∃ xs,KT H kvs xs/\h.DictOfH (tupleKind (zP P w)) a xs:=Y4 ok (.inl e)
end
def DGet(H:Hp)(a:Addr)(y:V)(r:Option V):Prop :=
 (∃ kvs k,Rd H a (.dK kvs)/\y=kV k/\r=xK kvs k)\/∃ kvs k b,Rd H a (.dT kvs)/\y=.ref b/\H b=some (.tup (k.map kV))/\r=xK kvs k
def DPut(H:Hp)(a:Addr)(y v:V)(H':Hp):Prop :=
 (∃ kvs k,H a=some (.dK kvs)/\y=kV k/\kvs.length<sizeLine/\H'=upd H a (.dK (putK kvs k v))) \/
 ∃ kvs k b,H a=some (.dT kvs)/\y=.ref b/\H b=some (.tup (k.map kV))/\kvs.length<sizeLine/\H'=upd H a (.dT (putK kvs k v))
theorem DGet.k{H:Hp}{a:Addr}{kvs:List (Key×V)}{k:Key}(e:H a=some (.dK kvs)):DGet H a (kV k) (xK kvs k):=.inl ⟨kvs,k,.inl e,rfl,rfl⟩
theorem DGet.t{H:Hp}{a b:Addr}{kvs:List (List Key×V)}{k:List Key}(e:H a=some (.dT kvs))(eb:H b=some (.tup (k.map kV))):DGet H a (.ref b) (xK kvs k):=.inr ⟨kvs,k,b,.inl e,rfl,eb,rfl⟩
theorem DPut.k{H:Hp}{a:Addr}{kvs:List (Key×V)}{k:Key}{v:V}(e:H a=some (.dK kvs))(hl:kvs.length<sizeLine):DPut H a (kV k) v (upd H a (.dK (putK kvs k v))):=.inl ⟨kvs,k,e,rfl,hl,rfl⟩
theorem DPut.t{H:Hp}{a b:Addr}{kvs:List (List Key×V)}{k:List Key}{v:V}(e:H a=some (.dT kvs))(eb:H b=some (.tup (k.map kV)))(hl:kvs.length<sizeLine) :
  DPut H a (.ref b) v (upd H a (.dT (putK kvs k v))):=.inr ⟨kvs,k,b,e,rfl,eb,hl,rfl⟩
section
variable {X:Cx}{pins:List (Addr×Obj)}{σ:St}{H:Hp}{s:Shared}{a:Addr}{y v:V}{u r:Value}{o:Option V}{A:Around}{E:Value->Shared->Prop}
theorem Inv.big(I:Inv X pins σ H s):sysModules<s.heap.objs.size:=by
 have h:mainGlobals<s.heap.objs.size:=(I.mod.glob.keeps I.bk).lt;exact lt_trans (by decide) h
theorem Ur{Q:Value->Shared->Prop}(hu:A.units+1<cLine)(I:Inv X pins σ H s)(g:DGet H a y (some v))(ry:RelV y u)(h:∀ w' s',Inv X pins σ H s'->RelV v w'->Q w' s') :
  wpAny (model X.prog X.w) A (getItem (.ref a) u) Q E s:=by
 rcases g with⟨kvs,k,e,ey,l⟩ | ⟨kvs,k,b,e,ey,eb,l⟩
 ·subst ey
  obtain⟨z,hd,vs,rel,dd⟩:=Yh I.hok e;obtain⟨w',hw,rw'⟩:=RelO.some_of (v:=v) (o:=valueAt vs k) (by rw[l];exact rel.val k);exact wpAny_getItem_of (Z9 ry) dd.mapOf hw (h w' _ (I.tok _) rw')
 ·subst ey
  cases (show u=Value.ref b from ry);obtain⟨z,hd,xs,rel,dd⟩:=Y4 I.hok e;obtain⟨w',hw,rw'⟩:=RelO.some_of (v:=v) (o:=(atKey xs k).map (·.2)) (by rw[l];exact rel.val k);obtain⟨p,hp,hp2⟩:=map_eq_some_iff.mp hw;refine wpAny_getItem_heap (tupleKind_room_in1 hu) (vV I.hok eb) dd hp ?_;rw[hp2];exact h w' _ (I.tok _) rw'
theorem zhp{Q:Value->Shared->Prop}(hu:A.units+1<cLine)(I:Inv X pins σ H s)(g:DGet H a y o)(ry:RelV y u)(h:∀ s',Inv X pins σ H s'->Q (.bool o.isSome) s') :
  wpAny (model X.prog X.w) A (compareOp .In u (.ref a)) Q E s:=by
 rcases g with⟨kvs,k,e,ey,l⟩ | ⟨kvs,k,b,e,ey,eb,l⟩
 ·subst ey
  obtain⟨z,hd,vs,rel,dd⟩:=Yh I.hok e;refine wpAny_in_of (Z9 ry) hd dd.mapOf ?_;rw[<- (rel.val k).isSome_eq,<- l];exact h _ (I.tok _)
 ·subst ey
  cases (show u=Value.ref b from ry);obtain⟨z,hd,xs,rel,dd⟩:=Y4 I.hok e;refine wpAny_in_heap (tupleKind_room_in1 hu) (vV I.hok eb) hd dd ?_;have q:=(rel.val k).isSome_eq;rw[isSome_map] at q;rw[<- q,<- l];exact h _ (I.tok _)
theorem zcU{Q:Value->Shared->Prop}(hu:A.units+1<cLine)(I:Inv X pins σ H s)(g:DGet H a y o)(ry:RelV y u)(h:∀ s',Inv X pins σ H s'->Q (.bool (!o.isSome)) s') :
  wpAny (model X.prog X.w) A (compareOp .NotIn u (.ref a)) Q E s:=by
 rcases g with⟨kvs,k,e,ey,l⟩ | ⟨kvs,k,b,e,ey,eb,l⟩
 ·subst ey
  obtain⟨z,hd,vs,rel,dd⟩:=Yh I.hok e;refine wpAny_notIn_of (Z9 ry) hd dd.mapOf ?_;rw[<- (rel.val k).isSome_eq,<- l];exact h _ (I.tok _)
 ·subst ey
  cases (show u=Value.ref b from ry);obtain⟨z,hd,xs,rel,dd⟩:=Y4 I.hok e;refine wpAny_notIn_heap (tupleKind_room_in1 hu) (vV I.hok eb) hd dd ?_;have q:=(rel.val k).isSome_eq;rw[isSome_map] at q;rw[<- q,<- l];exact h _ (I.tok _)
theorem vZ{h':Heap}{t':Nat}{ob:HO}(I:Inv X pins σ H s)(mu:Mut (H a))(hs:Heap.SameBut a s.heap h')(he:∃ q,h'.get? a=some q)(new:ObjOk X.prog X.w (upd H a ob) h' a ob) :
  Inv X pins σ (upd H a ob) { s with heap:=h',toks:=t' } :=
 I.write (x:=a) (e:=a) mu (.inl rfl) (fun b q hb z=>(hs.2 b hb).trans z) he new
theorem X0{P:Program}{w:World}{H':Hp}{h':Heap}{kvs:List (Key×V)}{vs:List (Key×Value)}(z:kvs.length<=sizeLine)(hd:(a == sysModules)=false)(rel:KV kvs vs)(dd:h'.DictOf (zP P w) a vs) :
  ObjOk P w H' h' a (.dK kvs):=⟨z,hd,vs,rel,dd⟩
theorem Uq{H':Hp}{Q:Unit->Shared->Prop}(hu:A.units+1<cLine)(I:Inv X pins σ H s)(g:DPut H a y v H')(ry:RelV y u)(rv:RelV v r)(h:∀ s',Inv X pins σ H' s'->Q () s') :
  wpAny (model X.prog X.w) A (setItem (.ref a) u r) Q E s:=by
 rcases g with⟨kvs,k,e,ey,l,eH⟩ | ⟨kvs,k,b,e,ey,eb,l,eH⟩
 ·subst ey eH
  obtain⟨z,hd,vs,rel,dd⟩:=Um I.hok e;have hz:vs.length<=sizeLine:=by rw[<- rel.length];exact z
  have hl:(putK kvs k v).length<=sizeLine:=by have:=xG kvs k v;omega
  refine wpAny_setItem_pairs (hsz:=hz) (Z9 ry) dd fun h' dd' hs=>h _ ?_;have he:∃ q,h'.get? a=some q:=let ⟨q,_,_,hq,_⟩:=dd';⟨q,hq⟩
  exact vZ I (by rw[e];exact True.intro) hs he (X0 hl hd (rel.put k rv) dd')
 ·subst ey eH
  cases (show u=Value.ref b from ry);obtain⟨z,hd,xs,rel,dd⟩:=zcS I.hok e;have hz:xs.length<=sizeLine:=by rw[<- Paired.length rel];exact z
  have hl:(putK kvs k v).length<=sizeLine:=by have:=xG kvs k v;omega
  refine wpAny_setItem_heap (hsz:=hz) (tupleKind_room_in1 hu) (vV I.hok eb) dd fun h' dd' hs=>h _ ?_;obtain⟨q,es,ep,hq,h2,h3,h4,_,h5⟩:=dd';refine vZ I (by rw[e];exact True.intro) hs ⟨q,hq⟩ ⟨hl,hd,_,(rel.put k eb rv).keeps fun c ys ec=>?_,q,es,ep,hq,h2,h3,h4,h5⟩;rw[upd_ne (Z5 ec e (fun z=>nomatch z))];exact ec
end
section
variable {X:Cx}{pins:List (Addr×Obj)}{σ:St}{H:Hp}{s:Shared}{a:Addr}{kvs:List (Key×V)}{k:Key}{u:Value}{A:Around}{E:Value->Shared->Prop}
theorem zf2{Q:Value->Shared->Prop}(I:Inv X pins σ H s)(e:Rd H a (.dK kvs))(h:∀ t s',Inv X pins σ H s'->Q (.int kvs.length t) s'):wpAny (model X.prog X.w) A (call (.builtin "len") [.ref a]) Q E s:=by
 obtain⟨z,hd,vs,rel,dd⟩:=Yh I.hok e;refine call_len_dict hd dd (by rw[<- rel.length];rw[sizeLine_eq] at z;omega) ?_;rw[<- rel.length];exact h _ _ (I.tok _)
end
def zf5(i:Expr):Prop:=∀ ov iv,subscripted i false ov iv=operate [ov,iv] (getItem ov iv)
theorem subD_of{prog:Program}{w:World}{A:Around}{E:Value->Shared->Prop}{s:Shared}{env:Env}{value slice:Expr}{pos:Pos}{T id:String}{Q:Value->Shared->Prop}
  (hl:typeLookup (.type T) "__getitem__" = pure (some (.builtin id))) (hs:zf5 slice)
  (h:wpAny (model prog w) A (eval value env) (fun o s₁=>wpAny (model prog w) A (eval slice env) (fun i s₂=>s₂.TypeIs o T/\wpAny (model prog w) A (getItem o i) Q E s₂) E s₁) E s) :
  wpAny (model prog w) A (eval (.Subscript value slice pos) env) Q E s:=by
 refine Subscript_ (wpAny_mono h (fun o s₁ h₁=>wpAny_mono h₁ (fun i s₂ h₂=>?_) fun _ _ x=>x) fun _ _ x=>x);obtain⟨hT,h₂⟩:=h₂;unfold subscriptTail;refine wpAny_bind ?_;rw[getitemInPython_of_ne hT.not_modules];refine wpAny_bind (wpAny_specialOf hT hl ?_);have fin:wpAny (model prog w) A (subscripted slice false o i) (fun r s₃=>wpAny (model prog w) A (letTemporaryGo value o r >>= fun _=>pure r) Q E s₃) E s₂:=by
  rw[hs o i];exact wpAny_operating (wpAny_mono h₂ (fun r s₃ h₃=>wpAny_bind (wpAny_letTemporaryGo (wpAny_pure h₃))) fun _ _ x=>x)
 first
  |exact wpAny_pure (wpAny_bind fin)
  |exact wpAny_bind (wpAny_pure (wpAny_bind fin))
  |exact wpAny_bind fin
theorem Y5{X:Cx}{pins:List (Addr×Obj)}{σ:St}{H:Hp}{s:Shared}{a:Addr}{y:V}{o:Option V}(I:Inv X pins σ H s)(g:DGet H a y o):s.TypeIs (.ref a) "dict" := by
 rcases g with⟨kvs,k,e,_,_⟩ | ⟨kvs,k,b,e,_,_,_⟩
 ·obtain⟨_,_,vs,_,dd⟩:=Yh I.hok e
  exact dd.typeIs
 ·obtain⟨_,_,xs,_,dd⟩:=Y4 I.hok e
  exact dd.typeIs
def We(td ty:TE):TE:=fun σ H Q=>td σ H fun x H1=>ty σ H1 fun y H2=>∃ a v,x=.ref a/\DGet H2 a y (some v)/\Q v H2
def zgc(ty td:TE):TE:=fun σ H Q=>ty σ H fun y H1=>td σ H1 fun x H2=>∃ a o,x=.ref a/\DGet H2 a y o/\Q (.bl o.isSome) H2
def zbG(ty td:TE):TE:=fun σ H Q=>ty σ H fun y H1=>td σ H1 fun x H2=>∃ a o,x=.ref a/\DGet H2 a y o/\Q (.bl (!o.isSome)) H2
def zdS(td ty tv:TE):TS:=fun D σ H=>tv σ H fun v H1=>td σ H1 fun x H2=>ty σ H2 fun y H3=>∃ a H4,x=.ref a/\DPut H3 a y v H4/\D.nx σ H4
section
variable {X:Cx}{o i e value:Expr}{pos pos' tpos:Pos}{td ty tv:TE}
theorem YI(hu:X.A.units+1<cLine)(ho:PE X o td)(hi:PE X i ty)(hs:zf5 i):PE X (.Subscript o i pos) (We td ty):=by
 intro pins s σ H Q I h;refine subD_of PySem.F.slot_dict_getitem.lookup hs (thn (ho pins s σ H _ I h) fun u s1 ⟨x,H1,I1,rx,q1⟩=>thn (hi pins s1 σ H1 _ I1 q1) fun iv s2 hq0=>?_);obtain⟨y,H2,I2,ry,a,v,ex,g,q2⟩:=hq0;subst ex;obtain rfl:u=Value.ref a:=rx;exact⟨Y5 I2 g,Ur hu I2 g ry fun w' s3 I3 rw'=>⟨v,H2,I3,rw',q2⟩⟩
theorem zbd(hu:X.A.units+1<cLine)(hi:PE X i ty)(ho:PE X o td):PC X .In i o (zgc ty td):=by
 intro pins s σ H Q I h;refine thn (hi pins s σ H _ I h) fun iv s1 ⟨y,H1,I1,ry,q1⟩=>thn (ho pins s1 σ H1 _ I1 q1) fun u s2 hq0=>?_;obtain⟨x,H2,I2,rx,a,ov,ex,g,q2⟩:=hq0;subst ex;obtain rfl:u=Value.ref a:=rx;exact zhp hu I2 g ry fun s3 I3=>⟨.bl ov.isSome,H2,I3,rfl,q2⟩
theorem Yx(hu:X.A.units+1<cLine)(hi:Bx (PE X i ty))(ho:Bx (PE X o td)):Bx (PC X .NotIn i o (zbG ty td)):=by
 have hi:=hi.of;have ho:=ho.of;refine⟨?_⟩;intro pins s σ H Q I h;refine thn (hi pins s σ H _ I h) fun iv s1 ⟨y,H1,I1,ry,q1⟩=>thn (ho pins s1 σ H1 _ I1 q1) fun u s2 hq0=>?_;obtain⟨x,H2,I2,rx,a,ov,ex,g,q2⟩:=hq0;subst ex;obtain rfl:u=Value.ref a:=rx;exact zcU hu I2 g ry fun s3 I3=>⟨.bl (!ov.isSome),H2,I3,rfl,q2⟩
theorem YG(hu:X.A.units+1<cLine)(ho:PE X o td)(hi:PE X i ty)(hv:PE X value tv)(hs:swapsWith value (some (.Subscript o i pos')) pos.line X.env=pure false) :
  PS X (.Assign [.Subscript o i pos'] value pos) (zdS td ty tv):=by
 intro pins s σ H D I h;refine wpAny_Assign_Subscript (thn (hv pins s σ H _ I h) fun r s1 ⟨v,H1,I1,rv,q1⟩=>thn (ho pins s1 σ H1 _ I1 q1) fun u s2 ⟨x,H2,I2,rx,q2⟩=>thn (hi pins s2 σ H2 _ I2 q2) fun iv s3 hq0=>?_) hs;obtain⟨y,H3,I3,ry,a,H4,ex,g,q3⟩:=hq0;subst ex;obtain rfl:u=Value.ref a:=rx;exact Uq hu I3 g ry rv fun s4 I4=>⟨σ,H4,I4,q3⟩
end
theorem zaI{P:Program}{w:World}{H:Hp}(h:Heap)(hb:sysModules<h.objs.size):ObjOk P w H (h.push { cls:=.type "dict",data:=.dict #[] }) h.objs.size (.dK []) :=
 ⟨zero_le _,beq_eq_false_iff_ne.mpr (Ne.symm (ne_of_lt hb)),[],.nil,Heap.DictOf.new h⟩
theorem zaG{P:Program}{w:World}{H:Hp}(h:Heap)(hb:sysModules<h.objs.size):ObjOk P w H (h.push { cls:=.type "dict",data:=.dict #[] }) h.objs.size (.dT []) :=
 ⟨zero_le _,beq_eq_false_iff_ne.mpr (Ne.symm (ne_of_lt hb)),[],.nil,_,#[],0,Heap.get?_push_size _ rfl,⟨rfl,rfl,rfl⟩,rfl,rfl,List.nodup_nil⟩
def zdE:TE:=fun _ H Q=>∀ p,H p=none->Q (.ref p) (upd H p (.dK []))
def zaW:TE:=fun _ H Q=>∀ p,H p=none->Q (.ref p) (upd H p (.dT []))
section
variable {X:Cx}{pos:Pos}
theorem U2:PE X (.Dict [] [] pos) zdE:=fun pins s σ H Q I h =>
 wpAny_Dict_empty ⟨.ref s.heap.objs.size,_,I.laid (a:=s.heap.objs.size) (o:=.dK []) (t':=s.toks) (fun _ _ q=>Heap.get?_push_of_some _ q) (Nat.le_refl _) (zaI s.heap I.big),rfl,h _ (I.hok.fresh (Nat.le_refl _))⟩
theorem XC:PE X (.Dict [] [] pos) zaW:=fun pins s σ H Q I h =>
 wpAny_Dict_empty ⟨.ref s.heap.objs.size,_,I.laid (a:=s.heap.objs.size) (o:=.dT []) (t':=s.toks) (fun _ _ q=>Heap.get?_push_of_some _ q) (Nat.le_refl _) (zaG s.heap I.big),rfl,h _ (I.hok.fresh (Nat.le_refl _))⟩
end
def mergeK(kvs more:List (Key×V)):List (Key×V):=more.foldl (fun acc kv=>putK acc kv.1 kv.2) kvs
theorem KV.merge:∀ {more:List (Key×V)}{rs:List (Key×Value)}{kvs:List (Key×V)}{vs:List (Key×Value)},KV more rs->KV kvs vs->KV (mergeK kvs more) (merged vs rs):=by
 intro more rs kvs vs r;unfold KV at r
 induction r generalizing kvs vs with
 |nil=>intro q;exact q
 | @cons p q ps qs h t ih =>
  intro r0;have e:KV (putK kvs p.1 p.2) (stored vs q.1 q.2):=by
   have:=r0.put p.1 h.2;rw[<- h.1];exact this
  exact ih e
structure M1 (X:Cx) (o:Expr) (m:Str) (apos:Pos) (e:Expr) (cpos:Pos):Prop where
 base:attributeBase o m X.env (eval o X.env)=eval o X.env
 few:((backTo cpos (starEach [e] X.env)).all (fun x=>!x.1)&&(backToKw cpos (keywordEach [] X.env)).all (fun x=>x.1.isSome)
  && decide (([e]:List Expr).length+([]:List Keyword).length+(if ([]:List Keyword).isEmpty then 0 else 1)<30))=true
 line:(apos.endLine == cpos.line)=true
 trees:backTo cpos (starEach [e] X.env)=[(false,eval e X.env)]
structure M2 (X:Cx) (o:Expr) (m:Str) (apos:Pos) (e f:Expr) (cpos:Pos):Prop where
 base:attributeBase o m X.env (eval o X.env)=eval o X.env
 few:((backTo cpos (starEach [e,f] X.env)).all (fun x=>!x.1)&&(backToKw cpos (keywordEach [] X.env)).all (fun x=>x.1.isSome)
  && decide (([e,f]:List Expr).length+([]:List Keyword).length+(if ([]:List Keyword).isEmpty then 0 else 1)<30))=true
 line:(apos.endLine == cpos.line)=true
 trees:backTo cpos (starEach [e,f] X.env)=[(false,eval e X.env),(false,eval f X.env)]
def IsD(H:Hp)(a:Addr):Prop:=(∃ kvs,Rd H a (.dK kvs))\/∃ kvs,Rd H a (.dT kvs)
theorem XR{X:Cx}{pins:List (Addr×Obj)}{σ:St}{H:Hp}{s:Shared}{a:Addr}(I:Inv X pins σ H s)(d:IsD H a) :
  s.TypeIs (.ref a) "dict" /\ (∀ b,Value.ref a=.ref b->∃ ob,s.heap.get? b=some ob/\ob.dict=none)/\(a == sysModules)=false:=by
 rcases d with⟨kvs,e⟩ | ⟨kvs,e⟩
 ·obtain⟨_,hd,vs,_,dd⟩:=Yh I.hok e
  refine⟨dd.typeIs,fun b q=>?_,hd⟩;cases q;obtain⟨ob,_,_,h1,h2,_⟩:=dd;exact⟨ob,h1,h2.2.1⟩
 ·obtain⟨_,hd,xs,_,dd⟩:=Y4 I.hok e
  refine⟨dd.typeIs,fun b q=>?_,hd⟩;cases q;obtain⟨ob,_,_,h1,h2,_⟩:=dd;exact⟨ob,h1,h2.2.1⟩
section
variable {X:Cx}{pins:List (Addr×Obj)}{σ:St}{H:Hp}{s:Shared}{a:Addr}{y d:V}{u r:Value}{o:Option V}{A:Around}{E:Value->Shared->Prop}
theorem zeQ{Q:Value->Shared->Prop}(hu:A.units+1<cLine)(I:Inv X pins σ H s)(g:DGet H a y o)(ry:RelV y u)(h:∀ w' s',Inv X pins σ H s'->RelV (o.getD .non) w'->Q w' s') :
  wpAny (model X.prog X.w) A (call (.builtin "dict.get") [.ref a,u]) Q E s:=by
 rcases g with⟨kvs,k,e,ey,l⟩ | ⟨kvs,k,b,e,ey,eb,l⟩
 ·subst ey
  obtain⟨z,hd,vs,rel,dd⟩:=Yh I.hok e;refine call_meetsIn PySem.F.slot_dict_get dd.typeIs PySem.F.entry_dict_get (PySem.F.args_dict_get_2 _ _) (meets_dict_get (zP X.prog X.w) a (Z9 ry) hd) ⟨_,dd.mapOf,h _ _ (I.tok _) ?_⟩;rw[l];exact(rel.val k).getD rfl
 ·subst ey
  cases (show u=Value.ref b from ry);obtain⟨z,hd,xs,rel,dd⟩:=Y4 I.hok e;refine call_meetsIn PySem.F.slot_dict_get dd.typeIs PySem.F.entry_dict_get (PySem.F.args_dict_get_2 _ _) (meetsH_dict_get (tupleKind (zP X.prog X.w)) a b hd) ⟨tupleKind_room_in1 hu,k,xs,vV I.hok eb,dd,h _ _ (I.tok _) ?_⟩;rw[l];exact(rel.val k).getD rfl
end
def zdF(td ty:TE):TE:=fun σ H Q=>td σ H fun x H1=>∃ a,x=.ref a/\IsD H1 a/\ty σ H1 fun y H2=>∃ o,DGet H2 a y o/\Q (o.getD .non) H2
section
variable {X:Cx}{o e f:Expr}{apos cpos:Pos}{td ty tx:TE}
theorem uo(hu:X.A.units+1<cLine)(ho:Bx (PE X o td))(he:Bx (PE X e ty))(m:M1 X o "get" apos e cpos):Bx (PE X (.Call (.Attribute o "get" apos) [e] [] cpos) (zdF td ty)):=by
 have ho:=ho.of;have he:=he.of;refine⟨?_⟩;intro pins s σ H Q I h;refine wpAny_Call_method m.base m.few m.line PySem.F.plainAttrs_dict PySem.F.slot_dict_get PySem.F.type_dict_get (thn (ho pins s σ H _ I h) fun u s1 hq0=>?_);obtain⟨x,H1,I1,rx,a,ex,d,q1⟩:=hq0;subst ex;obtain rfl:u=Value.ref a:=rx;obtain⟨t1,t2,_⟩:=XR I1 d;refine⟨t1,t2,?_⟩;rw[m.trees];refine Calls.callWith_builtin rfl (Calls.evalArgs_plain (Calls.spliced_cons (thn (he pins s1 σ H1 _ I1 q1) fun iv s2 ⟨y,H2,I2,ry,ov,g,q2⟩=>Calls.spliced_nil ?_)));exact zeQ hu I2 g ry fun w' s3 I3 rw'=>⟨_,H2,I3,rw',q2⟩
end
end L2
namespace Att
open PySem PySem.W PySem.Calls PyProof.Rows
theorem vW{P:Params}{h:Heap}:∀ (ns:LI) (vs:List Value),WellAll P h vs (ns.map WData.int)->IntsAre vs ns:=by
 intro ns
 induction ns with
 |nil =>
  intro vs w;rw[map_nil] at w;cases w;exact .nil
 |cons n ns ih =>
  intro vs w;rw[map_cons] at w;cases w with
  |cons a b =>
   cases a;exact .cons _ _ (ih _ b)
theorem Vo{l:OpenLaw}{n:Nat}(hn:l.most=some n){P:Params}{h:Heap}{args:List WData}{vals:List Value}
  (hpre:l.row.toRowW.claim.pre args=true) (hwl:WellAll P h vals args) :
  ∃ a vs ns,vals=[Value.ref a]/\args=[WData.list (ns.map WData.int)]/\h.get? a=some { cls:=.type "list",data:=.seq vs.toArray }/\IntsAre vs ns/\ns.length<=n:=by
 have hsh:WShape.hasAll [] args [.list .int]=true:=(pre_splitW hpre).1;have hc:l.pre.holds [] { args:=args }=true:=(pre_splitW hpre).2;obtain⟨d,r,rfl,h1,h2⟩:=hasAllW_cons hsh;obtain rfl:=hasAllW_nil h2;obtain⟨xs,rfl,h3⟩:=hasW_list h1;obtain⟨ns,rfl⟩:=items_int h3;have hlen:ns.length<=n:=by
  unfold OpenLaw.pre at hc;have h4:(WTm.not (.lt (.lit (.int (n:Int))) (.len (.arg 0)))).holds [] { args:=[.list (ns.map .int)] }=true:=by
   have h4:=(holds_andW hc).1;rw[hn] at h4;exact h4
  have h5:=condW_of h4 (w_not (w_lt w_lit (w_len_list (w_arg rfl))));rw[length_map] at h5;refine Nat.le_of_not_lt fun q=>?_;have q':(n:Int)<((ns.length:Nat):Int):=by omega
  first
   |(rw[decide_eq_true q'] at h5;exact absurd h5 (by decide))
   |(simp at h5;omega)
 cases hwl with
 |cons w1 w2 =>
  cases w2;cases w1 with
  |list ho hall=>exact⟨_,_,ns,rfl,rfl,ho,vW ns _ hall,hlen⟩
theorem Vt(l:OpenLaw)(args:List WData):l.row.toRowW.claim.post args (.bool true) args=true :=
 postW_of (r:=l.row.toRowW) (X:=(true == true))
  (show WShape.has [] (.bool true) .bool=true by first | rfl | decide | simp[WShape.has,WShape.arms,WShape.armsAll])
  (show(WTm.eq .res (.lit (.bool true))).value [] { args:=args,res:=some (.bool true),after:=args }=some (.bool (true == true)) from w_eq_bool (w_res rfl) w_lit) rfl
theorem attach_call{l:OpenLaw}{n:Nat}{q:Program}{loose:List Str}{XP:(Str->Option Value)->Heap->Prop}{YP:World->Heap->Prop}{d:DefRec}
  (hn:l.most=some n) (hdf:d.params.defaults=[])
  (call:∀ (w:World) (s₀ s₁:Shared) (mg mb:Str->Option Value) (fa:Addr) (o:Obj) (pm cd doc:Value) (a:Addr) (vs:List Value) (ns:LI),
   Ground q loose [] XP w s₀ mg mb s₁.heap->YP w s₁.heap ->
   s₁.heap.get? fa=some o->o.data=.func (docDef d.name d.params d.body d.scope pm cd doc)->s₁.heap.CodeRec cd d.name->mg d.name=some (.ref fa) ->
   s₁.heap.get? a=some { cls:=.type "list",data:=.seq vs.toArray }->IntsAre vs ns->ns.length<=n->s₁.gens = #[] ->
   codeAny (model l.prog w) callerA (.call (.ref fa) ⟨[.ref a],[]⟩) (fun r s'=>r=.ok (.ret (.bool true))/\OldK s₁.heap s'.heap/\s'.os=s₁.os/\AllBare s'.gens) s₁) :
  WalkO q loose XP YP l.row.toRowW d [] (fun f vs=>PySem.call f vs):=by
 intro w s₀ s₁ mg mb G Y fa o pm cd doc dV kV ho hd hcd hD hmg hg args vals as hpre hlay hrd hwl hlo;obtain rfl:dV=.none:=Dflts.none hD hdf;obtain rfl:kV=.none:=Dflts.noKw hD;obtain⟨a,vs,ns,rfl,rfl,hobj,hints,hlen⟩:=Vo hn hpre hwl;refine enter_call (codeAny_mono (call w s₀ s₁ mg mb fa o pm cd doc a vs ns G Y ho (fd_plain hd) hcd hmg hobj hints hlen hg) fun r s' hq=>?_);obtain⟨rfl,h2,h3,h4⟩:=hq;exact⟨.inl ⟨.bool true,.bool true,[],rfl,fun _=>rfl,.bool true,Vt l _,fun _=>⟨List.Pairwise.nil,fun _ hm=>(nomatch hm)⟩⟩,h2,h3,h4⟩
end Att
namespace L2
open PySem PySem.Spec PyProof.Rows
theorem ZB:∀ {vs:List Value}{ns:LI},IntsAre vs ns->Vals (ns.map V.int) vs
 |_,_,.nil=>.nil
 |_,_,.cons n t h=>.cons ⟨t,rfl⟩ (ZB h)
def ze0(H:Hp):Prop:=∀ b,H b=none\/∃ o xs,H b=some (.frz o (.lst xs))
theorem zap{P:Program}{w:World}{K:W.Frag}{mg mb:Str->Option Value}{CX:CXT}{k:Nat}{fa a:Addr}{fd:FuncData}{x:Str}{sp:Sp}{s₁:Shared}{vs:List Value}{ns:LI}
  (KX:K.In s₁.heap) (hns:s₁.heap.Ns mainGlobals mg) (hb:s₁.heap.Ns builtinsNs mb) (hbb:∀ x:Str,x ≠ "__name__" -> mb x=bootBuiltins x) (hlim:s₁.heap.NoLimit) (hg:s₁.gens = #[])
  (ha:s₁.heap.get? a=some { cls:=.type "list",data:=.seq vs.toArray }) (hi:IntsAre vs ns) (hl:ns.length<=sizeLine) (hr:Room k callerA)
  (F:∀ base:Heap,K.In base->base.Ns mainGlobals mg->FnOk P w K mg base CX k fa fd [x] sp) (hbind:∀ (s:Shared) (u:Value),BindsTo s fd ⟨[u],[]⟩ [(x,u)])
  (hsp:∀ H:Hp,ze0 H->SqL K H a (ns.map V.int)->sp [.ref a] H (fun v _=>v=.bl true) fun _ _ _=>False)
  (hCX:∀ H e s',CX [] H s₁ (fun _ _ _=>False) e s'->False) :
  codeAny (model P w) callerA (.call (.ref fa) ⟨[.ref a],[]⟩) (fun r s'=>r=.ok (.ret (.bool true))/\OldK s₁.heap s'.heap/\s'.os=s₁.os/\AllBare s'.gens) s₁:=by
 have rv:=ZB hi;have lenV:=hi.length
 -- from an abstract heap in which nothing but the script may be tracked
 have core:∀ H:Hp,ze0 H->SqL K H a (ns.map V.int)->HOk P w H s₁.heap->(∀ b,H b≠none->b=a)->(H a≠none->K.lookup a=none) ->
   codeAny (model P w) callerA (.call (.ref fa) ⟨[.ref a],[]⟩) (fun r s'=>r=.ok (.ret (.bool true))/\OldK s₁.heap s'.heap/\s'.os=s₁.os/\AllBare s'.gens) s₁:=by
  intro H hO hS hok hA hK;have base_of:∀ {b:Addr}{o:Obj},s₁.heap.get? b=some o->H b=none->(zaB s₁.heap H).get? b=some o:=fun e n=>zaA e n;have noA:∀ {b:Addr}{o:Obj}{es:Array DictEntry}{ep:Nat},s₁.heap.get? b=some o->o.data=.dict es ep->H b=none:=fun {b o es ep} e d=>by
   cases q:H b with
   |none=>rfl
   |some u =>
    have e':b=a:=hA b (by rw[q];simp);subst e';rw[ha] at e;cases e;have d':Data.seq vs.toArray _=Data.dict es ep:=d;cases d'
  have nsK:∀ {b:Addr}{m:Str->Option Value},s₁.heap.Ns b m->(zaB s₁.heap H).Ns b m:=fun {b m} ⟨o,es,ep,e,d,r⟩=>⟨o,es,ep,base_of e (noA e d),d,r⟩;have hKb:K.In (zaB s₁.heap H):=fun b o e=>base_of (KX b o e) (by
   cases q:H b with
   |none=>rfl
   |some u =>
    have e':b=a:=hA b (by rw[q];simp);subst e';rw[hK (by rw[q];simp)] at e;cases e)
  have hM:Mod K mg (zaB s₁.heap H):=⟨hKb,nsK hns,⟨mb,nsK hb,hbb⟩,let ⟨mc,h1,h2⟩:=hlim;⟨mc,nsK h1,h2⟩⟩;have e0:Env0 P w K mg (zaB s₁.heap H) callerA [] s₁ H:=⟨rfl,hM,fun b o e=>zcg e,le_of_eq (Uc _ _),trivial,fun b hb=>absurd (show b∈([]:List Addr) from hb) (by simp),hok,.of_eq hg⟩;refine codeAny_mono ((F _ hKb (nsK hns)).run callerA [] s₁ H ⟨[.ref a],[]⟩ [.ref a] [.ref a] _ _ hr e0 (hbind s₁ (.ref a)) (.cons rfl .nil) (hsp H hO hS)) fun r s' h=>?_;cases r with
  |error e=>exact(hCX H e s' h).elim
  |ok fl =>
   cases fl with
   |next=>exact False.elim h
   |brk=>exact False.elim h
   |cont=>exact False.elim h
   |ret u =>
    obtain⟨v,H',os,bare,un,hok',r',q⟩:=h;have q':v=.bl true:=q;subst q';obtain rfl:u=Value.bool true:=r';refine⟨rfl,OldK.of_keep fun b o e=>?_,os,bare⟩;cases q:H b with
    |none=>exact un.keep b o e q (by intro z;exact absurd (show b∈([]:List Addr) from z) (by simp)) (by simp)
    |some u =>
     rcases hO b with z | ⟨ob,xs,z⟩
     ·rw[q] at z;cases z
     ·have z2:=un.frzs b ob _ z
      obtain⟨e1,_⟩:=hok b _ z;obtain⟨e2,_⟩:=hok' b _ z2;rw[e] at e1;cases e1;exact e2
 cases hk:K.lookup a with
 |some o =>
  -- the script is one of the module's own objects
  have e:=KX a o hk;rw[ha] at e;cases e;refine core (fun _=>none) (fun _=>.inl rfl) (.inr ⟨_,vs.toArray,_,hk,rfl,rfl,rfl,by rw[size_toArray,lenV];exact hl,by simpa using rv⟩) (fun b u z=>by have z':(none:Option HO)=some u:=z;cases z') (fun b z=>absurd rfl z) fun z=>absurd rfl z
 |none =>
  refine core (fun b=>if b=a then some (.frz { cls:=.type "list",data:=.seq vs.toArray } (.lst (ns.map V.int))) else none) (fun b=>?_) (.inl (.inr ⟨{ cls:=.type "list",data:=.seq vs.toArray },if_pos rfl⟩)) (fun b u z=>?_) (fun b z=>?_) fun _=>hk
  ·by_cases hb:b=a
   ·exact .inr ⟨_,_,if_pos hb⟩
   ·exact .inl (if_neg hb)
  ·by_cases hb:b=a
   ·have z':=(if_pos hb).symm.trans z
    cases z';subst hb;exact⟨ha,by rw[length_map];exact hl,vs,_,rv,ha⟩
   ·have z':=(if_neg hb).symm.trans z
    cases z'
  ·by_cases hb:b=a
   ·exact hb
   ·exact absurd (if_neg hb) z
noncomputable abbrev KOf{K:W.Frag}{h:Heap}(_:K.In h):PySem.W.Frag:=K
theorem zbA{l:PySem.W.OpenLaw}{n k:Nat}{q:Program}{loose:List Str}{XP:(Str->Option Value)->Heap->Prop}{YP:World->Heap->Prop}{d:DefRec}{K:Params->PySem.W.Frag}{CX:World->CXT}{sp:World->Sp}{x:Str}
  (hn:l.most=some n) (hn2:n<=sizeLine) (hdf:d.params.defaults=[]) (hr:Room k callerA)
  (hY:∀ (w:World) (h:Heap),YP w h->(K w.params).In h)
  (F:∀ (w:World) (mg:Str->Option Value) (fa:Addr) (h:Heap),(K w.params).In h->h.Ns mainGlobals mg->mg d.name=some (.ref fa) ->
   ∃ fd:FuncData,(∀ (s:Shared) (u:Value),BindsTo s fd ⟨[u],[]⟩ [(x,u)]) /\
    ∀ base:Heap,(K w.params).In base->base.Ns mainGlobals mg->FnOk l.prog w (K w.params) mg base (CX w) k fa fd [x] (sp w))
  (hsp:∀ (w:World) (H:Hp) (a:Addr) (ns:LI),ns.length<=n->ze0 H->SqL (K w.params) H a (ns.map V.int)->sp w [.ref a] H (fun v _=>v=.bl true) fun _ _ _=>False)
  (hCX:∀ (w:World) (H:Hp) (s:Shared) (e:Value) (s':Shared),CX w [] H s (fun _ _ _=>False) e s'->False) :
  PySem.W.WalkO q loose XP YP l.row.toRowW d [] (fun f vs=>PySem.call f vs):=by
 refine Att.attach_call hn hdf fun w s₀ s₁ mg mb fa o pm cd doc a vs ns G Y ho hd hcd hmg hobj hints hlen hg=>?_;have KX:=hY w _ Y;obtain⟨fd,hb,hF⟩:=F w mg fa _ KX G.T.g hmg;exact zap KX G.T.g G.T.b G.T.builtins G.T.nolimit hg hobj hints (le_trans hlen hn2) hr hF hb (fun H hO hS=>hsp w H a ns hlen hO hS) fun H e s'=>hCX w H s₁ e s'
theorem walk_ofK{l:PySem.W.OpenLaw}{n k:Nat}{q:Program}{loose:List Str}{XP:(Str->Option Value)->Heap->Prop}{YP:World->Heap->Prop}{d:DefRec}{K:Params->PySem.W.Frag}{CX:CXT}{sp:PySem.W.Frag->Sp}{x:Str}
  (hn:l.most=some n) (hn2:n<=sizeLine) (hdf:d.params.defaults=[]) (hr:Room k callerA)
  (hY:∀ (w:World) (h:Heap),YP w h->(K w.params).In h)
  (F:∀ (w:World) (mg:Str->Option Value) (fa:Addr) (h:Heap),(K w.params).In h->h.Ns mainGlobals mg->mg d.name=some (.ref fa) ->
   ∃ fd:FuncData,(∀ (s:Shared) (u:Value),BindsTo s fd ⟨[u],[]⟩ [(x,u)]) /\
    ∀ base:Heap,(K w.params).In base->base.Ns mainGlobals mg->FnOk l.prog w (K w.params) mg base CX k fa fd [x] (sp (K w.params)))
  (hsp:∀ (K:W.Frag) (H:Hp) (a:Addr) (ns:LI),ns.length<=n->ze0 H->SqL K H a (ns.map V.int)->sp K [.ref a] H (fun v _=>v=.bl true) fun _ _ _=>False)
  (hCX:∀ (H:Hp) (s:Shared) (e:Value) (s':Shared),CX [] H s (fun _ _ _=>False) e s'->False) :
  PySem.W.WalkO q loose XP YP l.row.toRowW d [] (fun f vs=>PySem.call f vs) :=
 zbA (K:=K) (CX:=fun _=>CX) (sp:=fun w=>sp (K w.params)) hn hn2 hdf hr hY F (fun w H a ns h1 h2 h3=>hsp (K w.params) H a ns h1 h2 h3) fun _ H s e s'=>hCX H s e s'
noncomputable def inClass(s:Stmt)(j:Nat):Stmt:=match s with
 |.ClassDef _ _ _ body _ _ _ _ _ _ _=>body.getD j (.Pass ⟨0,0,0,0⟩)
 |_=>.Pass ⟨0,0,0,0⟩
noncomputable def defArgs(s:Stmt):Arguments:=match s with
 |.FunctionDef _ a _ _ _ _ _ _ _ _=>a
 |_=>{ posonlyargs:=[],args:=[],vararg:=none,kwonlyargs:=[],kw_defaults:=[],kwarg:=none,defaults:=[] }
noncomputable def defBody(s:Stmt):List Stmt:=match s with
 |.FunctionDef _ _ b _ _ _ _ _ _ _=>b
 |_=>[]
noncomputable def defScope(s:Stmt):Scope:=match s with
 |.FunctionDef _ _ _ _ _ _ sc _ _ _=>sc
 |_=>{ kind:=.function,names:=[],isGenerator:=false,isCoroutine:=false }
abbrev CX0:CXT:=fun _ _ _ _ _ _=>False
abbrev E0:XK:=fun _ _ _=>False
theorem U4{X:Cx}:w6 CX0 X E0:=fun _ _ _ _ _ _ _ h=>h.elim
structure Fun (K:W.Frag) (x qual:Str) (st:Stmt) (f:Addr) (fd:FuncData):Prop where
 ex:∃ (oc:Value) (od:Option Addr) (kV doc pm:Value) (an:Option Addr) (cdv ct:Value) (osl:Array (Option Value)),
  fd=PySem.W.fnOf x qual (defArgs st) (defBody st) (defScope st) .none kV doc pm an cdv ct/\K.lookup f=some ⟨oc,od,.func fd,osl⟩/\PySem.W.codeIn K cdv qual=true
 kp:PySem.W.keepIn K (.ref f)=true
section
variable {P:Program}{w:World}{K:W.Frag}{mg:Str->Option Value}{base:Heap}
theorem Fun.ok{x qual:Str}{st:Stmt}{f:Addr}{fd:FuncData}{N ps:List Str}{k:Nat}{sp:Sp}(F:Fun K x qual st f fd)(S:FnScope N ps (defScope st))(len:∀ vs H Q E,sp vs H Q E->vs.length=ps.length)
  (hbody:∀ (cdv:Value) (A:Around) (outer:List Env) (s:Shared) (H:Hp) (vs:List V) (Q:VK) (E:XK),Room k (A.deeper (envOfC qual (defScope st) s.heap.objs.size f cdv))->sp vs H Q E ->
   ∃ t,PSs (yM CX0 P w K mg base N qual (defScope st) f cdv A outer s H E).nox (defBody st) t/\t { nx:=fun _ H'=>Q .non H',rt:=Q } (start N vs) H):FnOk P w K mg base CX0 (k+1) f fd ps sp:=by
 obtain⟨oc,od,kV,doc,pm,an,cdv,ct,osl,rfl,lk,hcd⟩:=F.ex;refine zeK lk hcd S len fun A outer s H vs Q E hr hsp=>?_;obtain⟨t,h,q⟩:=hbody cdv A outer s H vs Q E hr hsp;exact⟨t,h.nox,q⟩
end
theorem vY{A:Around}{k:Nat}(hr:Room k A):A.units+1<cLine:=lt_of_le_of_lt (Nat.add_le_add_left (by decide:1<=64) _) hr.units
theorem ye{n:Nat}(h:n<=1000):n<sizeLine:=lt_of_le_of_lt h (by decide)
section
variable {X:Cx}
theorem pv(i:Nat){x:Str}{pos:Pos}(hN:X.N[i]?=some x:=by rfl)(hv:Vis X.env.scope x:=by first | exact Or.inl rfl | exact Or.inr (Or.inl rfl) | exact Or.inr (Or.inr rfl))(hd:(x == ("__debug__" : Str))=false:=by decide)
  (hcd:(x == ("__classdict__" : Str))=false:=by decide):PE X (.Name x pos) (yV i):=zd0 hN hv hd hcd
theorem UA:xr X (.builtin "len") (fun xs H Q=>∃ a kvs,xs=[V.ref a]/\H a=some (.dK kvs)/\Q (.int kvs.length) H):=by
 intro pins s σ H xs us Q I r h;obtain⟨a,kvs,rfl,ha,q⟩:=h;obtain⟨u,rfl,ru⟩:=ud r;cases ru;exact zf2 I (.inl ha) fun t s' I'=>⟨.int kvs.length,H,I',⟨t,rfl⟩,q⟩
end
theorem Yt{A B:Prop}(h:B):if false=true then A else B:=by
 rw[if_neg Bool.false_ne_true];exact h
theorem vc{A B:Prop}(h:A):if true=true then A else B:=by
 rw[if_pos rfl];exact h
theorem zcA{c A B:Prop}[Decidable c](h1:c->A)(h2:¬ c->B):if c then A else B:=by
 by_cases h:c
 ·rw[if_pos h]
  exact h1 h
 ·rw[if_neg h]
  exact h2 h
def Same(H H':Hp):Prop:=∀ b o,H b=some o->H' b=some o
theorem sR(H:Hp):Same H H:=fun _ _ h=>h
theorem Same.trans{H H1 H2:Hp}(a:Same H H1)(b:Same H1 H2):Same H H2:=fun c o h=>b c o (a c o h)
theorem Same.free{H H':Hp}(e:Same H H'){l:Addr}(h:H' l=Option.none):H l=Option.none:=by
 cases q:H l with
 |none=>rfl
 |some o =>
  rw[e l o q] at h;cases h
end L2
set_option maxHeartbeats 4000000
namespace L2
open PySem PySem.Spec PyProof.Rows
def zff(t u:TS):TS:=fun D σ H=>∃ M:St->Hp->Prop,t { D with nx:=M } σ H/\∀ σ' H',M σ' H'->u D σ' H'
theorem y9{X:Cx}{st:Stmt}{rest:List Stmt}{t u:TS}(h1:Bx (PS X st t))(h2:Bx (PSs X rest u)):Bx (PSs X (st::rest) (zff t u)):=by
 have h1:=h1.of;have h2:=h2.of;refine⟨?_⟩;intro pins s σ H D I h;obtain⟨M,h,hM⟩:=h;refine wpAny_execs_cons (thn (h1 pins s σ H { D with nx:=M } I h) fun f s1 q=>?_);cases f with
 |next =>
  obtain⟨σ',H',I',q⟩:=q;exact h2 pins s1 σ' H' D I' (hM σ' H' q)
 |brk=>exact q
 |cont=>exact q
 |ret u=>exact q
theorem zZ{c:Bool}{A B:Prop}(hc:c=true)(h:A):if c=true then A else B:=by rw[if_pos hc];exact h
theorem iZ{c:Bool}{A B:Prop}(hc:c=false)(h:B):if c=true then A else B:=by rw[hc];exact Yt h
def PTs(X:Cx)(ifs:List Expr)(t:TT):Prop :=
 ∀ (pins:List (Addr×Obj)) (s:Shared) (σ:St) (H:Hp) (Q:Bool->Hp->Prop),Inv X pins σ H s->t σ H Q ->
  wpAny (model X.prog X.w) X.A (forIn ifs true fun c r=>if r=true then do let ok <- isTrue c X.env (eval c X.env);pure (ForInStep.yield ok) else pure (ForInStep.yield r)) (TP X pins σ Q) X.xe s
def ze2:TT:=fun _ H Q=>Q true H
theorem zdd{τ:St}{H:Hp}{A B:Hp->Prop}(h:A H):ze2 τ H (fun b H5=>if b=true then A H5 else B H5):=by
 show if true=true then A H else B H
 exact vc h
theorem Vr{X:Cx}:PTs X [] ze2:=fun _ _ _ H _ I h=>wpAny_tests_nil ⟨H,I,h⟩
theorem Zx{X:Cx}{c:Expr}{t:TT}(h:Bx (PT X c t)):Bx (PTs X [c] t):=by
 have h:=h.of;exact⟨fun pins s σ H Q I hw=>wpAny_tests_one (h pins s σ H Q I hw)⟩
section
variable {prog:Program}{w:World}{A:Around}{R:Result->Shared->Prop}{s:Shared}
abbrev NoE:Value->Shared->Prop:=fun _ _=>False
theorem zfV{α:Type}{m:Sem α}{Q:α->Shared->Prop}{E:Value->Shared->Prop}{s:Shared}(h:wpAny (model prog w) A m Q NoE s):wpAny (model prog w) A m Q E s :=
 wpAny_mono h (fun _ _ q=>q) fun _ _ z=>z.elim
def UG(prog:Program)(w:World)(A:Around)(env:Env)(tg:Expr)(ifs:List Expr)(elt:Expr)(it acc:Value)(again:Shared->Prop)(v:Value)(s1:Shared):Prop :=
 wpAny (model prog w) A (letOwnedTupleGo tg it v) (fun _ s2=>wpAny (model prog w) A (assign tg env v) (fun _ s3 =>
  wpAny (model prog w) A (forIn ifs true fun c r=>if r=true then do let ok <- isTrue c env (eval c env);pure (ForInStep.yield ok) else pure (ForInStep.yield r)) (fun ok s4 =>
   if ok=true then wpAny (model prog w) A (eval elt env) (fun x s5=>wpAny (model prog w) A (call (.builtin "list.append") [acc,x]) (fun _ s6=>again s6) NoE s5) NoE s4
   else again s4) NoE s3) NoE s2) NoE s1
theorem Wx{elt tg iter:Expr}{ifs:List Expr}{scope:Scope}{pos:Pos}{it acc:Value}{env:Env}(J:Nat->Shared->Prop)
  (turn:∀ n s,J n s->wpAny (model prog w) A (pyNext it) (fun r s1=>match r with
   |none=>R (.ok .next) s1
   |some v=>UG prog w A env tg ifs elt it acc (fun s6=>∃ m,m<n/\J m s6) v s1) NoE s)
  (n:Nat) (h:J n s):codeAny (model prog w) A (.compLoop (.ListComp elt [⟨tg,iter,ifs,0⟩] scope pos) 0 it acc env) R s:=by
 refine codeAny_loop rfl J (fun n s hJ=>?_) n h;show wpAny _ A ((compTurn (.ListComp elt [⟨tg,iter,ifs,0⟩] scope pos) 0 it acc env).onRaise (fun x=>do noteFrame x env;theTreesLotGoes x)) _ _ s;refine wpAny_noted (zfV ?_);rw[compTurn_list];refine wpAny_bind (wpAny_standAt (wpAny_bind (thn (turn n s hJ) fun r s1 h1=>?_)));cases r with
 |none=>exact wpAny_pure h1
 |some v =>
  refine wpAny_bind (thn h1 fun _ s2 h2=>wpAny_bind (thn h2 fun _ s3 h3=>wpAny_bind (thn h3 fun ok s4 h4=>?_)));cases ok with
  |false=>exact wpAny_pure ⟨rfl,h4⟩
  |true=>exact wpAny_bind (wpAny_bind (thn h4 fun x s5 h5=>wpAny_bind (thn h5 fun _ s6 h6=>wpAny_pure (wpAny_pure ⟨rfl,h6⟩))))
end
theorem Y7{env:Env}:∀ (names:List (Str×NameKind)) (acc:List (Str×Addr)),(∀ y∈names,y.2=.free->∃ c,env.cells.lookup y.1=some c)->(∀ x c,acc.lookup x=some c->env.cells.lookup x=some c) ->
  ∃ cl,(forIn names acc (fun(y:Str×NameKind) (cs:List (Str×Addr))=>(if (y.2 == NameKind.free)=true then(do let c <- cellOf env y.1;pure (ForInStep.yield ((y.1,c)::cs))) else pure (ForInStep.yield cs):Sem (ForInStep (List (Str×Addr))))))=(pure cl:Sem (List (Str×Addr))) /\
   (∀ x c,cl.lookup x=some c->env.cells.lookup x=some c)/\(∀ x,(acc.lookup x).isSome=true->(cl.lookup x).isSome=true)/\(∀ y∈names,y.2=.free->(cl.lookup y.1).isSome=true)
 |[],acc,_,h2=>⟨acc,rfl,h2,fun _ h=>h,fun y hy=>by cases hy⟩
 |(n,k)::r,acc,h1,h2=>by
  have h1':∀ y∈r,y.2=.free->∃ c,env.cells.lookup y.1=some c:=fun y hy=>h1 y (mem_cons_of_mem _ hy);by_cases hk:k=.free
  ·subst hk
   obtain⟨c,hc⟩:=h1 (n,.free) mem_cons_self rfl;have h2':∀ x c',(((n,c)::acc:List (Str×Addr)).lookup x)=some c'->env.cells.lookup x=some c':=fun x c' e=>by
    rw[lookup_cons] at e;by_cases hx:(x == n)=true
    ·rw[hx] at e
     cases e;rw[beq_iff_eq.mp hx];exact hc
    ·rw[not_eq_true] at hx
     rw[hx] at e;exact h2 x c' e
   obtain⟨cl,e,p1,p2,p3⟩:=Y7 r ((n,c)::acc) h1' h2';refine⟨cl,?_,p1,fun x hx=>p2 x ?_,fun y hy hf=>?_⟩
   ·rw[List.forIn_cons]
    have q:cellOf env n=pure c:=by unfold cellOf;rw[hc]
    simp only[beq_self_eq_true,if_true,q,pure_bind];exact e
   ·rw[lookup_cons]
    cases q:x == n with
    |true=>rfl
    |false=>exact hx
   ·rcases mem_cons.mp hy with rfl | hy
    ·exact p2 n (by rw[lookup_cons,beq_self_eq_true];rfl)
    ·exact p3 y hy hf
  ·obtain⟨cl,e,p1,p2,p3⟩:=Y7 r acc h1' h2
   have hb:(k == NameKind.free)=false:=by simpa using hk
   refine⟨cl,?_,p1,p2,fun y hy hf=>?_⟩
   ·rw[List.forIn_cons]
    simp only[hb,false_eq_true,if_false,pure_bind];exact e
   ·rcases mem_cons.mp hy with rfl | hy
    ·exact absurd hf hk
    ·exact p3 y hy hf
structure Clos (env:Env) (scope:Scope) (cl:List (Str×Addr)):Prop where
 eq:closureFor scope env=pure cl
 sub:∀ x c,cl.lookup x=some c->env.cells.lookup x=some c
 all:∀ y∈scope.names,y.2=.free->(cl.lookup y.1).isSome=true
theorem zcX{env:Env}{scope:Scope}(h:∀ y∈scope.names,y.2=.free->∃ c,env.cells.lookup y.1=some c):∃ cl,Clos env scope cl:=by
 obtain⟨cl,e,p1,p2,p3⟩:=Y7 (env:=env) scope.names [] h (fun x c z=>by simp at z);refine⟨cl,⟨?_,p1,p3⟩⟩;have q:closureFor scope env=(forIn scope.names [] (fun(y:Str×NameKind) (cs:List (Str×Addr))=>(if (y.2 == NameKind.free)=true then(do let c <- cellOf env y.1;pure (ForInStep.yield ((y.1,c)::cs))) else pure (ForInStep.yield cs):Sem (ForInStep (List (Str×Addr))))) >>= fun s=>pure s):=rfl;rw[q,e,pure_bind]
noncomputable abbrev wm(X:Cx)(scope:Scope)(N':List Str)(cl:List (Str×Addr))(C:Addr)(s₀:Shared)(H₀:Hp)(fp:List Addr):Cx :=
 { X with N:=N',s₀:=s₀,H₀:=H₀,env:=compEnvC scope cl C X.env,outer:=X.stack,ex:=fp,fn:=fun _=>false,pn:=[],xe:=NoE }
structure Blk where
 cl:List (Str×Addr)
 C:Addr
 s₀:Shared
 H₀:Hp
 fp:List Addr
abbrev cxB(X:Cx)(scope:Scope)(N':List Str)(b:Blk):Cx:=wm X scope N' b.cl b.C b.s₀ b.H₀ b.fp
noncomputable def V6:Option NameKind->Bool
 |some .cell=>true
 |some .free=>true
 |_=>false
theorem Zk{k:Option NameKind}(h:V6 k=true):k=some .cell\/k=some .free:=by
 cases k with
 |none=>cases h
 |some k=>cases k<;>first | exact .inl rfl | exact .inr rfl | cases h
def zaM(N:List Str)(kd kd':Str->Option NameKind)(N':List Str)(t:Nat):List Nat->Nat->Bool
 |[],k=>N'.length == t+k
 |j::r,k=>(match N[j]?,N'[t+k]? with
  |some x,some y=>(x == y)&&V6 (kd x)&&V6 (kd' x)
  |_,_=>false)&&zaM N kd kd' N' t r (k+1)
theorem Yk{N:List Str}{kd kd':Str->Option NameKind}{N':List Str}{t:Nat}:∀ {caps:List Nat}{k:Nat},zaM N kd kd' N' t caps k=true->N'.length=t+k+caps.length
 |[],k,h=>by
  have:=beq_iff_eq.mp h
  simpa using this
 |j::r,k,h=>by
  have:=Yk (and_eq_true_iff.mp h).2;rw[length_cons];omega
theorem X5{N:List Str}{kd kd':Str->Option NameKind}{N':List Str}{t:Nat}:∀ {caps:List Nat}{k i j:Nat},zaM N kd kd' N' t caps k=true->caps[i]?=some j ->
  ∃ x,N[j]?=some x/\N'[t+k+i]?=some x/\V6 (kd x)=true/\V6 (kd' x)=true
 |[],_,_,_,_,e=>by simp at e
 |j::r,k,0,j',h,e=>by
  simp at e;subst e;have h1:=(and_eq_true_iff.mp h).1;cases q:N[j]? with
  |none=>rw[q] at h1;cases h1
  |some x =>
   cases q':N'[t+k]? with
   |none=>rw[q,q'] at h1;cases h1
   |some y =>
    rw[q,q'] at h1;obtain⟨h2,h3⟩:=and_eq_true_iff.mp h1;obtain⟨h4,h5⟩:=and_eq_true_iff.mp h2;obtain rfl:x=y:=beq_iff_eq.mp h4;exact⟨x,rfl,rfl,h5,h3⟩
 |j::r,k,i+1,j',h,e=>by
  obtain⟨x,a,b,c,d⟩:=X5 (i:=i) (and_eq_true_iff.mp h).2 (by simpa using e);refine⟨x,a,?_,c,d⟩;have q:t+(k+1)+i=t+k+(i+1):=by omega
  rw[<- q];exact b
structure CompOk (X:Cx) (scope:Scope) (N':List Str) (t:Nat) (caps:List Nat):Prop where
 kind:scope.kind=.function
 shape:(scope.names.all fun y=>(y.2 == .local&&scope.names.lookup y.1 == some .local)||(y.2 == .free&&V6 (X.env.kindOf y.1))||(y.2 == .globalImplicit))=true
 cap:zaM X.N X.env.kindOf (compEnvC scope [] 0 X.env).kindOf N' t caps 0=true
theorem CompOk.at{X:Cx}{scope:Scope}{N':List Str}{t:Nat}{caps:List Nat}(S:CompOk X scope N' t caps){y:Str×NameKind}(hy:y∈scope.names) :
  y.2≠.cell/\(y.2=.local->scope.names.lookup y.1=some .local)/\(y.2=.free->V6 (X.env.kindOf y.1)=true):=by
 have h:=all_eq_true.mp S.shape y hy;obtain⟨n,k⟩:=y;cases k<;>simp at h<;>simp[h]
def zeS(t:Nat)(caps:List Nat)(σ:St):St:=List.replicate t none++caps.map fun j=>(σ[j]?).join
theorem wT{scope:Scope}{env:Env}{x:Str}:∀ {names:List (Str×NameKind)},(∀ y∈names,y.2≠.cell)->V6 ((names.map fun(y:Str×NameKind)=>if (y.2 == NameKind.free&&env.scope.kind == .function&&env.kindOf y.1 == some .cell)=true then(y.1,NameKind.cell) else(y.1,y.2)).lookup x)=true ->
  (x,NameKind.free)∈names
 |[],_,h=>by simp[V6] at h
 |(n,k)::r,hn,h=>by
  have hr:∀ y∈r,y.2≠.cell:=fun y hy=>hn y (mem_cons_of_mem _ hy);have hk:k≠.cell:=hn (n,k) mem_cons_self;rw[map_cons] at h;by_cases hx:(x == n)=true
  ·obtain rfl:x=n:=beq_iff_eq.mp hx
   have q:k=.free:=by
    by_cases hf:k=.free
    ·exact hf
    ·exfalso
     have hb:(k == NameKind.free)=false:=by simpa using hf
     simp only[hb,Bool.false_and,false_eq_true,if_false,lookup_cons,beq_self_eq_true] at h;cases k<;>simp[V6] at h hk hf
   subst q;exact mem_cons_self
  ·rw[not_eq_true] at hx
   refine mem_cons_of_mem _ (wT (scope:=scope) (env:=env) hr ?_);by_cases hc:(k == NameKind.free&&env.scope.kind == .function&&env.kindOf n == some .cell)=true
   ·simp only[hc,if_true,lookup_cons,hx] at h
    exact h
   ·rw[not_eq_true] at hc
    simp only[hc,false_eq_true,if_false,lookup_cons,hx] at h;exact h
def Yr(J:It)(g:TG)(tc:TT)(te:TE)(Q:VK)(D:Addr)(τ0:St)(H0:Hp):Prop :=
 ∃ W:Nat->Nat->List V->St->Hp->Prop,(∃ m,W 0 m [] τ0 H0)/\∀ i m ys τ H,W i m ys τ H ->
  (J.stop i H/\Q (.ref D) H)\/(J.go i H/\∃ N:List V->St->Hp->Prop,(∀ zs τ' H',N zs τ' H'->∃ m',m'<m/\W (i+1) m' zs τ' H')/\∀ x H3,J.yld i H x H3->g x τ H3 fun τ2 H4=>tc τ2 H4 fun b H5 =>
   if b=true then te τ2 H5 fun y H6=>H6 D=some (.lst ys)/\ys.length<sizeLine/\N (ys++[y]) τ2 (upd H6 D (.lst (ys++[y]))) else N ys τ2 H5)
def zdG(wi:TI)(g:Blk->TG)(tc:Blk->TT)(te:Blk->TE)(t:Nat)(caps:List Nat):TE:=fun σ H Q =>
 wi σ H fun J H1=>∀ D,H1 D=none->∀ b:Blk,Yr J (g b) (tc b) (te b) Q D (zeS t caps σ) (upd H1 D (.lst []))
theorem v7{J:It}{g:TG}{tc:TT}{te:TE}{Q:VK}{D:Addr}{τ0:St}{H0:Hp}(n:Nat)(Pv:Nat->List V->St->Hp->Prop)(h0:Pv 0 [] τ0 H0)
  (hst:∀ zs τ H,Pv n zs τ H->J.stop n H/\Q (.ref D) H)
  (hgo:∀ i zs τ H,i<n->Pv i zs τ H->J.go i H/\∀ x H3,J.yld i H x H3->g x τ H3 fun τ2 H4=>tc τ2 H4 fun b H5 =>
   if b=true then te τ2 H5 fun y H6=>H6 D=some (.lst zs)/\zs.length<sizeLine/\Pv (i+1) (zs++[y]) τ2 (upd H6 D (.lst (zs++[y]))) else Pv (i+1) zs τ2 H5):Yr J g tc te Q D τ0 H0:=by
 refine⟨fun i m zs τ H=>m=n-i/\i<=n/\Pv i zs τ H,⟨n,by simp,zero_le _,h0⟩,?_⟩;rintro i m zs τ H ⟨rfl,hi,p⟩;by_cases hlt:i<n
 ·obtain⟨go,step⟩:=hgo i zs τ H hlt p
  exact .inr ⟨go,Pv (i+1),fun zs' τ' H' p'=>⟨n-(i+1),by omega,rfl,hlt,p'⟩,step⟩
 ·have e:i=n:=by omega
  subst e;exact .inl (hst zs τ H p)
theorem v6{K:W.Frag}{a:Addr}{xs:List V}{g:TG}{tc:TT}{te:TE}{Q:VK}{D:Addr}{τ0:St}{H0:Hp}(Pv:Nat->List V->St->Hp->Prop)(h0:Pv 0 [] τ0 H0)(hl:∀ i zs τ H,Pv i zs τ H->SqL K H a xs)
  (hs:∀ i x zs τ H,xs[i]?=some x->Pv i zs τ H->g x τ H fun τ2 H4=>tc τ2 H4 fun b H5 =>
   if b=true then te τ2 H5 fun y H6=>H6 D=some (.lst zs)/\zs.length<sizeLine/\Pv (i+1) (zs++[y]) τ2 (upd H6 D (.lst (zs++[y]))) else Pv (i+1) zs τ2 H5)
  (hd:∀ zs τ H,Pv xs.length zs τ H->Q (.ref D) H):Yr (Itl K a) g tc te Q D τ0 H0 :=
 v7 xs.length Pv h0 (fun zs τ H p=>⟨⟨xs,hl _ _ _ _ p,Nat.le_refl _⟩,hd zs τ H p⟩) fun i zs τ H hi p=>⟨⟨xs,xs[i],hl _ _ _ _ p,by simp[hi]⟩,fun x H3 y=>by
  obtain⟨e,y⟩:=y;subst e;exact hs i x zs τ _ (y xs (hl _ _ _ _ p)) p⟩
theorem X3{K:W.Frag}{a:Addr}{xs:List V}{g:TG}{tc:TT}{te:TE}{Q:VK}{D:Addr}{τ0:St}{H0:Hp}(Pv:Nat->List V->St->Hp->Prop)(h0:Pv 0 [] τ0 H0)(hl:∀ i zs τ H,Pv i zs τ H->SqT K H a xs)
  (hs:∀ i x zs τ H,xs[i]?=some x->Pv i zs τ H->g x τ H fun τ2 H4=>tc τ2 H4 fun b H5 =>
   if b=true then te τ2 H5 fun y H6=>H6 D=some (.lst zs)/\zs.length<sizeLine/\Pv (i+1) (zs++[y]) τ2 (upd H6 D (.lst (zs++[y]))) else Pv (i+1) zs τ2 H5)
  (hd:∀ zs τ H,Pv xs.length zs τ H->Q (.ref D) H):Yr (Itt K a) g tc te Q D τ0 H0 :=
 v7 xs.length Pv h0 (fun zs τ H p=>⟨⟨xs,hl _ _ _ _ p,Nat.le_refl _⟩,hd zs τ H p⟩) fun i zs τ H hi p=>⟨⟨xs,xs[i],hl _ _ _ _ p,by simp[hi]⟩,fun x H3 y=>by
  obtain⟨e,y⟩:=y;subst e;exact hs i x zs τ _ (y xs (hl _ _ _ _ p)) p⟩
theorem wW{lo:Int}{n:Nat}{g:TG}{tc:TT}{te:TE}{Q:VK}{D:Addr}{τ0:St}{H0:Hp}(Pv:Nat->List V->St->Hp->Prop)(h0:Pv 0 [] τ0 H0)
  (hs:∀ i zs τ H,i<n->Pv i zs τ H->g (.int (lo+i)) τ H fun τ2 H4=>tc τ2 H4 fun b H5 =>
   if b=true then te τ2 H5 fun y H6=>H6 D=some (.lst zs)/\zs.length<sizeLine/\Pv (i+1) (zs++[y]) τ2 (upd H6 D (.lst (zs++[y]))) else Pv (i+1) zs τ2 H5)
  (hd:∀ zs τ H,Pv n zs τ H->Q (.ref D) H):Yr (Itr lo n) g tc te Q D τ0 H0 :=
 v7 n Pv h0 (fun zs τ H p=>⟨Nat.le_refl _,hd zs τ H p⟩) fun i zs τ H hi p=>⟨hi,fun x H3 y=>by
  obtain⟨e,y⟩:=y;subst e y;exact hs i zs τ _ hi p⟩
section
variable {X:Cx}{tg iter elt:Expr}{ifs:List Expr}{scope:Scope}{pos:Pos}{N':List Str}{t:Nat}{caps:List Nat}{g:Blk->TG}{tc:Blk->TT}{te:Blk->TE}{wi:TI}
theorem FpOk.heap{pins:List (Addr×Obj)}{H H':Hp}{b:Addr}(f:FpOk X pins H b)(h:H' b=none):FpOk X pins H' b:=⟨h,f.2⟩
theorem Uu{cl:List (Str×Addr)}{J:It}{fp:List Addr}{it:Addr}{tn:Nat->Heap->Prop}{pins:List (Addr×Obj)}{σ:St}{H2:Hp}{s2:Shared}{Q:VK}{E:Value->Shared->Prop}
  (hc:X.calm=true) (S:CompOk X scope N' t caps) (L:Clos X.env scope cl)
  (hg:∀ b,PG (cxB X scope N' b) tg (g b)) (ht:∀ b,PTs (cxB X scope N' b) ifs (tc b)) (he:∀ b,PE (cxB X scope N' b) elt (te b))
  (I2:Inv X pins σ H2 s2) (T:Turn X.prog X.w X.K tg J fp it tn) (st2:tn 0 s2.heap) (f2:∀ b∈fp,FpOk X pins H2 b)
  (R:∀ D,H2 D=none->∀ b,Yr J (g b) (tc b) (te b) Q D (zeS t caps σ) (upd H2 D (.lst []))) :
  wpAny (model X.prog X.w) X.A (newList []) (fun acc s3=>wpAny (model X.prog X.w) X.A (newFunctionEnv scope X.env.globals cl [] X.env.qual none .none (some X.env)) (fun cenv s4 =>
   codeAny (model X.prog X.w) X.A (.compStart (.ListComp elt [⟨tg,iter,ifs,0⟩] scope pos) 0 (.ref it) acc { cenv with scope:=relabel scope X.env })
    (fun r s'=>∃ (D:Addr) (H':Hp) (m:Str->Option Value),acc=.ref D/\r=.ok .next/\Inv X pins σ H' s'/\s'.heap.Ns cenv.locals m/\FpOk X pins H' cenv.locals/\Q (.ref D) H') s4) E s3) E s2:=by
 refine wpAny_newObj_type ?_;have I3:Inv X pins σ (upd H2 s2.heap.objs.size (.lst [])) { s2 with heap:=s2.heap.push { cls:=.type "list",data:=.seq ([]:List Value).toArray } }:=I2.lnew (t':=s2.toks) .nil (zero_le _);have hD:H2 s2.heap.objs.size=none:=I2.fresh;have R:=R _ hD;generalize hs3:({ s2 with heap:=s2.heap.push { cls:=.type "list",data:=.seq ([]:List Value).toArray } }:Shared)=s3 at I3 ⊢;generalize hH3:upd H2 s2.heap.objs.size (.lst [])=H3 at I3 R;generalize hDD:s2.heap.objs.size=D at R ⊢;have k3:∀ b o,s2.heap.get? b=some o->s3.heap.get? b=some o:=fun b o e=>by rw[<- hs3];exact Heap.get?_push_of_some _ e
 have st3:tn 0 s3.heap:=T.keep 0 _ _ st2 fun b _ o e=>k3 b o e;have fpn:∀ b∈fp,H3 b=none:=fun b hb=>by
  obtain⟨o,e,_⟩:=T.obj 0 _ st2 b hb;rw[<- hH3,upd_ne (ne_of_lt (Heap.lt_size e))];exact(f2 b hb).1
 have f3:∀ b∈fp,FpOk X pins H3 b:=fun b hb=>(f2 b hb).heap (fpn b hb);refine wpAny_newFunctionEnv (fun y hy=>(S.at hy).1) (by intro y hy;simp at hy) (fun h4 hns hsb=>?_) S.kind;generalize hC:s3.heap.objs.size=C at hns hsb ⊢;have k4:∀ b o,s3.heap.get? b=some o->h4.get? b=some o:=fun b o e=>hsb.extBut b o (by rw[<- hC];exact ne_of_lt (Heap.lt_size e)) (Heap.get?_push_of_some _ e);have cellsub:∀ x c,(wm X scope N' cl C s3 H3 fp).env.cells.lookup x=some c->X.env.cells.lookup x=some c:=L.sub;have hnc:∀ y∈scope.names,y.2≠.cell:=fun y hy=>(S.at hy).1;have fC:∀ {H':Hp},H' C=none->FpOk X pins H' C:=fun h=>by rw[<- hC] at h ⊢;exact I3.fpOk (Nat.le_refl _) h
 have I4:Inv (wm X scope N' cl C s3 H3 fp) [] (zeS t caps σ) H3 { s3 with heap:=h4,toks:=s3.toks+([]:List (Str×Value)).length }:=by
  refine⟨⟨I3.ok.mod,S.kind,I3.ok.glob,I3.ok.blt,le_of_eq hC,fun x y c h1 h2=>I3.ok.inj x y c (L.sub _ _ h1) (L.sub _ _ h2),fun x hx=>?_,fun x c h _=>absurd (show false=true from h) Bool.false_ne_true,I3.ok.hd,I3.ok.frames,.inl rfl,fun b hb=>⟨?_,fun x c e=>(f3 b hb).2.2.2.2.1 x c (L.sub x c e)⟩,
    I3.bs,le_trans I3.ok.bsz I3.sz,fun b o e hb=>?_,fun b hb z=>?_,I3.stack,I3.stkFree⟩,
   rfl,I3.bare,Un.kept k4,⟨_,hns,fun i x v e1 e2 e3=>?_⟩,fun x c e=>?_,(by rw[<- hC];exact I3.fresh),fun x c e=>I3.freeC x c (L.sub x c e),fun p hp=>?_,I3.hok.kept k4,?_⟩
  ·have hx':V6 ((relabel scope X.env).names.lookup x)=true:=by
    rcases hx with q | q
    ·rw[show(relabel scope X.env).names.lookup x=some .cell from q];rfl
    ·rw[show(relabel scope X.env).names.lookup x=some .free from q];rfl
   exact isSome_iff_exists.mp (L.all _ (wT (scope:=scope) hnc hx') rfl)
  ·obtain⟨o,e,_⟩:=T.obj 0 _ st3 b hb
   rw[<- hC];exact ne_of_lt (Heap.lt_size e)
  ·rcases(f3 b hb).2.2.2.1 with z | z
   ·exact I3.ok.noex b o e z
   ·exact absurd (lt_of_lt_of_le (lt_of_lt_of_le (Heap.lt_size e) I3.ok.bsz) z) (lt_irrefl _)
  ·rcases mem_cons.mp (I3.stkSub b z) with q | q
   ·exact(f3 b hb).2.1 q
   ·exact(f3 b hb).2.2.1 q
  ·-- a name that was taken over
   unfold zeS at e2;by_cases hi:i<t
   ·rw[List.getElem?_append_left (by simpa using hi),List.getElem?_replicate] at e2
    simp[hi] at e2
   ·rw[List.getElem?_append_right (by simpa using hi),List.length_replicate,List.getElem?_map] at e2
    cases q:caps[i-t]? with
    |none=>rw[q] at e2;simp at e2
    |some j =>
     rw[q] at e2;obtain⟨y,c1,c2,c3,c4⟩:=X5 S.cap q;have ei:t+0+(i-t)=i:=by omega
     rw[ei] at c2;have exy:x=y:=Option.some.inj ((show N'[i]?=some x from e1).symm.trans c2);subst exy;have e2':σ[j]?=some (some v):=by
      have e2:(σ[j]?).join=some v:=Option.some.inj e2;cases r:σ[j]? with
      |none=>rw[r] at e2;cases e2
      |some z =>
       rw[r] at e2;have e2:z=some v:=e2;rw[e2]
     obtain⟨m,hn,hl⟩:=I3.loc;have cf:=Zk c3;obtain⟨u,ru,lk⟩:=hl j x v c1 e2' (.inr (by
      rcases cf with z | z
      ·exact .inl z
      ·exact .inr z))
     refine⟨u,ru,.inr ⟨Zk c4,?_⟩⟩;rcases lk with⟨z,_⟩ | ⟨_,c,ec,zc⟩
     ·rcases cf with w | w<;>(rw[z] at w;cases w)
     ·have hfree:=wT (scope:=scope) (env:=X.env) (x:=x) hnc c4
      obtain⟨c',ec'⟩:=isSome_iff_exists.mp (L.all _ hfree rfl);have:=L.sub _ _ ec';rw[show X.env.cells.lookup x=some c from ec] at this;cases this;obtain⟨o,ho,hd⟩:=zc;exact⟨c,ec',o,k4 _ _ ho,hd⟩
  ·obtain⟨v,o,ho,hd⟩:=I3.cell x c (L.sub x c e)
   exact⟨v,o,k4 _ _ ho,hd⟩
  ·exact absurd (show p∈([]:List (Addr×Obj)) from hp) (by simp)
  ·unfold zeS
   rw[length_append,List.length_replicate,length_map,Yk S.cap];omega
 obtain⟨W,⟨m0,w0⟩,turn⟩:=R ⟨cl,C,s3,H3,fp⟩
 -- back to the frame outside
 have back:∀ {τ:St}{H':Hp}{s':Shared},Inv (wm X scope N' cl C s3 H3 fp) [] τ H' s'->Inv X pins σ H' s':=fun {τ H' s'} J=>by
  refine I3.call' (ch:=fp) (J.os.trans ?_) J.base J.hok J.bare fun b hb=>⟨(f3 b hb).2.2.2.1,(f3 b hb).2.1,(f3 b hb).2.2.2.2.1,(f3 b hb).2.2.2.2.2⟩;rfl
 have stat:∀ {H':Hp},(∀ b∈fp,H' b=none)->∀ b∈fp,FpOk (wm X scope N' cl C s3 H3 fp) [] H' b:=fun {H'} hn b hb=>by
  refine⟨hn b hb,(I4.ok.exf b hb).1,I4.ok.exfs b hb,.inl hb,(I4.ok.exf b hb).2,fun p hp=>?_⟩;exact absurd (show p∈([]:List (Addr×Obj)) from hp) (by simp)
 have loop:codeAny (model X.prog X.w) X.A (.compLoop (.ListComp elt [⟨tg,iter,ifs,0⟩] scope pos) 0 (.ref it) (.ref D) (compEnvC scope cl C X.env))
   (fun r s'=>∃ (D':Addr) (H':Hp) (m:Str->Option Value),Value.ref D=.ref D'/\r=.ok .next/\Inv X pins σ H' s'/\s'.heap.Ns C m/\FpOk X pins H' C/\Q (.ref D') H') { s3 with heap:=h4,toks:=s3.toks+([]:List (Str×Value)).length }:=by
  refine Wx (fun n s'=>∃ i ys τ H',Inv (wm X scope N' cl C s3 H3 fp) [] τ H' s'/\tn i s'.heap/\(∀ b∈fp,H' b=none)/\W i n ys τ H') ?_ m0 ⟨0,[],_,H3,I4,T.keep 0 _ _ st3 fun b _ o e=>k4 b o e,fpn,w0⟩;rintro n s5 ⟨i,ys,τ,H5,I5,st5,fr5,w5⟩;rcases turn i n ys τ H5 w5 with⟨stop,q⟩ | ⟨go,N,hN,step⟩
  ·refine thn (T.done (wm X scope N' cl C s3 H3 fp) rfl rfl rfl hc i [] s5 τ H5 NoE I5 (stat fr5) st5 stop) fun r s6 ⟨hr,I6⟩=>?_
   subst hr;obtain⟨m,hm,_⟩:=id I6.loc;exact⟨D,H5,m,rfl,rfl,back I6,hm,fC I6.free,q⟩
  ·refine thn (T.item (wm X scope N' cl C s3 H3 fp) rfl rfl rfl hc i [] s5 τ H5 NoE I5 (stat fr5) st5 go) fun r s6 ⟨u,hr,h6⟩=>?_
   subst hr;refine thn h6 fun _ s7 hq0=>?_;obtain⟨x,H7,I7,r7,y7,st7,fr7⟩:=hq0;have I7':=I7.pinned (stat fr7) (T.obj _ _ st7);have again:∀ {τ9:St}{H9:Hp}{s9:Shared}{ys9:List V}{m':Nat},Inv (wm X scope N' cl C s3 H3 fp) ([]++ZP fp s7.heap) τ9 H9 s9->m'<n->W (i+1) m' ys9 τ9 H9 ->
     ∃ m,m<n/\∃ i ys τ H',Inv (wm X scope N' cl C s3 H3 fp) [] τ H' s9/\tn i s9.heap/\(∀ b∈fp,H' b=none)/\W i m ys τ H':=fun {τ9 H9 s9 ys9 m'} I9 hm w9=>by
    refine⟨m',hm,i+1,ys9,τ9,H9,I9.unpinned,T.keep _ _ _ st7 fun b hb o e=>(I9.pin (b,o) (mem_append_right _ (mem_append_right _ (x9 hb e)))).1,fun b hb=>?_,w9⟩;obtain⟨o,e,_⟩:=T.obj _ _ st7 b hb;exact(I9.pin (b,o) (mem_append_right _ (mem_append_right _ (x9 hb e)))).2.1
   refine thn (hg ⟨cl,C,s3,H3,fp⟩ _ s7 τ H7 x u _ I7' r7 (step x H7 y7)) fun _ s8 hq0=>?_;obtain⟨τ8,H8,I8,q8⟩:=hq0;refine thn (ht ⟨cl,C,s3,H3,fp⟩ _ s8 τ8 H8 _ I8 q8) fun ok s9 hq0=>?_;obtain⟨H9,I9,q9⟩:=hq0;cases ok with
   |false =>
    obtain⟨m',hm,w9⟩:=hN _ _ _ (show N ys τ8 H9 from q9);exact again I9 hm w9
   |true =>
    refine thn (he ⟨cl,C,s3,H3,fp⟩ _ s9 τ8 H9 _ I9 q9) fun y s10 hq0=>?_;obtain⟨z,H10,I10,r10,hl,hz,q10⟩:=hq0;refine thn (xB _ s10 τ8 H10 (.ref D) [z] (.ref D) [y] (fun v H11=>v=.non/\H11=upd H10 D (.lst (ys++[z]))) I10 rfl (.cons r10 .nil) ⟨D,ys,z,rfl,rfl,hl,hz,rfl,rfl⟩) fun _ s11 hq0=>?_;obtain⟨v,H11,I11,_,_,e11⟩:=hq0;subst e11;obtain⟨m',hm,w10⟩:=hN _ _ _ q10;exact again I11 hm w10
 exact codeAny_compStart_list loop (T.self _ 0 _ _ _ (T.keep 0 _ _ st3 fun b _ o e=>k4 b o e) loop)
theorem Vy(hc:X.calm=true)(S:CompOk X scope N' t caps)(hi:PI X tg iter wi)
  (hg:∀ b,PG (cxB X scope N' b) tg (g b)) (ht:∀ b,PTs (cxB X scope N' b) ifs (tc b)) (he:∀ b,PE (cxB X scope N' b) elt (te b))
  (hs:∀ x,foldedSetIterable iter X.env x=pure x:=by intro _;rfl):PE X (.ListComp elt [⟨tg,iter,ifs,0⟩] scope pos) (zdG wi g tc te t caps):=by
 intro pins s σ H Q I h;obtain⟨cl,L⟩:=zcX (env:=X.env) (scope:=scope) fun y hy hf=>I.ok.has y.1 (Zk ((S.at hy).2.2 hf));rw[eval_ListComp];refine wpAny_comprehension_free (use:=none) rfl hs L.eq S.kind (fun y hy=>(S.at hy).2.1) (thn (hi pins s σ H _ I h) fun x s1 h1=>thn h1 fun itv s2 h2=>?_);obtain⟨it,fp,tn,J,H2,rfl,I2,T,st2,f2,R⟩:=h2;refine thn (Uu hc S L hg ht he I2 T st2 f2 R) fun acc s3 h3=>thn h3 fun cenv s4 h4=>codeAny_mono h4 fun r s' hr=>?_;obtain⟨D,H',m,rfl,rfl,I',hm,fC,q⟩:=hr;obtain⟨c0,c1,c2,c3,c4,c5⟩:=fC;exact⟨m,hm,fun h' sb=>⟨.ref D,H',I'.turned (t':=s'.toks) (fun b o hb e=>sb.extBut b o hb e) c0 c1 c3 c4 c5,rfl,q⟩⟩
end
def zf6(i j:Int):Prop:=0<j/\j.natAbs.log2<9000
section
variable {X:Cx}
theorem yD:OpR X (binaryOp .FloorDiv) (rI zf6 fun i j=>.int (i/j)):=opI fun i j _ _ _ _ _ hc q=>by
 have e:i.fdiv j=i/j:=Int.fdiv_eq_ediv_of_nonneg i (Int.le_of_lt hc.1);exact floordiv_int (Ne.symm (Int.ne_of_lt hc.1)) (by rw[e];exact q) (.inl (PyProof.noPylong_of_log2 hc.2))
noncomputable def zcW:V->Option Value
 |.ty n=>some (.type n)
 |.ref a=>some (.ref a)
 |_=>none
theorem Zs{c:V}{cv u:Value}(h:zcW c=some cv)(r:RelV c u):u=cv:=by
 cases c<;>simp[zcW] at h
 ·exact(show u=Value.ref _ from r).trans h
 ·exact(show u=Value.type _ from r).trans h
def zfx(K:W.Frag):List V->Hp->VK->Prop:=fun xs H Q=>∃ x c t cv b,xs=[x,c]/\zcW c=some cv/\TyOf K H x t/\PySem.W.kitOne K t cv=some b/\Q (.bl b) H
theorem zK:xr X (.builtin "isinstance") (zfx X.K):=by
 intro pins s σ H xs us Q I r h;obtain⟨x,c,t,cv,b,rfl,hc,ty,e,q⟩:=h;obtain⟨u,v,rfl,r1,r2⟩:=r.two;obtain rfl:=Zs hc r2;exact V5 I r1 ty e fun tk=>⟨.bl b,H,I.tok tk,rfl,q⟩
inductive EqD (K:W.Frag) (H:Hp):V->V->Bool->Nat->Prop where
 |wZ {x y:V}{n:Nat}(fx:wK x=true) (fy:wK y=true):EqD K H x y (eqV x y) n
 |same {a:Addr}{n:Nat}:EqD K H (.ref a) (.ref a) true n
 |lst {a b:Addr}{xs ys:List V}{e:Nat->Bool}{n:Nat}(hne:a≠b) (ha:SqL K H a xs) (hb:SqL K H b ys) (hl:xs.length=ys.length) (h:∀ (j:Nat) x y,xs[j]?=some x->ys[j]?=some y->EqD K H x y (e j) n) :
   EqD K H (.ref a) (.ref b) ((List.range xs.length).all e) (n+1)
 |tup {a b:Addr}{xs ys:List V}{e:Nat->Bool}{n:Nat}(hne:a≠b) (ha:SqT K H a xs) (hb:SqT K H b ys) (hl:xs.length=ys.length) (h:∀ (j:Nat) x y,xs[j]?=some x->ys[j]?=some y->EqD K H x y (e j) n) :
   EqD K H (.ref a) (.ref b) ((List.range xs.length).all e) (n+1)
theorem vX(A:Around):A.in1.units=A.units+1:=rfl
theorem EqD.at{pins:List (Addr×Obj)}{σ:St}{H:Hp}{s:Shared}{x y:V}{b:Bool}{n:Nat}(I:Inv X pins σ H s)(h:EqD X.K H x y b n) :
  ∀ (A:Around) (u v:Value),A.units+n<cLine->RelV x u->RelV y v->SeqAt.EqAt A s u v b:=by
 induction h with
 |wZ fx fy=>intro A u v _ rx ry;exact eqAt_V rx ry fx fy
 |same=>intro A u v _ rx ry;cases rx;cases ry;exact SeqAt.EqAt.same _
 | @lst a b xs ys e n hne ha hb hl h ih =>
  intro A u v hu rx ry;cases rx;cases ry;obtain⟨i1,r1,p1,_⟩:=I.list ha;obtain⟨i2,r2,p2,_⟩:=I.list hb;have l1:=r1.length;have l2:=r2.length;refine SeqAt.EqAt.of_refs hne ?_;have q:=SeqAt.RcAt.lists (A:=A) (s:=s) (e:=e) p1.isList p2.isList (by simp;omega) (by omega) (fun j h1 h2=>?_)
  ·rw[size_toArray,<- l1] at q
   exact q
  ·have g1:j<xs.length:=by rw[l1];simpa using h1
   have g2:j<ys.length:=by rw[l2];simpa using h2
   obtain⟨u1,e1,q1⟩:=r1.get (i:=j) (x:=xs[j]) (by simp[g1]);obtain⟨u2,e2,q2⟩:=r2.get (i:=j) (x:=ys[j]) (by simp[g2]);have f1:i1.toArray[j]=u1:=by
    have:=List.getElem?_eq_some_iff.mp e1;obtain⟨_,z⟩:=this
    simpa using z
   have f2:i2.toArray[j]=u2:=by
    have:=List.getElem?_eq_some_iff.mp e2;obtain⟨_,z⟩:=this
    simpa using z
   rw[f1,f2];exact ih j _ _ (by simp[g1]) (by simp[g2]) A.in1 u1 u2 (by rw[vX];omega) q1 q2
 | @tup a b xs ys e n hne ha hb hl h ih =>
  intro A u v hu rx ry;cases rx;cases ry;obtain⟨i1,r1,p1,_⟩:=I.tuple ha;obtain⟨i2,r2,p2,_⟩:=I.tuple hb;have l1:=r1.length;have l2:=r2.length;refine SeqAt.EqAt.of_refs hne ?_;have q:=SeqAt.RcAt.tuples (A:=A) (s:=s) (e:=e) (show s.heap.IsTuple a i1.toArray from p1) (show s.heap.IsTuple b i2.toArray from p2) (by omega) (fun j h1 h2=>?_)
  ·have z:i1.toArray.size=i2.toArray.size:=by simp;omega
   rw[<- z,min_self,beq_self_eq_true,Bool.and_true,size_toArray,<- l1] at q;exact q
  ·have g1:j<xs.length:=by rw[l1];simpa using h1
   have g2:j<ys.length:=by rw[l2];simpa using h2
   obtain⟨u1,e1,q1⟩:=r1.get (i:=j) (x:=xs[j]) (by simp[g1]);obtain⟨u2,e2,q2⟩:=r2.get (i:=j) (x:=ys[j]) (by simp[g2]);have f1:i1.toArray[j]=u1:=by
    have:=List.getElem?_eq_some_iff.mp e1;obtain⟨_,z⟩:=this
    simpa using z
   have f2:i2.toArray[j]=u2:=by
    have:=List.getElem?_eq_some_iff.mp e2;obtain⟨_,z⟩:=this
    simpa using z
   rw[f1,f2];exact ih j _ _ (by simp[g1]) (by simp[g2]) A.in1 u1 u2 (by rw[vX];omega) q1 q2
def zgv(K:W.Frag)(A:Around)(neg:Bool):R2:=fun x y H Q=>∃ (a b:Addr) (xs ys:List V) (e:Nat->Bool) (n:Nat),x=.ref a/\y=.ref b/\((SqL K H a xs/\SqL K H b ys)\/(SqT K H a xs/\SqT K H b ys))/\xs.length=ys.length /\
 A.units+n+2<cLine/\(∀ (j:Nat) x y,xs[j]?=some x->ys[j]?=some y->EqD K H x y (e j) n)/\Q (.bl (if neg then !(List.range xs.length).all e else(List.range xs.length).all e)) H
theorem vi{pins:List (Addr×Obj)}{σ:St}{H:Hp}{s:Shared}{A:Around}{xs ys:List V}{i1 i2:List Value}{e:Nat->Bool}{n:Nat}(I:Inv X pins σ H s)(r1:Vals xs i1)(r2:Vals ys i2)(hu:A.units+n+2<cLine)
  (h:∀ (j:Nat) x y,xs[j]?=some x->ys[j]?=some y->EqD X.K H x y (e j) n):∀ (j:Nat) (h1:j<i1.toArray.size) (h2:j<i2.toArray.size),SeqAt.EqAt A.in1 s i1.toArray[j] i2.toArray[j] (e j):=fun j h1 h2=>by
 have g1:j<xs.length:=by rw[r1.length];simpa using h1
 have g2:j<ys.length:=by rw[r2.length];simpa using h2
 obtain⟨u1,e1,q1⟩:=r1.get (i:=j) (x:=xs[j]) (by simp[g1]);obtain⟨u2,e2,q2⟩:=r2.get (i:=j) (x:=ys[j]) (by simp[g2]);have f1:i1.toArray[j]=u1:=by
  obtain⟨_,z⟩:=List.getElem?_eq_some_iff.mp e1
  simpa using z
 have f2:i2.toArray[j]=u2:=by
  obtain⟨_,z⟩:=List.getElem?_eq_some_iff.mp e2
  simpa using z
 rw[f1,f2];exact(h j _ _ (by simp[g1]) (by simp[g2])).at I A.in1 u1 u2 (by rw[vX];omega) q1 q2
theorem zd8:OpR X (compareOp .Eq) (zgv X.K X.A false):=by
 intro pins s σ H x y v u Q I rx ry h;obtain⟨a,b,xs,ys,e,n,rfl,rfl,hq,hl,hu,hi,q⟩:=h;cases rx;cases ry;rcases hq with⟨h1,h2⟩ | ⟨h1,h2⟩
 ·obtain⟨i1,r1,p1,_⟩:=I.list h1
  obtain⟨i2,r2,p2,_⟩:=I.list h2;refine SeqAt.eq_listAt p1.isList p2.isList (by simp;rw[<- r1.length,<- r2.length,hl]) (by omega) (vi I r1 r2 hu hi) ⟨.bl _,H,I,rfl,?_⟩;rw[size_toArray,<- r1.length];exact q
 ·obtain⟨i1,r1,p1,_⟩:=I.tuple h1
  obtain⟨i2,r2,p2,_⟩:=I.tuple h2;have z:i1.toArray.size=i2.toArray.size:=by simp;rw[<- r1.length,<- r2.length,hl]
  refine SeqAt.eq_tupleAt (show s.heap.IsTuple a i1.toArray from p1) (show s.heap.IsTuple b i2.toArray from p2) (by omega) (vi I r1 r2 hu hi) ⟨.bl _,H,I,rfl,?_⟩;rw[<- z,min_self,beq_self_eq_true,Bool.and_true,size_toArray,<- r1.length];exact q
theorem zd4:OpR X (compareOp .NotEq) (zgv X.K X.A true):=by
 intro pins s σ H x y v u Q I rx ry h;obtain⟨a,b,xs,ys,e,n,rfl,rfl,hq,hl,hu,hi,q⟩:=h;cases rx;cases ry;rcases hq with⟨h1,h2⟩ | ⟨h1,h2⟩
 ·obtain⟨i1,r1,p1,_⟩:=I.list h1
  obtain⟨i2,r2,p2,_⟩:=I.list h2;refine SeqAt.RcNeAt.lists p1.isList p2.isList (by simp;rw[<- r1.length,<- r2.length,hl]) (by omega) (vi I r1 r2 hu hi) _ _ _ _ ⟨.bl _,H,I,rfl,?_⟩;rw[size_toArray,<- r1.length];exact q
 ·obtain⟨i1,r1,p1,_⟩:=I.tuple h1
  obtain⟨i2,r2,p2,_⟩:=I.tuple h2;have z:i1.toArray.size=i2.toArray.size:=by simp;rw[<- r1.length,<- r2.length,hl]
  refine SeqAt.RcNeAt.tuples (show s.heap.IsTuple a i1.toArray from p1) (show s.heap.IsTuple b i2.toArray from p2) (by omega) (vi I r1 r2 hu hi) _ _ _ _ ⟨.bl _,H,I,rfl,?_⟩;rw[<- z,min_self,beq_self_eq_true,Bool.and_true,size_toArray,<- r1.length];exact q
end
structure Callee (P:Program) (w:World) (K:W.Frag) (mg:Str->Option Value) (base:Heap) (x:Str) (f:Addr) (fd:FuncData) (ps:List Str) (k:Nat) (sp:Sp):Prop where
 ok:FnOk P w K mg base CX0 k f fd ps sp
 g:mg x=some (.ref f)
 kp:PySem.W.keepIn K (.ref f)=true
 b:Binds K fd ps []
structure Maker (P:Program) (w:World) (K:W.Frag) (mg:Str->Option Value) (base:Heap) (x:Str) (C f:Addr) (fd:FuncData) (ps:List Str) (k:Nat) (sp:Sp):Prop where
 ok:FnOk P w K mg base CX0 k f fd ps sp
 g:mg x=some (.ref C)
 mm:Mk K C f
 b:Binds K fd ps []
section
variable {X:Cx}{k:Nat}{f C:Addr}{fd:FuncData}{ps:List Str}{sp:Sp}{x m:Str}{p pos apos:Pos}{e o:Expr}{es:List Expr}{ta:TE}{t:TA}
theorem U3(c:Callee X.prog X.w X.K X.mg X.base x f fd ps k sp)(hr:Room k X.A)(ha:PA X (e::es) t)(hg:Gl X x:=by rfl)(hdb:(x == ("__debug__" : Str))=false:=by decide)
  (he:starEach (e::es) X.env=(false,eval e X.env)::starEach es X.env:=by rfl) (hpl:(backTo pos (starEach es X.env)).any (·.1)=false:=by rfl):PE X (.Call (.Name x p) (e::es) [] pos) (w8 sp [] E0 t) :=
 Vz c.ok hr hg c.g c.kp c.b .nil U4 ha hdb he hpl
theorem ul(c:Maker X.prog X.w X.K X.mg X.base x C f fd ps k sp)(hr:Room (k+1) X.A)(ha:Bx (PA X (e::es) t))(hg:Gl X x:=by rfl)(hdb:(x == ("__debug__" : Str))=false:=by decide)(he:starEach (e::es) X.env=(false,eval e X.env)::starEach es X.env:=by rfl)(hpl:(backTo pos (starEach es X.env)).any (·.1)=false:=by rfl):Bx (PE X (.Call (.Name x p) (e::es) [] pos) (zbF C sp [] E0 t)):=by
 have ha:=ha.of;exact⟨Vx c.mm c.ok hr hg c.g c.b .nil U4 ha hdb he hpl⟩
def uq(X:Cx)(m:Str)(ta:TE)(t:TA):TE:=fun σ H Q=>ta σ H fun x H1=>∃ (a C dx:Addr) (fs:List (Str×V)) (f:Addr) (fd:FuncData) (ps:List Str) (k:Nat) (sp:Sp),x=.ref a/\H1 a=some (.ins C dx fs)/\fs.lookup m=none/\Cls X.K C/\Meth X.K C m f /\
 FnOk X.prog X.w X.K X.mg X.base CX0 k f fd ps sp/\Room k X.A/\Binds X.K fd ps []/\t σ H1 fun vs H2=>sp (x::(vs++[])) H2 Q E0
theorem U1{pl:Sem Bool}(he:PE X o ta)(ha:PA X (e::es) t)
  (hst:starEach (e::es) X.env=(false,eval e X.env)::starEach es X.env:=by rfl) (hpl:(backTo pos (starEach es X.env)).any (·.1)=false:=by rfl)
  (ht:eval (.Call (.Attribute o m apos) (e::es) [] pos) X.env=(do
   let ov <- eval o X.env
   standAt apos.atName
   let (f,first) <- holding [ov] (getMethod ov m pl)
   callWith pos f first (backTo pos (starEach (e::es) X.env)) (backToKw pos (keywordEach [] X.env))):=by rfl) :
  PE X (.Call (.Attribute o m apos) (e::es) [] pos) (uq X m ta t):=by
 intro pins s σ H Q I h;refine PySem.W.methodCall_KW (pl:=pl) (thn (he pins s σ H _ I h) fun u s1 hq0=>?_) ht;obtain⟨x,H1,I1,rx,a,C,dx,fs,f,fd,ps,k,sp,ex,ea,l,cl,hm,F,hr,hb,q⟩:=hq0;subst ex;obtain rfl:u=Value.ref a:=rx;refine wa I1 ea cl hm l ?_;refine PySem.W.callWith_K (first:=[.ref a]) (h₀:=X.base) I.ok.mod.kin hm.kp (thn (ha pos pins s1 σ H1 _ I1 q) fun us s2 ⟨vs,H2,I2,r,q2⟩=>⟨I2.kIn,?_⟩) hst hpl;exact Xv (us:=.ref a::us) (vs:=.ref a::vs) F hr hb .nil U4 I2 (.cons rfl r) q2
theorem ZR{pl:Sem Bool}(he:PE X o ta)
  (ht:eval (.Call (.Attribute o m apos) [] [] pos) X.env=(do
   let ov <- eval o X.env
   standAt apos.atName
   let (f,first) <- holding [ov] (getMethod ov m pl)
   callWith pos f first (backTo pos (starEach [] X.env)) (backToKw pos (keywordEach [] X.env))):=by rfl) :
  PE X (.Call (.Attribute o m apos) [] [] pos) (uq X m ta wN):=by
 intro pins s σ H Q I h;refine PySem.W.methodCall_KW (pl:=pl) (thn (he pins s σ H _ I h) fun u s1 hq0=>?_) ht;obtain⟨x,H1,I1,rx,a,C,dx,fs,f,fd,ps,k,sp,ex,ea,l,cl,hm,F,hr,hb,q⟩:=hq0;subst ex;obtain rfl:u=Value.ref a:=rx;refine wa I1 ea cl hm l ?_;exact PySem.W.callWith_K0 (first:=[.ref a]) I1.kIn hm.kp (Xv (us:=[.ref a]) (vs:=[.ref a]) F hr hb .nil U4 I1 (.cons rfl .nil) q)
end
end L2
namespace PySem
namespace Zt
inductive SK where
 |l
 |t
def ItAt(k:SK)(h:Heap)(it a:Addr)(i:Nat):Prop:=match k with
 |.l=>h.IsListIter it a i
 |.t=>h.IsTupleIter it a i
def SqAt(k:SK)(h:Heap)(a:Addr)(xs:Array Value):Prop:=match k with
 |.l=>h.IsList a xs
 |.t=>h.IsTuple a xs
theorem ItAt.obj{k:SK}{h:Heap}{it a:Addr}{i:Nat}(x:ItAt k h it a i):∃ o,h.get? it=some o/\(∀ v,o.data≠.cell v):=by
 cases k<;>(obtain⟨o,e,c,d⟩:=x;exact⟨o,e,fun v z=>by rw[d] at z;cases z⟩)
theorem ItAt.at{k:SK}{h h':Heap}{it a:Addr}{i:Nat}(x:ItAt k h it a i)(e:∀ o,h.get? it=some o->h'.get? it=some o):ItAt k h' it a i:=by
 cases k
 ·exact Heap.IsListIter.at x e
 ·exact Heap.IsTupleIter.at x e
theorem SqAt.at{k:SK}{h h':Heap}{a:Addr}{xs:Array Value}(x:SqAt k h a xs)(e:∀ o,h.get? a=some o->h'.get? a=some o):SqAt k h' a xs:=by
 cases k
 ·obtain⟨o,ho,r⟩:=x;exact⟨o,e o ho,r⟩
 ·obtain⟨o,ho,r⟩:=x;exact⟨o,e o ho,r⟩
section
variable {prog:Program}{w:World}{A:Around}{E:Value->Shared->Prop}{s:Shared}
theorem Ze{it l:Addr}{i:Nat}{items:Array Value}{x:Value}{Q:Value->Shared->Prop}(hit:s.heap.IsTupleIter it l i)(ht:s.heap.IsTuple l items)(hx:items[i]?=some x)
  (hQ:∀ h',h'.IsTupleIter it l (i+1)->Heap.SameBut it s.heap h'->Q x { s with heap:=h' }):wpAny (model prog w) A (Builtin.SmallTypes.nextOf (.ref it)) Q E s:=by
 obtain⟨o,ho,hc,hd⟩:=id hit;obtain⟨o2,ho2,_,n2,hd2⟩:=ht;unfold Builtin.SmallTypes.nextOf;refine wpAny_bind (wpAny_callSpecial?_slot (name:=Str.ofString "__next__") hit.typeIs F.slot_tuple_iterator_next (wpAny_call_entry F.slot_tuple_iterator_next hit.typeIs F.entry_tuple_iterator_next ?_ (F.args_tuple_iterator_next_1 _)));show wpAny _ _ (field (.ref it) 0 >>= _) _ _ s;refine wpAny_bind (wpAny_field ho hd (x:=.ref l) rfl ?_);show wpAny _ _ (if (Value.ref l == Value.none)=true then _ else _) _ _ s;rw[if_neg (show ¬ ((Value.ref l == Value.none)=true) from Bool.false_ne_true)];show wpAny _ _ (field (.ref it) 1 >>= _) _ _ s;refine wpAny_bind (wpAny_field ho hd (x:=.int i 0) rfl ?_);show wpAny _ _ (seqItems? (.ref l) >>= _) _ _ s;refine wpAny_bind (wpAny_seqItems ho2 hd2 ?_);simp only[Int.toNat_natCast,hx];refine wpAny_bind (wpAny_setField ho hd (by simp) (wpAny_pure ⟨x,rfl,wpAny_pure (hQ _ ⟨_,Heap.get?_update_self _ ho (Obj.isFreed_of_fields (Obj.data_mapFields hd _)),(Obj.cls_mapFields ..).trans hc,?_⟩ (Heap.SameBut.update ..))⟩));rw[Obj.data_mapFields hd];simp[rawInt]
theorem Z3{it l:Addr}{i:Nat}{items:Array Value}{Q:Value->Shared->Prop}(hh:A.handled=none)(hit:s.heap.IsTupleIter it l i)(ht:s.heap.IsTuple l items)(hx:items[i]?=none)
  (hE:∀ h' e,Heap.ExtBut it s.heap h'->(∃ o,h'.get? e=some o/\o.cls=.type "StopIteration")->E (.ref e) { s with heap:=h' }):wpAny (model prog w) A (Builtin.SmallTypes.nextOf (.ref it)) Q E s:=by
 obtain⟨o,ho,hc,hd⟩:=id hit;obtain⟨o2,ho2,_,n2,hd2⟩:=ht;unfold Builtin.SmallTypes.nextOf;refine wpAny_bind (wpAny_callSpecial?_slot (name:=Str.ofString "__next__") hit.typeIs F.slot_tuple_iterator_next (wpAny_call_entry F.slot_tuple_iterator_next hit.typeIs F.entry_tuple_iterator_next ?_ (F.args_tuple_iterator_next_1 _)));show wpAny _ _ (field (.ref it) 0 >>= _) _ _ s;refine wpAny_bind (wpAny_field ho hd (x:=.ref l) rfl ?_);show wpAny _ _ (if (Value.ref l == Value.none)=true then _ else _) _ _ s;rw[if_neg (show ¬ ((Value.ref l == Value.none)=true) from Bool.false_ne_true)];show wpAny _ _ (field (.ref it) 1 >>= _) _ _ s;refine wpAny_bind (wpAny_field ho hd (x:=.int i 0) rfl ?_);show wpAny _ _ (seqItems? (.ref l) >>= _) _ _ s;refine wpAny_bind (wpAny_seqItems ho2 hd2 ?_);simp only[Int.toNat_natCast,hx];refine wpAny_bind (wpAny_rule (wpAny_bind (wpAny_setField ho hd (by simp) ?_)));show wpAny _ _ (newExc (.type "StopIteration") [] >>= _) _ _ _;refine wpAny_bind ?_;simp only[newExc,newTuple];refine wpAny_bind (wpAny_newObj_type ?_ (by size_fits));refine wpAny_bind (m:=firstArgMember _ _) (wpAny_of_eq (a:=Value.none) (by first | rfl | (simp only[firstArgMember];rfl)) ?_);refine wpAny_newObj_type ?_ (by size_fits);simp only[raiseNew];refine wpAny_bind (wpAny_handled ?_);first | rw[show A.in1.handled=none from hh] | rw[hh]
 refine wpAny_bind (wpAny_pure (wpAny_throw ?_));exact hE _ _ (((Heap.SameBut.update ..).extBut.push _).push _) ⟨_,Heap.get?_push_size _ rfl,rfl⟩
theorem VP{k:SK}{it a:Addr}{i:Nat}{xs:Array Value}{x:Value}{Q:Value->Shared->Prop}(hit:ItAt k s.heap it a i)(hs:SqAt k s.heap a xs)(hx:xs[i]?=some x)
  (hQ:∀ h',ItAt k h' it a (i+1)->Heap.SameBut it s.heap h'->Q x { s with heap:=h' }):wpAny (model prog w) A (Builtin.SmallTypes.nextOf (.ref it)) Q E s:=by
 cases k
 ·exact wpAny_nextOf_list_item hit hs hx hQ
 ·exact Ze hit hs hx hQ
theorem zah{k:SK}{it a:Addr}{i:Nat}{xs:Array Value}{Q:Value->Shared->Prop}(hh:A.handled=none)(hit:ItAt k s.heap it a i)(hs:SqAt k s.heap a xs)(hx:xs[i]?=none)
  (hE:∀ h' e,Heap.ExtBut it s.heap h'->(∃ o,h'.get? e=some o/\o.cls=.type "StopIteration")->E (.ref e) { s with heap:=h' }):wpAny (model prog w) A (Builtin.SmallTypes.nextOf (.ref it)) Q E s:=by
 cases k
 ·exact wpAny_nextOf_list_end hh hit hs hx hE
 ·exact Z3 hh hit hs hx hE
end
noncomputable def zay(k:SK)(a:Addr):Obj:=match k with
 |.l=>{ cls:=.type "list_iterator",data:=.fields #[.ref a,.int 0 0] }
 |.t=>{ cls:=.type "tuple_iterator",data:=.fields #[.ref a,.int 0 0] }
theorem zax{k:SK}{h:Heap}{it a:Addr}(e:h.get? it=some (zay k a)):ItAt k h it a 0:=by
 cases k<;>exact⟨_,e,rfl,rfl⟩
theorem ZK{prog:Program}{w:World}{A:Around}{E:Value->Shared->Prop}{s:Shared}{k:SK}{a:Addr}{xs:Array Value}{Q:Value->Shared->Prop}(h:SqAt k s.heap a xs)
  (hQ:Q (.ref s.heap.objs.size) { s with heap:=s.heap.push (zay k a) }):wpAny (model prog w) A (pyIter (.ref a)) Q E s:=by
 cases k
 ·exact wpAny_pyIter_list h hQ
 ·exact wpAny_pyIter_tuple h hQ
abbrev g1(k1:SK)(h:Heap)(l1:Addr):Heap:=h.push (zay k1 l1)
end Zt
end PySem
namespace L2
open PySem PySem.Spec PyProof.Rows PySem.Zt
def SqK(k:SK)(K:W.Frag)(H:Hp)(a:Addr)(xs:List V):Prop:=match k with
 |.l=>SqL K H a xs
 |.t=>SqT K H a xs
section
variable {X:Cx}{pins:List (Addr×Obj)}{σ:St}{H:Hp}{s:Shared}{a b:Addr}{xs ys:List V}
theorem Inv.seqK{k:SK}(I:Inv X pins σ H s)(h:SqK k X.K H a xs):∃ its:List Value,Vals xs its/\SqAt k s.heap a its.toArray/\xs.length<=sizeLine:=by
 cases k
 ·obtain⟨its,r,p,z⟩:=I.list h
  exact⟨its,r,p.isList,z⟩
 ·obtain⟨its,r,p,z⟩:=I.tuple h
  exact⟨its,r,p,z⟩
theorem Inv.seqK_inj{k:SK}(I:Inv X pins σ H s)(h:SqK k X.K H a xs)(h':SqK k X.K H a ys):xs=ys:=by
 cases k
 ·exact I.list_inj h h'
 ·exact I.tuple_inj h h'
theorem Inv.off{k:SK}(I:Inv X pins σ H s)(h:SqK k X.K H a xs)(f:FpOk X pins H b):a≠b:=by
 rintro rfl;have own:∀ o,X.K.lookup a=some o->False:=fun o e=>by
  have e':=I.ok.mod.kin a o e;rcases f.2.2.2.1 with z | z
  ·exact I.ok.noex a o e' z
  ·exact absurd (lt_of_lt_of_le (lt_of_lt_of_le (Heap.lt_size e') I.ok.bsz) z) (lt_irrefl _)
 cases k
 ·rcases h with(h | ⟨o,h⟩) | ⟨o,_,_,h,_⟩
  ·rw[f.1] at h;cases h
  ·rw[f.1] at h;cases h
  ·exact own o h
 ·rcases h with(h | ⟨o,h⟩) | ⟨o,_,_,h,_⟩
  ·rw[f.1] at h;cases h
  ·rw[f.1] at h;cases h
  ·exact own o h
theorem Inv.turnedLaid{h':Heap}{t':Nat}{ch:List Addr}{T:Addr}{o:HO}(I:Inv X pins σ H s)(hf:∀ b∈ch,FpOk X pins H b)(k:∀ b u,b∉ch->s.heap.get? b=some u->h'.get? b=some u)(hT:s.heap.objs.size<=T)
  (new:ObjOk X.prog X.w (upd H T o) h' T o):Inv X pins σ (upd H T o) { s with heap:=h',toks:=t' }:=by
 have hn:H T=none:=I.hok.fresh hT;have nch:∀ b u,H b=some u->b∉ch:=fun b u e hb=>by rw[(hf b hb).1] at e;cases e
 have neT:∀ b u,s.heap.get? b=some u->b≠T:=fun b u e=>ne_of_lt (lt_of_lt_of_le (Heap.lt_size e) hT);refine I.step (g':=s.gens) (d':=s.drawn) (ch:=ch) (fun b hb=>?_) (fun b u _ _ hc e _=>k b u hc e) (fun b u _ _ hc e _=>⟨u.slots,k b u hc e⟩) (fun b u _ e n=>?_) (fun b u hc e=>⟨u,k b u hc e⟩)
  (fun b zs e=>?_) (fun b ob u e=>?_) (fun b ps e=>⟨#[],?_⟩) (fun m hm=>?_) (fun b u e=>?_) I.bare
 ·exact⟨(hf b hb).2.2.2.1,(hf b hb).2.1,(hf b hb).2.2.2.2.1,(hf b hb).2.2.2.2.2⟩
 ·rw[upd_ne (neT b u e)];exact n
 ·rw[upd_ne (nZ e hn)];exact e
 ·rw[upd_ne (nZ e hn)];exact e
 ·rw[upd_ne (nZ e hn),e];simp
 ·obtain⟨ob,es,ep,ho,r⟩:=hm
  exact⟨ob,es,ep,k _ ob (fun hb=>(hf _ hb).2.1 rfl) ho,r⟩
 ·by_cases hb:b=T
  ·subst hb
   rw[upd_same] at e;cases e;exact new
  ·rw[upd_ne hb] at e
   refine(I.hok b u e).stay (fun c v hc q=>k c v ?_ q) (fun c q=>by rw[upd_ne (nZ q hn)];exact q) fun c zs q=>by rw[upd_ne (nZ q hn)];exact q
   rcases hc with z | z
   ·rw[z];exact nch b u e
   ·exact nch c _ z
theorem Inv.turnedL{h':Heap}{t':Nat}{ch:List Addr}(I:Inv X pins σ H s)(hf:∀ b∈ch,FpOk X pins H b)(k:∀ b u,b∉ch->s.heap.get? b=some u->h'.get? b=some u):Inv X pins σ H { s with heap:=h',toks:=t' }:=by
 have nch:∀ b u,H b=some u->b∉ch:=fun b u e hb=>by rw[(hf b hb).1] at e;cases e
 refine I.step (g':=s.gens) (d':=s.drawn) (ch:=ch) (fun b hb=>?_) (fun b u _ _ hc e _=>k b u hc e) (fun b u _ _ hc e _=>⟨u.slots,k b u hc e⟩) (fun b u _ e n=>n) (fun b u hc e=>⟨u,k b u hc e⟩)
  (fun b zs e=>e) (fun b ob u e=>e) (fun b ps e=>⟨#[],by rw[e];simp⟩) (fun m hm=>?_) (fun b u e=>?_) I.bare
 ·exact⟨(hf b hb).2.2.2.1,(hf b hb).2.1,(hf b hb).2.2.2.2.1,(hf b hb).2.2.2.2.2⟩
 ·obtain⟨ob,es,ep,ho,r⟩:=hm
  exact⟨ob,es,ep,k _ ob (fun hb=>(hf _ hb).2.1 rfl) ho,r⟩
 ·refine(I.hok b u e).stay (fun c v hc q=>k c v ?_ q) (fun _ q=>q) fun _ _ q=>q
  rcases hc with z | z
  ·rw[z];exact nch b u e
  ·exact nch c _ z
end
theorem yG{X:Cx}{x:Str}{C:Addr}{pos:Pos}(hm:X.mg x=some (.ref C))(hg:Gl X x:=by rfl)(hd:(x == ("__debug__" : Str))=false:=by decide):Bx (PE X (.Name x pos) (tC (.ref C))):=by
 exact⟨xj hg hm rfl hd⟩
theorem uv{X:Cx}{x:Str}{n:String}{pos:Pos}(hm:X.mg x=none)(hv:bootBuiltins x=some (.type n))(hg:Gl X x:=by rfl)(hn:x ≠ "__name__" := by decide)(hd:(x == ("__debug__" : Str))=false:=by decide):PE X (.Name x pos) (tC (.ty n)):=zb6 hg hm hv rfl hn hd
theorem yf:bootBuiltins "len" = some (.builtin "len"):=by decide +kernel
theorem uG:bootBuiltins "int" = some (.type "int"):=by decide +kernel
theorem zeU:bootBuiltins "min" = some (.builtin "min"):=by decide +kernel
theorem zeV:bootBuiltins "max" = some (.builtin "max"):=by decide +kernel
theorem zu:bootBuiltins "isinstance" = some (.builtin "isinstance"):=by decide +kernel
theorem wA:bootBuiltins "list" = some (.type "list"):=by decide +kernel
theorem wX:bootBuiltins "dict" = some (.type "dict"):=by decide +kernel
theorem zeW:bootBuiltins "abs" = some (.builtin "abs"):=by decide +kernel
theorem Ym:bootBuiltins "sorted" = some (.builtin "sorted"):=by decide +kernel
theorem xL:bootBuiltins "str" = some (.type "str"):=by decide +kernel
theorem zeT:bootBuiltins "sum" = some (.builtin "sum"):=by decide +kernel
theorem Zu:bootBuiltins "bool" = some (.type "bool"):=by decide +kernel
theorem wc:bootBuiltins "tuple" = some (.type "tuple"):=by decide +kernel
theorem b01(k:Bool) : -(2 ^ 64)<(if k=true then(1:Int) else 0)/\(if k=true then(1:Int) else 0)<2 ^ 64:=by cases k<;>decide
end L2
namespace L2
open PySem PySem.Spec PyProof.Rows
theorem zcI{ns:LI}{i:Nat}(h:i<ns.length):ns.getD i 0=ns[i]:=by simp[List.getD,h]
theorem zbD{ns:LI}{its:List Value}(r:Vals (ns.map V.int) its){i:Nat}{v:Value}(e:its.toArray[i]?=some v):∃ t,v=.int (ns.getD i 0) t:=by
 have e':its[i]?=some v:=by simpa using e
 have hi:i<its.length:=(List.getElem?_eq_some_iff.mp e').1;have hl:=r.length;rw[length_map] at hl;have hb:i<ns.length:=by omega
 obtain⟨u,e2,ru⟩:=r.get (i:=i) (x:=V.int ns[i]) (by simp[hb]);rw[e'] at e2;cases e2;obtain⟨t,rfl⟩:=ru;exact⟨t,by rw[zcI hb]⟩
theorem zcZ(val:Nat->Int):∀ k,argBest (fun i j=>decide (val i>val j)) k<=k/\∀ j,j<=k->val j<=val (argBest (fun i j=>decide (val i>val j)) k)
 |0=>⟨Nat.le_refl _,fun j hj=>by rw[Nat.le_zero.mp hj];exact Int.le_refl _⟩
 |k+1=>by
  obtain⟨h1,h2⟩:=zcZ val k;show(if decide (val (k+1)>val (argBest _ k))=true then k+1 else argBest _ k)<=k+1/\∀ j,j<=k+1->val j<=val (if decide (val (k+1)>val (argBest _ k))=true then k+1 else argBest _ k);by_cases q:val (k+1)>val (argBest (fun i j=>decide (val i>val j)) k)
  ·rw[if_pos (decide_eq_true q)]
   refine⟨Nat.le_refl _,fun j hj=>?_⟩;by_cases e:j=k+1
   ·rw[e];exact Int.le_refl _
   ·have:=h2 j (by omega)
    omega
  ·rw[if_neg (fun z=>q (of_decide_eq_true z))]
   refine⟨Nat.le_succ_of_le h1,fun j hj=>?_⟩;by_cases e:j=k+1
   ·rw[e];omega
   ·exact h2 j (by omega)
theorem XA(ns:LI):∀ k,preSum (fun i=>ns.getD i 0) k=(ns.take k).sum
 |0=>by simp[preSum]
 |k+1=>by
  show preSum _ k+ns.getD k 0=_;rw[XA ns k,take_add_one];cases q:ns[k]? with
  |none=>simp[List.getD,q]
  |some x=>simp[List.getD,q]
def zft(K:W.Frag):List V->Hp->VK->Prop:=fun xs H Q=>∃ (a:Addr) (ns:LI),xs=[V.ref a]/\SqL K H a (ns.map V.int)/\Q (.int ns.sum) H
section
variable {X:Cx}
theorem Ux(hc:X.calm=true):xr X (.builtin "sum") (zft X.K):=by
 intro pins s σ H xs us Q I r h;obtain⟨a,ns,rfl,ha,q⟩:=h;obtain⟨u,rfl,ru⟩:=r.one;cases ru;obtain⟨its,rv,p,hz⟩:=I.list ha;have lt:a<s.heap.objs.size:=by
  obtain⟨_,e,_⟩:=p.isList;exact Heap.lt_size e
 refine call_sum_walkAnyS (wpAny_pyIter_list p.isList ?_);refine⟨s.heap.objs.size,_,_,_,_,_,_,fun i=>ns.getD i 0,rfl,(Walks.list (A:=X.A.in1) (show X.A.in1.handled=none from I.ok.hd hc) s.heap.objs.size a (ne_of_lt lt) its.toArray).toS,⟨⟨_,Heap.get?_push_size _ rfl,rfl,rfl⟩,p.isList.push _⟩,fun b hb=>?_,fun i v hv=>zbD rv hv,fun s' t' hm=>?_⟩
 ·show b<(s.heap.push _).objs.size
  rw[Heap.size_push];have z:b=s.heap.objs.size\/b=a:=by simpa using hb
  rcases z with z | z
  ·rw[z];exact Nat.lt_succ_self _
  ·rw[z];exact Nat.lt_succ_of_lt lt
 ·obtain⟨h',g',d',tk',os'⟩:=s'
  have e1:g'=s.gens:=hm.gens;have e2:d'=s.drawn:=hm.drawn;have e3:os'=s.os:=hm.os;subst e1 e2 e3;have hl:=rv.length;rw[length_map] at hl;rw[XA,size_toArray,<- hl,take_length];exact⟨.int _,H,I.kept (t':=tk') fun b o e=>hm.heap b o (fun z=>by
   rw[mem_singleton.mp z] at e;exact lt_irrefl _ (Heap.lt_size e)) (Heap.get?_push_of_some _ e),⟨_,rfl⟩,q⟩
theorem V8:∀ {ns:LI}{its:List Value},Vals (ns.map V.int) its->IntsAre its ns
 |[],_,r=>by cases r;exact .nil
 |n::ns,_,r=>by
  cases r with
  |cons h t =>
   obtain⟨k,rfl⟩:=h;exact .cons _ _ (V8 t)
theorem VL:∀ {ns:LI}{its:List Value},IntsAre its ns->Vals (ns.map V.int) its
 |_,_,.nil=>.nil
 |_,_,.cons _ _ t=>.cons ⟨_,rfl⟩ (VL t)
def zdX(K:W.Frag):List V->Hp->VK->Prop:=fun xs H Q=>∃ (a:Addr) (ns:LI),xs=[V.ref a]/\SqL K H a (ns.map V.int)/\ns.length<64/\∀ (p:Addr) (ms:LI),H p=none->ms.Perm ns->ms.Pairwise (· <= ·)->Q (.ref p) (upd H p (.lst (ms.map V.int)))
theorem Ww:xr X (.builtin "sorted") (zdX X.K):=by
 intro pins s σ H xs us Q I r h;obtain⟨a,ns,rfl,ha,h64,q⟩:=h;obtain⟨u,rfl,ru⟩:=r.one;cases ru;obtain⟨its,rv,p,hz⟩:=I.list ha;have hl:=rv.length;rw[length_map] at hl hz;refine sorted_ints p.isList (V8 rv) (by omega) fun out ms a1 a2 a3=>?_;have hn:H (s.heap.objs.size+1)=none:=I.hok.fresh (le_succ _);obtain⟨c,hc⟩:=sortedAll_at s.heap its out;refine⟨.ref _,_,I.laid (a:=s.heap.objs.size+1) (o:=.lst (ms.map V.int)) (t':=s.toks) (fun _ _ e=>sortedAll_old e) (le_succ _) ⟨?_,out.toList,c,VL a1,?_⟩,rfl,q _ ms hn a2 a3⟩
 ·rw[length_map,a2.length_eq];exact hz
 ·exact hc
def zg0(K:W.Frag)(A:Around):R2:=fun x y H Q=>∃ (a b:Addr) (xs ys:List V),x=.ref a/\y=.ref b/\SqL K H a xs/\SqL K H b ys/\xs.length≠ys.length/\A.units<cLine/\Q (.bl true) H
theorem zd5:OpR X (compareOp .NotEq) (zg0 X.K X.A):=by
 intro pins s σ H x y v u Q I rx ry h;obtain⟨a,b,xs,ys,rfl,rfl,h1,h2,hl,hu,q⟩:=h;cases rx;cases ry;obtain⟨i1,r1,p1,_⟩:=I.list h1;obtain⟨i2,r2,p2,_⟩:=I.list h2;exact SeqAt.RcNeAt.lists_lengths p1.isList p2.isList (by simp;rw[<- r1.length,<- r2.length];exact hl) hu _ _ _ _ ⟨.bl _,H,I,rfl,q⟩
end
theorem zbe{X:Cx}{f:Value->Value->Sem Value}{r1 r2:R2}(h1:OpR X f r1)(h2:OpR X f r2):OpR X f (fun x y H Q=>r1 x y H Q\/r2 x y H Q):=by
 intro pins s σ H x y v u Q I rx ry h;rcases h with h | h
 ·exact h1 pins s σ H x y v u Q I rx ry h
 ·exact h2 pins s σ H x y v u Q I rx ry h
def DictAt(a D:Addr)(h:Heap):Prop:=∃ o,h.get? a=some o/\o.dict=some D
def KD(h h':Heap):Prop:=∀ a D,DictAt a D h->DictAt a D h'
def Kp{α:Type}:Sem α->Prop
 |.pure _=>True
 |.raise _=>True
 |.unsupported _=>True
 |.finish _=>True
 |.rule _ k=>Kp (k ())
 |.at _ k=>Kp (k ())
 |.load _ _ k=>∀ o,Kp (k o)
 |.update _ _ f k=>(∀ o,(f o).dict=o.dict/\((f o).data=.freed->o.data=.freed))/\Kp (k ())
 |.alloc _ k=>∀ a,Kp (k a)
 |.loadIfAlive _ k=>∀ o,Kp (k o)
 |.point _ k=>Kp (k ())
 |.register _ _=>True
 |.fresh k=>∀ t,Kp (k t)
 |.ask k=>∀ x,Kp (k x)
 |.choose _ _ k=>∀ n,Kp (k n)
 |.os _ _ k=>∀ r,Kp (k r)
 |.call ..=>False
 |.handled _ k=>∀ o,Kp (k o)
 |.newGen _ k=>∀ n,Kp (k n)
 |.genState _ k=>∀ x,Kp (k x)
 |.resume ..=>False
 |.yield ..=>True
 |.stack k=>∀ l,Kp (k l)
 |.fork ..=>True
 |.thread k=>∀ n,Kp (k n)
 |.await ..=>True
section
variable {α β:Type}
theorem zas(m:Sem α)(f:α->Sem β)(h:Kp m)(k:∀ x,Kp (f x)):Kp (m.bind f):=by
 induction m<;>simp only[Kp,Sem.bind] at h ⊢<;>first | trivial | exact k _ | (rename_i ih;exact ih _ h) | (rename_i ih;exact⟨h.1,ih _ h.2⟩) | (rename_i ih;exact fun x=>ih x (h x))
theorem kp_bind{m:Sem α}{f:α->Sem β}(h:Kp m)(k:∀ x,Kp (f x)):Kp (m >>= f):=zas m f h k
theorem kp_pure{x:α}:Kp (pure x:Sem α):=True.intro
theorem wI{c:Prop}[Decidable c]{a b:Sem α}(h:Kp a)(k:Kp b):Kp (if c then a else b):=by split<;>assumption
theorem DictAt.upd{h:Heap}{a D b:Addr}{f:Obj->Obj}(hf:∀ o,(f o).dict=o.dict/\((f o).data=.freed->o.data=.freed))(x:DictAt a D h):DictAt a D (h.update b f):=by
 obtain⟨o,e,d⟩:=x;by_cases hb:b=a
 ·subst hb
  refine⟨f o,Heap.get?_update_self f e ?_,(hf o).1.trans d⟩;cases q:(f o).isFreed with
  |false=>rfl
  |true =>
   exfalso
   have q1:(f o).data=.freed:=by
    revert q
    generalize f o=u;intro q;obtain⟨c,d',dt,sl⟩:=u;cases dt<;>first | rfl | cases q
   have q2:=(hf o).2 q1;obtain⟨c,d',dt,sl⟩:=o;cases q2;simp only[Heap.get?] at e
   split at e
   ·cases e
   ·rename_i hne
    exact hne _ _ _ e
 ·exact⟨o,(Heap.get?_update_other _ _ hb).trans e,d⟩
theorem DictAt.keeps{h h':Heap}{a D:Addr}(x:DictAt a D h)(k:∀ b o,h.get? b=some o->h'.get? b=some o):DictAt a D h':=let ⟨o,e,d⟩:=x;⟨o,k _ _ e,d⟩
theorem zfa{M:Model}{Γ:PySem.Ctx}(t:Sem α){Q:α->Pos->Shared->Prop}{E:Value->Pos->Shared->Prop}{h0:Heap}(g:Kp t)(p:Pos)(s:Shared)(k:KD h0 s.heap)(h:Sem.wp M Γ t Q E p s) :
  Sem.wp M Γ t (fun a p' s'=>Q a p' s'/\KD h0 s'.heap) E p s:=by
 induction t generalizing p s with
 |pure x=>exact⟨h,k⟩
 |raise v=>exact h
 |unsupported | finish | yield | fork | await | register=>exact h
 |rule _ _ ih | «at» _ _ ih | point _ _ ih=>exact ih _ g _ _ k h
 |loadIfAlive _ _ ih | fresh _ ih | ask _ ih | os _ _ _ ih | handled _ _ ih | newGen _ _ ih | stack _ ih | thread _ ih=>exact ih _ (g _) _ _ k h
 |alloc o _ ih=>exact ih _ (g _) _ _ (fun a D x=>(k a D x).keeps fun b u e=>Heap.get?_push_of_some _ e) h
 |load _ _ _ ih | genState _ _ ih =>
  obtain⟨o,ho,h⟩:=h;exact⟨o,ho,ih _ (g _) _ _ k h⟩
 |choose _ _ _ ih=>exact⟨h.1,ih _ (g _) _ _ k h.2⟩
 |update a _ f _ ih=>exact⟨h.1,ih _ g.2 _ _ (fun b D x=>(k b D x).upd g.1) h.2⟩
 |call=>exact False.elim g
 |resume=>exact False.elim g
theorem wB{M:Model}{A:Around}{t:Sem α}{Q:α->Shared->Prop}{E:Value->Shared->Prop}{s:Shared}(g:Kp t)(h:wpAny M A t Q E s):wpAny M A t (fun a s'=>Q a s'/\KD s.heap s'.heap) E s :=
 fun Γ p hΓ=>zfa t g p s (fun _ _ x=>x) (h Γ p hΓ)
theorem YT{a:Addr}:Kp (load a):=fun _=>True.intro
theorem YW{v:Value}:Kp (fieldsOf v):=by
 unfold fieldsOf;cases v<;>first | trivial | skip
 refine kp_bind YT fun o=>?_
 split<;>trivial
theorem vg{v:Value}{i:Nat}:Kp (field v i):=by
 unfold field;refine kp_bind YW fun o=>?_
 split<;>trivial
theorem YV{g:Array Value->Array Value}(o:Obj):(Obj.mapFields g o).dict=o.dict/\((Obj.mapFields g o).data=.freed->o.data=.freed):=by
 obtain⟨c,d,dt,sl⟩:=o;cases dt<;>exact⟨rfl,fun q=>by first | rfl | cases q⟩
theorem ui{a:Addr}{i:Nat}{x:Value}:Kp (updateField a i x):=by
 unfold updateField;refine kp_bind YT fun o=>?_
 split
 ·refine wI ?_ True.intro
  exact⟨YV,True.intro⟩
 ·trivial
theorem xH{v:Value}{i:Nat}{x:Value}:Kp (setField v i x):=by
 unfold setField;cases v<;>first | trivial | exact ui
theorem xV{e:Value}{f:Option Addr}:Kp (setFlight e f):=by
 unfold setFlight;exact kp_bind vg fun o=>wI xH kp_pure
theorem YU{env:Env}{b:Bool}{l:List Env}:Kp (keptBack env b l):=by
 unfold keptBack;cases l with
 |nil =>
  dsimp only;refine wI kp_pure (kp_bind ?_ fun x=>kp_pure);unfold underTheClaimsCaller
  first | exact fun _=>True.intro | exact kp_bind (fun _=>True.intro) fun _=>True.intro
 |cons c l=>exact kp_pure
theorem kp_behind{env:Env}{l:List Env}:Kp (behindIsImport env l):=by
 unfold behindIsImport;refine wI kp_pure (wI kp_pure ?_);exact kp_bind vg fun _=>kp_pure
theorem zar(l:List Env):Kp (readyFrames l):=by
 induction l with
 |nil=>trivial
 |cons env l ih =>
  unfold readyFrames
  split
  ·refine kp_bind YT fun o=>wI kp_pure (kp_bind kp_behind fun b=>kp_bind YU fun v=>kp_bind ?_ fun _=>ih)
   exact⟨fun o=>⟨rfl,id⟩,True.intro⟩
  ·trivial
theorem uC{env:Env}:Kp (PySem.frameOf env):=by
 unfold PySem.frameOf;refine kp_bind (kp_bind (fun _=>True.intro) fun _=>True.intro) fun l=>kp_bind ?_ fun o=>?_
 ·generalize l.dropWhile _=l'
  cases l' with
  |nil=>trivial
  |cons c r =>
   unfold frameObject;exact kp_bind (zar _) fun _=>kp_pure
 ·split<;>trivial
theorem wJ{f:Addr}{b:Bool}:Kp (entryPlaceOf f b):=by
 unfold entryPlaceOf;refine kp_bind (fun _=>True.intro) fun l=>?_
 split<;>trivial
theorem vT{a b c d e:Value}{pl:List Value}:Kp (EntryCells.newEntry a b c d e pl):=by
 unfold EntryCells.newEntry newFields newObj newObjAsIs;dsimp only;have al:∀ o:Obj,Kp (alloc o):=fun _ _=>True.intro;refine wI ?_ ?_
 ·exact kp_bind (m:=Sem.unsupported _) True.intro fun _=>kp_bind (al _) fun _=>kp_pure
 ·exact kp_bind (al _) fun _=>kp_pure
theorem kp_noteFrame{e:Value}{env:Env}:Kp (noteFrame e env):=by
 unfold noteFrame
 split
 ·refine kp_bind vg fun hd=>?_
  refine wI (kp_bind vg fun _=>wI kp_pure (kp_bind xH fun _=>?_)) ?_
  ·exact kp_bind uC fun _=>kp_bind wJ fun _=>kp_bind vT fun _=>xH
  ·exact kp_bind uC fun _=>kp_bind wJ fun _=>kp_bind vT fun _=>xH
 ·trivial
theorem uB{e:Value}{env:Env}:Kp (leaving env e):=by
 unfold leaving;exact kp_bind kp_noteFrame fun _=>xV
end
section
variable {M:Model}{A:Around}{E:Value->Shared->Prop}{s:Shared}{base:Heap}{l:List Env}{env:Env}{outer:List Env}{L e:Addr}{cls a0:Value}{Q:Unit->Shared->Prop}
theorem zcs(hfr:A.frames=some (env::outer))(hf:env.frame=some L)(hfl:Heap.FlyingW base (env::outer) e cls a0 s.heap)
  (hQ:∀ h',Heap.FlyingW base outer e cls a0 h'->s.heap.UpToSlots h'->KD s.heap h'->Q () { s with heap:=h' }):wpAny M A (leaving env (.ref e)) Q E s :=
 wpAny_mono (wB uB (wpAny_leaves_onW (Q:=fun _ s2=>∃ h',s2={ s with heap:=h' }/\Heap.FlyingW base outer e cls a0 h'/\s.heap.UpToSlots h') hfr hf hfl fun h' a b=>⟨h',rfl,a,b⟩))
  (fun _ s2 ⟨⟨h',q,a,b⟩,k⟩=>by subst q;exact hQ h' a b k) fun _ _ z=>z
theorem zem(hfr:A.frames=some (env::outer))(hf:env.frame=some L)(hfl:Heap.FlyingW base (env::outer) e cls a0 s.heap)
  (hQ:∀ h',Heap.HeldW base (env::outer) e cls a0 L h'->s.heap.UpToSlots h'->KD s.heap h'->Q () { s with heap:=h' }):wpAny M A (noteFrame (.ref e) env) Q E s :=
 wpAny_mono (wB kp_noteFrame (wpAny_looks_onW (Q:=fun _ s2=>∃ h',s2={ s with heap:=h' }/\Heap.HeldW base (env::outer) e cls a0 L h'/\s.heap.UpToSlots h') hfr hf hfl fun h' a b=>⟨h',rfl,a,b⟩))
  (fun _ s2 ⟨⟨h',q,a,b⟩,k⟩=>by subst q;exact hQ h' a b k) fun _ _ z=>z
theorem zes(hh:Heap.HeldW base l e cls a0 L s.heap)(hQ:∀ h',Heap.FlyingW base l e cls a0 h'->s.heap.UpToSlots h'->KD s.heap h'->Q () { s with heap:=h' }):wpAny M A (setFlight (.ref e) none) Q E s :=
 wpAny_mono (wB xV (wpAny_landsW (Q:=fun _ s2=>∃ h',s2={ s with heap:=h' }/\Heap.FlyingW base l e cls a0 h'/\s.heap.UpToSlots h') hh fun h' a b=>⟨h',rfl,a,b⟩))
  (fun _ s2 ⟨⟨h',q,a,b⟩,k⟩=>by subst q;exact hQ h' a b k) fun _ _ z=>z
theorem zcu(hh:Heap.FlyingW base l e cls a0 s.heap)(hQ:∀ h',Heap.FlyingW base l e cls a0 h'->s.heap.UpToSlots h'->KD s.heap h'->Q () { s with heap:=h' }):wpAny M A (setFlight (.ref e) none) Q E s :=
 wpAny_mono (wB xV (lands_againW (Q:=fun _ s2=>∃ h',s2={ s with heap:=h' }/\Heap.FlyingW base l e cls a0 h'/\s.heap.UpToSlots h') hh fun h' a b=>⟨h',rfl,a,b⟩))
  (fun _ s2 ⟨⟨h',q,a,b⟩,k⟩=>by subst q;exact hQ h' a b k) fun _ _ z=>z
theorem zeM{oe:Obj}{vs:Array Value}(hfr:A.frames=some (env::outer))(hl:s.heap.FunFrames base (env::outer))(hf:env.frame=some L)(he:s.heap.get? e=some oe)(hkb:base.StaysIn s.heap)(hen:base.get? e=none)
  (hd:oe.data=.fields vs) (h1:vs[1]?=some .none) (h0:vs[0]?=some a0)
  (hQ:∀ h',Heap.FlyingW base outer e oe.cls a0 h'->s.heap.UpToSlots h'->KD s.heap h'->Q () { s with heap:=h' }):wpAny M A (leaving env (.ref e)) Q E s :=
 wpAny_mono (wB uB (wpAny_leaving_firstW (Q:=fun _ s2=>∃ h',s2={ s with heap:=h' }/\Heap.LeftW base (env::outer) e oe.cls a0 s.heap h') hfr hl hf he hkb hen hd h1 h0 fun h' a=>⟨h',rfl,a⟩))
  (fun _ s2 ⟨⟨h',q,a⟩,k⟩=>by
   subst q;obtain⟨k1,⟨_,_,k2⟩,k3,k4⟩:=a;exact hQ h' ⟨k1,hen,k2,k3⟩ k4 k) fun _ _ z=>z
end
section
variable {P:Program}{w:World}{H H':Hp}{h h':Heap}{a:Addr}{o:HO}
theorem ObjOk.thr(x:ObjOk P w H h a o):∃ u,h.get? a=some u:=by
 cases o with
 |lst xs=>obtain⟨_,_,_,_,e⟩:=x;exact⟨_,e⟩
 |tup xs=>obtain⟨_,_,_,_,e,_⟩:=x;exact⟨_,e⟩
 |dK kvs=>obtain⟨_,_,_,_,o,_,_,e,_⟩:=x;exact⟨_,e⟩
 |dT kvs=>obtain⟨_,_,_,_,o,_,_,e,_⟩:=x;exact⟨_,e⟩
 |set S n=>obtain⟨o,_,_,_,e,_⟩:=x;exact⟨_,e⟩
 |ins C dx fs=>obtain⟨_,_,_,e,_⟩:=x;exact⟨_,e⟩
 |own y=>obtain⟨_,e⟩:=x;exact⟨_,e⟩
 |xd fs=>obtain⟨_,⟨_,_,_,e,_⟩,_⟩:=x;exact⟨_,e⟩
 |rng lo hi=>obtain⟨_,_,_,e⟩:=x;exact⟨_,e⟩
 |frz ob u=>obtain⟨e,_⟩:=x;exact⟨_,e⟩
 |tbl ps=>exact⟨_,show h.get? a=some _ from x⟩
 |met f y=>exact⟨_,show h.get? a=some _ from x⟩
 |ext φ=>obtain⟨_,⟨_,e⟩,_⟩:=x;exact⟨_,e⟩
theorem HOk.thr(x:HOk P w H h)(e:H a=some o):∃ u,h.get? a=some u:=(x a o e).thr
theorem HOk.keptT(x:HOk P w H h)(k:∀ b u,H b≠none->h.get? b=some u->h'.get? b=some u):HOk P w H h':=fun a o e =>
 (x a o e).stay (fun b u hb q=>k b u (by rcases hb with rfl | hb<;>simp_all) q) (fun _ q=>q) fun _ _ q=>q
end
structure Lies (P:Program) (w:World) (l:List Env) (H:Hp) (s:Shared) (H':Hp) (s':Shared) (B:Heap):Prop where
 os:s'.os=s.os
 bare:AllBare s'.gens
 un:Un (frs l) [] H H' s.heap s'.heap
 hok:HOk P w H' s'.heap
 c1:∀ b o,s.heap.get? b=some o->H b=none->b∉frs l->B.get? b=some o
 c2:∀ b o,H' b≠none->s'.heap.get? b=some o->B.get? b=some o
 c3:∀ b o,s.heap.get? b=some o->b∉frs l->∃ o',B.get? b=some o'
abbrev CX1(P:Program)(w:World):CXT:=fun l H s E e s'=>∃ (a:Addr) (cls a0:Value) (H':Hp) (B:Heap),e=.ref a/\Lies P w l H s H' s' B/\Heap.FlyingW B l a cls a0 s'.heap/\∃ dd:Option Addr,(∀ D,dd=some D->DictAt a D s'.heap)/\E cls dd H'
section
variable {X:Cx}{pins:List (Addr×Obj)}{σ:St}{H H':Hp}{s s':Shared}{B h2:Heap}{t2:Nat}
theorem Lies.un2(I:Inv X pins σ H s)(L:Lies X.prog X.w X.stack H s H' s' B)(st:B.StaysIn h2)(up:s'.heap.UpToSlots h2):Un (frs X.stack) [] H H' s.heap h2:=by
 have sl:∀ b o,s.heap.get? b=some o->b∈frs X.stack->∃ z,h2.get? b=some { o with slots:=z }:=fun b o q hb=>by
  obtain⟨z,e1⟩:=L.un.slot b o q (I.stkFree b hb) hb (by simp);obtain⟨_,o',ho',hd⟩:=I.stack.mem hb;rw[q] at ho';cases ho';obtain⟨z2,e2⟩:=up b _ e1 (fun vs z=>hd vs z);exact⟨z2,e2⟩
 refine⟨fun b o q n hb _=>st b o (L.c1 b o q n hb),fun b o q _ hb _=>sl b o q hb,fun b o q n hx=>L.un.free b o q n hx,fun b o q _=>?_,L.un.tups,L.un.frzs,L.un.tbls⟩;by_cases hb:b∈frs X.stack
 ·obtain⟨z,e⟩:=sl b o q hb
  exact⟨_,e⟩
 ·obtain⟨o',e⟩:=L.c3 b o q hb
  exact⟨o',st b o' e⟩
theorem Lies.ok2{l:List Env}{P:Program}{w:World}(L:Lies P w l H s H' s' B)(st:B.StaysIn h2):HOk P w H' h2:=L.hok.keptT fun b u hb q=>st b u (L.c2 b u hb q)
theorem Lies.inv(I:Inv X pins σ H s)(L:Lies X.prog X.w X.stack H s H' s' B)(st:B.StaysIn h2)(up:s'.heap.UpToSlots h2):Inv X pins σ H' { s' with heap:=h2,toks:=t2 }:=by
 refine I.call' (s':={ s' with heap:=h2,toks:=t2 }) (ch:=[]) L.os (L.un2 I st up) (L.ok2 st) L.bare (fun b z=>absurd z (by simp))
theorem Lies.out(I:Inv X pins σ H s)(L:Lies X.prog X.w X.stack H s H' s' B)(st:B.StaysIn h2)(up:s'.heap.UpToSlots h2)(hx:X.ex=[]):Lies X.prog X.w X.outer X.H₀ X.s₀ H' { s' with heap:=h2 } B:=by
 have J:=Lies.inv (t2:=s'.toks) I L st up;have ns:∀ b o,X.s₀.heap.get? b=some o->b∉frs X.outer->b∉frs X.stack:=fun b o q hb z=>by
  rcases mem_cons.mp (I.stkSub b z) with e | e
  ·exact absurd (lt_of_lt_of_le (Heap.lt_size q) I.ok.above) (by rw[e];exact lt_irrefl _)
  ·exact hb e
 have hn:∀ b:Addr,b∉X.ex:=fun b=>by rw[hx];simp
 refine⟨J.os,J.bare,?_,J.hok,fun b o q n hb=>?_,fun b o hb q=>?_,fun b o q hb=>?_⟩
 ·have:=J.base
  rw[hx] at this;exact this
 ·exact L.c1 b o (I.base.keep b o q n hb (hn b)) (I.base.free b o q n (hn b)) (ns b o q hb)
 ·cases e:H' b with
  |none=>exact absurd e hb
  |some u =>
   obtain⟨v,hv⟩:=L.hok.thr e;have z:=L.c2 b v hb hv;have q':h2.get? b=some o:=q;rw[st b v z] at q';cases q';exact z
 ·obtain⟨o',e⟩:=I.base.there b o q (hn b)
  exact L.c3 b o' e (ns b o q hb)
theorem zao(I:Inv X pins σ H s)(k:∀ b u,s.heap.get? b=some u->h2.get? b=some u):Lies X.prog X.w X.stack H s H { s with heap:=h2 } (PySem.W.hideAll s.heap (frs X.stack)):=by
 refine⟨rfl,I.bare,Un.kept k,I.hok.kept k,fun b o q _ hb=>PySem.W.hideAll_get _ q hb,fun b o hb q=>?_,fun b o q hb=>⟨o,PySem.W.hideAll_get _ q hb⟩⟩;cases e:H b with
 |none=>exact absurd e hb
 |some u =>
  obtain⟨v,hv⟩:=I.hok.thr e;have q':h2.get? b=some o:=q;rw[k b v hv] at q';cases q';exact PySem.W.hideAll_get _ hv fun z=>hb (I.stkFree b z)
end
section
variable {P:Program}{w:World}{K:W.Frag}{mg:Str->Option Value}{base:Heap}{N:List Str}{qual:Str}{scope:Scope}{f:Addr}{cd:Value}{A:Around}{outer:List Env}{s0:Shared}{H0:Hp}{E:XK}
theorem zd2:w6 (CX1 P w) (yM (CX1 P w) P w K mg base N qual scope f cd A outer s0 H0 E) E:=by
 rintro pins σ H s e s' I ⟨a,cls,a0,H',B,rfl,L,F,dd,hdd,q⟩;have hfr:=I.ok.frames;refine zcs (M:=model P w) (A:=A.deeper (envOfC qual scope s0.heap.objs.size f cd)) (outer:=outer) (L:=s0.heap.objs.size) hfr rfl F fun h2 F2 up kd=>?_;exact⟨a,cls,a0,H',B,rfl,L.out I F2.1 up rfl,F2,dd,fun D e=>kd _ _ (hdd D e),q⟩
theorem zer{pins:List (Addr×Obj)}{σ:St}{H:Hp}{s:Shared}{h':Heap}{e:Addr}{cls:Value}{args:List Value}(I:Inv (yM (CX1 P w) P w K mg base N qual scope f cd A outer s0 H0 E) pins σ H s)
  (hx:Heap.MadeExcOf s.heap h' e cls args) (q:E cls none H):(yM (CX1 P w) P w K mg base N qual scope f cd A outer s0 H0 E).xe (.ref e) { s with heap:=h' }:=by
 have hfr:=I.ok.frames;have L:=zao I hx.keeps;refine wpAny_leaves_madeW (M:=model P w) (A:=A.deeper (envOfC qual scope s0.heap.objs.size f cd)) (s:={ s with heap:=h' }) (outer:=outer) (L:=s0.heap.objs.size) (base:=PySem.W.hideAll s.heap (frs (envOfC qual scope s0.heap.objs.size f cd::outer))) hfr rfl (fun b o q=>PySem.W.of_hideAll _ q)
  (PySem.W.funFrames_hide I.stack fun env he b hb=>mem_filterMap.mpr ⟨env,he,hb⟩) hx fun h2 t F2 _ _ up=>?_
 exact⟨e,cls,.ref t,H,_,rfl,L.out I F2.1 up rfl,F2,none,(fun D e=>nomatch e),q⟩
end
noncomputable abbrev Yn:List Value:=[.type "ValueError",.type "Exception",.type "BaseException",.type "object"]
def XCls(K:W.Frag)(C:Addr):Prop:=PySem.W.excIn K C Yn "ValueError.__new__" = true
def zhs(h:Heap)(C:Addr):Prop:=∃ bm N nm qn bs hd sn sub ab col dd k0 k1 k2 k3 k5 mN,h.get? C=some (excClassObj nm qn C N bs bm hd sn sub ab col dd k0 k1 k2 k3 k5 "ValueError.__new__")/\h.Ns N mN/\mN "__init__" = none/\OwnTail h Yn bm
theorem XCls.obj{K:W.Frag}{C:Addr}(x:XCls K C){h:Heap}(I:K.In h):zhs h C:=by
 unfold XCls PySem.W.excIn at x
 split at x
 case h_2=>cases x
 case h_1 dd cd sl lk =>
  split at x
  case h_2=>cases x
  case h_1 C2 bm k0 k1 k2 k3 nid k5 em es =>
   rw[and_eq_true,and_eq_true,and_eq_true,and_eq_true,and_eq_true] at x;obtain⟨⟨⟨⟨⟨x1,x2⟩,x3⟩,x4⟩,x5⟩,x6⟩:=x;cases (beq_iff_eq.mp x1);cases (beq_iff_eq.mp x2);cases cd with
   |mk nm bs mro ns qn hd sn sub ab col del =>
    have e1:mro=.ref C::bm:=em;have e2:del=false:=by
     cases del with
     |false=>rfl
     |true=>cases x3
    have e3:sl = #[k0,k1,k2,k3,some (.builtin "ValueError.__new__"),k5]:=by
     cases sl with
     |mk l =>
      have e:l=_:=es;rw[e]
    rw[e1,e2,e3] at lk;exact⟨bm,ns,nm,qn,bs,hd,sn,sub,ab,col,dd,k0,k1,k2,k3,k5,_,I _ _ lk,.of_isNs (PySem.W.isNs_of_in I x5),PySem.W.nsMap_none_of_in I x5 (beq_iff_eq.mp x6),PySem.W.tail_of_in I x4⟩
section
variable {P:Program}{w:World}{K:W.Frag}{mg:Str->Option Value}{base:Heap}{N:List Str}{qual:Str}{scope:Scope}{f:Addr}{cd:Value}{A:Around}{outer:List Env}{s0:Shared}{H0:Hp}{E:XK}
 {x:Str}{C:Addr}{e:Expr}{es:List Expr}{t:TA}{np cpos pos:Pos}
def tRz(C:Addr)(E:XK)(t:TA):TS:=fun _ σ H=>t σ H fun vs H1=>vs.length<=1000/\E (.ref C) none H1
theorem wG(hc:(A.deeper (envOfC qual scope s0.heap.objs.size f cd)).handled=none)(c:XCls K C)(hm:mg x=some (.ref C))(ha:PA (yM (CX1 P w) P w K mg base N qual scope f cd A outer s0 H0 E) (e::es) t)
  (hg:Gl (yM (CX1 P w) P w K mg base N qual scope f cd A outer s0 H0 E) x:=by rfl)
  (he:starEach (e::es) (yM (CX1 P w) P w K mg base N qual scope f cd A outer s0 H0 E).env=(false,eval e (yM (CX1 P w) P w K mg base N qual scope f cd A outer s0 H0 E).env)::starEach es (yM (CX1 P w) P w K mg base N qual scope f cd A outer s0 H0 E).env:=by rfl)
  (hpl:(backTo cpos (starEach es (yM (CX1 P w) P w K mg base N qual scope f cd A outer s0 H0 E).env)).any (·.1)=false:=by rfl) (hdb:(x == ("__debug__" : Str))=false:=by decide) :
  PS (yM (CX1 P w) P w K mg base N qual scope f cd A outer s0 H0 E) (.Raise (some (.Call (.Name x np) (e::es) [] cpos)) none pos) (tRz C E t):=by
 intro pins s σ H D I h;obtain⟨bm,Nn,nm,qn,bs,hd,sn,sub,ab,col,dd,k0,k1,k2,k3,k5,mN,h1,h2,h3,h4⟩:=c.obj I.mod.kin;refine wpAny_Raise_call_subT (C:=C) (nm:=nm) (q:=qn) (N:=Nn) (bs:=bs) (bm:=bm) (hdct:=hd) (sn:=sn) (sub:=sub) (ab:=ab) (col:=col) (dd:=dd) (k0:=k0) (k1:=k1) (k2:=k2) (k3:=k3) (k5:=k5) PySem.F.excBase_ValueError (mN:=mN)
  (h4.hasType rfl) hc (by rw[he];exact hpl) h3 (ld_glob I hg hm ⟨rfl,?_⟩ hdb)
 have hA:=ha cpos pins s σ H _ I h;rw[he] at hA ⊢;refine Calls.evalArgs_plain (wpAny_mono hA (fun us s2 hq=>?_) fun _ _ z=>z);obtain⟨vs,H1,I1,r1,hl,q⟩:=hq;refine⟨rfl,?_,I1.bk _ _ h1,h2.keeps I1.bk,h4.keeps I1.bk,fun h' e' hx=>zer I1 hx q⟩;show us.length<=sizeLine;rw[<- r1.length];exact le_of_lt (ye hl)
end
def XP(X:Cx)(pins:List (Addr×Obj))(σ:St)(E:XK)(e:Value)(s':Shared):Prop:=∃ H1 s1,Inv X pins σ H1 s1/\CX1 X.prog X.w X.stack H1 s1 E e s'
def PV(X:Cx)(e:Expr)(t:XK->TE):Prop:=∀ (pins:List (Addr×Obj)) (s:Shared) (σ:St) (H:Hp) (Q:VK) (E:XK),Inv X pins σ H s->t E σ H Q->wpAny (model X.prog X.w) X.A (eval e X.env) (EP X pins σ Q) (XP X pins σ E) s
def PX(X:Cx)(b:List Stmt)(t:XK->TS):Prop:=∀ (pins:List (Addr×Obj)) (s:Shared) (σ:St) (H:Hp) (D:Ends) (E:XK),Inv X pins σ H s->t E D σ H->wpAny (model X.prog X.w) X.A (execs b X.env) (SP X pins D) (XP X pins σ E) s
section
variable {X:Cx}{k:Nat}{f C:Addr}{fd:FuncData}{ps:List Str}{sp:Sp}{dvs:List V}{ds:List Value}{x:Str}{p pos:Pos}{e:Expr}{es:List Expr}{t:TA}
theorem zbP{E:XK}{pins:List (Addr×Obj)}{σ:St}{H:Hp}{s:Shared}{Q:VK}{us:List Value}{vs:List V}(F:FnOk X.prog X.w X.K X.mg X.base (CX1 X.prog X.w) k f fd ps sp)(hr:Room k X.A)(hb:Binds X.K fd ps ds)(hd:Vals dvs ds)
  (I:Inv X pins σ H s) (r:Vals vs us) (h:sp (vs++dvs) H Q E):wpAny (model X.prog X.w) X.A (call (.ref f) us) (EP X pins σ Q) (XP X pins σ E) s:=by
 have r2:Vals (vs++dvs) (us++ds):=r.append hd;have hl:(us++ds).length=ps.length:=by rw[<- r2.length];exact F.len _ _ _ _ h
 refine wpAny_call (codeAny_mono (F.run X.A X.stack s H ⟨us,[]⟩ (us++ds) (vs++dvs) Q E hr I.env0 (hb s us I.kIn hl) r2 h) fun r s' hq=>?_);cases r with
 |error e=>exact⟨H,s,I,hq⟩
 |ok fl =>
  cases fl with
  |ret u=>exact I.after hq
  |next=>exact False.elim hq
  |brk=>exact False.elim hq
  |cont=>exact False.elim hq
theorem zbW(F:FnOk X.prog X.w X.K X.mg X.base (CX1 X.prog X.w) k f fd ps sp)(hr:Room k X.A)(hm:X.mg x=some (.ref f))(hk:PySem.W.keepIn X.K (.ref f)=true)(hb:Binds X.K fd ps [])
  (ha:PA X.nox (e::es) t) (hg:Gl X x:=by rfl) (hdb:(x == ("__debug__" : Str))=false:=by decide) (he:starEach (e::es) X.env=(false,eval e X.env)::starEach es X.env:=by rfl) (hpl:(backTo pos (starEach es X.env)).any (·.1)=false:=by rfl) :
  PV X (.Call (.Name x p) (e::es) [] pos) (fun E=>w8 sp [] E t):=by
 intro pins s σ H Q E I h;refine wpAny_Call_Name_kw (ld_glob I hg hm ?_ hdb);refine PySem.W.callWith_K (h₀:=X.base) I.ok.mod.kin hk (wpAny_mono (ha pos pins s σ H _ (I.wish _) h) (fun us s1 hq=>?_) (fun _ _ z=>False.elim z)) he hpl;obtain⟨vs,H1,I1,r,q⟩:=hq;exact⟨I1.unwish.kIn,zbP F hr hb .nil I1.unwish r q⟩
theorem WF{te:XK->TE}(h:Bx (PV X e te))(hs:swapsWith e none pos.line X.env=pure false:=by rfl):Bx (PX X [.Expr e pos] (fun E=>UR (te E))):=by
 have h:=h.of;refine⟨?_⟩;intro pins s σ H D E I q;refine wpAny_execs_cons (wpAny_Expr_any (wpAny_mono (h pins s σ H _ E I q) (fun v s1 hq=>?_) fun _ _ z=>z) I.quiet hs);obtain⟨y,H1,I1,r1,q1⟩:=hq;exact wpAny_execs_nil ⟨σ,H1,I1,q1⟩
end
noncomputable abbrev Cx.inH(X:Cx)(a:Addr):Cx:={ X with A:=X.A.mark (some (.ref a)),calm:=false,xe:=fun _ _=>False }
section
variable {X:Cx}{pins:List (Addr×Obj)}{σ:St}{H:Hp}{s:Shared}{a:Addr}
theorem Inv.inH(I:Inv X pins σ H s)(a:Addr):Inv (X.inH a) pins σ H s :=
 ⟨⟨I.ok.mod,I.ok.kind,I.ok.glob,I.ok.blt,I.ok.above,I.ok.inj,I.ok.has,I.ok.cab,(fun z=>nomatch z),I.ok.frames,I.ok.stk,I.ok.exf,I.ok.bs,I.ok.bsz,I.ok.noex,I.ok.exfs,I.ok.funs,I.ok.frf⟩,I.os,I.bare,I.base,I.loc,I.cell,I.free,I.freeC,I.pin,I.hok,I.len⟩
theorem Inv.unH(ok:X.Ok)(I:Inv (X.inH a) pins σ H s):Inv X pins σ H s:=⟨ok,I.os,I.bare,I.base,I.loc,I.cell,I.free,I.freeC,I.pin,I.hok,I.len⟩
theorem SP.unH{D:Ends}{f:Flow}{s':Shared}(ok:X.Ok)(h:SP (X.inH a) pins D f s'):SP X pins D f s':=by
 cases f with
 |next=>obtain⟨σ',H',I,q⟩:=h;exact⟨σ',H',I.unH ok,q⟩
 |brk=>obtain⟨σ',H',I,q⟩:=h;exact⟨σ',H',I.unH ok,q⟩
 |cont=>obtain⟨σ',H',I,q⟩:=h;exact⟨σ',H',I.unH ok,q⟩
 |ret u=>obtain⟨v,σ',H',I,r,q⟩:=h;exact⟨v,σ',H',I.unH ok,r,q⟩
end
structure Callee1 (P:Program) (w:World) (K:W.Frag) (mg:Str->Option Value) (base:Heap) (x:Str) (f:Addr) (fd:FuncData) (ps:List Str) (k:Nat) (sp:Sp):Prop where
 ok:FnOk P w K mg base (CX1 P w) k f fd ps sp
 g:mg x=some (.ref f)
 kp:PySem.W.keepIn K (.ref f)=true
 b:Binds K fd ps []
structure Maker1 (P:Program) (w:World) (K:W.Frag) (mg:Str->Option Value) (base:Heap) (x:Str) (C f:Addr) (fd:FuncData) (ps:List Str) (k:Nat) (sp:Sp):Prop where
 ok:FnOk P w K mg base (CX1 P w) k f fd ps sp
 g:mg x=some (.ref C)
 mm:Mk K C f
 b:Binds K fd ps []
section
variable {X:Cx}{k:Nat}{f C:Addr}{fd:FuncData}{ps:List Str}{sp:Sp}{x:Str}{p pos:Pos}{e:Expr}{es:List Expr}{t:TA}
theorem zdn(c:Callee1 X.prog X.w X.K X.mg X.base x f fd ps k sp)(hr:Room k X.A)(ha:Bx (PA X.nox (e::es) t))(hg:Gl X x:=by rfl)(hdb:(x == ("__debug__" : Str))=false:=by decide)(he:starEach (e::es) X.env=(false,eval e X.env)::starEach es X.env:=by rfl)(hpl:(backTo pos (starEach es X.env)).any (·.1)=false:=by rfl):Bx (PV X (.Call (.Name x p) (e::es) [] pos) (fun E=>w8 sp [] E t)):=by
 have ha:=ha.of;exact⟨zbW c.ok hr c.g c.kp c.b ha hg hdb he hpl⟩
end
section
variable {P:Program}{w:World}{K:W.Frag}{mg:Str->Option Value}{base:Heap}
theorem Fun.ok1{x qual:Str}{st:Stmt}{f:Addr}{fd:FuncData}{N ps:List Str}{k:Nat}{sp:Sp}(F:Fun K x qual st f fd)(S:FnScope N ps (defScope st))(len:∀ vs H Q E,sp vs H Q E->vs.length=ps.length)
  (hbody:∀ (cdv:Value) (A:Around) (outer:List Env) (s:Shared) (H:Hp) (vs:List V) (Q:VK) (E:XK),Room k (A.deeper (envOfC qual (defScope st) s.heap.objs.size f cdv))->sp vs H Q E ->
   ∃ t,PSs (yM (CX1 P w) P w K mg base N qual (defScope st) f cdv A outer s H E) (defBody st) t/\t { nx:=fun _ H'=>Q .non H',rt:=Q } (start N vs) H):FnOk P w K mg base (CX1 P w) (k+1) f fd ps sp:=by
 obtain⟨oc,od,kV,doc,pm,an,cdv,ct,osl,rfl,lk,hcd⟩:=F.ex;exact zeK lk hcd S len fun A outer s H vs Q E hr hsp=>hbody cdv A outer s H vs Q E hr hsp
end
end L2
namespace L2
open PySem PySem.W PySem.Spec PySem.Calls PyProof.Rows PySem.Builtin PySem.Builtin.ObjectAttr PySem.Builtin.Getset_descriptor
def ObC(x C:Addr)(h:Heap):Prop:=∃ o,h.get? x=some o/\o.cls=.ref C
structure XIs (K:Frag) (C:Addr):Prop where
 ga:findIn K (.ref C) "__getattribute__" = some (some (.builtin "BaseException.__getattribute__"))
 gt:findIn K (.ref C) "__getattr__" = some none
 ha:findIn K (.ref C) "__class__" = some (some (.builtin "object.__class__"))
 hn:specialIn K (.builtin "object.__class__") "__get__" = some (some (.builtin "getset_descriptor.__get__"))
 htk:takesIn K (.builtin "object.__class__")=some true
 hm:mroIn K C (.type "object")=some true
 hb:mroIn K C (.type "BaseException")=some true
 hd:hasDictIn K C=true
section
variable {K:Frag}{M:Model}{h:Heap}{x C:Addr}{name:Str}
theorem ObC.type(I:ObC x C h):Looks M h (typeOf (.ref x)) (.ref C):=by
 obtain⟨o,h1,h2⟩:=I;rw[<- h2];exact(Looks.ld h1).andThen .now
theorem Uk{a g:Value}(X:K.In h)(ha:findIn K (.ref C) name=some (some a))(hg:specialIn K a "__get__" = some (some g))(hd:takesIn K a=some true) :
  Looks M h (find (.ref x) (.ref C) name) (.bind g a):=by
 have L2:Looks M h (getOf (some a)) (some g):=looks_specialIn X hg;have L3:Looks M h (dataDescriptor? (some a) (some g)) (some (g,a)):=(looks_takesIn X hd).andThen .now;exact(looks_findIn X ha).andThen (L2.andThen (L3.andThen (Looks.tag .now)))
end
section
variable {prog:Program}{w:World}{A:Around}{E:Value->Shared->Prop}{K:Frag}{x C:Addr}{s:Shared}
theorem zcV{R:Result->Shared->Prop}{tp:Value}(X:K.In s.heap)(I:ObC x C s.heap)(hm:mroIn K C (.type "object")=some true)(k:R (.ok (.ret (.ref C))) s) :
  codeAny (model prog w) A (.call (.builtin "getset_descriptor.__get__") ⟨[.builtin "object.__class__",.ref x,tp],[]⟩) R s:=by
 obtain⟨hh,gg,dr,tt,ss⟩:=s;have T0:=I.type (M:=model prog w);have T1:=looks_mroIn (M:=model prog w) X hm;refine codeAny_call_builtin KF.slot_gs.plain KF.entry_gs ?_;refine KF.slot_gs.check _ _ _ _ _ _ _ _ KF.type_class (KF.args_gs _ _ _) ?_;unfold Builtin.«getset_descriptor.__get__»;unfold descrGet;rw[dga_obj];refine wpAny_bind (wpAny_pure ?_);unfold descrGetter descrCheckInstance;unfold descrNameAndClass isInstance;simp only[KF.owner_class]
 repeat lk
 refine⟨Code.quiet_builtin _ (by decide +kernel),?_⟩;refine codeAny_builtin KF.entry_class ?_;unfold Builtin.«object.__class__»;unfold shownTypeOf
 repeat lk
 exact k
theorem XU{nameV:Value}{Q:Unit->Shared->Prop}(X:K.In s.heap)(I:ObC x C s.heap)(hb:mroIn K C (.type "BaseException")=some true)(k:Q () s) :
  wpAny (model prog w) A (checkBuiltinCall "BaseException.__getattribute__" ⟨[.ref x,nameV],[]⟩) Q E s:=by
 have T0:=I.type (M:=model prog w);have T1:=looks_mroIn (M:=model prog w) X hb;have hk:builtinKind "BaseException.__getattribute__" = some .slot:=by decide +kernel
 have hsplit:splitId "BaseException.__getattribute__" = some ("BaseException", "__getattribute__"):=by decide +kernel
 have ha:=F.args_bexc_ga (.ref x) nameV;obtain⟨hh,gg,dr,tt,ss⟩:=s;simp only[checkBuiltinCall,hk,hsplit];refine wpAny_bind ?_;unfold isInstance
 repeat lk
 exact k
theorem Uv{tk:Tok}{Q:Fin->Shared->Prop}(X:K.In s.heap)(I:ObC x C s.heap)(c:XIs K C)(k:Q (.done (.ret (.ref C))) s) :
  wpAny (model prog w) A (Builtin.«object.__getattribute__» ⟨[.ref x,.str "__class__" tk],[]⟩) Q E s:=by
 have T0:=I.type (M:=model prog w);have T1:=Uk (M:=model prog w) (x:=x) X c.ha c.hn c.htk;obtain⟨hh,gg,dr,tt,ss⟩:=s;unfold Builtin.«object.__getattribute__»
 repeat lk
 refine wpAny_run (h:=none) ?_;exact zcV X I c.hm (wpAny_pure (wpAny_pure k))
theorem zeR{tk:Tok}{Q:Value->Shared->Prop}(X:K.In s.heap)(I:ObC x C s.heap)(c:XIs K C)(k:Q (.ref C) s) :
  wpAny (model prog w) A (getAttrBy (.ref x) (.str "__class__" tk) false) Q E s:=by
 have T0:=I.type (M:=model prog w);have T1:=looks_findIn (M:=model prog w) X c.ga;have T2:=looks_findIn (M:=model prog w) X c.gt;have f3:=F.attr_ValueError.ga.bind (.ref x);obtain⟨hh,gg,dr,tt,ss⟩:=s;unfold getAttrBy;refine wpAny_holding (wpAny_bind (T0.at (wpAny_bind (T1.at ?_))));show wpAny _ _ (if (onTheHeap (Value.ref C)&&Value.builtin "BaseException.__getattribute__" == Value.builtin "object.__getattribute__")=true then _ else _) _ _ _;have z:(Value.builtin "BaseException.__getattribute__" == Value.builtin "object.__getattribute__")=false:=by decide +kernel
 rw[z,Bool.and_false,if_neg Bool.false_ne_true];unfold getAttrByItsOwn;refine wpAny_bind (T2.at ?_);refine wpAny_bind (wpAny_attempt (wpAny_holding ?_));show wpAny _ _ (boundAndCalled _ _ _) _ _ _;unfold boundAndCalled;rw[f3];refine wpAny_bind (wpAny_pure (wpAny_call ?_));refine codeAny_call_builtin F.attr_ValueError.ga.plain F.entry_bexc_ga ?_;exact XU X I c.hb (Uv X I c (wpAny_pure k))
theorem zaL{Q:Option Value->Shared->Prop}(X:K.In s.heap)(I:ObC x C s.heap)(c:XIs K C)(k:Q (some (.ref C)) { s with toks:=s.toks+1 }) :
  wpAny (model prog w) A (getAttr? (.ref x) "__class__") Q E s:=by
 obtain⟨hh,gg,dr,tt,ss⟩:=s;unfold getAttr? getAttrBy?;refine wpAny_bind (wpAny_mkText (wpAny_bind (wpAny_attempt ?_)));exact zeR (s:=⟨hh,gg,dr,tt+1,ss⟩) X I c (wpAny_pure k)
theorem XJ(c:XIs K C):KitX K (.ref x) (.ref C) (ObC x C) where
 ty:=fun _ _ _ I=>I.type
 it:=fun _ _ X _=>by
  obtain⟨cd,hc,_⟩:=any_some c.hd;unfold clsIn at hc
  split at hc
  ·rename_i ho
   intro A' Q' E' s' k q;unfold isType loadHead;exact wpAny_bind (wpAny_loadPart (k _ _ (X _ _ ho)) (wpAny_pure q))
  ·cases hc
 ne:=fun h tp dd its n sl X htp=>by
  obtain⟨cd,hc,_⟩:=any_some c.hd;refine eq_false_iff.mpr fun q=>?_;cases Value.ref.inj (beq_iff_eq.mp q);unfold clsIn at hc
  split at hc
  ·rename_i ho
   cases (X _ _ ho).symm.trans htp
  ·cases hc
 ca:=fun X I k=>zaL X I c k
end
end L2
namespace L2
open PySem PySem.Spec PyProof.Rows
section
variable {X:Cx}{pins:List (Addr×Obj)}{σ:St}{H:Hp}{s:Shared}
theorem WU{M:Model}{A:Around}{E:Value->Shared->Prop}{i:Nat}{x:Str}{Q:Unit->Shared->Prop}(I:Inv X pins σ H s)(hN:X.N.Nodup)(hi:X.N[i]?=some x)(hk:X.env.scope.names.lookup x=some .local){v:V}(hv:σ[i]?=some (some v))
  (h:∀ s',Inv X pins (σ.set i none) H s'->Q () s'):wpAny M A (unbindName X.env x) Q E s:=by
 obtain⟨m,hn,hl⟩:=id I.loc;have hcls:(X.env.scope.kind == .class||(X.env.scope.kind == .module&&X.env.locals != X.env.globals))=false:=by rw[I.ok.kind];rfl
 have cne:=I.cne;have hm:∃ u,m x=some u:=by
  obtain⟨u,_,q⟩:=hl i x v hi hv (.inl hk);rcases q with⟨_,e⟩ | ⟨k,_⟩
  ·exact⟨u,e⟩
  ·have hk':X.env.kindOf x=some .local:=hk
   rw[hk'] at k;rcases k with k | k<;>cases k
 obtain⟨u0,hm⟩:=hm;obtain⟨oL,_,_,hoL,_⟩:=id hn;refine wpAny_unbindName_local hk hn hm hcls fun h' u' hn' hs=>?_;have tracked:HOk X.prog X.w H h':=fun b ob e=>by
  refine(I.hok b ob e).stay (fun c w' hc q=>(hs.2 c ?_).trans q) (fun _ q=>q) fun _ _ q=>q;rintro rfl;have hfree:=I.free;rcases hc with rfl | hc
  ·rw[hfree] at e;cases e
  ·rw[hfree] at hc;cases hc
 refine h _ ⟨I.ok,I.os,I.bare,⟨fun b o e n hb hx=>?_,fun b o e n hb hx=>?_,I.base.free,fun b o e hx=>?_,I.base.tups,I.base.frzs,I.base.tbls⟩,⟨_,hn',fun j y v' e1 e2 e3=>?_⟩,fun y c e=>?_,I.free,I.freeC,fun p hp=>?_,tracked,by simpa using I.len⟩
 ·exact(hs.2 b (ne_of_lt (lt_of_lt_of_le (Heap.lt_size e) I.ok.above))).trans (I.base.keep b o e n hb hx)
 ·obtain⟨sl,e1⟩:=I.base.slot b o e n hb hx
  exact⟨sl,(hs.2 b (ne_of_lt (lt_of_lt_of_le (Heap.lt_size e) I.ok.above))).trans e1⟩
 ·obtain⟨o',e1⟩:=I.base.there b o e hx
  exact⟨o',(hs.2 b (ne_of_lt (lt_of_lt_of_le (Heap.lt_size e) I.ok.above))).trans e1⟩
 ·by_cases hj:j=i
  ·subst hj
   rw[List.getElem?_set] at e2;simp at e2
  ·rw[List.getElem?_set_ne (Ne.symm hj)] at e2
   obtain⟨u',r',q⟩:=hl j y v' e1 e2 e3;refine⟨u',r',?_⟩;rcases q with⟨k,e⟩ | ⟨k,c,e,z⟩
   ·refine .inl ⟨k,?_⟩
    have:y≠x:=fun e=>hj (nodup_ix hN e1 (e ▸ hi));simp[this,e]
   ·exact .inr ⟨k,c,e,z.sameBut hs (cne y c e)⟩
 ·obtain⟨w',z⟩:=I.cell y c e
  exact⟨w',z.sameBut hs (cne y c e)⟩
 ·obtain⟨e,n,ne,nf,d⟩:=I.pin p hp
  exact⟨(hs.2 p.1 ne).trans e,n,ne,nf,d⟩
theorem Zo{M:Model}{A:Around}{E:Value->Shared->Prop}{i:Nat}{x:Str}{pos:Pos}{Q:Unit->Shared->Prop}(I:Inv X pins σ H s)(hN:X.N.Nodup)(hi:X.N[i]?=some x)(hk:X.env.scope.names.lookup x=some .local)
  (h:∀ s',Inv X pins (σ.set i none) H s'->Q () s'):wpAny M A (do bindName X.env x .none;unbindBehindTheSuite X.env x pos) Q E s:=by
 have hiσ:i<σ.length:=by rw[I.len];exact(List.getElem?_eq_some_iff.mp hi).1
 refine wpAny_bind (wpAny_bindName (store_ok (v:=.non) I hN hi (.inl hk) rfl (fun s1 I1=>?_) (.inr hk)));unfold unbindBehindTheSuite;refine wpAny_onRaise (WU I1 hN hi hk (v:=.non) (List.getElem?_set_self hiσ) fun s2 I2=>h s2 ?_);rw[List.set_set] at I2;exact I2
end
noncomputable abbrev Ends.sans(D:Ends)(i:Nat):Ends:={ nx:=fun σ H=>D.nx (σ.set i none) H,rt:=D.rt,bk:=fun σ H=>D.bk (σ.set i none) H,ct:=fun σ H=>D.ct (σ.set i none) H }
end L2
namespace L2
open PySem
section
variable {X:Cx}{es:List Expr}{t:TA}{te:TE}
theorem zd3{c j pos}(ha:PE X (.Constant c j pos) te)(hr:PA X es t):PA X (.Constant c j pos::es) (yr te t):=xo ha hr rfl
theorem zaR{xs c pos}(ha:Bx (PE X (.Tuple xs c pos) te))(hr:Bx (PA X es t)):Bx (PA X (.Tuple xs c pos::es) (yr te t)):=by
 have ha:=ha.of;have hr:=hr.of;exact⟨xo ha hr rfl⟩
theorem zgw{f xs ks pos}(ha:PE X (.Call f xs ks pos) te)(hr:PA X es t):PA X (.Call f xs ks pos::es) (yr te t):=xo ha hr rfl
theorem zU{l o r pos}(ha:Bx (PE X (.BinOp l o r pos) te))(hr:Bx (PA X es t)):Bx (PA X (.BinOp l o r pos::es) (yr te t)):=by
 have ha:=ha.of;have hr:=hr.of;exact⟨xo ha hr rfl⟩
theorem we{x pos}(ha:PE X (.Name x pos) te)(hr:PA X es t):PA X (.Name x pos::es) (yr te t):=xo ha hr rfl
end
end L2
namespace L2
open PySem PySem.Spec PyProof.Rows PySem.Builtin PySem.Builtin.Str
section
variable {X:Cx}
theorem Zz:∀ {ws:List PySem.Str}{us:List Value},Vals (ws.map V.str) us->∃ l:List (PySem.Str×Tok),strValues l=us/\l.map (·.1)=ws
 |[],_,.nil=>⟨[],rfl,rfl⟩
 |w::ws,_,.cons ⟨t,e⟩ r=>by
  obtain⟨l,e1,e2⟩:=Zz r;subst e;exact⟨(w,t)::l,by rw[<- e1];rfl,by rw[map_cons,e2]⟩
theorem ZD:∀ (l:List (PySem.Str×Tok)),Vals ((l.map (·.1)).map V.str) (strValues l)
 |[]=>.nil
 |(w,t)::l=>.cons ⟨t,rfl⟩ (ZD l)
def zbU:V->List V->Hp->VK->Prop:=fun x vs H Q=>∃ a b,x=.str a/\vs=[.str b]/\Q (.bl (Txt.startswith a b)) H
theorem xE:MtR X "str.startswith" zbU:=by
 intro pins s σ H x vs v us Q I rx rv h;obtain⟨a,b,rfl,rfl,q⟩:=h;obtain⟨t,rfl⟩:=rx;obtain⟨u,rfl,t',rfl⟩:=rv.one;exact SC.startswith ⟨.bl _,H,I,rfl,q⟩
def UZ(K:W.Frag):V->List V->Hp->VK->Prop:=fun x vs H Q=>∃ sep p ws,x=.str sep/\vs=[.ref p]/\SqL K H p (ws.map V.str)/\JoinOk sep ws=true/\Q (.str (Txt.join sep ws)) H
theorem xU:MtR X "str.join" (UZ X.K):=by
 intro pins s σ H x vs v us Q I rx rv h;obtain⟨sep,p,ws,rfl,rfl,hq,hok,q⟩:=h;obtain⟨t,rfl⟩:=rx;obtain⟨u,rfl,ru⟩:=rv.one;cases ru;obtain⟨its,r,pl,hz⟩:=I.list hq;obtain⟨l,rfl,e⟩:=Zz r;exact SC.join pl.isList e hok fun t' k=>⟨.str _,H,I.tok _,⟨_,rfl⟩,q⟩
def zdV:V->List V->Hp->VK->Prop:=fun x vs H Q=>∃ a b,x=.str a/\vs=[.str b]/\(b.length == 0)=false/\a.length<=sizeLine/\(Txt.split a b).length<=sizeLine/\(partsBetween a (occurrences a b 0 a.length (a.length+1)) b.length).length<=sizeLine/\∀ p,H p=none->Q (.ref p) (upd H p (.lst ((Txt.split a b).map V.str)))
theorem xF:MtR X "str.split" zdV:=by
 intro pins s σ H x vs v us Q I rx rv h;obtain⟨a,b,rfl,rfl,hb,hz,hz1,hz2,q⟩:=h;obtain⟨t,rfl⟩:=rx;obtain⟨u,rfl,t',rfl⟩:=rv.one;have fin:∀ (l:List (PySem.Str×Tok)) (k:Nat),l.map (·.1)=Txt.split a b->EP X pins σ Q (.ref s.heap.objs.size) { s with heap:=s.heap.push { cls:=.type "list",data:=.seq (strValues l).toArray },toks:=k }:=fun l k e=>by
  refine⟨.ref s.heap.objs.size,_,I.laid (t':=k) (fun b o q=>Heap.get?_push_of_some _ q) (Nat.le_refl _) (show ObjOk X.prog X.w _ _ _ (.lst ((Txt.split a b).map V.str)) from⟨?_,strValues l,0,?_,Heap.get?_push_size _ rfl⟩),rfl,q _ (I.hok.fresh (Nat.le_refl _))⟩
  ·rw[length_map];exact hz1
  ·rw[<- e];exact ZD l
 cases h1:(decide (a.length<b.length)||decide (strKind a<strKind b))
 ·cases hf:(occurrences a b 0 a.length (a.length+1)).isEmpty
  ·refine call_meets F.slot_str_split (typeIs_str _ _ _) F.entry_str_split (F.args_str_split_2 _ _) (meets_str_split_sep a b t t' h1 hb hf hz hz2) ?_
   show wants _ _ _ { s with toks:=_,heap:=s.heap.push { cls:=.type "list",data:=.seq (strsFrom s.toks (partsBetween a (occurrences a b 0 a.length (a.length+1)) b.length)).toArray } };rw[strsFrom_eq];exact fin (numbered s.toks _) _ ((numbered_texts _ _).trans ((if_neg (ne_true_of_eq_false h1)).trans (if_neg (ne_true_of_eq_false hf))).symm)
  ·exact call_meets F.slot_str_split (typeIs_str _ _ _) F.entry_str_split (F.args_str_split_2 _ _) (meets_str_split_not_found a b t t' h1 hb hf)
    (fin [(a,t)] s.toks ((if_neg (ne_true_of_eq_false h1)).trans (if_pos hf)).symm)
 ·exact call_meets F.slot_str_split (typeIs_str _ _ _) F.entry_str_split (F.args_str_split_2 _ _) (meets_str_split_cannot_occur a b t t' h1)
   (fin [(a,t)] s.toks (if_pos h1).symm)
def zg6(neg:Bool):R2:=fun x y H Q=>∃ a b,x=.str a/\y=.str b/\Q (.bl (if neg then !Txt.contains b a else Txt.contains b a)) H
theorem ZU:OpR X (compareOp .NotIn) (zg6 true):=by
 intro pins s σ H x y v u Q I rx ry h;obtain⟨a,b,rfl,rfl,q⟩:=h;obtain⟨t,rfl⟩:=rx;obtain⟨t',rfl⟩:=ry;exact P.notIn_str ⟨.bl _,H,I,rfl,q⟩
theorem Yl:xr X (.type "int") (fun xs H Q=>∃ x n,xs=[.str x]/\intText? x=some n/\x.length<=640/\Q (.int n) H):=by
 intro pins s σ H xs us Q I r h;obtain⟨x,n,rfl,hn,hl,q⟩:=h;obtain⟨u,rfl,t,rfl⟩:=ud r;exact PySem.W.KIN.call_text hn hl ⟨.int n,H,I.tok _,⟨_,rfl⟩,q⟩
end
end L2
namespace L2
open PySem PySem.Spec PyProof.Rows
def Its(x:PySem.Str):It:=⟨fun i _=>i<x.cps.size,fun i H v H'=>H'=H/\∃ c,x.cps[i]?=some c/\v=.str ⟨#[c]⟩,fun i _=>x.cps.size<=i⟩
theorem UM{P:Program}{w:World}{K:W.Frag}{tg:Expr}(it:Addr)(x:PySem.Str)(t:Tok):Turn P w K tg (Its x) [it] it (fun i h=>h.IsStrIter it "str_ascii_iterator" x t i) where
 mem:=mem_singleton.mpr rfl
 obj:=fun i h st b hb=>by
  rw[mem_singleton.mp hb];obtain⟨o,e,_,d⟩:=st;exact⟨o,e,fun v z=>by rw[d] at z;cases z⟩
 keep:=fun i h h' ⟨o,e,r⟩ k=>⟨o,k it (mem_singleton.mpr rfl) o e,r⟩
 item:=by
  intro X hP hw hK hc i pins s σ H E I hf st hg;subst hP hw hK;obtain⟨f0,f1,f2,f3,f4,f5⟩:=hf it (mem_singleton.mpr rfl);have hx:x.cps[i]?=some x.cps[i]:=Array.getElem?_eq_getElem hg;refine wpAny_pyNext_ascii_item st hx fun h' st' sb=>?_;have I1:Inv X pins σ H { s with heap:=h',toks:=s.toks+1 }:=I.turned (fun b o hb e=>(sb.2 b hb).trans e) f0 f1 f3 f4 f5;obtain⟨o,e,c,d⟩:=id st';exact⟨_,rfl,Wt (s:={ s with heap:=h',toks:=s.toks+1 }) e c d (by decide) ⟨.str ⟨#[x.cps[i]]⟩,H,I1,⟨_,rfl⟩,⟨rfl,_,hx,rfl⟩,st',fun b hb=>(hf b hb).1⟩⟩
 done:=by
  intro X hP hw hK hc i pins s σ H E I hf st hg;subst hP hw hK;obtain⟨f0,f1,f2,f3,f4,f5⟩:=hf it (mem_singleton.mpr rfl);exact wpAny_pyNext_ascii_end (I.ok.hd hc) st (Array.getElem?_eq_none hg) fun h' eb=>⟨rfl,I.turned (t':=s.toks) (fun b o hb e=>eb b o hb e) f0 f1 f3 f4 f5⟩
 self:=fun _ _ _ _ _ st h=>wpAny_pyIter_striter_ascii st h
section
variable {X:Cx}{tg:Expr}
def zhj(te:TE):TI:=fun σ H R=>te σ H fun v H1=>∃ x,v=.str x/\x.cps.all (· < 128)=true/\R (Its x) H1
theorem Xg{e:Expr}{te:TE}(he:Bx (PE X e te)):Bx (PI X tg e (zhj te)):=by
 have he:=he.of;refine⟨?_⟩;intro pins s σ H R I h;refine thn (he pins s σ H _ I h) fun v s1 hq0=>?_;obtain⟨y,H1,I1,r1,q1⟩:=hq0;obtain⟨x,rfl,ha,q⟩:=q1;obtain⟨t,rfl⟩:=r1;refine wpAny_pyIter_ascii ha ?_;have I2:Inv X pins σ H1 { s1 with heap:=s1.heap.push { cls:=.type "str_ascii_iterator",data:=.fields #[.str x t,.int 0 0] } }:=I1.kept (t':=s1.toks) fun b o e=>Heap.get?_push_of_some _ e;refine⟨_,[s1.heap.objs.size],_,Its x,H1,rfl,I2,UM _ x t,⟨_,Heap.get?_push_size _ rfl,rfl,rfl⟩,fun b hb=>?_,q⟩;rw[mem_singleton.mp hb];exact I1.fpOk (Nat.le_refl _) (I1.hok.fresh (Nat.le_refl _))
end
theorem zcL{x:PySem.Str}{g:TG}{tb:TS}{D:Ends}{σ:St}{H:Hp}(Pv:Nat->St->Hp->Prop)(h0:Pv 0 σ H)
  (hs:∀ i c σ H,x.cps.toList[i]?=some c->Pv i σ H->g (.str ⟨#[c]⟩) σ H fun σ2 H2=>tb { D with nx:=Pv (i+1),ct:=Pv (i+1),bk:=D.nx } σ2 H2) (hd:∀ σ H,Pv x.cps.toList.length σ H->D.nx σ H) :
  ∃ W:Nat->Nat->St->Hp->Prop,(∃ m,W 0 m σ H)/\∀ i m σ H,W i m σ H ->
   ((Its x).stop i H/\D.nx σ H)\/((Its x).go i H/\∃ N:St->Hp->Prop,(∀ σ' H',N σ' H'->∃ m',m'<m/\W (i+1) m' σ' H')/\∀ v H',(Its x).yld i H v H'->g v σ H' fun σ2 H2=>tb { D with nx:=N,ct:=N,bk:=D.nx } σ2 H2):=by
 refine⟨fun i m σ H=>m=x.cps.size-i/\i<=x.cps.size/\Pv i σ H,⟨_,rfl,zero_le _,h0⟩,?_⟩;rintro i m σ H ⟨rfl,hi,p⟩;by_cases hlt:i<x.cps.size
 ·refine .inr ⟨hlt,Pv (i+1),fun σ' H' z=>⟨_,by omega,rfl,hlt,z⟩,fun v H' ⟨e,c,hc,ev⟩=>?_⟩
  subst e ev;exact hs i c σ H' (by rw[<- hc,Array.getElem?_toList]) p
 ·refine .inl ⟨Nat.le_of_not_lt hlt,hd σ H ?_⟩
  rw[length_toList,show x.cps.size=i by omega];exact p
noncomputable def Itv(K:W.Frag)(a:Addr)(n:Nat):It :=
 ⟨fun i H=>i<n/\∃ xs,SqL K H a xs/\xs.length=n,fun i H x H'=>H'=H/\∀ xs,SqL K H a xs->xs[n-1-i]?=some x,fun i _=>i=n⟩
theorem UN{P:Program}{w:World}{K:W.Frag}{tg:Expr}(a it:Addr)(n:Nat):Turn P w K tg (Itv K a n) [it] it (fun i h=>h.IsRevIter it a ((n:Int)-1-(i:Int))) where
 mem:=mem_singleton.mpr rfl
 obj:=fun i h st b hb=>by
  rw[mem_singleton.mp hb];obtain⟨o,e,_,d⟩:=st;exact⟨o,e,fun v z=>by rw[d] at z;cases z⟩
 keep:=fun i h h' st k=>st.at fun o e=>k it (mem_singleton.mpr rfl) o e
 item:=by
  intro X hP hw hK hc i pins s σ H E I hf st hg;subst hP hw hK;obtain⟨hi,xs,hq,hn⟩:=hg;obtain⟨its,rv,p,hz⟩:=I.list hq;have hl:=rv.length;obtain⟨f0,f1,f2,f3,f4,f5⟩:=hf it (mem_singleton.mpr rfl);have hx:xs[n-1-i]?=some xs[n-1-i]:=List.getElem?_eq_getElem (by omega);obtain⟨u,hu,ru⟩:=rv.get hx;have st:s.heap.IsRevIter it a (((n-1-i:Nat):Nat):Int):=by
   rw[show(((n-1-i:Nat):Nat):Int)=(n:Int)-1-(i:Int) by omega];exact st
  refine wpAny_pyNext_rev_item st p.isList (x:=u) (by simpa using hu) fun h' st' sb=>?_;have I1:Inv X pins σ H { s with heap:=h' }:=I.turned (t':=s.toks) (fun b o hb e=>(sb.2 b hb).trans e) f0 f1 f3 f4 f5;rw[show(((n-1-i:Nat):Nat):Int)-1=(n:Int)-1-((i+1:Nat):Int) by omega] at st';obtain⟨o,e,c,d⟩:=id st';exact⟨u,rfl,Wt (s:={ s with heap:=h' }) e c d (by decide) ⟨_,H,I1,ru,⟨rfl,fun ys hy=>by rw[I.list_inj hy hq];exact hx⟩,st',fun b hb=>(hf b hb).1⟩⟩
 done:=by
  intro X hP hw hK hc i pins s σ H E I hf st hg;subst hP hw hK;obtain⟨f0,f1,f2,f3,f4,f5⟩:=hf it (mem_singleton.mpr rfl);have hg:i=n:=hg;rw[hg,show(n:Int)-1-(n:Int) = -1 by omega] at st;exact wpAny_pyNext_rev_end (I.ok.hd hc) st fun h' eb=>⟨rfl,I.turned (t':=s.toks) (fun b o hb e=>eb b o hb e) f0 f1 f3 f4 f5⟩
 self:=fun _ _ _ _ _ st h=>wpAny_pyIter_revIter st h
section
variable {X:Cx}{tg:Expr}
theorem boot_reversed:bootBuiltins "reversed" = some (.type "reversed"):=by decide +kernel
def zhk(K:W.Frag)(ta:TA):TI:=fun σ H R=>ta σ H fun vs H1=>∃ a xs,vs=[.ref a]/\SqL K H1 a xs/\R (Itv K a xs.length) H1
theorem uI{a:Expr}{ta:TA}{p pos:Pos}(hg:Gl X "reversed")(hm:X.mg "reversed" = none)(ha:Bx (PA X [a] ta))(hs:starEach [a] X.env=[(false,eval a X.env)]:=by rfl):Bx (PI X tg (.Call (.Name "reversed" p) [a] [] pos) (zhk X.K ta)):=by
 have ha:=ha.of;refine⟨?_⟩;intro pins s σ H R I h;refine Call_ (ld_blt I hg hm boot_reversed (PyProof.Rows.callWith_type1 (thn (ha pos pins s σ H _ I h) fun us s1 hq0=>?_) hs rfl));obtain⟨vs,H1,I1,r1,q1⟩:=hq0;obtain⟨b,xs,e,hq,q⟩:=q1;subst e;obtain⟨u,rfl,ru⟩:=r1.one;cases ru;obtain⟨its,rv,pl,hz⟩:=I1.list hq;have hl:=rv.length;refine call_reversed_list pl.isList ?_;have I2:Inv X pins σ H1 { s1 with heap:=s1.heap.push (revObj b ((its.toArray.size:Int)-1)) }:=I1.kept (t':=s1.toks) fun b o e=>Heap.get?_push_of_some _ e;have st:(s1.heap.push (revObj b ((its.toArray.size:Int)-1))).IsRevIter s1.heap.objs.size b ((xs.length:Int)-1-((0:Nat):Int)):=⟨_,Heap.get?_push_size _ rfl,rfl,by
  show Data.fields _=_;rw[size_toArray,hl];simp⟩
 refine wpAny_pyIter_revIter (s:={ s1 with heap:=s1.heap.push (revObj b ((its.toArray.size:Int)-1)) }) st ?_;refine⟨_,[s1.heap.objs.size],_,Itv X.K b xs.length,H1,rfl,I2,UN b _ xs.length,st,fun c hc=>?_,q⟩;rw[mem_singleton.mp hc];exact I1.fpOk (Nat.le_refl _) (I1.hok.fresh (Nat.le_refl _))
end
theorem zcM{K:W.Frag}{a:Addr}{xs:List V}{g:TG}{tb:TS}{D:Ends}{σ:St}{H:Hp}(Pv:Nat->St->Hp->Prop)(h0:Pv 0 σ H)(hl:∀ i σ H,i<=xs.length->Pv i σ H->SqL K H a xs)
  (hs:∀ i x σ H,xs.reverse[i]?=some x->Pv i σ H->g x σ H fun σ2 H2=>tb { D with nx:=Pv (i+1),ct:=Pv (i+1),bk:=D.nx } σ2 H2) (hd:∀ σ H,Pv xs.length σ H->D.nx σ H) :
  ∃ W:Nat->Nat->St->Hp->Prop,(∃ m,W 0 m σ H)/\∀ i m σ H,W i m σ H ->
   ((Itv K a xs.length).stop i H/\D.nx σ H)\/((Itv K a xs.length).go i H/\∃ N:St->Hp->Prop,(∀ σ' H',N σ' H'->∃ m',m'<m/\W (i+1) m' σ' H')/\∀ v H',(Itv K a xs.length).yld i H v H'->g v σ H' fun σ2 H2=>tb { D with nx:=N,ct:=N,bk:=D.nx } σ2 H2):=by
 refine⟨fun i m σ H=>m=xs.length-i/\i<=xs.length/\Pv i σ H,⟨_,rfl,zero_le _,h0⟩,?_⟩;rintro i m σ H ⟨rfl,hi,p⟩;have q:=hl i σ H hi p;by_cases hlt:i<xs.length
 ·refine .inr ⟨⟨hlt,xs,q,rfl⟩,Pv (i+1),fun σ' H' z=>⟨_,by omega,rfl,hlt,z⟩,fun v H' ⟨e,hv⟩=>?_⟩
  subst e;refine hs i v σ H' ?_ p;rw[List.getElem?_reverse hlt];exact hv xs q
 ·have e:i=xs.length:=by omega
  subst e;exact .inl ⟨rfl,hd σ H p⟩
end L2
namespace PySem
namespace Zt
theorem XZ{prog:Program}{w:World}{A:Around}{k:SK}(hh:A.handled=none)(it a:Addr)(hne:a≠it)(items:Array Value) :
  Draws prog w A it [it,a] items.size (fun i v=>items[i]?=some v) (fun i h=>ItAt k h it a i/\SqAt k h a items) where
 live:=fun _ _ st=>by
  obtain⟨o,ho,_⟩:=st.1.obj;exact⟨o,ho⟩
 frame:=fun _ _ _ st hk=>⟨st.1.at fun o e=>hk it (by simp) o e,st.2.at fun o e=>hk a (by simp) o e⟩
 item:=fun i s Q E hi st hQ=>by
  have hx:items[i]?=some items[i]:=Array.getElem?_eq_getElem hi;exact VP st.1 st.2 hx fun h' hit' hs'=>hQ _ h' s.toks hx ⟨hit',st.2.at fun o e=>hs'.extBut _ _ hne e⟩ hs'
 done:=fun s Q E st hE=>zah hh st.1 st.2 (Array.getElem?_eq_none (Nat.le_refl _)) hE
noncomputable abbrev Zp(it:Addr):Obj:={ cls:=.type "enumerate",data:=.fields #[.none,.bool false,.ref it,rawInt 0,.none,.none] }
theorem Wn(k:SK)(l:Addr)(xs:Array Value) :
  Meets (Builtin.«enumerate.__new__» ⟨[.type "enumerate",.ref l],[]⟩) (fun _ R s=>SqAt k s.heap l xs/\R (.ok (.ret (.ref (g1 k s.heap l).objs.size))) { s with heap:=(g1 k s.heap l).push (Zp s.heap.objs.size) }) :=
 .of_wp fun prog w A R s h=>by
  obtain⟨hp,g,d,tk,os⟩:=s;obtain⟨hl,h⟩:=h;have hsub:=sub_enumerate;have L1:SqAt k (Shared.heap ⟨hp,g,d,tk,os⟩) l xs:=hl
  wp_walk
  refine wpAny_stack_any fun st=>wpAny_pure ?_
  split
  ·rename_i c _ _ _ _ _
   cases (c == Value.type "enumerate")<;>(wp_walk using ZK L1;exact⟨_,rfl,h⟩)
  ·wp_walk using ZK L1
   exact⟨_,rfl,h⟩
theorem UF{prog:Program}{w:World}{A:Around}{E:Value->Shared->Prop}{s:Shared}{k:SK}{l:Addr}{xs:Array Value}{Q:Value->Shared->Prop}(hl:SqAt k s.heap l xs)
  (h:∀ h',IsEnum h' (s.heap.objs.size+1) s.heap.objs.size 0 .none->ItAt k h' s.heap.objs.size l 0->(∀ b o,s.heap.get? b=some o->h'.get? b=some o)->Q (.ref (s.heap.objs.size+1)) { s with heap:=h' }) :
  wpAny (model prog w) A (call (.type "enumerate") [.ref l]) Q E s:=by
 refine callType_new F.called_enumerate (by decide) (F.typeCall_enumerate_1 _) (F.newCall_enumerate_1 _) (fun obj=>F.args_object_init_2 obj _) F.entry_enumerate_new (Wn k l xs) ⟨hl,?_⟩;have z1:(g1 k s.heap l).objs.size=s.heap.objs.size+1:=Heap.size_push ..;have e2:((g1 k s.heap l).push (Zp s.heap.objs.size)).get? (g1 k s.heap l).objs.size=some (Zp s.heap.objs.size):=Heap.get?_push_size _ rfl;have e1:((g1 k s.heap l).push (Zp s.heap.objs.size)).get? s.heap.objs.size=some (zay k l):=Heap.get?_push_of_some _ (Heap.get?_push_size _ (by cases k<;>rfl));show _/\_;rw[z1] at e2 ⊢;exact⟨⟨_,e2,rfl⟩,h _ e2 (zax e1) fun b o x=>Heap.get?_push_of_some _ (Heap.get?_push_of_some _ x)⟩
end Zt
end PySem
namespace L2
open PySem PySem.Spec PyProof.Rows PySem.Zt
noncomputable def Ite(k:SK)(K:W.Frag)(a:Addr):It :=
 ⟨fun i H=>∃ xs x,SqK k K H a xs/\xs[i]?=some x,fun i H v H'=>∃ p,H p=none/\v=.ref p/\∀ xs x,SqK k K H a xs->xs[i]?=some x->H'=upd H p (.tup [.int i,x]),fun i H=>∃ xs,SqK k K H a xs/\xs.length=i⟩
theorem WY{P:Program}{w:World}{K:W.Frag}{es:List Expr}{n:Nat}{tp:Pos}{k:SK}{e it:Addr}(a:Addr)(ne:e≠it) :
  Turn P w K (.Tuple es n tp) (Ite k K a) [e,it] e (fun i h=>(∃ old,IsEnum h e it (i:Nat) old)/\ItAt k h it a i) where
 mem:=by simp
 obj:=fun i h st b hb=>by
  obtain⟨⟨old,he⟩,hit⟩:=st;rcases mem_cons.mp hb with rfl | hb
  ·exact⟨_,he,fun v z=>by
    have z':Data.fields _=Data.cell v:=z;cases z'⟩
  ·rw[mem_singleton.mp hb]
   exact hit.obj
 keep:=fun i h h' ⟨⟨old,he⟩,hit⟩ k=>⟨⟨old,k e (by simp) _ he⟩,hit.at fun o q=>k it (by simp) o q⟩
 item:=by
  intro X hP hw hK hc i pins s σ H E I hf st hg;subst hP hw hK;obtain⟨xs,x,ha,hx⟩:=hg;obtain⟨its,r,p,_⟩:=I.seqK ha;obtain⟨u,eu,ru⟩:=r.get hx;have fe:=hf e (by simp);have fi:=hf it (by simp);have ae:a≠e:=I.off ha fe;have ai:a≠it:=I.off ha fi;obtain⟨⟨old,he⟩,hit⟩:=st;have eu':its.toArray[i]?=some u:=by simpa using eu
  have hlt:i<its.toArray.size:=(Array.getElem?_eq_some_iff.mp eu').1;refine wpAny_pyNext_enum_itemD (XZ (A:=X.A.in1) (k:=k) (I.ok.hd hc) it a ai its.toArray) he ⟨hit,p⟩ hlt ne (by simp[ne,ae.symm]) fun x' h1 tk hP O1 S1 T1 z1 kk=>?_;rw[eu'] at hP;cases hP;refine⟨_,rfl,wpAny_letOwnedTupleGo_enum O1 fun h2 E2 sb=>?_⟩;have lt:∀ {c o},s.heap.get? c=some o->c≠s.heap.objs.size:=fun q=>ne_of_lt (Heap.lt_size q);have te:s.heap.objs.size≠e:=(lt he).symm;have ti:s.heap.objs.size≠it:=by
   obtain⟨o,q,_⟩:=hit.obj;exact(lt q).symm
  have T2:=sb.extBut _ _ te T1;have k2:∀ c o,c∉[e,it]->s.heap.get? c=some o->h2.get? c=some o:=fun c o hc q=>by
   simp only[mem_cons,not_mem_nil,or_false,not_or] at hc;exact sb.extBut c o hc.1 (kk c o hc.1 hc.2 q)
  have hn:H s.heap.objs.size=none:=I.fresh;refine⟨.ref s.heap.objs.size,upd H s.heap.objs.size (.tup [.int i,x]),I.turnedLaid (t':=tk+1) (ch:=[e,it]) hf k2 (Nat.le_refl _) ⟨by show 2<=sizeLine;decide,[.int i tk,u],.cons ⟨_,rfl⟩ (.cons ru .nil),⟨_,T2,rfl,_,rfl⟩⟩,rfl,
   ⟨_,hn,rfl,fun xs' x' ha' hx'=>?_⟩,⟨⟨_,E2⟩,S1.1.at fun o q=>sb.extBut _ _ ne.symm q⟩,fun c hc=>?_⟩
  ·have:=I.seqK_inj ha ha'
   subst this;rw[hx] at hx';cases hx';rfl
  ·have hne:c≠s.heap.objs.size:=by
    rcases mem_cons.mp hc with rfl | hc
    ·exact te.symm
    ·rw[mem_singleton.mp hc];exact ti.symm
   rw[upd_ne hne];exact(hf c hc).1
 done:=by
  intro X hP hw hK hc i pins s σ H E I hf st hg;subst hP hw hK;obtain⟨xs,ha,hend⟩:=hg;obtain⟨its,r,p,_⟩:=I.seqK ha;have l1:=r.length;have fe:=hf e (by simp);have fi:=hf it (by simp);have ai:a≠it:=I.off ha fi;obtain⟨⟨old,he⟩,hit⟩:=st;have ei:i=its.toArray.size:=by simp;omega
  subst ei;refine wpAny_pyNext_enum_endD (XZ (A:=X.A.in1) (k:=k) (I.ok.hd hc) it a ai its.toArray) he ⟨hit,p⟩ fun h' kk=>⟨rfl,I.turnedL (t':=s.toks) (ch:=[e,it]) hf fun c o hc q=>?_⟩;simp only[mem_cons,not_mem_nil,or_false,not_or] at hc;exact kk c o hc.2 q
 self:=fun _ _ _ _ _ st h=>by
  obtain⟨⟨old,he⟩,_⟩:=st;exact wpAny_pyIter_enum he h
theorem boot_enum:bootBuiltins "enumerate" = some (.type "enumerate"):=by decide +kernel
def zfZ(K:W.Frag)(ta:TA):TI:=fun σ H R=>ta σ H fun vs H1=>∃ k a xs,vs=[.ref a]/\SqK k K H1 a xs/\R (Ite k K a) H1
theorem WJ{X:Cx}{es:List Expr}{n:Nat}{tp:Pos}{a:Expr}{ta:TA}{p pos:Pos}(hg:Gl X "enumerate")(hm:X.mg "enumerate" = none)(ha:Bx (PA X [a] ta))(hs:starEach [a] X.env=[(false,eval a X.env)]:=by rfl):Bx (PI X (.Tuple es n tp) (.Call (.Name "enumerate" p) [a] [] pos) (zfZ X.K ta)):=by
 have ha:=ha.of;refine⟨?_⟩;intro pins s σ H R I h;refine Call_ (ld_blt I hg hm boot_enum (PyProof.Rows.callWith_type1 (thn (ha pos pins s σ H _ I h) fun us s1 hq0=>?_) hs rfl));obtain⟨vs,H1,I1,r1,q1⟩:=hq0;obtain⟨k,b,xs,e,hq,q⟩:=q1;subst e;obtain⟨u,rfl,ru⟩:=r1.one;cases ru;obtain⟨its,rv,pl,hz⟩:=I1.seqK hq;refine UF pl fun h' E1 It1 kk=>wpAny_pyIter_enum (s:={ s1 with heap:=h' }) E1 ?_;refine⟨_,[s1.heap.objs.size+1,s1.heap.objs.size],_,_,H1,rfl,I1.kept (t':=s1.toks) kk,WY b (Nat.succ_ne_self _),⟨⟨_,E1⟩,It1⟩,fun c hc=>?_,q⟩;have hle:s1.heap.objs.size<=c:=by
  rcases mem_cons.mp hc with rfl | hc
  ·exact le_succ _
  ·rw[mem_singleton.mp hc];exact Nat.le_refl _
 exact I1.fpOk hle (I1.hok.fresh hle)
theorem zaD{K:W.Frag}{k:SK}{a:Addr}{xs:List V}{g:TG}{tb:TS}{D:Ends}{σ:St}{H:Hp}(Pv:Nat->St->Hp->Prop)(h0:Pv 0 σ H)(hl:∀ i σ H,i<=xs.length->Pv i σ H->SqK k K H a xs)
  (hs:∀ i x σ H p,xs[i]?=some x->Pv i σ H->H p=none->g (.ref p) σ (upd H p (.tup [.int i,x])) fun σ2 H2=>tb { D with nx:=Pv (i+1),ct:=Pv (i+1),bk:=D.nx } σ2 H2) (hd:∀ σ H,Pv xs.length σ H->D.nx σ H) :
  ∃ W:Nat->Nat->St->Hp->Prop,(∃ m,W 0 m σ H)/\∀ i m σ H,W i m σ H ->
   ((Ite k K a).stop i H/\D.nx σ H)\/((Ite k K a).go i H/\∃ N:St->Hp->Prop,(∀ σ' H',N σ' H'->∃ m',m'<m/\W (i+1) m' σ' H')/\∀ v H',(Ite k K a).yld i H v H'->g v σ H' fun σ2 H2=>tb { D with nx:=N,ct:=N,bk:=D.nx } σ2 H2):=by
 refine⟨fun i m σ H=>m=xs.length-i/\i<=xs.length/\Pv i σ H,⟨_,rfl,zero_le _,h0⟩,?_⟩;rintro i m σ H ⟨rfl,hi,p⟩;have q:=hl i σ H hi p;by_cases hlt:i<xs.length
 ·have hx:xs[i]?=some xs[i]:=List.getElem?_eq_getElem hlt
  refine .inr ⟨⟨xs,_,q,hx⟩,Pv (i+1),fun σ' H' z=>⟨_,by omega,rfl,hlt,z⟩,fun v H' hq0=>?_⟩;obtain⟨r,hr,ev,y⟩:=hq0;subst ev;rw[y xs _ q hx];exact hs i _ σ H r hx p hr
 ·have e:i=xs.length:=by omega
  subst e;exact .inl ⟨⟨xs,q,rfl⟩,hd σ H p⟩
end L2
namespace L2
open PySem PySem.Spec PyProof.Rows
structure TRow where
 x:PySem.Str
 i:Int
 t:Tok
 u:Tok
noncomputable def TRow.en(w:World)(r:TRow):DictEntry:=⟨PyData.keyHash w.params r.x,.str r.x r.t,.int r.i r.u⟩
def STab(w:World)(K:W.Frag)(a:Addr)(D:List (PySem.Str×Int)):Prop :=
 (a == sysModules)=false/\(D.map (·.1)).Nodup/\∃ (L:List TRow) (n:Nat),K.lookup a=some ⟨.type "dict",none,.dict (L.map (TRow.en w)).toArray n,#[]⟩/\L.map (fun r=>(r.x,r.i))=D
noncomputable def tabV(D:List (PySem.Str×Int))(z:PySem.Str):Option Int:=(D.find? fun p=>p.1=z).map (·.2)
theorem STab.dict{X:Cx}{pins:List (Addr×Obj)}{σ:St}{H:Hp}{s:Shared}{a:Addr}{D:List (PySem.Str×Int)}(I:Inv X pins σ H s)(h:STab X.w X.K a D) :
  ∃ kvs:List (PySem.Str×Value),s.heap.DictOf (PySem.strKind X.prog X.w) a kvs/\∀ z,(tabV D z=none->valueAt kvs z=none)/\∀ i,tabV D z=some i->∃ t,valueAt kvs z=some (.int i t):=by
 obtain⟨_,nd,L,n,lk,rfl⟩:=h;refine⟨L.map fun r=>(r.x,.int r.i r.u),⟨_,_,_,I.kIn a _ lk,⟨rfl,rfl,rfl⟩,rfl,?_,?_,?_⟩,fun z=>?_⟩
 ·intro e he
  obtain⟨r,_,rfl⟩:=mem_map.mp (by simpa using he);exact⟨r.x,PySem.strKind_is _ _ _ _,rfl⟩
 ·clear lk nd
  show Pairs _ (L.map (TRow.en X.w)).toArray.toList _;simp only[]
  induction L with
  |nil=>exact .nil
  |cons r L ih=>exact .cons (PySem.strKind_is _ _ _ _) rfl ih
 ·simpa[map_map,Function.comp_def] using nd
 ·clear lk nd
  induction L with
  |nil=>exact⟨fun _=>rfl,fun i e=>by cases e⟩
  |cons r L ih =>
   by_cases q:r.x=z
   ·refine⟨fun e=>?_,fun i e=>⟨r.u,?_⟩⟩
    ·simp[tabV,q] at e
    ·simp[tabV,q] at e
     simp[valueAt,q,e]
   ·have e1:tabV ((r::L).map fun r=>(r.x,r.i)) z=tabV (L.map fun r=>(r.x,r.i)) z:=by simp[tabV,q]
    have e2:valueAt ((r::L).map fun r=>(r.x,Value.int r.i r.u)) z=valueAt (L.map fun r=>(r.x,Value.int r.i r.u)) z:=by simp[valueAt,q]
    rw[e1,e2];exact ih
section
variable {X:Cx}
def zg5(w:World)(K:W.Frag)(neg:Bool):R2:=fun x y H Q=>∃ z a D,x=.str z/\y=.ref a/\STab w K a D/\Q (.bl (if neg then !(tabV D z).isSome else(tabV D z).isSome)) H
theorem YD{kvs:List (PySem.Str×Value)}{D:List (PySem.Str×Int)}{z:PySem.Str}(h:(tabV D z=none->valueAt kvs z=none)/\∀ i,tabV D z=some i->∃ t,valueAt kvs z=some (.int i t)):(valueAt kvs z).isSome=(tabV D z).isSome:=by
 cases e:tabV D z with
 |none=>rw[h.1 e];rfl
 |some i =>
  obtain⟨t,q⟩:=h.2 i e;rw[q];rfl
theorem VB:OpR X (compareOp .NotIn) (zg5 X.w X.K true):=by
 intro pins s σ H x y v u Q I rx ry h;obtain⟨z,a,D,rfl,rfl,hd,q⟩:=h;obtain⟨t,rfl⟩:=rx;cases ry;obtain⟨kvs,dd,hv⟩:=hd.dict I;refine wpAny_notIn_of (PySem.strKind_is _ _ z t) hd.1 dd.mapOf ?_;rw[YD (hv z)];exact⟨.bl _,H,I.tok _,rfl,q⟩
def zg4(w:World)(K:W.Frag):R2:=fun x y H Q=>∃ a z D i,x=.ref a/\y=.str z/\STab w K a D/\tabV D z=some i/\Q (.int i) H
theorem zey:IxR X (zg4 X.w X.K):=by
 intro value slice pins s σ H x y v u Q I rx ry h hs;obtain⟨a,z,D,i,rfl,rfl,hd,hi,q⟩:=h;cases rx;obtain⟨t,rfl⟩:=ry;obtain⟨kvs,dd,hv⟩:=hd.dict I;obtain⟨t',e⟩:=(hv z).2 i hi;exact subscriptTail_builtinR (x:=.int i t') dd.typeIs PySem.F.slot_dict_getitem.lookup
  (wpAny_getItem_of (Q:=fun r s'=>r=Value.int i t'/\EP X pins σ Q r s') (PySem.strKind_is _ _ z t) dd.mapOf e ⟨rfl,.int i,H,I.tok _,⟨_,rfl⟩,q⟩) hs
variable {o e f:Expr}{apos cpos:Pos}{td ty tx:TE}
def zdz(w:World)(K:W.Frag)(td ty tx:TE):TE:=fun σ H Q=>td σ H fun x H1=>∃ a D,x=.ref a/\STab w K a D/\ty σ H1 fun y H2=>tx σ H2 fun z H3=>∃ k j,y=.str k/\z=.int j/\Q (.int ((tabV D k).getD j)) H3
theorem X9(ho:Bx (PE X o td))(he:Bx (PE X e ty))(hf:Bx (PE X f tx))(m:M2 X o "get" apos e f cpos):Bx (PE X (.Call (.Attribute o "get" apos) [e,f] [] cpos) (zdz X.w X.K td ty tx)):=by
 have ho:=ho.of;have he:=he.of;have hf:=hf.of;refine⟨?_⟩;intro pins s σ H Q I h;refine wpAny_Call_method m.base m.few m.line PySem.F.plainAttrs_dict PySem.F.slot_dict_get PySem.F.type_dict_get (thn (ho pins s σ H _ I h) fun u s1 hq0=>?_);obtain⟨x,H1,I1,rx,a,D,ex,hd,q1⟩:=hq0;subst ex;obtain rfl:u=Value.ref a:=rx;obtain⟨kvs,dd,hv⟩:=hd.dict I1;refine⟨dd.typeIs,dd.mapOf.noDict,?_⟩;rw[m.trees];refine Calls.callWith_builtin rfl (Calls.evalArgs_plain (Calls.spliced_cons (thn (he pins s1 σ H1 _ I1 q1) fun iv s2 ⟨y,H2,I2,ry,q2⟩ =>
  Calls.spliced_cons (thn (hf pins s2 σ H2 _ I2 q2) fun fv s3 ⟨z,H3,I3,rz,k,j,ey,ez,q3⟩=>Calls.spliced_nil ?_))))
 subst ey ez;obtain⟨t,rfl⟩:=ry;obtain⟨t',rfl⟩:=rz;obtain⟨kvs,dd,hv⟩:=hd.dict I3;refine call_meetsIn PySem.F.slot_dict_get dd.typeIs PySem.F.entry_dict_get (PySem.F.args_dict_get_3 _ _ _) (meets_dict_get_default (PySem.strKind X.prog X.w) a (PySem.strKind_is _ _ k t) hd.1 (.int j t')) ⟨_,dd.mapOf,?_⟩;refine⟨.int ((tabV D k).getD j),H3,I3.tok _,?_,q3⟩;cases e:tabV D k with
 |none=>rw[(hv k).1 e];exact⟨_,rfl⟩
 |some i =>
  obtain⟨t2,q⟩:=(hv k).2 i e;rw[q];exact⟨_,rfl⟩
end
end L2
namespace L2
open PySem PySem.W PySem.Spec PySem.Calls PyProof.Rows PySem.Builtin PySem.Builtin.ObjectAttr
noncomputable def vP:List Value->Bool
 |[]=>false
 |v::r=>(v::r) == Yn||match v with
  |.ref _=>vP r
  |_=>false
structure XSet (K:Frag) (C:Addr):Prop where
 sa:findIn K (.ref C) "__setattr__" = some (some (.builtin "object.__setattr__"))
 hm:mroIn K C (.type "object")=some true
 mt:(clsIn K C).any (fun cd=>vP cd.mro)=true
 hd:hasDictIn K C=true
theorem vH(self:Value):∀ {l:List Value},vP l=true->refuseLoop self "__setattr__" l=pure ()
 |[],e=>by cases e
 |v::r,e=>by
  unfold vP at e;rcases Bool.or_eq_true_iff.mp e with q | q
  ·rw[beq_iff_eq.mp q]
   exact PySem.F.store_ValueError.passes self
  ·cases v with
   |ref a=>rw[refuseLoop_ref];exact vH self q
   |_=>cases q
section
variable {prog:Program}{w:World}{A:Around}{K:Frag}{x C:Addr}{s:Shared}{R:Result->Shared->Prop}
theorem U5{ox:Obj}{od:Option Obj}{name:Str}{tk:Tok}{v:Value}(X:K.In s.heap)(I:InstAt s.heap x ox C od)(c:XSet K C)(ht:takerIn K C name=some none)
  (h:∀ b,wpAny (model prog w) A.in1 (storeInOwnDict (.ref x) (.ref C) (.str name tk) name v b)
   (fun fin s'=>match fin with | .done f=>R (.ok f) s' | .again c'=>c'.quiet=true/\codeAny (model prog w) A c' R s') (fun e s'=>R (.error e) s') s) :
  codeAny (model prog w) A (.call (.builtin "object.__setattr__") ⟨[.ref x,.str name tk,v],[]⟩) R s:=by
 have SF:=PySem.F.store_object;obtain⟨cd,hc,ho⟩:=any_some c.mt;have sub:Looks (model prog w) s.heap (isInstance (.ref x) (.type "object")) true:=I.type.andThen (looks_mroIn X c.hm);have hm:Looks (model prog w) s.heap (mroOf (.ref C)) cd.mro:=(looks_clsIn X hc).andThen .now;obtain⟨attr,ha,hr⟩:=Option.bind_eq_some_iff.mp ht;have L3:Looks (model prog w) s.heap (storeTaker? attr) none:=by
  cases attr with
  |none=>exact .now
  |some a =>
   obtain⟨b,hb,q⟩:=map_eq_some_iff.mp hr;refine(looks_takesIn X hb).andThen ?_;cases b with
   |true=>cases q
   |false=>exact .now
 refine codeAny_call_builtin SF.slot.plain SF.entry (@check_slot (model prog w) _ _ s "object.__setattr__" "object" "__setattr__" (.ref x) [.str name tk,v] [] _ SF.kind SF.split sub (SF.args (.ref x) (.str name tk) v) ?_);rw[osa_eq,refuse_eq];refine wpAny_bind (wpAny_bind (I.type.here (wpAny_bind (hm.here ?_))));rw[vH _ ho];exact wpAny_pure (wpAny_bind (I.type.here (wpAny_bind ((looks_findIn X ha).here (wpAny_bind (L3.here (h _)))))))
theorem zgJ{E:Value->Shared->Prop}{cl:Value}{vs:Array Value}{sl:Array (Option Value)}{name:Str}{v:Value}{Q:Unit->Shared->Prop}(X:K.In s.heap)(hx:s.heap.get? x=some ⟨.ref C,none,.fields vs,sl⟩)(c:XSet K C)(ht:takerIn K C name=some none)
  (h:∀ h',h'.Ns1 s.heap.objs.size (fun y=>if y=name then some v else none)->h'.get? x=some ⟨.ref C,some s.heap.objs.size,.fields vs,sl⟩->(∀ b o,b≠x->s.heap.get? b=some o->h'.get? b=some o)->Q () { s with heap:=h',toks:=s.toks+2 }) :
  wpAny (model prog w) A (setAttr (.ref x) name v) Q E s:=by
 have I:InstAt s.heap x ⟨.ref C,none,.fields vs,sl⟩ C none:=⟨hx,rfl,rfl,trivial⟩;refine set_plain X I c.sa (U5 (s:={ s with toks:=s.toks+1 }) X I c ht fun b=>?_);obtain⟨cd,hc,hd'⟩:=any_some c.hd;have hxs:x≠s.heap.objs.size:=ne_of_lt (Heap.lt_size hx);have hx1:(s.heap.push { cls:=.type "dict",data:=.dict #[] }).get? x=some ⟨.ref C,none,.fields vs,sl⟩:=Heap.get?_push_of_some _ hx;refine wpAny_bind (wpAny_pure (wpAny_bind (wpAny_bind (wpAny_loadPart hx (wpAny_bind ((looks_clsIn (M:=model prog w) X hc).here (s:={ s with toks:=s.toks+1 }) ?_))))));rw[hd'];refine wpAny_bind (wpAny_alloc (wpAny_bind (wpAny_update hx1 (wpAny_pure ?_))));generalize hg:(s.heap.push { cls:=.type "dict",data:=.dict #[] }).update x (fun o=>{ o with dict:=some s.heap.objs.size })=h1;have e1:h1.get? s.heap.objs.size=some { cls:=.type "dict",data:=.dict #[] }:=by
  rw[<- hg];exact(Heap.get?_update_other _ _ hxs).trans (Heap.get?_push_size s.heap rfl)
 have e2:h1.get? x=some ⟨.ref C,some s.heap.objs.size,.fields vs,sl⟩:=by
  rw[<- hg];exact Heap.get?_update_self _ hx1 rfl
 have e3:∀ b o,b≠x->s.heap.get? b=some o->h1.get? b=some o:=fun b o n q=>by
  rw[<- hg];exact(Heap.get?_update_other _ _ (Ne.symm n)).trans (Heap.get?_push_of_some _ q)
 have n1:h1.Ns s.heap.objs.size (fun _=>none):=⟨_,#[],_,e1,rfl,fun e he=>absurd he (by simp),fun _=>rfl⟩;refine wpAny_bind (wpAny_pure (wpAny_bind ?_));refine wpAny_nsSet1 (Heap.Ns1.of_empty n1) fun h' hn2 hs2=>?_;obtain⟨oD,esD,epD,hoD,hdD,hcD⟩:=hn2.count (PySem.Within.cons name v PySem.Within.nil);refine wpAny_bind (wpAny_lookBehind hoD (by rw[hdD];exact pastItsLine_dict (le_trans hcD (by rw[length_cons,length_nil,sizeLine_eq];omega))) ?_);exact wpAny_pure (h _ hn2 ((hs2.2 _ hxs).trans e2) fun b o n q=>(hs2.2 b (ne_of_lt (Heap.lt_size q))).trans (e3 b o n q))
end
end L2
namespace L2
open PySem PySem.Spec PyProof.Rows
def XM(a C:Addr)(dd:Option Addr)(h:Heap):Prop:=∃ t:Addr,h.get? a=some ⟨.ref C,dd,.fields #[.ref t,.none,.none,.none,.bool false,.none],#[]⟩
theorem zdg{P:Program}{w:World}{H:Hp}{h:Heap}{a C:Addr}{dd:Option Addr}(x:XM a C dd h):ObjOk P w H h a (.ext (XM a C dd)):=by
 refine⟨x,?_,fun h1 h2 p k=>?_⟩
 ·obtain⟨t,e⟩:=x
  exact⟨_,e⟩
 ·obtain⟨t,e⟩:=p
  exact⟨t,k _ e⟩
noncomputable def Yu(K:W.Frag)(C f:Addr):Bool:=match K.lookup C with
 |some ⟨.type "type",_,.cls cd,sl⟩=>(match cd.mro,sl.toList with
  |.ref C'::bm,[_,_,_,_,some (.builtin n),_]=>C' == C&&n == "ValueError.__new__" && !cd.hasDel&&PySem.W.tailIn K Yn bm&&PySem.W.nsOkIn K cd.ns&&PySem.W.nsIn K cd.ns "__init__" == some (some (.ref f))
  |_,_=>false)
 |_=>false
def zc1(h:Heap)(C f:Addr):Prop:=∃ bm N nm qn bs hd sn sub ab col dd k0 k1 k2 k3 k5 mN,h.get? C=some (excClassObj nm qn C N bs bm hd sn sub ab col dd k0 k1 k2 k3 k5 "ValueError.__new__")/\h.Ns N mN/\mN "__init__" = some (.ref f)/\OwnTail h Yn bm
theorem zej{K:W.Frag}{h:Heap}{N:Addr}{m:Str->Option Value}{x:Str}{v:Value}(X:K.In h)(G:h.Ns N m)(q:PySem.W.nsIn K N x=some (some v)):m x=some v:=by
 obtain⟨o,es,ep,e1,e2,_,e3⟩:=G;unfold PySem.W.nsIn at q
 split at q
 case h_2=>cases q
 case h_1 lk =>
  have z:=e1.symm.trans (X _ _ lk);cases z;cases e2
  split at q
  case h_2 =>
   split at q<;>cases q
  case h_1 fd =>
   rw[<- e3];unfold nsFind findBy;rw[<- Array.find?_toList,fd];exact Option.some.inj q
theorem vm{K:W.Frag}{C f:Addr}(x:Yu K C f=true){h:Heap}(I:K.In h):zc1 h C f:=by
 unfold Yu at x
 split at x
 case h_2=>cases x
 case h_1 dd cd sl lk =>
  split at x
  case h_2=>cases x
  case h_1 C2 bm k0 k1 k2 k3 nid k5 em es =>
   rw[and_eq_true,and_eq_true,and_eq_true,and_eq_true,and_eq_true] at x;obtain⟨⟨⟨⟨⟨x1,x2⟩,x3⟩,x4⟩,x5⟩,x6⟩:=x;cases (beq_iff_eq.mp x1);cases (beq_iff_eq.mp x2);cases cd with
   |mk nm bs mro ns qn hd sn sub ab col del =>
    have e1:mro=.ref C::bm:=em;have e2:del=false:=by
     cases del with
     |false=>rfl
     |true=>cases x3
    have e3:sl = #[k0,k1,k2,k3,some (.builtin "ValueError.__new__"),k5]:=by
     cases sl with
     |mk l =>
      have e:l=_:=es;rw[e]
    rw[e1,e2,e3] at lk;have hn:h.Ns ns (h.nsMap ns):=.of_isNs (PySem.W.isNs_of_in I x5);exact⟨bm,ns,nm,qn,bs,hd,sn,sub,ab,col,dd,k0,k1,k2,k3,k5,_,I _ _ lk,hn,zej I hn (beq_iff_eq.mp x6),PySem.W.tail_of_in I x4⟩
section
variable {prog:Program}{w:World}{A:Around}{E:Value->Shared->Prop}{s:Shared}{C f:Addr}
theorem Wv{rest:List Value}{of:Obj}{Q:Value->Shared->Prop}(x:zc1 s.heap C f)(hfo:s.heap.get? f=some of)(hfc:of.cls=.type "function")
  (hq:∀ h' e,Heap.MadeExcOf s.heap h' e (.ref C) rest->s.heap.objs.size<=e ->
   wpAny (model prog w) (A.under (.builtin "type.__call__" ⟨.ref C::rest,[]⟩)) (call (.ref f) (.ref e::rest)) (fun r s'=>r=.none/\Q (.ref e) s') E { s with heap:=h' }) (hrest:rest.length<=sizeLine) :
  wpAny (model prog w) A (call (.ref C) rest) Q E s:=by
 obtain⟨h,g,d,t,os⟩:=s;obtain⟨bm,N,nm,qn,bs,hd,sn,sub,ab,col,dd,k0,k1,k2,k3,k5,mN,hC,hn,hi,T⟩:=x;have F:=PySem.F.excBase_ValueError;have f1:=tc_lookup;have f2:=tc_bind (.ref C);have hT:(⟨h,g,d,t,os⟩:Shared).TypeIs (.ref C) "type" := ⟨_,hC,rfl⟩;refine wpAny_call (codeAny_of_tree ?_);show wpAny _ _ (callAny (.ref C) _) _ _ _
 repeat (any_goals (first | assumption | with_reducible refine wpAny_loadPart_at hC ?_ | wp_step))
 refine⟨rfl,codeAny_call_builtin_at (Code.quiet_builtin _ (by decide +kernel)) entry_typeCall (wpAny_check_type_call_sub hC ?_)⟩
 repeat (first | with_reducible refine wpAny_loadPart_at hC ?_ | with_reducible refine wpAny_madeBy_exc hC ?_ | wp_step)
 refine codeAny_call_builtin_code (Code.quiet_builtin _ F.quiet) (wpAny_check_new_subT F T hC (codeAny_exc_new_subT F T hC ?_ hrest));show wpAny _ _ _ _ _ ⟨(h.push { cls:=.type "tuple",data:=.seq rest.toArray }).push { cls:=.ref C,data:=.fields #[.ref h.objs.size,.none,.none,.none,.bool false,.none] },g,d,t,os⟩;generalize ht:({ cls:=.type "tuple",data:=.seq rest.toArray }:Obj)=ot;generalize he:({ cls:=.ref C,data:=.fields #[.ref h.objs.size,.none,.none,.none,.bool false,.none] }:Obj)=oe;have kp:∀ b o,h.get? b=some o->((h.push ot).push oe).get? b=some o:=fun b o q=>Heap.get?_push_of_some _ (Heap.get?_push_of_some _ q);have g1:((h.push ot).push oe).get? (h.objs.size+1)=some oe:=Heap.get?_push_at (by rw[Heap.size_push]) (by rw[<- he];rfl);have g0:((h.push ot).push oe).get? h.objs.size=some ot:=Heap.get?_push_of_some _ (Heap.get?_push_at rfl (by rw[<- ht];rfl));have oc:oe.cls=.ref C:=by rw[<- he]
 have cC:(Value.ref C::bm).contains (.ref C)=true:=by simp
 have hC1:=kp _ _ hC;have made:Heap.MadeExcOf h ((h.push ot).push oe) (h.objs.size+1) (.ref C) rest:=by
  subst ht he;exact⟨kp,Heap.get?_none_of_le (le_succ _),h.objs.size,g1,Heap.get?_none_of_le (Nat.le_refl _),g0⟩
 unfold isInstance
 repeat (first | (with_reducible refine wpAny_loadPart_at g1 ?_;rw[oc]) | (with_reducible refine wpAny_isSubtype_exc hC1 ?_;rw[cC]) | wp_step)
 show wpAny _ _ (typeLookup (.ref C) _) _ _ _;refine wpAny_typeLookup_tail hC1 (hn.keeps kp) (T.keeps kp) F.mroIs F.init.lookup ?_;rw[hi];refine wpAny_holding (wpAny_bind ?_);unfold bindSpecial;refine wpAny_bind (wpAny_typeOf (T := "function") ⟨_,kp _ _ hfo,hfc⟩ ?_);rw[if_pos (by decide)];refine wpAny_pure (wpAny_bind (wpAny_mono (hq _ _ made (le_succ _)) (fun r s' hr=>?_) fun _ _ z=>z));obtain⟨rfl,q⟩:=hr
 wp_walk
 exact q
end
def zfs(K:W.Frag)(ta tv:TE)(f:Str):TS:=fun D σ H=>tv σ H fun y H1=>ta σ H1 fun x H2=>∃ a C,x=.ref a/\H2 a=some (.ext (XM a C none))/\XSet K C/\PySem.W.takerIn K C f=some none /\
 ∀ d,H2 d=none->D.nx σ (upd (upd H2 d (.xd [(f,y)])) a (.ext (XM a C (some d))))
section
variable {X:Cx}{o value:Expr}{f:Str}{pos pos':Pos}{ta tv:TE}
theorem WH(ha:Bx (PE X o ta))(hv:Bx (PE X value tv))(hs:swapsWith value (some (.Attribute o f pos')) pos.line X.env=pure false):Bx (PS X (.Assign [.Attribute o f pos'] value pos) (zfs X.K ta tv f)):=by
 have ha:=ha.of;have hv:=hv.of;refine⟨?_⟩;intro pins s σ H D I h;refine plainObj_wpAny_Assign_Attribute (thn (hv pins s σ H _ I h) fun u s1 ⟨y,H1,I1,ry,q⟩=>thn (ha pins s1 σ H1 _ I1 q) fun ov s2 hq0=>?_) hs;obtain⟨x,H2,I2,rx,a,C,ex,ea,c,n,q2⟩:=hq0;subst ex;obtain rfl:ov=Value.ref a:=rx;obtain⟨⟨t,hx⟩,_,_⟩:=(show ObjOk X.prog X.w H2 s2.heap a (.ext (XM a C none)) from I2.hok a _ ea);refine zgJ (cl:=.none) I2.kIn hx c n fun h' hn hx' hk=>⟨σ,_,?_,q2 s2.heap.objs.size (I2.hok.fresh (Nat.le_refl _))⟩;obtain⟨od,es,ep,e1,rest⟩:=hn;have hfr:=(Heap.get?_some_iff.mp e1).2;have g0:(s2.heap.push od).get? s2.heap.objs.size=some od:=Heap.get?_push_size s2.heap hfr;have I3:=I2.laid (a:=s2.heap.objs.size) (o:=.xd [(f,y)]) (h':=s2.heap.push od) (t':=s2.toks+2) (fun b u' q=>Heap.get?_push_of_some _ q) (Nat.le_refl _) ⟨_,⟨od,es,ep,g0,rest⟩,fun g=>by
  show RelO (([(f,y)]:List (Str×V)).lookup g) (if g=f then some u else none);rw[lookup_cons];by_cases q:g=f
  ·rw[if_pos q,beq_iff_eq.mpr q]
   exact ry
  ·rw[if_neg q,beq_eq_false_iff_ne.mpr q]
   exact True.intro⟩
 have na:a≠s2.heap.objs.size:=ne_of_lt (Heap.lt_size hx);refine I3.write (x:=a) (e:=a) (o:=.ext (XM a C (some s2.heap.objs.size))) (h':=h') (t':=s2.toks+2) (by rw[upd_ne na,ea];exact True.intro) (.inl rfl) (fun b u' hb q=>?_) ⟨_,hx'⟩ (zdg ⟨t,hx'⟩);by_cases hd:b=s2.heap.objs.size
 ·subst hd
  have z:=g0.symm.trans q;cases z;exact e1
 ·refine hk b u' hb ?_
  have q':(s2.heap.push od).get? b=some u':=q;rw[Heap.get?_push_ne _ _ _ hd] at q';exact q'
end
def Vp(C:Addr)(f:Str):Sp:=fun vs H Q _=>∃ a v,vs=[.ref a,v]/\H a=some (.ext (XM a C none))/\∀ d,H d=none->Q .non (upd (upd H d (.xd [(f,v)])) a (.ext (XM a C (some d))))
section
variable {M:Model}{A:Around}{E:Value->Shared->Prop}{s:Shared}{env:Env}
theorem raise_xm{x:Sem Value}{Q:Flow->Shared->Prop}(hh:A.handled=none)(h:wpAny M A x (fun v s1=>∃ e C f dd,v=.ref e/\zc1 s1.heap C f/\XM e C dd s1.heap/\E (.ref e) s1) E s):wpAny M A (raiseStmt env (some x) none) Q E s:=by
 unfold raiseStmt;refine wpAny_bind (wpAny_mono h (fun v s1 h1=>?_) fun _ _ z=>z);obtain⟨e,C,f,dd,rfl,⟨bm,N,nm,qn,bs,hd,sn,sub,ab,col,dd',k0,k1,k2,k3,k5,mN,hC,hn,hi,T⟩,⟨t,he⟩,hE⟩:=h1;have cB:(Value.ref C::bm).contains (.type "BaseException")=true:=by rw[List.contains_cons,T.hasType (b:=true) rfl,Bool.or_true]
 obtain⟨hp,g,d,tk,os⟩:=s1
 repeat (first | with_reducible refine wpAny_loadPart_at he ?_ | with_reducible refine wpAny_loadPart_at hC ?_ | (with_reducible refine wpAny_isSubtype_exc hC ?_;rw[cB]) | wp_step)
 exact wpAny_raiseNew_none hh hE
end
noncomputable def sans(H:Hp)(a:Addr):Hp:=fun b=>if b=a then none else H b
theorem sans_ne{H:Hp}{a b:Addr}(h:b≠a):sans H a b=H b:=if_neg h
theorem ZI{H:Hp}{a b:Addr}{o:HO}(h:sans H a b=some o):b≠a/\H b=some o:=by
 unfold sans at h
 split at h
 ·cases h
 ·rename_i n
  exact⟨n,h⟩
section
variable {P:Program}{w:World}{K:W.Frag}{mg:Str->Option Value}{base:Heap}{N:List Str}{qual:Str}{scope:Scope}{f:Addr}{cd:Value}{A:Around}{outer:List Env}{s0:Shared}{H0:Hp}{E:XK}
theorem zeq{pins:List (Addr×Obj)}{σ:St}{H:Hp}{s:Shared}{a C d:Addr}(I:Inv (yM (CX1 P w) P w K mg base N qual scope f cd A outer s0 H0 E) pins σ H s)(ha:H a=some (.ext (XM a C (some d))))(young:s0.heap.get? a=none)
  (q:E (.ref C) (some d) (sans H a)):(yM (CX1 P w) P w K mg base N qual scope f cd A outer s0 H0 E).xe (.ref a) s:=by
 obtain⟨⟨t,hx⟩,_,_⟩:=(show ObjOk P w H s.heap a (.ext (XM a C (some d))) from I.hok a _ ha);have hfr:=I.ok.frames;have sf:∀ b,b∈frs (envOfC qual scope s0.heap.objs.size f cd::outer)->H b=none:=fun b hb=>I.stkFree b hb;have nb:∀ b,b∈frs (envOfC qual scope s0.heap.objs.size f cd::outer)->b≠a:=fun b hb e=>by
  have:=sf b hb;rw[e,ha] at this;cases this
 generalize hB:PySem.W.hideAll s.heap (a::frs (envOfC qual scope s0.heap.objs.size f cd::outer))=B;have Bs:B.StaysIn s.heap:=fun b o e=>by rw[<- hB] at e;exact PySem.W.of_hideAll _ e
 have Bn:B.get? a=none:=by rw[<- hB];exact PySem.W.hideAll_none _ (mem_cons_self ..)
 have Bg:∀ b o,s.heap.get? b=some o->b≠a->b∉frs (envOfC qual scope s0.heap.objs.size f cd::outer)->B.get? b=some o:=fun b o e n1 n2=>by
  rw[<- hB];exact PySem.W.hideAll_get _ e fun z=>(mem_cons.mp z).elim n1 n2
 have Bf:s.heap.FunFrames B (envOfC qual scope s0.heap.objs.size f cd::outer):=by
  rw[<- hB];exact PySem.W.funFrames_hide I.stack fun env he b hb=>mem_cons_of_mem _ (mem_filterMap.mpr ⟨env,he,hb⟩)
 have ns:∀ b o,s0.heap.get? b=some o->b∉frs outer->b∉frs (envOfC qual scope s0.heap.objs.size f cd::outer):=fun b o e hb z=>by
  rcases mem_cons.mp (I.stkSub b z) with e' | e'
  ·exact absurd (lt_of_lt_of_le (Heap.lt_size e) I.ok.above) (by rw[e'];exact lt_irrefl _)
  ·exact hb e'
 have na:∀ b o,s0.heap.get? b=some o->b≠a:=fun b o e z=>by rw[z,young] at e;cases e
 refine zeM (M:=model P w) (A:=A.deeper (envOfC qual scope s0.heap.objs.size f cd)) (s:=s) (outer:=outer) (L:=s0.heap.objs.size) (base:=B) (a0:=.ref t) hfr Bf rfl hx Bs Bn rfl rfl rfl fun h2 F2 up kd=>?_;refine⟨a,.ref C,.ref t,sans H a,B,rfl,?_,F2,some d,fun D e=>?_,q⟩
 ·refine⟨I.os,I.bare,⟨fun b o e n hb _=>?_,fun b o e n hb _=>?_,fun b o e n _=>?_,fun b o e _=>?_,fun b xs e=>?_,fun b o u e=>?_,fun b ps e=>?_⟩,?_,fun b o e n hb=>?_,fun b o hb e=>?_,fun b o e hb=>?_⟩
  ·exact F2.1 b o (Bg b o (I.base.keep b o e n hb (by simp[yM])) (na b o e) (ns b o e hb))
  ·have hs:b∈frs (envOfC qual scope s0.heap.objs.size f cd::outer):=by
    obtain⟨env,he,hf⟩:=mem_filterMap.mp hb;exact mem_filterMap.mpr ⟨env,mem_cons_of_mem _ he,hf⟩
   obtain⟨z,e1⟩:=I.base.any e n (by simp[yM]);obtain⟨_,o',ho',hd⟩:=I.stack.mem hs;have eo:=e1.symm.trans ho';cases eo;obtain⟨z2,e2⟩:=up b _ e1 (fun vs z=>hd vs z);exact⟨z2,e2⟩
  ·have:=I.base.free b o e n (by simp[yM])
   rw[sans_ne (na b o e)];exact this
  ·obtain⟨o',e1⟩:=I.base.there b o e (by simp[yM])
   by_cases hb:b∈frs (envOfC qual scope s0.heap.objs.size f cd::outer)
   ·obtain⟨_,o2,ho2,hd⟩:=I.stack.mem hb
    obtain⟨z2,e2⟩:=up b _ ho2 (fun vs z=>hd vs z);exact⟨_,e2⟩
   ·exact⟨o',F2.1 b o' (Bg b o' e1 (na b o e) hb)⟩
  ·have:=I.base.tups b xs e
   rw[sans_ne (fun z=>by rw[z,ha] at this;cases this)];exact this
  ·have:=I.base.frzs b o u e
   rw[sans_ne (fun z=>by rw[z,ha] at this;cases this)];exact this
  ·obtain⟨more,this⟩:=I.base.tbls b ps e
   exact⟨more,by rw[sans_ne (fun z=>by rw[z,ha] at this;cases this)];exact this⟩
  ·intro b u e
   obtain⟨n,e⟩:=ZI e;refine(I.hok b u e).stay (fun c v hc z=>?_) (fun c z=>?_) fun c xs z=>?_
   ·have tr:H c≠none:=by
     rcases hc with rfl | hc
     ·rw[e];intro z;cases z
     ·rw[hc];intro z;cases z
    have nc:c≠a:=by
     rcases hc with rfl | hc
     ·exact n
     ·intro z;rw[z,ha] at hc;cases hc
    exact F2.1 c v (Bg c v z nc fun y=>tr (sf c y))
   ·rw[sans_ne (fun y=>by rw[y,ha] at z;cases z)]
    exact z
   ·rw[sans_ne (fun y=>by rw[y,ha] at z;cases z)]
    exact z
  ·exact Bg b o (I.base.keep b o e n hb (by simp[yM])) (na b o e) (ns b o e hb)
  ·cases hq:sans H a b with
   |none=>exact absurd hq hb
   |some u =>
    obtain⟨n,e'⟩:=ZI hq;obtain⟨v,hv⟩:=I.hok.thr e';have z:=Bg b v hv n fun y=>by have:=sf b y;rw[e'] at this;cases this
    have z2:=F2.1 b v z;have e2:h2.get? b=some o:=e;rw[z2] at e2;cases e2;exact z
  ·obtain⟨o',e1⟩:=I.base.there b o e (by simp[yM])
   exact⟨o',Bg b o' e1 (na b o e) (ns b o e hb)⟩
 ·cases e
  exact kd _ _ ⟨_,hx,rfl⟩
end
theorem WA{K:W.Frag}{g:Addr}(h:(K.lookup g).any (fun o=>o.cls == .type "function")=true):∃ o,K.lookup g=some o/\o.cls=.type "function" := by
 cases e:K.lookup g with
 |none=>rw[e] at h;cases h
 |some o =>
  rw[e] at h;exact⟨o,rfl,beq_iff_eq.mp h⟩
theorem UV{H:Hp}{a d:Addr}{o1 o2 o3:HO}(h:H a=none)(n:d≠a):sans (upd (upd (upd H a o1) d o2) a o3) a=upd H d o2:=by
 funext b
 unfold sans upd;by_cases e:b=a
 ·subst e
  simp[h,Ne.symm n]
 ·simp[e]
section
variable {P:Program}{w:World}{K:W.Frag}{mg:Str->Option Value}{base:Heap}{N:List Str}{qual:Str}{scope:Scope}{f:Addr}{cd:Value}{A:Around}{outer:List Env}{s0:Shared}{H0:Hp}{E:XK}
 {x fld:Str}{C g:Addr}{e:Expr}{es:List Expr}{t:TA}{np cpos pos:Pos}{k:Nat}{fd:FuncData}{ps:List Str}
def zgN(C:Addr)(fld:Str)(E:XK)(t:TA):TS:=fun _ σ H=>t σ H fun vs H1=>∃ v,vs=[v]/\∀ d,H1 d=none->E (.ref C) (some d) (upd H1 d (.xd [(fld,v)]))
structure XInit (P:Program) (w:World) (K:W.Frag) (mg:Str->Option Value) (base:Heap) (x:Str) (C g:Addr) (fd:FuncData) (ps:List Str) (k:Nat) (fld:Str):Prop where
 ok:FnOk P w K mg base CX0 k g fd ps (Vp C fld)
 c:Yu K C g=true
 fn:(K.lookup g).any (fun o=>o.cls == .type "function")=true
 kp:PySem.W.keepIn K (.ref C)=true
 gl:mg x=some (.ref C)
 b:Binds K fd ps []
theorem xC(c:XInit P w K mg base x C g fd ps k fld)(hc:(A.deeper (envOfC qual scope s0.heap.objs.size f cd)).handled=none)(hr:Room (k+1) (yM (CX1 P w) P w K mg base N qual scope f cd A outer s0 H0 E).A)(ha:Bx (PA (yM (CX1 P w) P w K mg base N qual scope f cd A outer s0 H0 E) (e::es) t))(hg:Gl (yM (CX1 P w) P w K mg base N qual scope f cd A outer s0 H0 E) x:=by rfl)(he:starEach (e::es) (yM (CX1 P w) P w K mg base N qual scope f cd A outer s0 H0 E).env=(false,eval e (yM (CX1 P w) P w K mg base N qual scope f cd A outer s0 H0 E).env)::starEach es (yM (CX1 P w) P w K mg base N qual scope f cd A outer s0 H0 E).env:=by rfl)(hpl:(backTo cpos (starEach es (yM (CX1 P w) P w K mg base N qual scope f cd A outer s0 H0 E).env)).any (·.1)=false:=by rfl)(hdb:(x == ("__debug__" : Str))=false:=by decide):Bx (PS (yM (CX1 P w) P w K mg base N qual scope f cd A outer s0 H0 E) (.Raise (some (.Call (.Name x np) (e::es) [] cpos)) none pos) (zgN C fld E t)):=by
 have ha:=ha.of;refine⟨?_⟩;intro pins s σ H D I h;rw[arm_exec_Raise];refine wpAny_bind (wpAny_standAt (raise_xm hc ?_));refine wpAny_bind (wpAny_mono (wpAny_Call_Name_kw (ld_glob I hg c.gl ?_ hdb)) (fun v s3 h3=>wpAny_bind (wpAny_standAt (wpAny_pure h3))) fun _ _ z=>z);refine PySem.W.callWith_K (h₀:=base) I.ok.mod.kin c.kp (wpAny_mono (ha cpos pins s σ H _ I h) (fun us s1 hq=>?_) (fun _ _ z=>z)) he hpl;obtain⟨vs,H1,I1,r,v,rfl,q⟩:=hq;refine⟨I1.kIn,?_⟩;have kp1:=I1.bk;obtain⟨of,lk,hof⟩:=WA c.fn;have r2:∀ e',Vals (V.ref e'::[v]) (Value.ref e'::us):=fun e'=>.cons rfl r;have hu:us.length=1:=r.length.symm;refine Wv (vm c.c I1.kIn) (I1.kIn _ _ lk) hof (fun h' e' hx le=>?_) (by rw[nil_append,hu];decide);obtain⟨tt,het,_,_⟩:=hx.there;have He:H1 e'=none:=I1.hok.fresh le;have I2:=I1.laid (a:=e') (o:=.ext (XM e' C none)) (t':=s1.toks) hx.keeps le (zdg ⟨tt,het⟩);have hsp:Vp C fld [.ref e',v] (upd H1 e' (.ext (XM e' C none))) (fun v2 H2=>v2=.non/\∃ d,H1 d=none/\d≠e'/\H2=upd (upd (upd H1 e' (.ext (XM e' C none))) d (.xd [(fld,v)])) e' (.ext (XM e' C (some d)))) E0:=by
  refine⟨e',v,rfl,upd_same,fun d hd=>⟨rfl,d,?_,?_,rfl⟩⟩
  ·have n:d≠e':=fun z=>by rw[z,upd_same] at hd;cases hd
   rw[upd_ne n] at hd;exact hd
  ·intro z
   rw[z,upd_same] at hd;cases hd
 have hl:(Value.ref e'::us).length=ps.length:=by
  have e1:=(r2 e').length;rw[c.ok.len _ _ _ _ hsp] at e1;exact e1.symm
 refine wpAny_call (codeAny_mono (c.ok.run _ _ _ _ ⟨Value.ref e'::us,[]⟩ (Value.ref e'::us) _ _ E0 (hr.make C us []) (I2.env0.make C us []) (by have:=c.b _ (Value.ref e'::us) I2.kIn (by rw[append_nil];exact hl);rw[append_nil] at this;exact this) (r2 e') hsp) fun rr s' hq'=>?_);cases rr with
 |error e=>exact False.elim hq'
 |ok fl =>
  cases fl with
  |ret u =>
   obtain⟨v2,H3,I3,rv,ev,d,hd,dn,e3⟩:=I2.after hq';subst ev;have h3:H3 e'=some (.ext (XM e' C (some d))):=by rw[e3];exact upd_same
   refine⟨rv,e',C,g,some d,rfl,vm c.c I3.kIn,?_,zeq I3 h3 ?_ ?_⟩
   ·obtain⟨p,_,_⟩:=(show ObjOk P w H3 s'.heap e' (.ext (XM e' C (some d))) from I3.hok e' _ h3)
    exact p
   ·exact Heap.get?_none_of_le (le_trans I1.sz le)
   ·rw[e3,UV He dn]
    exact q d hd
  |next=>exact False.elim hq'
  |brk=>exact False.elim hq'
  |cont=>exact False.elim hq'
end
def XAny(K:W.Frag)(C:Addr):Prop:=XCls K C\/∃ g,Yu K C g=true
def zht(h:Heap)(C:Addr):Prop:=∃ bm N nm qn bs hd sn sub ab col dd k0 k1 k2 k3 k5,h.get? C=some (excClassObj nm qn C N bs bm hd sn sub ab col dd k0 k1 k2 k3 k5 "ValueError.__new__")/\OwnTail h Yn bm
theorem XAny.obj{K:W.Frag}{C:Addr}(x:XAny K C){h:Heap}(I:K.In h):zht h C:=by
 rcases x with x | ⟨g,x⟩
 ·obtain⟨bm,N,nm,qn,bs,hd,sn,sub,ab,col,dd,k0,k1,k2,k3,k5,mN,h1,h2,h3,h4⟩:=x.obj I
  exact⟨bm,N,nm,qn,bs,hd,sn,sub,ab,col,dd,k0,k1,k2,k3,k5,h1,h4⟩
 ·obtain⟨bm,N,nm,qn,bs,hd,sn,sub,ab,col,dd,k0,k1,k2,k3,k5,mN,h1,h2,h3,h4⟩:=vm x I
  exact⟨bm,N,nm,qn,bs,hd,sn,sub,ab,col,dd,k0,k1,k2,k3,k5,h1,h4⟩
noncomputable def zde(K:W.Frag)(C C1:Addr):Option Bool:=match K.lookup C with
 |some ⟨_,_,.cls cd,_⟩=>some (cd.mro.contains (.ref C1))
 |_=>none
theorem zdf{M:Model}{A:Around}{E:Value->Shared->Prop}{s:Shared}{K:W.Frag}{C C1 a:Addr}{b:Bool}{Q:Bool->Shared->Prop}(X:K.In s.heap)(c:XAny K C)(c1:XAny K C1)(hs:zde K C C1=some b)(ho:ObC a C s.heap)(hq:Q b s) :
  wpAny M A (excMatches (.ref a) (.ref C1)) Q E s:=by
 obtain⟨bm,N,nm,qn,bs,hd,sn,sub,ab,col,dd,k0,k1,k2,k3,k5,hC,T⟩:=c.obj X;obtain⟨bm1,N1,nm1,qn1,bs1,hd1,sn1,sub1,ab1,col1,dd1,j0,j1,j2,j3,j5,hC1,T1⟩:=c1.obj X;have hc:(Value.ref C::bm).contains (.ref C1)=b:=by
  unfold zde at hs
  split at hs
  ·rename_i lk
   have z:=hC.symm.trans (X _ _ lk);cases z;exact Option.some.inj hs
  ·cases hs
 have cB:(Value.ref C1::bm1).contains (.type "BaseException")=true:=by rw[List.contains_cons,T1.hasType (b:=true) rfl,Bool.or_true]
 obtain⟨o,he,ec⟩:=ho;obtain⟨h,g,d,t,os⟩:=s;have f:=tc_notTuple;unfold excMatches
 repeat (first | (with_reducible refine wpAny_loadPart_at he ?_;rw[ec]) | with_reducible refine wpAny_loadPart_at hC1 ?_ | (with_reducible refine wpAny_isSubtype_exc hC1 ?_;rw[cB]) | (with_reducible refine wpAny_isSubtype_exc hC ?_;rw[hc]) | wp_step)
 cases b<;>(repeat wp_step)<;>exact hq
section
variable {X:Cx}{pins:List (Addr×Obj)}{σ:St}{H:Hp}{s:Shared}
theorem Inv.addE{a:Addr}{φ:Heap->Prop}(I:Inv X pins σ H s)(h0:∀ b o,X.s₀.heap.get? b=some o->b∉X.ex->b≠a)(hn:H a=none)(hl:X.env.locals≠a)(hc:∀ x c,X.env.cells.lookup x=some c->c≠a)(hp:∀ p∈X.pn++pins,p.1≠a)
  (ob:ObjOk X.prog X.w (upd H a (.ext φ)) s.heap a (.ext φ)):Inv X pins σ (upd H a (.ext φ)) s:=by
 have ne:∀ {b:Addr}{u:HO},H b=some u->b≠a:=fun e=>nZ e hn;refine⟨I.ok,I.os,I.bare,⟨I.base.keep,I.base.slot,fun b o q n hx=>?_,I.base.there,fun b xs q=>?_,fun b o u q=>?_,fun b ps q=>?_⟩,I.loc,I.cell,?_,fun x c e=>?_,fun p hq=>?_,fun b u e=>?_,I.len⟩
 ·rw[upd_ne (h0 b o q hx)]
  exact I.base.free b o q n hx
 ·have:=I.base.tups b xs q
  rw[upd_ne (ne this)];exact this
 ·have:=I.base.frzs b o u q
  rw[upd_ne (ne this)];exact this
 ·obtain⟨more,this⟩:=I.base.tbls b ps q
  exact⟨more,by rw[upd_ne (ne this)];exact this⟩
 ·rw[upd_ne hl]
  exact I.free
 ·rw[upd_ne (hc x c e)]
  exact I.freeC x c e
 ·obtain⟨e,n,n1,n2,d⟩:=I.pin p hq
  exact⟨e,by rw[upd_ne (hp p hq)];exact n,n1,n2,d⟩
 ·by_cases hb:b=a
  ·subst hb
   rw[upd_same] at e;cases e;exact ob
  ·rw[upd_ne hb] at e
   exact(I.hok b u e).stay (fun c v _ q=>q) (fun c q=>by rw[upd_ne (nZ q hn)];exact q) fun c xs q=>by rw[upd_ne (nZ q hn)];exact q
end
def ObX(a C:Addr):Option Addr->Heap->Prop
 |none=>ObC a C
 |some D=>fun h=>∃ o,h.get? a=some o/\o.cls=.ref C/\o.dict=some D/\PySem.W.notCls o=true
theorem zeh{P:Program}{w:World}{H:Hp}{h:Heap}{a C:Addr}{dd:Option Addr}(o:∃ ob,h.get? a=some ob/\ob.cls=.ref C/\PySem.W.notCls ob=true)(d:∀ D,dd=some D->DictAt a D h):ObjOk P w H h a (.ext (ObX a C dd)):=by
 obtain⟨ob,e,c,nc⟩:=o;cases dd with
 |none=>exact⟨⟨ob,e,c⟩,⟨ob,e⟩,fun h1 h2 ⟨o,e,c⟩ k=>⟨o,k o e,c⟩⟩
 |some D =>
  obtain⟨o',e',d'⟩:=d D rfl;rw[e] at e';cases e';exact⟨⟨ob,e,c,d',nc⟩,⟨ob,e⟩,fun h1 h2 ⟨o,e,c,d,n⟩ k=>⟨o,k o e,c,d,n⟩⟩
structure Fl (X:Cx) (pins:List (Addr×Obj)) (σ:St) (H:Hp) (s:Shared) (h:Heap) (a C:Addr) (dd:Option Addr):Prop where
 ex:∃ H1 s1 B a0,Inv X pins σ H1 s1/\Lies X.prog X.w X.stack H1 s1 H s B/\s.heap.UpToSlots h/\Heap.FlyingW B X.stack a (.ref C) a0 h/\s1.heap.get? a=none
 ha:H a=none
 dk:∀ D,dd=some D->DictAt a D h
section
variable {X:Cx}{pins:List (Addr×Obj)}{σ:St}{H:Hp}{s:Shared}{h:Heap}{a C:Addr}{dd:Option Addr}
theorem Fl.inv(F:Fl X pins σ H s h a C dd):Inv X pins σ H { s with heap:=h }:=by
 obtain⟨H1,s1,B,a0,I,L,up,W,_⟩:=F.ex;exact Lies.inv (t2:=s.toks) I L W.1 up
theorem Fl.ob(F:Fl X pins σ H s h a C dd):ObC a C h:=by
 obtain⟨H1,s1,B,a0,I,L,up,W,_⟩:=F.ex;exact W.there
theorem Fl.ob2(F:Fl X pins σ H s h a C dd):∃ ob,h.get? a=some ob/\ob.cls=.ref C/\PySem.W.notCls ob=true:=by
 obtain⟨H1,s1,B,a0,I,L,up,W,_⟩:=F.ex;obtain⟨oe,vs,he,hc,hd,_⟩:=W.first;exact⟨oe,he,hc,by unfold PySem.W.notCls;rw[hd]⟩
theorem Fl.look(F:Fl X pins σ H s h a C dd):Inv X pins σ (upd H a (.ext (ObX a C dd))) { s with heap:=h }:=by
 have J:=F.inv;obtain⟨H1,s1,B,a0,I,L,up,W,young⟩:=F.ex;refine J.addE (fun b o e hx z=>?_) F.ha (fun z=>?_) (fun y k e z=>?_) (fun p hp z=>?_) (zeh F.ob2 F.dk)
 ·obtain⟨o',e'⟩:=I.base.there b o e hx
  rw[z,young] at e';cases e'
 ·obtain⟨m,⟨o,_,_,e,_⟩,_⟩:=I.loc
  rw[z,young] at e;cases e
 ·obtain⟨w',o,e',_⟩:=I.cell y k e
  rw[z,young] at e';cases e'
 ·have:=(I.pin p hp).1
  rw[z,young] at this;cases this
theorem Fl.lands{M:Model}{A:Around}{E:Value->Shared->Prop}{Q:Unit->Shared->Prop}(F:Fl X pins σ H s h a C dd)(hQ:∀ h',Fl X pins σ H s h' a C dd->Q () { s with heap:=h' }):wpAny M A (setFlight (.ref a) none) Q E { s with heap:=h }:=by
 obtain⟨H1,s1,B,a0,I,L,up,W,young⟩:=F.ex;exact zcu (s:={ s with heap:=h }) W fun h' W' up' kd=>hQ h' ⟨⟨H1,s1,B,a0,I,L,up.trans up',W',young⟩,F.ha,fun D e=>kd _ _ (F.dk D e)⟩
end
def PH(X:Cx)(hs:List ExceptHandler)(th:Addr->Option Addr->TS):Prop:=∀ (pins:List (Addr×Obj)) (σ:St) (H:Hp) (D:Ends) (s:Shared) (h:Heap) (a C:Addr) (dd:Option Addr),Fl X pins σ H s h a C dd->th C dd D σ H ->
 wpAny (model X.prog X.w) X.A (handleBy (.ref a) X.env hs) (SP X pins D) X.xe { s with heap:=h }
abbrev zf8:Addr->Option Addr->TS:=fun _ _ _ _ _=>False
def zf9(K:W.Frag)(C1:Addr)(i:Nat)(th:TS)(tr:Addr->Option Addr->TS):Addr->Option Addr->TS:=fun C dd D σ H =>
 (C=C1/\∀ a,H a=none->th (D.sans i) (σ.set i (some (.ref a))) (upd H a (.ext (ObX a C dd))))\/(zde K C C1=some false/\XAny K C/\tr C dd D σ H)
section
variable {X:Cx}{suite:List Stmt}{b0:Stmt}{i:Nat}{x n:Str}{C1:Addr}{np hpos:Pos}{th:TS}{tr:Addr->Option Addr->TS}{rest:List ExceptHandler}
theorem zfF:PH X [] zf8:=fun _ _ _ _ _ _ _ _ _ _ h=>h.elim
theorem zfG(hN:X.N.Nodup)(hi:X.N[i]?=some n)(hk:X.env.scope.names.lookup n=some .local)(c:XAny X.K C1)(hm:X.mg x=some (.ref C1))(hh:∀ a,PSs (X.inH a) (b0::suite) th)(hr:PH X rest tr)
  (hg:Gl X x:=by rfl) (hdb:(x == ("__debug__" : Str))=false:=by decide):PH X (.ExceptHandler (some (.Name x np)) (some n) (b0::suite) hpos::rest) (zf9 X.K C1 i th tr):=by
 intro pins σ H D s h a C dd F q;have I5:=F.inv;have J5:=I5.inH a;refine wpAny_handleBy_cons (codeAny_handlers_test (ld_glob J5 hg hm ?_ hdb)) (by intro q;cases q);rcases q with⟨rfl,hts⟩ | ⟨hs,cC,q⟩
 ·obtain⟨bm,Nn,nm,qn,bs,hd,sn,sub,ab,col,dd',k0,k1,k2,k3,k5,h1,h4⟩:=c.obj I5.kIn
  obtain⟨ob,hob,hobc⟩:=F.ob;obtain⟨sh,sg,sd,stk,sos⟩:=s;refine wpAny_excMatches_sub_self h1 hob hobc (h4.hasType rfl) ?_;refine codeAny_handlers_suite_as (F.lands fun h6 F6=>?_);have I7:=F6.look;refine store_ok (v:=.ref a) I7 hN hi (.inl hk) rfl (fun s8 I8=>?_) (.inr hk);refine wpAny_mono (hh a pins _ _ _ (D.sans i) (I8.inH a) (hts a F.ha)) (fun fl s9 q=>?_) (fun _ _ z=>False.elim z);have q:=SP.unH (X:=X) I5.ok q;cases fl with
  |next =>
   obtain⟨σ',H9,I9,q⟩:=q;exact Zo I9 hN hi hk fun s' I'=>⟨_,_,I',q⟩
  |brk =>
   obtain⟨σ',H9,I9,q⟩:=q;exact Zo I9 hN hi hk fun s' I'=>⟨_,_,I',q⟩
  |cont =>
   obtain⟨σ',H9,I9,q⟩:=q;exact Zo I9 hN hi hk fun s' I'=>⟨_,_,I',q⟩
  |ret u =>
   obtain⟨v,σ',H9,I9,r,q⟩:=q;exact Zo I9 hN hi hk fun s' I'=>⟨v,_,_,I',r,q⟩
 ·exact zdf I5.kIn cC c hs F.ob (hr pins σ H D s h a C dd F q)
end
def zdy(tb:XK->TS)(th:Addr->Option Addr->TS):TS:=fun D σ H=>tb (fun cls dd H'=>∃ C,cls=.ref C/\th C dd D σ H') D σ H
theorem zbX{X:Cx}{body:List Stmt}{h0:ExceptHandler}{hs:List ExceptHandler}{pos:Pos}{tb:XK->TS}{th:Addr->Option Addr->TS}(hst:X.stack=X.env::X.outer)(hfr:X.env.frame=some X.env.locals)(hb:PX X body tb)(hh:PH X (h0::hs) th) :
  PS X (.Try body (h0::hs) [] [] pos) (zdy tb th):=by
 intro pins s σ H D I h;refine wpAny_Try_except (wpAny_mono (hb pins s σ H D _ I h) (fun fl s1 q=>?_) (fun e s1 hx=>?_))
 ·cases fl with
  |next=>exact wpAny_execs_nil q
  |ret v=>exact q
  |brk=>exact q
  |cont=>exact q
 ·obtain⟨H1,s2,I1,a,cls,a0,H',B,rfl,L,F,dd,hdd,C,rfl,hts⟩:=hx
  obtain⟨sh,sg,sd,stk,sos⟩:=s1
  -- the exception is younger than the call
  have young:s2.heap.get? a=none:=by
   cases e:s2.heap.get? a with
   |none=>rfl
   |some o =>
    obtain⟨_,f2,f3,oe,vs,_,_,_,he,_,hd,_⟩:=id F;by_cases hf:a∈frs X.stack
    ·obtain⟨_,o',ho',hnf⟩:=f3.mem hf
     have z:=ho'.symm.trans he;cases z;exact absurd hd (hnf vs)
    ·obtain⟨o',e'⟩:=L.c3 a o e hf
     rw[f2] at e';cases e'
  have Ha:H' a=none:=by
   cases e:H' a with
   |none=>rfl
   |some o =>
    obtain⟨u,hu⟩:=L.hok.thr e;have:=L.c2 a u (by rw[e];intro z;cases z) hu;rw[F.2.1] at this;cases this
  have F':=F;rw[hst] at F';refine zem (s:=⟨sh,sg,sd,stk,sos⟩) (outer:=X.outer) (L:=X.env.locals) (by rw[I.ok.frames,hst]) hfr F' fun h4 Hd4 up4 kd4=>zes (s:=⟨h4,sg,sd,stk,sos⟩) Hd4 fun h5 F5 up5 kd5=>?_;refine hh pins σ H' D ⟨sh,sg,sd,stk,sos⟩ h5 a C dd ⟨⟨H1,s2,B,a0,I1,L,up4.trans up5,?_,young⟩,Ha,fun D e=>kd5 _ _ (kd4 _ _ (hdd D e))⟩ hts;rw[hst];exact F5
section
variable {X:Cx}{f:Str}
structure XGet (K:W.Frag) (C:Addr) (f:Str):Prop where
 ga:PySem.W.findIn K (.ref C) "__getattribute__" = some (some (.builtin "BaseException.__getattribute__"))
 gt:PySem.W.findIn K (.ref C) "__getattr__" = some none
 hb:PySem.W.mroIn K C (.type "BaseException")=some true
 hd:PySem.W.hasDictIn K C=true
 na:PySem.W.findIn K (.ref C) f=some none
end
end L2
namespace L2
open PySem PySem.W PySem.Spec PySem.Calls PyProof.Rows PySem.Builtin PySem.Builtin.ObjectAttr PySem.Builtin.Getset_descriptor
section
variable {prog:Program}{w:World}{A:Around}{E:Value->Shared->Prop}{K:Frag}{x C:Addr}{s:Shared}{ox od:Obj}{f:Str}{v:Value}
theorem Ui{tk:Tok}{Q:Fin->Shared->Prop}(X:K.In s.heap)(I:InstAt s.heap x ox C (some od))(c:XGet K C f)(hl:lookIn f od=some (some v))(k:Q (.done (.ret v)) s) :
  wpAny (model prog w) A (Builtin.«object.__getattribute__» ⟨[.ref x,.str f tk],[]⟩) Q E s:=by
 have T0:=I.type (M:=model prog w);have T1:=looks_find (M:=model prog w) X I (findObj_own c.hd c.na rfl hl);obtain⟨hh,gg,dr,tt,ss⟩:=s;unfold Builtin.«object.__getattribute__»
 repeat lk
 exact k
theorem zeL{tk:Tok}{fill expr:Bool}{Q:Value->Shared->Prop}(X:K.In s.heap)(I:InstAt s.heap x ox C (some od))(c:XGet K C f)(hl:lookIn f od=some (some v))(hv:handedIn v=true)(k:Q v s) :
  wpAny (model prog w) A (getAttrBy (.ref x) (.str f tk) fill expr) Q E s:=by
 have T0:=I.type (M:=model prog w);have T1:=looks_findIn (M:=model prog w) X c.ga;have T2:=looks_findIn (M:=model prog w) X c.gt;have f3:=F.attr_ValueError.ga.bind (.ref x);have ob:ObC x C s.heap:=⟨ox,I.at_,I.cls⟩;obtain⟨hh,gg,dr,tt,ss⟩:=s;unfold getAttrBy;refine wpAny_holding (wpAny_bind (T0.at (wpAny_bind (T1.at ?_))));show wpAny _ _ (if (onTheHeap (Value.ref C)&&Value.builtin "BaseException.__getattribute__" == Value.builtin "object.__getattribute__")=true then _ else _) _ _ _;have z:(Value.builtin "BaseException.__getattribute__" == Value.builtin "object.__getattribute__")=false:=by decide +kernel
 rw[z,Bool.and_false,if_neg Bool.false_ne_true];unfold getAttrByItsOwn;refine wpAny_bind (T2.at ?_);refine wpAny_bind (wpAny_attempt (wpAny_holding ?_));have hx0:(expr&&onTheHeap (Value.builtin "BaseException.__getattribute__"))=false:=by cases expr<;>rfl
 unfold callGetattribute;rw[hx0];show wpAny _ _ (boundAndCalled _ _ _) _ _ _;unfold boundAndCalled;rw[f3];refine wpAny_bind (wpAny_pure (wpAny_call ?_));refine codeAny_call_builtin F.attr_ValueError.ga.plain F.entry_bexc_ga ?_;refine XU X ob c.hb (Ui X I c hl ?_);show wpAny _ _ (handedOut v) _ _ _;rw[handedOut_of hv];exact wpAny_pure k
theorem zcN{expr:Bool}{Q:Value->Shared->Prop}(X:K.In s.heap)(I:InstAt s.heap x ox C (some od))(c:XGet K C f)(hl:lookIn f od=some (some v))(hv:handedIn v=true)(k:Q v { s with toks:=s.toks+1 }) :
  wpAny (model prog w) A (getAttr (.ref x) f expr) Q E s:=by
 unfold getAttr;exact wpAny_bind (wpAny_mkText (zeL (s:={ s with toks:=s.toks+1 }) X I c hl hv k))
end
def zdD(K:Frag)(ta:TE)(f:Str):TE:=fun σ H Q=>ta σ H fun x H1=>∃ a C d fs v,x=.ref a/\H1 a=some (.ext (ObX a C (some d)))/\H1 d=some (.xd fs)/\XGet K C f/\fs.lookup f=some v/\Q v H1
theorem zb4{X:Cx}{e:Expr}{f:Str}{pos:Pos}{ta:TE}(he:PE X e ta)(hb:attributeBase e f X.env (eval e X.env)=eval e X.env):PE X (.Attribute e f pos) (zdD X.K ta f):=by
 intro pins s σ H Q I h;refine attr_of hb (thn (he pins s σ H _ I h) fun u s1 hq0=>?_);obtain⟨x,H1,I1,rx,a,C,d,fs,v,ex,ea,ed,c,l,q⟩:=hq0;subst ex;obtain rfl:u=Value.ref a:=rx;obtain⟨⟨o,e1,e2,e3,nc⟩,_,_⟩:=(show ObjOk X.prog X.w H1 s1.heap a (.ext (ObX a C (some d))) from I1.hok a _ ea);obtain⟨mA,ns,r⟩:=(show ObjOk X.prog X.w H1 s1.heap d (.xd fs) from I1.hok d _ ed);obtain⟨od,ho,hl⟩:=Z8 ns;obtain⟨u',hu,ru⟩:=RelO.some_of (v:=v) (o:=mA f) (by rw[<- l];exact r f);have Io:InstAt s1.heap a o C (some od):=⟨e1,e2,nc,by rw[e3];exact ho⟩;exact zcN I1.kIn Io c (by rw[hl,hu]) (Yd ru) ⟨v,H1,I1.tok _,ru,q⟩
end L2
namespace L2
open PySem PySem.Spec PyProof.Rows
section
variable {P:Program}{w:World}{K:W.Frag}{mg:Str->Option Value}{base:Heap}{N:List Str}{qual:Str}{scope:Scope}{f:Addr}{cd:Value}{A:Around}{outer:List Env}{s0:Shared}{H0:Hp}{E:XK}
 {k:Nat}{f' C:Addr}{fd:FuncData}{ps:List Str}{sp:Sp}{x:Str}{p pos:Pos}{e:Expr}{es:List Expr}{t:TA}
theorem WN(c:Maker1 P w K mg base x C f' fd ps k sp)(hr:Room (k+1) (yM (CX1 P w) P w K mg base N qual scope f cd A outer s0 H0 E).A)(ha:Bx (PA (yM (CX1 P w) P w K mg base N qual scope f cd A outer s0 H0 E) (e::es) t))(hg:Gl (yM (CX1 P w) P w K mg base N qual scope f cd A outer s0 H0 E) x:=by rfl)(hdb:(x == ("__debug__" : Str))=false:=by decide)(he:starEach (e::es) (yM (CX1 P w) P w K mg base N qual scope f cd A outer s0 H0 E).env=(false,eval e (yM (CX1 P w) P w K mg base N qual scope f cd A outer s0 H0 E).env)::starEach es (yM (CX1 P w) P w K mg base N qual scope f cd A outer s0 H0 E).env:=by rfl)(hpl:(backTo pos (starEach es (yM (CX1 P w) P w K mg base N qual scope f cd A outer s0 H0 E).env)).any (·.1)=false:=by rfl):Bx (PE (yM (CX1 P w) P w K mg base N qual scope f cd A outer s0 H0 E) (.Call (.Name x p) (e::es) [] pos) (zbF C sp [] E t)):=by
 have ha:=ha.of;exact⟨Vx (X:=yM (CX1 P w) P w K mg base N qual scope f cd A outer s0 H0 E) (CX:=CX1 P w) c.mm c.ok hr hg c.g c.b .nil zd2 ha hdb he hpl⟩
end
section
variable {X:Cx}
theorem VC:OpR X (binaryOp .Mult) (fun x y H Q=>∃ i n,x=.str i/\y=.int n/\0<=n/\n<=1000/\i.length<=1000/\Q (.str (Txt.mul i n)) H):=by
 intro pins s σ H x y v u Q I rx ry h;obtain⟨i,n,rfl,rfl,h0,h1,h2,q⟩:=h;obtain⟨t,rfl⟩:=rx;obtain⟨t',rfl⟩:=ry;refine SB.mul ⟨?_,fun a b=>?_,fun a b=>?_⟩ fun t' tk=>⟨.str (Txt.mul i n),H,I.tok _,⟨_,rfl⟩,q⟩
 ·rw[Bool.or_eq_false_iff]
  exact⟨decide_eq_false (by omega),decide_eq_false (by omega)⟩
 ·have:(1000:Int)<=(2 ^ 63-1)/n:=Int.le_ediv_of_mul_le (by omega) (by omega)
  omega
 ·unfold Builtin.Str.tooLong
  have e2:sizeLine=16777216:=rfl;rw[decide_eq_false_iff_not,e2];have:i.length*n.toNat<=1000*1000:=Nat.mul_le_mul h2 (by omega);omega
end
section
variable {X:Cx}{body suite suite2:List Stmt}{b0 c0:Stmt}{i i2:Nat}{x n x2 n2:Str}{C1 C2:Addr}{np hpos np2 hpos2 pos:Pos}{tb:XK->TS}{th th2:TS}
theorem WG(hst:X.stack=X.env::X.outer)(hfr:X.env.frame=some X.env.locals)(hN:X.N.Nodup)(hi:X.N[i]?=some n)(hk:X.env.scope.names.lookup n=some .local)(c:XAny X.K C1)(hm:X.mg x=some (.ref C1))(hb:Bx (PX X body tb))(hh:∀ a,Bx (PSs (X.inH a) (b0::suite) th))(hg:Gl X x:=by rfl)(hdb:(x == ("__debug__" : Str))=false:=by decide):Bx (PS X (.Try body [.ExceptHandler (some (.Name x np)) (some n) (b0::suite) hpos] [] [] pos) (zdy tb (zf9 X.K C1 i th zf8))):=by
 have hb:=hb.of;have hh:=fun x0=>(hh x0).of;exact⟨zbX hst hfr hb (zfG hN hi hk c hm hh zfF hg hdb)⟩
end
theorem WO{X:Cx}{K:W.Frag}{e:Expr}{f:Str}{pos:Pos}{ta:TE}(hK:X.K=K)(he:Bx (PE X e ta))(hb:attributeBase e f X.env (eval e X.env)=eval e X.env):Bx (PE X (.Attribute e f pos) (zdD K ta f)):=by
 have he:=he.of;refine⟨?_⟩;subst hK;exact zb4 he hb
end L2
namespace L2
open PySem PySem.W PySem.Spec PySem.Calls PyProof.Rows
theorem ObX.ob{a C:Addr}{dd:Option Addr}{h:Heap}(x:ObX a C dd h):ObC a C h:=by
 cases dd with
 |none=>exact x
 |some D =>
  obtain⟨o,e,c,_⟩:=x;exact⟨o,e,c⟩
section
variable {X:Cx}
def zfw(K:Frag):List V->Hp->VK->Prop:=fun xs H Q=>∃ (x C:Addr) (dd:Option Addr) (c:V) (cv:Value) (b:Bool),xs=[.ref x,c]/\zcW c=some cv/\H x=some (.ext (ObX x C dd))/\XIs K C/\kitOne K (.ref C) cv=some b/\Q (.bl b) H
theorem UD{K:Frag}(hK:X.K=K):xr X (.builtin "isinstance") (zfw K):=by
 subst hK;intro pins s σ H xs us Q I r h;obtain⟨x,C,dd,c,cv,b,rfl,hc,hx,xi,e,q⟩:=h;obtain⟨u,v,rfl,r1,r2⟩:=r.two;obtain rfl:=Zs hc r2;cases (show u=Value.ref x from r1);obtain⟨p,_,_⟩:=(show ObjOk X.prog X.w H s.heap x (.ext (ObX x C dd)) from I.hok x _ hx);exact kia_one (XJ xi) I.kIn p.ob e (fun z=>nomatch z) fun tk=>⟨.bl b,H,I.tok tk,rfl,q⟩
theorem UC{K:Frag}(hK:X.K=K):xr X (.builtin "isinstance") (zfx K):=by
 subst hK;exact zK
theorem Yi:∀ {cs:List V}{cvs us:List Value},cs.map zcW=cvs.map some->Vals cs us->us=cvs
 |[],[],_,_,r=>by cases r;rfl
 |c::cs,v::cvs,_,h,r=>by
  cases r with
  |cons r1 r2 =>
   have h:=List.cons.inj h;rw[Zs h.1 r1,Yi h.2 r2]
 |[],_::_,_,h,_=>by cases h
 |_::_,[],_,h,_=>by cases h
def zfv(K:Frag):List V->Hp->VK->Prop:=fun xs H Q=>∃ (x C p:Addr) (dd:Option Addr) (cs:List V) (cvs:List Value) (b:Bool),xs=[.ref x,.ref p]/\H x=some (.ext (ObX x C dd))/\H p=some (.tup cs)/\cs.map zcW=cvs.map some/\XIs K C/\kitAny K (.ref C) cvs=some b/\Q (.bl b) H
theorem UB{K:Frag}(hK:X.K=K):xr X (.builtin "isinstance") (zfv K):=by
 subst hK;intro pins s σ H xs us Q I r h;obtain⟨x,C,p,dd,cs,cvs,b,rfl,hx,hp,hc,xi,e,q⟩:=h;obtain⟨u,v,rfl,r1,r2⟩:=r.two;cases (show u=Value.ref x from r1);cases (show v=Value.ref p from r2);obtain⟨z,_,_⟩:=(show ObjOk X.prog X.w H s.heap x (.ext (ObX x C dd)) from I.hok x _ hx);obtain⟨_,its,ri,o,ho,hcl,n,hd⟩:=(show ObjOk X.prog X.w H s.heap p (.tup cs) from I.hok p _ hp);obtain rfl:=Yi hc ri;obtain⟨oc,od,odt,osl⟩:=o;cases hcl;cases hd;exact kia_tup (XJ xi) I.kIn z.ob ho e (fun z=>nomatch z) fun tk=>⟨.bl b,H,I.tok tk,rfl,q⟩
theorem zak:MtR X "str.upper" (fun x vs H Q=>∃ a,x=.str a/\vs=[]/\(Txt.upper a).length<=10000/\Q (.str (Txt.upper a)) H):=by
 intro pins s σ H x vs v us Q I rx rv h;obtain⟨a,rfl,rfl,hz,q⟩:=h;obtain⟨t,rfl⟩:=rx;cases rv;refine SC.upper ?_ ⟨.str _,H,I.tok _,⟨_,rfl⟩,q⟩;unfold Builtin.Str.tooLong;have e2:sizeLine=16777216:=rfl;rw[decide_eq_false_iff_not,e2];omega
end
end L2
namespace L2
open PySem PySem.Spec PyProof.Rows
theorem entry_dul:entryFor table "dict.update.loop" = some Builtin.«dict.update.loop»:=entryFor_of_tree (by kernel_rfl)
theorem plain_dul:plainId "dict.update.loop" = true:=by decide +kernel
theorem VZ:typeLookup (.type "list") "keys" = pure none:=am_miss_of_fast (by kernel_rfl)
section
variable {P:Program}{w:World}{A:Around}{E:Value->Shared->Prop}{s:Shared}
theorem zcn{a:Addr}{xs:Array Value}{Q:Option Value->Shared->Prop}(hl:PlainL s.heap a xs)(hA:A.handled=none)
  (q:∀ h' tk,(∀ b o,s.heap.get? b=some o->h'.get? b=some o)->Q none { s with heap:=h',toks:=tk }):wpAny (model P w) A (getAttr? (.ref a) "keys") Q E s:=by
 obtain⟨o,n,hx,hc,hd,hs⟩:=hl;obtain⟨c,dct,dat,sl⟩:=o;dsimp only at hc hd hs;subst hc hd hs;obtain⟨hp,g,dr,tk0,os⟩:=s;have hT:∀ tk',(⟨hp,g,dr,tk',os⟩:Shared).TypeIs (.ref a) "list" := fun _=>⟨_,hx,rfl⟩;have f1:=sub_AttributeError;have f3:=F.slot_list_getattribute.lookup;have f4:=F.slot_list_getattribute.bind (.ref a);have f5:=am_list_getattr_none;unfold getAttr? getAttrBy? getAttrBy
 repeat (any_goals (first | assumption | exact hT _ | ((with_reducible show wpAny _ _ (call (Value.builtin "list.__getattribute__") _ _) _ _ _);refine call_meets F.slot_list_getattribute (hT _) am_entry_list_getattribute (F.args_list_getattribute_2 _ _) (meets_getattribute_miss_list a xs n sl "keys" _ VZ (by decide +kernel) (by decide +kernel)) ⟨hx,hA,fun h1 tk1 e1 ne=>?_⟩) | wp_step))
 obtain⟨t',u',he⟩:=ne.there;show wpAny _ _ (getattributeRaised _ _ _ _ _ _ _) _ _ _;unfold getattributeRaised hookOrError attributeErrorLeaves
 repeat (any_goals (first | assumption | wp_step))
 exact q _ _ ne.keeps
variable {K:Type} [DecidableEq K]{knd:KeyKind P w K}
theorem zeP{d I:Addr}{fp wr:List Addr}{n:Nat}{Is:Nat->Value->Prop}{St:Nat->Heap->Prop}{R:Except Value Flow->Shared->Prop}(W:Walks P w A.in1 I fp wr n Is St)(nf:d∉fp)(kvs:List (K×Value))(hk:kvs.length=n)(hz:n<=1000)
  (h0:Heap) (hI:∀ i v,Is i v->∃ q k,v=.ref q/\(∃ o x,h0.get? q=some o/\o.cls=.type "tuple" /\ o.data=.seq #[k,(kvs[i]?.map (·.2)).getD .none] x)/\∃ kk,(kvs[i]?.map (·.1))=some kk/\knd.is kk k=true)
  (hq:∀ i v q,Is i v->v=.ref q->q∉wr/\q≠d) :
  ∀ (r j:Nat) (t:Shared) (tk0:Tok),j+r=n->St j t.heap->t.heap.DictOf knd d (merged [] (kvs.take j))->(∀ b o,b∉wr->b≠d->h0.get? b=some o->t.heap.get? b=some o) ->
   (∀ h' tk,h'.DictOf knd d (merged [] kvs)->(∀ b o,b∉wr->b≠d->t.heap.get? b=some o->h'.get? b=some o)->R (.ok (.ret .none)) { t with heap:=h',toks:=tk }) ->
   codeAny (model P w) A (.builtin "dict.update.loop" ⟨[.ref d,.ref I,.int (j:Int) tk0,.none],[]⟩) R t:=by
 have nw:d∉wr:=fun z=>nf (W.sub _ z);intro r
 induction r with
 |zero =>
  intro j t tk0 hj st hd keep fin;have ej:j=n:=by omega
  subst ej;refine codeAny_builtin entry_dul (by
   rw[Around.under_plainId plain_dul _];show wpAny _ A.in1 (pyNext (.ref I) >>= _) _ _ t;refine wpAny_bind (W.done t _ _ st fun h1 tk kk=>?_);show wpAny _ A.in1 (Builtin.Dict.addKeywords d [] >>= _) _ _ _;rw[<- hk,take_length] at hd;obtain⟨o,ho,hdo⟩:=Heap.dictOf_iff.mp hd;exact wpAny_bind (wpAny_pure (wpAny_pure (fin h1 tk (Heap.dictOf_iff.mpr ⟨o,kk d o nw ho,hdo⟩) fun b o n1 _ e=>kk b o n1 e))))
 |succ r ih =>
  intro j t tk0 hj st hd keep fin;refine codeAny_builtin entry_dul (by
   rw[Around.under_plainId plain_dul _];show wpAny _ A.in1 (pyNext (.ref I) >>= _) _ _ t;refine wpAny_bind (W.item j t _ _ (by omega) st fun v h1 tk iv st1 kk=>?_);obtain⟨q,k,rfl,⟨o,x,hq0,hc,hs⟩,kx,hkx,hki⟩:=hI j v iv;obtain⟨nq1,nq2⟩:=hq j _ q iv rfl;have hq1:=kk q o nq1 (keep q o nq1 nq2 hq0);obtain⟨od,hod,hdo⟩:=Heap.dictOf_iff.mp hd;have hd1:h1.DictOf knd d (merged [] (kvs.take j)):=Heap.dictOf_iff.mpr ⟨od,kk d od nw hod,hdo⟩;obtain⟨⟨k2,v2⟩,hkv⟩:∃ kv,kvs[j]?=some kv:=⟨kvs[j]'(by omega),by simp[show j<kvs.length by omega]⟩;rw[hkv] at hs hkx;cases hkx;show wpAny _ A.in1 (holding [Value.ref q] (tryCatch (Builtin.Dict.pairItems (Value.ref q)) _ >>= _) >>= _) _ _ _;refine wpAny_bind (wpAny_holding (wpAny_bind (wpAny_tryCatch ?_)));unfold Builtin.Dict.pairItems;refine wpAny_bind (wpAny_typeOf (T := "tuple") ⟨o,hq1,hc⟩ ?_);rw[if_pos (by decide)];refine wpAny_bind (wpAny_seqItems hq1 hs (wpAny_pure ?_));show wpAny _ A.in1 (holding [k,v2] (dictSet d k v2)) _ _ _;refine wpAny_holding (wpAny_dictSet_pairs hki hd1 (fun h2 hd2 sb=>?_) ?_)
   ·show wpAny _ A.in1 (pure _) _ _ _
    have hm:=merged_take_succ ([]:List (K×Value)) kvs j (k2,v2) hkv;refine wpAny_pure ⟨plainId_quiet plain_dul _,ih (j+1) _ _ (by omega) (W.frame _ _ _ st1 fun b hb o e=>?_) (by rw[hm];exact hd2) (fun b o n1 n2 e=>?_) fun h3 tk3 hd3 kk3=>fin h3 tk3 hd3 fun b o n1 n2 e=>kk3 b o n1 n2 ?_⟩
    ·exact(sb.2 b fun z=>nf (z ▸ hb)).trans e
    ·exact(sb.2 b n2).trans (kk b o n1 (keep b o n1 n2 e))
    ·exact(sb.2 b n2).trans (kk b o n1 e)
   ·have:=merged_length_le ([]:List (K×Value)) (kvs.take j)
    rw[length_take] at this;simp only[length_nil] at this;exact le_trans (show _<=1000 by omega) (by decide))
end
section
variable {X:Cx}
theorem Xj:∀ {xs:List V}{us:List Value}{i:Nat}{u:Value},Vals xs us->us[i]?=some u->∃ x,xs[i]?=some x/\RelV x u
 |_,_,0,_,.cons r _,h=>by cases h;exact⟨_,rfl,r⟩
 |_,_,i+1,_,.cons _ t,h=>by
  obtain⟨x,e,r⟩:=Xj t (by simpa using h);exact⟨x,by simpa using e,r⟩
theorem XE{pins:List (Addr×Obj)}{σ:St}{H:Hp}{s:Shared}(I:Inv X pins σ H s):∀ (qs:List Addr) (kvs:List (Key×V)),qs.length=kvs.length->(∀ (i:Nat) (q:Addr) (kv:Key×V),qs[i]?=some q->kvs[i]?=some kv->H q=some (.tup [kV kv.1,kv.2])) ->
  ∃ vs:List (Key×Value),KV kvs vs/\∀ (i:Nat) (q:Addr),qs[i]?=some q->∃ o x k kv,s.heap.get? q=some o/\o.cls=.type "tuple" /\ o.data=.seq #[k,kv.2] x/\vs[i]?=some kv/\(zP X.prog X.w).is kv.1 k=true
 |[],[],_,_=>⟨[],.nil,fun i q h=>by simp at h⟩
 |q::qs,kv::kvs,hl,h=>by
  obtain⟨vs,r,hv⟩:=XE I qs kvs (by simpa using hl) fun i q' kv' h1 h2=>h (i+1) q' kv' (by simpa using h1) (by simpa using h2);have h0:=h 0 q kv rfl rfl;obtain⟨its,rv,it,_⟩:=I.tuple (sP h0);obtain⟨uk,ux,rfl,rk,rx⟩:∃ uk ux,its=[uk,ux]/\RelV (kV kv.1) uk/\RelV kv.2 ux:=by
   cases rv with | cons r1 rv =>
   cases rv with | cons r2 rv =>
   cases rv;exact⟨_,_,rfl,r1,r2⟩
  obtain⟨o,e,oc,n,od⟩:=it;refine⟨(kv.1,ux)::vs,.cons ⟨rfl,rx⟩ r,fun i q' hi=>?_⟩;cases i with
  |zero =>
   cases hi;exact⟨o,n,uk,(kv.1,ux),e,oc,od,rfl,Z9 rk⟩
  |succ i=>exact hv i q' (by simpa using hi)
def zdY(K:W.Frag):List V->Hp->VK->Prop:=fun xs H Q=>∃ (a:Addr) (qs:List Addr) (kvs:List (Key×V)),xs=[V.ref a]/\H a=some (.lst (qs.map V.ref))/\qs.length=kvs.length/\kvs.length<=1000/\(∀ (i:Nat) (q:Addr) (kv:Key×V),qs[i]?=some q->kvs[i]?=some kv->H q=some (.tup [kV kv.1,kv.2])) /\
 ∀ p,H p=none->Q (.ref p) (upd H p (.dK (mergeK [] kvs)))
theorem wb(hc:X.calm=true):xr X (.type "dict") (zdY X.K):=by
 intro pins s σ H xs us Q I r h;obtain⟨a,qs,kvs,rfl,ha,hl,hz,hq,k⟩:=h;obtain⟨u,rfl,ru⟩:=r.one;cases ru;obtain⟨its,rv,pl,_⟩:=I.list (sO ha);have hA:X.A.handled=none:=I.ok.hd hc;refine callType_codes (Q₁:=fun obj s₁=>obj=.ref s.heap.objs.size/\s₁={ s with heap:=s.heap.push { cls:=.type "dict",data:=.dict #[] } }) F.kt_called_dict (F.kt_typeCall_dict_1 _) F.entry_dict_init (kt_code_dict_new _ ⟨rfl,rfl⟩) ?_;rintro obj s₁ ⟨rfl,rfl⟩;have hnew:(s.heap.push { cls:=.type "dict",data:=.dict #[] }).DictOf (zP X.prog X.w) s.heap.objs.size []:=Heap.DictOf.new s.heap;have lt:a<s.heap.objs.size:=by
  obtain⟨_,e,_⟩:=pl.isList;exact Heap.lt_size e
 have pl1:PlainL (s.heap.push { cls:=.type "dict",data:=.dict #[] }) a its.toArray:=by
  obtain⟨o,n,e,r⟩:=pl;exact⟨o,n,Heap.get?_push_of_some _ e,r⟩
 refine⟨hnew.typeIs,F.args_dict_init_2 _ _,?_⟩;unfold Builtin.«dict.__init__»;refine wpAny_bind ?_;unfold Builtin.Dict.selfAndRest;refine wpAny_bind (wpAny_notOrdered_dict hnew.typeIs ?_);show wpAny _ _ (pure (s.heap.objs.size,[Value.ref a])) _ _ _;refine wpAny_pure ?_;show wpAny _ _ (Builtin.Dict.updateFrom "dict.__init__" s.heap.objs.size (.ref a) [] .none) _ _ _;unfold Builtin.Dict.updateFrom;obtain⟨o,n,e,oc,od,os⟩:=pl1;refine wpAny_bind (wpAny_typeOf (T := "list") ⟨o,e,oc⟩ ?_);rw[if_pos (by decide)];refine wpAny_bind (zcn ⟨o,n,e,oc,od,os⟩ hA fun h1 tk1 kk1=>?_);obtain⟨vs,rel,hvs⟩:=XE I qs kvs hl hq;have hl1:h1.IsList a its.toArray:=⟨o,kk1 _ _ e,oc,n,os⟩;show wpAny _ _ (rule _ >>= _) _ _ _;refine wpAny_bind (wpAny_rule (wpAny_bind (wpAny_pyIter_list hl1 ?_)));have nd0:(s.heap.push { cls:=.type "dict",data:=.dict #[] }).get? s.heap.objs.size=some { cls:=.type "dict",data:=.dict #[] }:=Heap.get?_push_size _ rfl;have nd1:=kk1 _ _ nd0;have ltd:s.heap.objs.size<h1.objs.size:=Heap.lt_size nd1;have lta:a<h1.objs.size:=lt_trans lt ltd;have len:its.toArray.size=vs.length:=by
  have e1:=rv.length;rw[length_map] at e1;have e2:=rel.length;simp;omega
 have lvs:vs.length=kvs.length:=(rel.length).symm;have W:=Walks.list (prog:=X.prog) (w:=X.w) (A:=X.A.in1.in1) hA h1.objs.size a (ne_of_lt lta) its.toArray;have st:((h1.push { cls:=.type "list_iterator",data:=.fields #[.ref a,.int 0 0] }).IsListIter h1.objs.size a 0/\(h1.push { cls:=.type "list_iterator",data:=.fields #[.ref a,.int 0 0] }).IsList a its.toArray):=⟨⟨_,Heap.get?_push_size _ rfl,rfl,rfl⟩,hl1.push _⟩;have nf:s.heap.objs.size∉[h1.objs.size,a]:=by
  intro z;rcases mem_cons.mp z with z | z
  ·exact lt_irrefl _ (z ▸ ltd)
  ·exact lt_irrefl _ ((mem_singleton.mp z) ▸ lt)
 have item:∀ (i:Nat) (v:Value),its.toArray[i]?=some v->∃ q:Addr,v=Value.ref q/\qs[i]?=some q:=fun i v hv=>by
  have hv:its[i]?=some v:=by simpa using hv
  obtain⟨x,hx,rx⟩:=Xj rv hv;rw[List.getElem?_map] at hx;obtain⟨q,hq,rfl⟩:=map_eq_some_iff.mp hx;exact⟨q,rx,hq⟩
 have hd0:(h1.push { cls:=.type "list_iterator",data:=.fields #[.ref a,.int 0 0] }).DictOf (zP X.prog X.w) s.heap.objs.size []:=by
  obtain⟨od,hod,hdo⟩:=Heap.dictOf_iff.mp hnew;exact Heap.dictOf_iff.mpr ⟨od,Heap.get?_push_of_some _ (kk1 _ _ hod),hdo⟩
 refine wpAny_pure ⟨plainId_quiet plain_dul _,zeP (A:=X.A.in1) (knd:=zP X.prog X.w) W nf vs len.symm (by omega) s.heap ?_ ?_ its.toArray.size 0 _ 0 (by omega) st hd0 ?_ ?_⟩
 ·intro i v hv
  obtain⟨q,rfl,hq'⟩:=item i v hv;obtain⟨o,x,k',kv,e1,e2,e3,e4,e5⟩:=hvs i q hq';exact⟨q,k',rfl,⟨o,x,e1,e2,by rw[e4];exact e3⟩,kv.1,by rw[e4];rfl,e5⟩
 ·intro i v q hv ev
  obtain⟨q',rfl,hq'⟩:=item i v hv;cases ev;obtain⟨o,x,k',kv,e1,_⟩:=hvs i _ hq';have l1:=Heap.lt_size e1;exact⟨fun z=>by rw[mem_singleton.mp z] at l1;exact lt_irrefl _ (lt_trans l1 ltd),fun z=>by rw[z] at l1;exact lt_irrefl _ l1⟩
 ·intro b o n1 n2 e
  exact Heap.get?_push_of_some _ (kk1 _ _ (Heap.get?_push_of_some _ e))
 ·intro h' tk hd' kk'
  refine⟨rfl,?_⟩;refine⟨.ref s.heap.objs.size,_,I.laid (a:=s.heap.objs.size) (o:=.dK (mergeK [] kvs)) (t':=tk) (fun b o e=>?_) (Nat.le_refl _) (X0 ?_ (beq_eq_false_iff_ne.mpr (Ne.symm (ne_of_lt I.big))) (KV.merge rel .nil) hd'),rfl,k _ (I.hok.fresh (Nat.le_refl _))⟩
  ·have l1:=Heap.lt_size e
   refine kk' b o (fun z=>?_) (fun z=>?_) (Heap.get?_push_of_some _ (kk1 _ _ (Heap.get?_push_of_some _ e)))
   ·rw[mem_singleton.mp z] at l1
    exact lt_irrefl _ (lt_trans l1 ltd)
   ·rw[z] at l1
    exact lt_irrefl _ l1
  ·have e1:=(KV.merge rel (.nil:KV ([]:List (Key×V)) [])).length
   have e2:=merged_length_le ([]:List (Key×Value)) vs;simp only[length_nil] at e2;exact le_trans (show _<=1000 by omega) (by decide)
end
def zfh(td ty:TE):TE:=fun σ H Q=>td σ H fun x H1=>∃ a,x=.ref a/\IsD H1 a/\ty σ H1 fun y H2=>∃ b kvs more,y=.ref b/\a≠b/\H2 a=some (.dK kvs)/\H2 b=some (.dK more)/\kvs.length+more.length<=1000/\Q .non (upd H2 a (.dK (mergeK kvs more)))
section
variable {X:Cx}{o e:Expr}{apos cpos:Pos}{td ty:TE}
theorem WQ(ho:Bx (PE X o td))(he:Bx (PE X e ty))(m:M1 X o "update" apos e cpos):Bx (PE X (.Call (.Attribute o "update" apos) [e] [] cpos) (zfh td ty)):=by
 have ho:=ho.of;have he:=he.of;refine⟨?_⟩;intro pins s σ H Q I h;refine wpAny_Call_method m.base m.few m.line PySem.F.plainAttrs_dict PySem.F.slot_dict_update PySem.F.type_dict_update (thn (ho pins s σ H _ I h) fun u s1 hq0=>?_);obtain⟨x,H1,I1,rx,a,ex,d,q1⟩:=hq0;subst ex;obtain rfl:u=Value.ref a:=rx;obtain⟨t1,t2,_⟩:=XR I1 d;refine⟨t1,t2,?_⟩;rw[m.trees];refine Calls.callWith_builtin rfl (Calls.evalArgs_plain (Calls.spliced_cons (thn (he pins s1 σ H1 _ I1 q1) fun iv s2 ⟨y,H2,I2,ry,b,kvs,more,ey,ne,ha,hb,hz,q2⟩=>Calls.spliced_nil ?_)));subst ey;obtain rfl:iv=Value.ref b:=ry;obtain⟨z1,hd1,vs1,rel1,dd1⟩:=Um I2.hok ha;obtain⟨z2,hd2,vs2,rel2,dd2⟩:=Um I2.hok hb;have l1:=rel1.length;have l2:=rel2.length;have rm:=KV.merge rel2 rel1;have lm:=merged_length_le vs1 vs2;have lm2:=rm.length;refine call_meetsIn PySem.F.slot_dict_update dd1.typeIs PySem.F.entry_dict_update (PySem.F.args_dict_update_2 _ _) (meets_dict_update (zP X.prog X.w) a b ne hd2) ⟨vs1,vs2,dd1,dd2,le_trans (show _<=1000 by omega) (by decide),fun h' dd' _ hs=>?_⟩;have he':∃ q,h'.get? a=some q:=let ⟨q,_,_,hq,_⟩:=dd';⟨q,hq⟩
 exact⟨.non,_,vZ (t':=s2.toks) I2 (by rw[ha];exact True.intro) hs he' (X0 (le_trans (show _<=1000 by omega) (by decide)) hd1 rm dd'),rfl,q2⟩
end
section
variable {X:Cx}
def zg7(K:W.Frag)(A:Around):R2:=fun x y H Q=>∃ (a b:Addr) (xs ys:List V),x=.ref a/\y=.ref b/\SqL K H a xs/\SqL K H b ys/\xs.length≠ys.length/\A.units<cLine/\Q (.bl false) H
theorem zd9:OpR X (compareOp .Eq) (zg7 X.K X.A):=by
 intro pins s σ H x y v u Q I rx ry h;obtain⟨a,b,xs,ys,rfl,rfl,h1,h2,hl,hu,q⟩:=h;cases rx;cases ry;obtain⟨i1,r1,p1,_⟩:=I.list h1;obtain⟨i2,r2,p2,_⟩:=I.list h2;exact SeqAt.RcAt.lists_lengths p1.isList p2.isList (by simp;rw[<- r1.length,<- r2.length];exact hl) hu _ _ _ _ ⟨.bl _,H,I,rfl,q⟩
end
section
variable {X:Cx}{pins:List (Addr×Obj)}{σ:St}{H G:Hp}{s:Shared}{d:Addr}{od:Obj}{kvs:List (Key×V)}
theorem Inv.froz(I:Inv X pins σ H s)(e:H d=some (.dK kvs))(q0:s.heap.get? d=some od):Inv X pins σ (upd H d (.frz od (.dK kvs))) s:=by
 have ne:∀ {b:Addr}{o:HO},H b=some o->(∀ kvs,o≠.dK kvs)->upd H d (.frz od (.dK kvs)) b=some o:=fun {b o} q n=>by
  rw[upd_ne (fun z=>by rw[z,e] at q;injection q with q;exact n _ q.symm)];exact q
 have no:∀ {b:Addr},H b=none->upd H d (.frz od (.dK kvs)) b=none:=fun {b} q=>by
  rw[upd_ne (fun z=>by rw[z,e] at q;cases q)];exact q
 refine⟨I.ok,I.os,I.bare,⟨I.base.keep,I.base.slot,fun b o q n x=>no (I.base.free b o q n x),I.base.there,fun b xs q=>ne (I.base.tups b xs q) (fun _ z=>by cases z),fun b o u q=>ne (I.base.frzs b o u q) (fun _ z=>by cases z),fun b ps q=>?_⟩,I.loc,I.cell,no I.free,fun x c q=>no (I.freeC x c q),fun p hp=>?_,fun b o q=>?_,I.len⟩
 ·obtain⟨m,q⟩:=I.base.tbls b ps q
  exact⟨m,ne q (fun _ z=>by cases z)⟩
 ·obtain⟨p1,p2,p3⟩:=I.pin p hp
  exact⟨p1,no p2,p3⟩
 ·have st:∀ {b:Addr}{o:HO},H b=some o->ObjOk X.prog X.w (upd H d (.frz od (.dK kvs))) s.heap b o:=fun {b o} q=>(I.hok b o q).stay (fun c u _ q=>q) (fun c q=>ne q (fun _ z=>by cases z)) fun c xs q=>ne q (fun _ z=>by cases z)
  by_cases c:b=d
  ·subst c
   rw[upd_same] at q;cases q;exact⟨q0,st e⟩
  ·rw[upd_ne c] at q
   exact st q
theorem Inv.thaw(I:Inv X pins σ G s)(S:∀ o u,X.H₀ d≠some (.frz o u))(g:G d=some (.frz od (.dK kvs))):Inv X pins σ (upd G d (.dK kvs)) s:=by
 have ne:∀ {b:Addr}{o:HO},G b=some o->(∀ ob u,o≠.frz ob u)->upd G d (.dK kvs) b=some o:=fun {b o} q n=>by
  rw[upd_ne (fun z=>by rw[z,g] at q;injection q with q;exact n _ _ q.symm)];exact q
 have no:∀ {b:Addr},G b=none->upd G d (.dK kvs) b=none:=fun {b} q=>by
  rw[upd_ne (fun z=>by rw[z,g] at q;cases q)];exact q
 refine⟨I.ok,I.os,I.bare,⟨I.base.keep,I.base.slot,fun b o q n x=>no (I.base.free b o q n x),I.base.there,fun b xs q=>ne (I.base.tups b xs q) (fun _ _ z=>by cases z),fun b o u q=>?_,fun b ps q=>?_⟩,I.loc,I.cell,no I.free,fun x c q=>no (I.freeC x c q),fun p hp=>?_,fun b o q=>?_,I.len⟩
 ·rw[upd_ne (fun(z:b=d)=>S o u (by rw[<- z];exact q))]
  exact I.base.frzs b o u q
 ·obtain⟨m,q⟩:=I.base.tbls b ps q
  exact⟨m,ne q (fun _ _ z=>by cases z)⟩
 ·obtain⟨p1,p2,p3⟩:=I.pin p hp
  exact⟨p1,no p2,p3⟩
 ·have st:∀ {b:Addr}{o:HO},ObjOk X.prog X.w G s.heap b o->ObjOk X.prog X.w (upd G d (.dK kvs)) s.heap b o:=fun {b o} q=>q.stay (fun c u _ q=>q) (fun c q=>ne q (fun _ _ z=>by cases z)) fun c xs q=>ne q (fun _ _ z=>by cases z)
  by_cases c:b=d
  ·subst c
   rw[upd_same] at q;cases q;exact st (I.hok b _ g).2
  ·rw[upd_ne c] at q
   exact st (I.hok b o q)
theorem KV.getAt:∀ {kvs:List (Key×V)}{vs:List (Key×Value)},KV kvs vs->∀ {i:Nat}{p:Key×V},kvs[i]?=some p->∃ u,vs[i]?=some (p.1,u)/\RelV p.2 u
 |_,_,.nil,i,p,h=>by cases h
 |_,_,.cons (b:=q) r t,0,p,h=>by
  cases h;exact⟨q.2,by rw[r.1];rfl,r.2⟩
 |_,_,.cons r t,i+1,p,h=>KV.getAt t (i:=i) h
end
theorem zR{X:Cx}{body:List Stmt}{q:TS->Prop}{t:TS}(h:Bx (PSs X body t))(k:q t):∃ t,PSs X body t/\q t:=⟨t,h.of,k⟩
theorem uc{X:Cx}{e:Expr}{t:TT}(h:Bx (PW X e t)):Bx (PT X e t):=⟨h.of.pt⟩
section
variable {X:Cx}
theorem zg{i j pos}:Bx (PE X (.Constant (.int i) j pos) (tC (.int i))):=⟨wg⟩
theorem zM{b j pos}:Bx (PE X (.Constant (.bool b) j pos) (tC (.bl b))):=⟨uf⟩
theorem zi{x j pos}:Bx (PE X (.Constant (.str x) j pos) (tC (.str x))):=⟨ZQ⟩
theorem yd{x:Str}{v:V}{u:Value}{pos:Pos}(hg:Gl X x)(hm:X.mg x=some u)(r:RelV v u)(hd:(x == ("__debug__" : Str))=false:=by decide):Bx (PE X (.Name x pos) (tC v)):=⟨xj hg hm r hd⟩
variable {a b:Expr}{ta tb:TE}{pos:Pos}
theorem Xf{op:CmpOp}{t:TE}(h:Bx (PC X op a b t))(h1:behindInMarks op b=false:=by first | exact nobehind _ (by decide) (by decide) | rfl):Bx (PT X (.Compare a [op] [b] pos) (tB t)):=⟨za9 h.of h1⟩
theorem zH{e:Expr}{t:TE}(h:Bx (PE X e t))(he:∀ whole,isTrue e X.env whole=(do let v <- whole;standAt e.pos;holding [v] (truthy v)):=by intro _;rfl):Bx (PT X e (tB t)):=⟨xP h.of he⟩
variable {a b:Expr}{ta tb:TE}{pos:Pos}
variable {tA tB':TT}{rest:List Expr}
theorem yR(ha:Bx (PT X a tA)):Bx (PW X (.BoolOp .Or [a] pos) tA):=⟨uu ha.of⟩
theorem yP(ha:Bx (PT X a tA))(hb:Bx (PW X (.BoolOp .Or (b::rest) pos) tB')):Bx (PW X (.BoolOp .Or (a::b::rest) pos) (tOr tA tB')):=⟨ZL ha.of hb.of⟩
theorem zX(ha:Bx (PT X a tA)):Bx (PT X (.UnaryOp .Not a pos) (zfg tA)):=⟨xQ ha.of⟩
theorem yo{op}{t:TE}(h:Bx (PE X a t)):Bx (PE X (.BoolOp op [a] pos) t):=⟨Vw h.of⟩
theorem yp(ha:Bx (PE X a ta))(hb:Bx (PE X (.BoolOp .And (b::rest) pos) tb)):Bx (PE X (.BoolOp .And (a::b::rest) pos) (tAndV ta tb)):=⟨XD ha.of hb.of⟩
theorem uK(ha:Bx (PE X a ta)):Bx (PE X (.UnaryOp .Not a pos) (zdB ta)):=⟨zbc ha.of⟩
end
section
variable {X:Cx}{st:Stmt}{rest:List Stmt}{t u:TS}{e:Expr}{te:TE}{pos:Pos}
theorem zo  : Bx (PSs X [] W6):=⟨xh⟩
theorem zd(h1:Bx (PS X st t))(h2:Bx (PSs X rest u)):Bx (PSs X (st::rest) (UP t u)):=⟨zS h1.of h2.of⟩
theorem ze(h1:Bx (PS X st t)):Bx (PSs X [st] t):=⟨yg h1.of⟩
theorem xa(he:Bx (PE X e te))(hs:swapsWith e none pos.line X.env=pure false:=by rfl):Bx (PS X (.Expr e pos) (UR te)):=⟨YF he.of hs⟩
theorem zm(he:Bx (PE X e te)):Bx (PS X (.Return (some e) pos) (zdA te)):=⟨xx he.of⟩
theorem zv{c:Expr}{a b:List Stmt}{tc:TT}(hc:Bx (PT X c tc))(ha:Bx (PSs X a t))(hb:Bx (PSs X b u)):Bx (PS X (.If c a b pos) (zc6 tc t u)):=⟨vJ hc.of ha.of hb.of⟩
end
section
variable {X:Cx}{pos:Pos}
theorem zE{i:Nat}{x:Str}(hN:X.N.Nodup)(hi:X.N[i]?=some x)(hx:Loc X.env.scope x)(hf:X.fn x=true\/X.env.scope.names.lookup x=some .local:=by first | exact .inl rfl | exact .inr rfl | assumption):Bx (PG X (.Name x pos) (Yg i)):=⟨wt hN hi hx hf⟩
theorem xw  : Bx (PGs X [] gNil):=⟨Vu⟩
theorem yh{e:Expr}{es:List Expr}{t:TG}{u:TGs}(h1:Bx (PG X e t))(h2:Bx (PGs X es u))(hs:(assignEach (e::es) X.env).map (·.2)=assign e X.env::(assignEach es X.env).map (·.2):=by rfl):Bx (PGs X (e::es) (zeJ t u)):=⟨u5 h1.of h2.of hs⟩
theorem x8{es:List Expr}{k:Nat}{t:TGs}{n:Nat}(hc:X.calm=true)(h:Bx (PGs X es t))(hn:(assignEach es X.env).length=n:=by rfl)(hst:(assignEach es X.env).findIdx? (·.1)=none:=by rfl):Bx (PG X (.Tuple es k pos) (zgD X.K n t)):=⟨zbb hc h.of hn hst⟩
theorem uJ {o i:Expr}{to ti:TE}{t:ze8}(ho:Bx (PE X o to)) (hi:Bx (PE X i ti)) (hs:zf4 X t) (ha:∀ v,assign (.Subscript o i pos) X.env v=(do
   let ov <- holding [v] (eval o X.env)
   let iv <- holding [v,ov] (eval i X.env)
   standAt pos
   holding [v,ov,iv] (setItem ov iv v)
   release [v,ov,iv] []):=by intro _;rfl):Bx (PG X (.Subscript o i pos) (zgE to ti t)):=⟨zdZ ho.of hi.of hs ha⟩
theorem zr{i:Nat}{x:Str}{e:Expr}{te:TE}{pos':Pos}(hN:X.N.Nodup)(hi:X.N[i]?=some x)(hx:Loc X.env.scope x)(he:Bx (PE X e te))(hs:swapsWith e (some (.Name x pos')) pos.line X.env=pure false:=by rfl)(hf:X.fn x=true\/X.env.scope.names.lookup x=some .local:=by first | exact .inl rfl | exact .inr rfl | assumption):Bx (PS X (.Assign [.Name x pos'] e pos) (zc7 te (Yg i))):=⟨ZM hN hi hx he.of hs hf⟩
end
section
variable {X:Cx}{tg:Expr}
theorem yE{l:Expr}{tl:TE}(hl:Bx (PE X l tl)):Bx (PI X tg l (zeD X.K tl)):=⟨wV hl.of⟩
theorem yt{iter:Expr}{body:List Stmt}{wi:TI}{g:TG}{tb:TS}{pos:Pos}(hp:PassesOwn (model X.prog X.w) X.A X.env X.xe)(hc:X.calm=true)(hi:Bx (PI X tg iter wi))(hg:Bx (PG X tg g))(hb:Bx (PSs X body tb))(hs:∀ x,foldedSetIterable iter X.env x=pure x:=by intro _;rfl):Bx (PS X (.For tg iter body [] pos) (zgb wi g tb)):=⟨ZN hp hc hi.of hg.of hb.of hs⟩
end
section
variable {X:Cx}{a b c:Expr}{ta tb tc:TE}{pos:Pos}
theorem WK{op:UnaryOp}{r:V->Hp->VK->Prop}(ho:UnR X (unaryOp op) r)(ha:Bx (PE X a ta)):Bx (PE X (.UnaryOp op a pos) (tUn r ta)):=⟨zd1 ho ha.of⟩
theorem zO{op:CmpOp}{r:R2}(ho:OpR X (compareOp op) r)(ha:Bx (PE X a ta))(hb:Bx (PE X b tb))(hm:behindInMarks op b=false):Bx (PE X (.Compare a [op] [b] pos) (tOp r ta tb)):=⟨u6 ho ha.of hb.of hm⟩
theorem zp{op:CmpOp}{r:R2}(ho:OpR X (compareOp op) r)(ha:Bx (PE X a ta))(hb:Bx (PE X b tb))(hm:behindInMarks op b=false):Bx (PT X (.Compare a [op] [b] pos) (W5 (tOp r ta tb))):=⟨wq ho ha.of hb.of hm⟩
end
section
variable {X:Cx}{o e value:Expr}{f:Str}{pos pos' tpos:Pos}{ta tv:TE}
theorem yn(ha:Bx (PE X o ta))(hv:Bx (PE X value tv))(hs:swapsWith value (some (.Attribute o f pos')) pos.line X.env=pure false):Bx (PS X (.Assign [.Attribute o f pos'] value pos) (zgu X.K ta tv f)):=⟨ZO ha.of hv.of hs⟩
end
section
variable {X:Cx}{e:Expr}{es:List Expr}{te:TE}{t:TA}{pos:Pos}
theorem zb  : Bx (PA X [] wN):=⟨ym⟩
theorem zn(ha:Bx (PE X e te))(hr:Bx (PA X es t))(hs:starEach (e::es) X.env=(false,eval e X.env)::starEach es X.env:=by rfl):Bx (PA X (e::es) (yr te t)):=⟨xo ha.of hr.of hs⟩
theorem zt(h:Bx (PA X es t)):Bx (PE X (.List es pos) (UQ t)):=⟨XB h.of⟩
end
section
variable {X:Cx}{CX:CXT}{k:Nat}{f C:Addr}{fd:FuncData}{ps:List Str}{sp:Sp}{dvs:List V}{ds:List Value}{E:XK}{x m:Str}{p pos apos:Pos}{e o:Expr}{es:List Expr}{ta:TE}{t:TA}
theorem zdo {pl:Sem Bool}(he:Bx (PE X o ta)) (c:Cls X.K C) (hm:Meth X.K C m f) (F:FnOk X.prog X.w X.K X.mg X.base CX k f fd ps sp) (hr:Room k X.A) (hb:Binds X.K fd ps ds) (hd:Vals dvs ds) (hx:w6 CX X E) (ha:Bx (PA X (e::es) t)) (hst:starEach (e::es) X.env=(false,eval e X.env)::starEach es X.env:=by rfl) (hpl:(backTo pos (starEach es X.env)).any (·.1)=false:=by rfl) (ht:eval (.Call (.Attribute o m apos) (e::es) [] pos) X.env=(do
   let ov <- eval o X.env
   standAt apos.atName
   let (f,first) <- holding [ov] (getMethod ov m pl)
   callWith pos f first (backTo pos (starEach (e::es) X.env)) (backToKw pos (keywordEach [] X.env))):=by rfl):Bx (PE X (.Call (.Attribute o m apos) (e::es) [] pos) (zdC C m sp dvs E ta t)):=⟨zb3 he.of c hm F hr hb hd hx ha.of hst hpl ht⟩
end
section
variable {X:Cx}{x:Str}{p pos:Pos}{e:Expr}{es:List Expr}{t:TA}{id T:String}{r:List V->Hp->VK->Prop}
theorem zq(hc:xr X (.builtin id) r)(hg:Gl X x)(hm:X.mg x=none)(hv:bootBuiltins x=some (.builtin id))(ha:Bx (PA X (e::es) t))(hn:x ≠ "__name__" := by decide)(hdb:(x == ("__debug__" : Str))=false:=by decide)(he:starEach (e::es) X.env=(false,eval e X.env)::starEach es X.env:=by rfl)(hpl:(backTo pos (starEach es X.env)).any (·.1)=false:=by rfl):Bx (PE X (.Call (.Name x p) (e::es) [] pos) (tCB r t)):=⟨yJ hc hg hm hv ha.of hn hdb he hpl⟩
end
section
variable {X:Cx}{a b:Expr}{ta tb:TE}{pos:Pos}
theorem zw{r:R2}(hr:IxR X r)(ha:Bx (PE X a ta))(hb:Bx (PE X b tb))(hs:UH b):Bx (PE X (.Subscript a b pos) (tOp r ta tb)):=⟨YH hr ha.of hb.of hs⟩
variable {o e:Expr}{es:List Expr}{to:TE}{t:TA}{name:Str}{apos cpos:Pos}{T id:String}{r:V->List V->Hp->VK->Prop}
theorem zY (pa:PlainAttrs T) (slot:Slot T name id) (hty:typeOf (.builtin id)=pure (.type "method_descriptor")) (hm:MtR X id r) (ho:Bx (PE X o to)) (ha:Bx (PA X (e::es) t)) (hbase:attributeBase o name X.env (eval o X.env)=eval o X.env:=by rfl) (hfew:((backTo cpos (starEach (e::es) X.env)).all (fun x=>!x.1)&&(backToKw cpos (keywordEach [] X.env)).all (fun x=>x.1.isSome)
   && decide ((e::es).length+([]:List Keyword).length+(if ([]:List Keyword).isEmpty then 0 else 1)<30))=true:=by rfl) (hline:(apos.endLine == cpos.line)=true:=by rfl) (hs:starEach (e::es) X.env=(false,eval e X.env)::starEach es X.env:=by rfl) (hplain:(backTo cpos (starEach es X.env)).any (·.1)=false:=by rfl):Bx (PE X (.Call (.Attribute o name apos) (e::es) [] cpos) (tBM X.K T r to t)):=⟨zb5 pa slot hty hm ho.of ha.of hbase hfew hline hs hplain⟩
end
section
variable {X:Cx}{o i e value:Expr}{pos pos' tpos:Pos}{td ty tv:TE}
theorem yq(hu:X.A.units+1<cLine)(ho:Bx (PE X o td))(hi:Bx (PE X i ty))(hs:zf5 i):Bx (PE X (.Subscript o i pos) (We td ty)):=⟨YI hu ho.of hi.of hs⟩
theorem Xh(hu:X.A.units+1<cLine)(hi:Bx (PE X i ty))(ho:Bx (PE X o td)):Bx (PC X .In i o (zgc ty td)):=⟨zbd hu hi.of ho.of⟩
theorem WI(hu:X.A.units+1<cLine)(ho:Bx (PE X o td))(hi:Bx (PE X i ty))(hv:Bx (PE X value tv))(hs:swapsWith value (some (.Subscript o i pos')) pos.line X.env=pure false):Bx (PS X (.Assign [.Subscript o i pos'] value pos) (zdS td ty tv)):=⟨YG hu ho.of hi.of hv.of hs⟩
end
section
variable {X:Cx}{pos:Pos}
theorem um  : Bx (PE X (.Dict [] [] pos) zaW):=⟨XC⟩
end
section
variable {X:Cx}
theorem zj(i:Nat){x:Str}{pos:Pos}(hN:X.N[i]?=some x:=by rfl)(hv:Vis X.env.scope x:=by first | exact Or.inl rfl | exact Or.inr (Or.inl rfl) | exact Or.inr (Or.inr rfl))(hd:(x == ("__debug__" : Str))=false:=by decide)(hcd:(x == ("__classdict__" : Str))=false:=by decide):Bx (PE X (.Name x pos) (yV i)):=⟨pv i hN hv hd hcd⟩
end
section
theorem y8{X:Cx}:Bx (PTs X [] ze2):=⟨Vr⟩
end
section
variable {X:Cx}{tg iter elt:Expr}{ifs:List Expr}{scope:Scope}{pos:Pos}{N':List Str}{t:Nat}{caps:List Nat}{g:Blk->TG}{tc:Blk->TT}{te:Blk->TE}{wi:TI}
theorem yF(hc:X.calm=true)(S:CompOk X scope N' t caps)(hi:Bx (PI X tg iter wi))(hg:∀ b,Bx (PG (cxB X scope N' b) tg (g b)))(ht:∀ b,Bx (PTs (cxB X scope N' b) ifs (tc b)))(he:∀ b,Bx (PE (cxB X scope N' b) elt (te b)))(hs:∀ x,foldedSetIterable iter X.env x=pure x:=by intro _;rfl):Bx (PE X (.ListComp elt [⟨tg,iter,ifs,0⟩] scope pos) (zdG wi g tc te t caps)):=⟨Vy hc S hi.of (fun x0=>(hg x0).of) (fun x0=>(ht x0).of) (fun x0=>(he x0).of) hs⟩
end
section
variable {X:Cx}{k:Nat}{f C:Addr}{fd:FuncData}{ps:List Str}{sp:Sp}{x m:Str}{p pos apos:Pos}{e o:Expr}{es:List Expr}{ta:TE}{t:TA}
theorem zG(c:Callee X.prog X.w X.K X.mg X.base x f fd ps k sp)(hr:Room k X.A)(ha:Bx (PA X (e::es) t))(hg:Gl X x:=by rfl)(hdb:(x == ("__debug__" : Str))=false:=by decide)(he:starEach (e::es) X.env=(false,eval e X.env)::starEach es X.env:=by rfl)(hpl:(backTo pos (starEach es X.env)).any (·.1)=false:=by rfl):Bx (PE X (.Call (.Name x p) (e::es) [] pos) (w8 sp [] E0 t)):=⟨U3 c hr ha.of hg hdb he hpl⟩
theorem yi {pl:Sem Bool}(he:Bx (PE X o ta)) (ha:Bx (PA X (e::es) t)) (hst:starEach (e::es) X.env=(false,eval e X.env)::starEach es X.env:=by rfl) (hpl:(backTo pos (starEach es X.env)).any (·.1)=false:=by rfl) (ht:eval (.Call (.Attribute o m apos) (e::es) [] pos) X.env=(do
   let ov <- eval o X.env
   standAt apos.atName
   let (f,first) <- holding [ov] (getMethod ov m pl)
   callWith pos f first (backTo pos (starEach (e::es) X.env)) (backToKw pos (keywordEach [] X.env))):=by rfl):Bx (PE X (.Call (.Attribute o m apos) (e::es) [] pos) (uq X m ta t)):=⟨U1 he.of ha.of hst hpl ht⟩
theorem zT {pl:Sem Bool}(he:Bx (PE X o ta)) (ht:eval (.Call (.Attribute o m apos) [] [] pos) X.env=(do
   let ov <- eval o X.env
   standAt apos.atName
   let (f,first) <- holding [ov] (getMethod ov m pl)
   callWith pos f first (backTo pos (starEach [] X.env)) (backToKw pos (keywordEach [] X.env))):=by rfl):Bx (PE X (.Call (.Attribute o m apos) [] [] pos) (uq X m ta wN)):=⟨ZR he.of ht⟩
end
section
theorem yz{X:Cx}{x:Str}{n:String}{pos:Pos}(hm:X.mg x=none)(hv:bootBuiltins x=some (.type n))(hg:Gl X x:=by rfl)(hn:x ≠ "__name__" := by decide)(hd:(x == ("__debug__" : Str))=false:=by decide):Bx (PE X (.Name x pos) (tC (.ty n))):=⟨uv hm hv hg hn hd⟩
end
section
variable {X:Cx}{es:List Expr}{t:TA}{te:TE}
theorem zy{c j pos}(ha:Bx (PE X (.Constant c j pos) te))(hr:Bx (PA X es t)):Bx (PA X (.Constant c j pos::es) (yr te t)):=⟨zd3 ha.of hr.of⟩
theorem yj{f xs ks pos}(ha:Bx (PE X (.Call f xs ks pos) te))(hr:Bx (PA X es t)):Bx (PA X (.Call f xs ks pos::es) (yr te t)):=⟨zgw ha.of hr.of⟩
theorem zh{x pos}(ha:Bx (PE X (.Name x pos) te))(hr:Bx (PA X es t)):Bx (PA X (.Name x pos::es) (yr te t)):=⟨we ha.of hr.of⟩
end
section
variable {P:Program}{w:World}{K:W.Frag}{mg:Str->Option Value}{base:Heap}{N:List Str}{qual:Str}{scope:Scope}{f:Addr}{cd:Value}{A:Around}{outer:List Env}{s0:Shared}{H0:Hp}{E:XK}
theorem wO(hc:(A.deeper (envOfC qual scope s0.heap.objs.size f cd)).handled=none)(c:XCls K C)(hm:mg x=some (.ref C))(ha:Bx (PA (yM (CX1 P w) P w K mg base N qual scope f cd A outer s0 H0 E) (e::es) t))(hg:Gl (yM (CX1 P w) P w K mg base N qual scope f cd A outer s0 H0 E) x:=by rfl)(he:starEach (e::es) (yM (CX1 P w) P w K mg base N qual scope f cd A outer s0 H0 E).env=(false,eval e (yM (CX1 P w) P w K mg base N qual scope f cd A outer s0 H0 E).env)::starEach es (yM (CX1 P w) P w K mg base N qual scope f cd A outer s0 H0 E).env:=by rfl)(hpl:(backTo cpos (starEach es (yM (CX1 P w) P w K mg base N qual scope f cd A outer s0 H0 E).env)).any (·.1)=false:=by rfl)(hdb:(x == ("__debug__" : Str))=false:=by decide):Bx (PS (yM (CX1 P w) P w K mg base N qual scope f cd A outer s0 H0 E) (.Raise (some (.Call (.Name x np) (e::es) [] cpos)) none pos) (tRz C E t)):=⟨wG hc c hm ha.of hg he hpl hdb⟩
end
def Th(G:Hp)(Q:Hp->Prop)(H:Hp):Prop:=Q H\/∃ (d:Addr) (od:Obj) (kvs:List (Key×V)),(∀ o u,G d≠some (.frz o u))/\H d=some (.frz od (.dK kvs))/\Q (upd H d (.dK kvs))
def zgM(G:Hp)(t:TE):TE:=fun σ H Q=>t σ H fun v=>Th G (Q v)
def zgL(G:Hp)(t:TS):TS:=fun D σ H=>t ⟨fun σ=>Th G (D.nx σ),fun v=>Th G (D.rt v),fun σ=>Th G (D.bk σ),fun σ=>Th G (D.ct σ)⟩ σ H
section
variable {X:Cx}{pins:List (Addr×Obj)}{σ:St}{H G:Hp}{s:Shared}{d:Addr}{od:Obj}{kvs:List (Key×V)}
theorem Th.inv{Q:Hp->Prop}(I:Inv X pins σ H s)(h:Th X.H₀ Q H):∃ H',Inv X pins σ H' s/\Q H':=by
 rcases h with h | ⟨d,od,kvs,S,g,h⟩
 ·exact⟨_,I,h⟩
 ·exact⟨_,I.thaw S g,h⟩
theorem WL{e:Expr}{t:TE}(h:Bx (PE X e t)):Bx (PE X e (zgM X.H₀ t)):=by
 have h:=h.of;refine⟨?_⟩;intro pins s σ H Q I q;refine thn (h pins s σ H _ I q) fun u s' hq0=>?_;obtain⟨v,H',I',r,q'⟩:=hq0;obtain⟨H2,I2,q2⟩:=Th.inv I' q';exact⟨v,H2,I2,r,q2⟩
theorem Zy{st:Stmt}{t:TS}(h:Bx (PS X st t)):Bx (PS X st (zgL X.H₀ t)):=by
 have h:=h.of;refine⟨?_⟩;intro pins s σ H D I q;refine thn (h pins s σ H _ I q) fun f s' q'=>?_;cases f with
 |next=>obtain⟨σ',H',I',q'⟩:=q';obtain⟨H2,I2,q2⟩:=Th.inv I' q';exact⟨_,_,I2,q2⟩
 |cont=>obtain⟨σ',H',I',q'⟩:=q';obtain⟨H2,I2,q2⟩:=Th.inv I' q';exact⟨_,_,I2,q2⟩
 |brk=>obtain⟨σ',H',I',q'⟩:=q';obtain⟨H2,I2,q2⟩:=Th.inv I' q';exact⟨_,_,I2,q2⟩
 |ret v=>obtain⟨x,σ',H',I',r,q'⟩:=q';obtain⟨H2,I2,q2⟩:=Th.inv I' q';exact⟨_,_,_,I2,r,q2⟩
theorem zcx{P:Program}{w:World}{k:Key}{u:Value}(h:(zP P w).is k u=true):RelV (kV k) u:=by
 rw[Wm] at h;cases k with
 |inl i=>cases u<;>simp[Zi,Value.isInt] at h<;>(subst h;exact⟨_,rfl⟩)
 |inr x=>cases u<;>simp[Zi,Value.isStrOf] at h<;>(subst h;exact⟨_,rfl⟩)
theorem wz:entryFor table "dict_itemiterator.__iter__" = some Builtin.«dict_keyiterator.__iter__» :=
 entryFor_alias (id' := "dict_keyiterator.__iter__") (by kernel_rfl) rfl (by decide +kernel) (by kernel_rfl)
theorem vI{prog:Program}{w:World}{A:Around}{E:Value->Shared->Prop}{s:Shared}{it d:Addr}{i n ep:Nat}{ok ov:Value}{Q:Value->Shared->Prop}(hit:IsItemIter s.heap it d i n ep ok ov)(h:Q (.ref it) s):wpAny (model prog w) A (pyIter (.ref it)) Q E s:=by
 have ti:s.TypeIs (.ref it) "dict_itemiterator" := ⟨_,hit,rfl⟩;refine wpAny_pyIter_slot ti F.slot_dict_itemiterator_iter (wpAny_call_entry F.slot_dict_itemiterator_iter ti wz ?_ (F.args_dict_itemiterator_iter_1 _));show wpAny _ _ (ret (.ref it)) _ _ s;exact wpAny_pure ⟨_,rfl, "dict_itemiterator",_,ti,F.slot_dict_itemiterator_next.lookup,h⟩
abbrev YL:=Key×V->V->Hp->Hp->Prop
def yI:YL:=fun kv x H H'=>∃ p,H p=none/\x=.ref p/\H'=upd H p (.tup [kV kv.1,kv.2])
noncomputable def Itd(yl:YL)(d:Addr)(od:Obj)(kvs:List (Key×V)):It :=
 ⟨fun i H=>H d=some (.frz od (.dK kvs))/\i<kvs.length,fun i H x H'=>∃ kv,kvs[i]?=some kv/\yl kv x H H',fun i H=>H d=some (.frz od (.dK kvs))/\kvs.length<=i⟩
theorem Yz{P:Program}{w:World}{K:W.Frag}{es:List Expr}{n:Nat}{tp:Pos}{it d:Addr}{od:Obj}{kvs:List (Key×V)}{vs:List (Key×Value)}{ep:Nat}(rel:KV kvs vs)
  (da:∀ h:Heap,h.get? d=some od->Heap.DictAt (zP P w) h d vs ep):Turn P w K (.Tuple es n tp) (Itd yI d od kvs) [it] it (fun i h=>∃ ok ov,IsItemIter h it d i vs.length ep ok ov) where
 mem:=by simp
 obj:=fun i h ⟨ok,ov,st⟩ b hb=>by
  rw[mem_singleton.mp hb];exact⟨_,st,fun v z=>by
   have z':Data.fields _=Data.cell v:=z;cases z'⟩
 keep:=fun i h h' ⟨ok,ov,st⟩ k=>⟨ok,ov,k it (by simp) _ st⟩
 item:=by
  intro X hP hw hK hc i pins s σ H E I hf st hg;subst hP hw hK;obtain⟨ok,ov,st⟩:=st;have fi:=hf it (by simp);have d3:=(I.hok d _ hg.1).1;have hx:kvs[i]?=some (kvs[i]'hg.2):=List.getElem?_eq_getElem hg.2;obtain⟨u,hu,ru⟩:=rel.getAt hx;refine wpAny_pyNext_items_item st (da _ d3) hu fun key h1 hkey O1 T1 z1 kk=>?_;refine⟨_,rfl,wpAny_letOwnedTupleGo_items (s:={ s with heap:=h1 }) O1 fun h2 E2 sb=>?_⟩;have te:s.heap.objs.size≠it:=(ne_of_lt (Heap.lt_size st)).symm;have T2:=sb.extBut _ _ te T1;have k2:∀ c o,c∉[it]->s.heap.get? c=some o->h2.get? c=some o:=fun c o hc q=>by
   have hc:c≠it:=by simpa using hc
   exact sb.extBut c o hc (kk c o hc q)
  have hn:H s.heap.objs.size=none:=I.fresh;refine⟨.ref s.heap.objs.size,upd H s.heap.objs.size (.tup [kV (kvs[i]'hg.2).1,(kvs[i]'hg.2).2]),I.turnedLaid (t':=s.toks) (ch:=[it]) hf k2 (Nat.le_refl _) ⟨by show 2<=sizeLine;decide,[key,u],.cons (zcx hkey) (.cons ru .nil),⟨_,T2,rfl,_,rfl⟩⟩,rfl,
   ⟨_,hx,_,hn,rfl,rfl⟩,⟨_,_,E2⟩,fun c hc=>?_⟩
  rw[mem_singleton.mp hc,upd_ne te.symm];exact fi.1
 done:=by
  intro X hP hw hK hc i pins s σ H E I hf st hg;subst hP hw hK;obtain⟨ok,ov,st⟩:=st;obtain⟨f0,f1,f2,f3,f4,f5⟩:=hf it (by simp);have d3:=(I.hok d _ hg.1).1;have lv:=rel.length;exact wpAny_pyNext_items_end (I.ok.hd hc) st (da _ d3) (List.getElem?_eq_none (by have:=hg.2;omega)) fun h' kk=>⟨rfl,I.turned (t':=s.toks) (fun b o hb q=>kk b o hb q) f0 f1 f3 f4 f5⟩
 self:=fun _ _ _ _ _ ⟨_,_,st⟩ h=>vI st h
def zhl(yl:YL)(G:Hp)(td:TE):TI:=fun σ H R=>td σ H fun x H1=>∃ (d:Addr) (kvs:List (Key×V)),x=.ref d/\H1 d=some (.dK kvs)/\∀ od:Obj,(∀ o u,G d≠some (.frz o u))->R (Itd yl d od kvs) (upd H1 d (.frz od (.dK kvs)))
theorem zcJ{x:Addr}(I:Inv X pins σ H s)(e:H d=some (.dK kvs)):∀ o u,X.H₀ d≠some (.frz o u):=fun o u z=>by
 have:=I.base.frzs d o u z;rw[e] at this;cases this
theorem wo{o:Expr}{es:List Expr}{n:Nat}{tp:Pos}{td:TE}{apos cpos:Pos}(ho:Bx (PE X o td))(hbase:attributeBase o "items" X.env (eval o X.env)=eval o X.env:=by rfl)(hline:(apos.endLine == cpos.line)=true:=by rfl):Bx (PI X (.Tuple es n tp) (.Call (.Attribute o "items" apos) [] [] cpos) (zhl yI X.H₀ td)):=by
 have ho:=ho.of;refine⟨?_⟩;intro pins s σ H R I h;refine wpAny_Call_method0_late hbase hline (thn (ho pins s σ H _ I h) fun v s1 hq0=>?_);obtain⟨x,H1,I1,rx,d,kvs,ex,e,q⟩:=hq0;subst ex;obtain rfl:v=Value.ref d:=rx;obtain⟨t1,t2,_⟩:=XR I1 (.inl ⟨_,.inl e⟩);obtain⟨z,hd,vs,rel,dd⟩:=Um I1.hok e;refine⟨"dict", "dict.items",PySem.F.plainAttrs_dict,PySem.F.slot_dict_items,PySem.F.type_dict_items,t1,t2,Calls.callWith_builtin rfl (PySem.evalArgs_none ?_)⟩;refine call_meetsIn PySem.F.slot_dict_items dd.typeIs PySem.F.entry_dict_items (PySem.F.args_dict_items_1 _) (meets_dict_items (zP X.prog X.w) d hd) ⟨⟨vs,dd⟩,?_⟩;obtain⟨od,es',ep,q1,q2,q3,q4,q5,q6⟩:=dd;have da:∀ h':Heap,h'.get? d=some od->Heap.DictAt (zP X.prog X.w) h' d vs ep:=fun _ q=>⟨od,es',q,q2,q3,q4,q5,q6⟩;refine wpAny_pyIter_items (s:={ s1 with heap:=s1.heap.push _ }) (d:=d) ⟨_,Heap.get?_push_size _ rfl,rfl,rfl⟩ (da _ (Heap.get?_push_of_some _ q1)) ?_;have hle:s1.heap.objs.size<=(s1.heap.push { cls:=.type "dict_items",data:=.fields #[.ref d] }).objs.size:=by rw[Heap.size_push];exact le_succ _
 have I1f:=I1.froz e q1;refine⟨_,[(s1.heap.push { cls:=.type "dict_items",data:=.fields #[.ref d] }).objs.size],_,_,_,rfl,I1f.kept (t':=s1.toks) fun b u q=>Heap.get?_push_of_some _ (Heap.get?_push_of_some _ q),Yz rel da,⟨_,_,Heap.get?_push_size _ rfl⟩,fun b hb=>?_,q od (zcJ (x:=d) I1 e)⟩;rw[mem_singleton.mp hb];exact I1f.fpOk hle (I1f.hok.fresh hle)
end
theorem XV{yl:YL}{d:Addr}{od:Obj}{kvs:List (Key×V)}{g:TG}{tb:TS}{D:Ends}{σ:St}{H:Hp}(Pv:Nat->St->Hp->Prop)(h0:Pv 0 σ H)(hf:∀ i σ H,Pv i σ H->H d=some (.frz od (.dK kvs)))
  (hs:∀ i kv x σ H H',kvs[i]?=some kv->Pv i σ H->yl kv x H H'->g x σ H' fun σ2 H2=>tb { D with nx:=Pv (i+1),ct:=Pv (i+1),bk:=D.nx } σ2 H2) (hd:∀ σ H,Pv kvs.length σ H->D.nx σ H) :
  ∃ W:Nat->Nat->St->Hp->Prop,(∃ m,W 0 m σ H)/\∀ i m σ H,W i m σ H ->
   ((Itd yl d od kvs).stop i H/\D.nx σ H)\/((Itd yl d od kvs).go i H/\∃ N:St->Hp->Prop,(∀ σ' H',N σ' H'->∃ m',m'<m/\W (i+1) m' σ' H')/\∀ x H',(Itd yl d od kvs).yld i H x H'->g x σ H' fun σ2 H2=>tb { D with nx:=N,ct:=N,bk:=D.nx } σ2 H2):=by
 refine⟨fun i m σ H=>m=kvs.length-i/\i<=kvs.length/\Pv i σ H,⟨_,rfl,zero_le _,h0⟩,?_⟩;rintro i m σ H ⟨rfl,hi,p⟩;have q:=hf i σ H p;by_cases hlt:i<kvs.length
 ·refine .inr ⟨⟨q,hlt⟩,Pv (i+1),fun σ' H' z=>⟨_,by omega,rfl,hlt,z⟩,fun x H' ⟨kv,hk,y⟩=>hs i kv x σ H H' hk p y⟩
 ·have e:i=kvs.length:=by omega
  subst e;exact .inl ⟨⟨q,Nat.le_refl _⟩,hd σ H p⟩
theorem Ut{yl:YL}{d:Addr}{od:Obj}{kvs:List (Key×V)}{g:TG}{tc:TT}{te:TE}{Q:VK}{D:Addr}{τ0:St}{H0:Hp}(Pv:Nat->List V->St->Hp->Prop)(h0:Pv 0 [] τ0 H0)(hf:∀ i zs τ H,Pv i zs τ H->H d=some (.frz od (.dK kvs)))
  (hs:∀ i kv x zs τ H H',kvs[i]?=some kv->Pv i zs τ H->yl kv x H H'->g x τ H' fun τ2 H4=>tc τ2 H4 fun b H5 =>
   if b=true then te τ2 H5 fun y H6=>H6 D=some (.lst zs)/\zs.length<sizeLine/\Pv (i+1) (zs++[y]) τ2 (upd H6 D (.lst (zs++[y]))) else Pv (i+1) zs τ2 H5)
  (hd:∀ zs τ H,Pv kvs.length zs τ H->Q (.ref D) H):Yr (Itd yl d od kvs) g tc te Q D τ0 H0 :=
 v7 kvs.length Pv h0 (fun zs τ H p=>⟨⟨hf _ _ _ _ p,Nat.le_refl _⟩,hd zs τ H p⟩) fun i zs τ H hi p=>⟨⟨hf _ _ _ _ p,hi⟩,fun x H3 ⟨kv,hk,y⟩=>hs i kv x zs τ H H3 hk p y⟩
theorem Wz{K:Type}[DecidableEq K]{xs:List (K×Addr×Value)}{k:K}(h:∀ (j:Nat) (p:Addr×Value),xs[j]?≠some (k,p)):atKey xs k=none:=by
 unfold atKey;rw[Option.map_eq_none_iff,List.find?_eq_none];intro x hx e;obtain⟨j,hj⟩:=List.getElem?_of_mem hx;have e:x.1=k:=by simpa using e
 exact h j x.2 (by rw[hj,<- e])
theorem Wy{K:Type}[DecidableEq K]{xs:List (K×Addr×Value)}{k:K}{j:Nat}{p:Addr×Value}(nd:(xs.map (·.1)).Nodup)(h:xs[j]?=some (k,p)):atKey xs k=some p:=by
 unfold atKey;have hm:=mem_of_getElem? h;cases hf:xs.find? (fun x=>decide (x.1=k)) with
 |none =>
  rw[List.find?_eq_none] at hf;exact absurd (hf _ hm) (by simp)
 |some y =>
  have h1:=List.find?_some hf;have h2:=List.mem_of_find?_eq_some hf;have e:y.1=k:=by simpa using h1
  obtain⟨i,hi⟩:=List.getElem?_of_mem h2;have z:i=j:=by
   have a1:(xs.map (·.1))[i]?=some k:=by rw[List.getElem?_map,hi,<- e];rfl
   have a2:(xs.map (·.1))[j]?=some k:=by rw[List.getElem?_map,h];rfl
   obtain⟨l1,q1⟩:=List.getElem?_eq_some_iff.mp a1;obtain⟨l2,q2⟩:=List.getElem?_eq_some_iff.mp a2;exact(List.getElem?_inj l1 nd).mp (a1.trans a2.symm)
  subst z;rw[hi] at h;cases h;rfl
theorem zaH{prog:Program}{w:World}{K:Type}[DecidableEq K]{knd:HeapKind prog w K}{A:Around}{E:Value->Shared->Prop}{s:Shared}{d a:Addr}{xs:List (K×Addr×Value)}{k:K}{v:Value}{Q:Value->Shared->Prop}
  (hr:knd.room A) (hk:knd.is s.heap k a) (hd:Heap.DictOfH knd s.heap d xs)
  (h1:∀ p,atKey xs k=some p->Q p.2 { s with toks:=s.toks+knd.draws k })
  (h2:atKey xs k=none->∀ h',Heap.DictOfH knd h' d (storedH xs k a v)->Heap.SameBut d s.heap h'->Q v { s with heap:=h',toks:=s.toks+knd.draws k })
  (hz:xs.length<=sizeLine):wpAny (model prog w) A (dictSetDefault d (.ref a) v) Q E s:=by
 obtain⟨o,es,ep,ho,ex,hdat,hes,his,nd⟩:=hd;unfold dictSetDefault;refine wpAny_holding (wpAny_bind (knd.pyHash hr hk ?_));refine wpAny_bind (wpAny_dictFind_heap hr (s:={ s with toks:=s.toks+knd.draws k }) hk ho hdat hes his nd (fun hn=>?_) fun j p hj=>?_)
 ·have hn':=Wz hn
  refine wpAny_bind (wpAny_rule (wpAny_bind (wpAny_updateDictKeys (s:={ s with toks:=s.toks+knd.draws k }) ho hdat (wpAny_pure (h2 hn' _ ?_ ?_)) ?_ ?_)))
  ·have sb:Heap.SameBut d s.heap (s.heap.update d (Obj.mapDictKeys fun x=>x.push { hash:=knd.hash k,key:=.ref a,val:=v })):=⟨Heap.size_update _ _ _,fun b hb=>Heap.get?_update_ne _ _ _ _ hb⟩
   refine⟨_,es.push { hash:=knd.hash k,key:=.ref a,val:=v },ep+1,Heap.get?_update_self _ ho (by obtain⟨c,dd,dt,sl⟩:=o;cases hdat;rfl),?_,?_,?_,?_,?_⟩
   ·obtain⟨c,dd,dt,sl⟩:=o
    cases hdat;exact ex
   ·obtain⟨c,dd,dt,sl⟩:=o
    cases hdat;rfl
   ·rw[storedH_new hn',Array.toList_push,hes,map_append]
    rfl
   ·rw[storedH_new hn']
    intro x hx;rcases mem_append.mp hx with z | z
    ·exact knd.keeps (his x z) ho hdat sb
    ·rw[mem_singleton.mp z]
     exact knd.keeps hk ho hdat sb
   ·rw[storedH_new hn',map_append,nodup_append]
    refine⟨nd,by simp,fun x hx y hy e=>?_⟩;have hy:y=k:=by simpa using hy
    obtain⟨z,hz1,hz2⟩:=mem_map.mp hx;obtain⟨j,hj⟩:=List.getElem?_of_mem hz1;exact hn j z.2 (by rw[hj,<- hy,<- e,<- hz2])
  ·exact⟨Heap.size_update _ _ _,fun b hb=>Heap.get?_update_ne _ _ _ _ hb⟩
  ·have:es.size=xs.length:=by
    rw[<- length_toList,hes,length_map]
   omega
  ·simp
 ·have e1:=Wy nd hj
  refine wpAny_bind (wpAny_dictEntries (s:={ s with toks:=s.toks+knd.draws k }) ho hdat ?_);have:es[j]?=some (entryOfKey knd (k,p)):=by
   rw[<- Array.getElem?_toList,hes,List.getElem?_map,hj];rfl
  rw[this];exact wpAny_bind (wpAny_rule (wpAny_pure (h1 p e1)))
theorem xM{prog:Program}{w:World}{K:Type}[DecidableEq K](knd:HeapKind prog w K)(d a:Addr)(hd:(d == sysModules)=false)(v:Value) :
  MeetsIn prog w (Builtin.«dict.setdefault» ⟨[.ref d,.ref a,v],[]⟩) fun A R s=>knd.room A.in1/\s.TypeIs (.ref d) "dict" /\ ∃ k xs,knd.is s.heap k a/\Heap.DictOfH knd s.heap d xs/\xs.length<=sizeLine /\
   (∀ p,atKey xs k=some p->R (.ok (.ret p.2)) { s with toks:=s.toks+knd.draws k }) /\
   (atKey xs k=none->∀ h',Heap.DictOfH knd h' d (storedH xs k a v)->Heap.SameBut d s.heap h'->R (.ok (.ret v)) { s with heap:=h',toks:=s.toks+knd.draws k }):=by
 intro A R s ⟨hr,ht,k,xs,hk,hx,hz,h1,h2⟩;unfold Builtin.«dict.setdefault»;refine wpAny_bind ?_;unfold Builtin.Dict.keyAndDefault;refine wpAny_bind (wpAny_notOrdered_dict ht ?_);show wpAny _ _ (pure (d,Value.ref a,some v)) _ _ _;refine wpAny_pure ?_;show wpAny _ _ (if (d == sysModules)=true then _ else _) _ _ _;rw[if_neg (by rw[hd];simp)];refine wpAny_bind (zaH hr hk hx (fun p hp=>?_) (fun hn h' hh sb=>?_) hz)
 ·exact wpAny_pure (h1 p hp)
 ·exact wpAny_pure (h2 hn h' hh sb)
def zgI(H:Hp)(a:Addr)(y v:V)(Q:V->Hp->Prop):Prop :=
 (∃ kvs k,H a=some (.dK kvs)/\y=kV k/\kvs.length<sizeLine/\(∀ x,xK kvs k=some x->Q x H)/\(xK kvs k=none->Q v (upd H a (.dK (putK kvs k v))))) \/
 ∃ kvs k b,H a=some (.dT kvs)/\y=.ref b/\H b=some (.tup (k.map kV))/\kvs.length<sizeLine/\(∀ x,xK kvs k=some x->Q x H)/\(xK kvs k=none->Q v (upd H a (.dT (putK kvs k v))))
section
variable {X:Cx}{pins:List (Addr×Obj)}{σ:St}{H:Hp}{s:Shared}{a:Addr}{y v:V}{u r:Value}{A:Around}{E:Value->Shared->Prop}
theorem zaJ{Q:Value->Shared->Prop}{C:V->Hp->Prop}(hu:A.units+1<cLine)(I:Inv X pins σ H s)(g:zgI H a y v C)(ry:RelV y u)(rv:RelV v r)(h:∀ x H' w' s',C x H'->Inv X pins σ H' s'->RelV x w'->Q w' s') :
  wpAny (model X.prog X.w) A (call (.builtin "dict.setdefault") [.ref a,u,r]) Q E s:=by
 rcases g with⟨kvs,k,e,ey,l,c1,c2⟩ | ⟨kvs,k,b,e,ey,eb,l,c1,c2⟩
 ·subst ey
  obtain⟨z,hd,vs,rel,dd⟩:=Um I.hok e;have hz:vs.length<=sizeLine:=by rw[<- rel.length];exact z
  have hl:(putK kvs k v).length<=sizeLine:=by have:=xG kvs k v;omega
  refine call_meetsIn PySem.F.slot_dict_setdefault dd.typeIs PySem.F.entry_dict_setdefault (PySem.F.args_dict_setdefault_3 _ _ _) (kt_meets_setdefault (zP X.prog X.w) a (Z9 ry) hd r) ⟨vs,dd,hz,fun w' hw=>?_,fun hn h' dd' hs=>?_⟩
  ·have q:=rel.val k
   rw[hw] at q;cases hv:xK kvs k with
   |none=>rw[hv] at q;exact False.elim q
   |some x =>
    rw[hv] at q;exact h x H w' _ (c1 x hv) (I.tok _) q
  ·have q:=rel.val k
   rw[hn] at q;cases hv:xK kvs k with
   |some x=>rw[hv] at q;exact False.elim q
   |none =>
    have he:∃ q,h'.get? a=some q:=let ⟨q,_,_,hq,_⟩:=dd';⟨q,hq⟩
    exact h v _ r _ (c2 hv) (vZ I (by rw[e];exact True.intro) hs he (X0 hl hd (rel.put k rv) dd')) rv
 ·subst ey
  cases (show u=Value.ref b from ry);obtain⟨z,hd,xs,rel,dd⟩:=zcS I.hok e;have hz:xs.length<=sizeLine:=by rw[<- Paired.length rel];exact z
  have hl:(putK kvs k v).length<=sizeLine:=by have:=xG kvs k v;omega
  refine call_meetsIn PySem.F.slot_dict_setdefault dd.typeIs PySem.F.entry_dict_setdefault (PySem.F.args_dict_setdefault_3 _ _ _) (xM (tupleKind (zP X.prog X.w)) a b hd r) ⟨tupleKind_room_in1 hu,dd.typeIs,k,xs,vV I.hok eb,dd,hz,fun p hp=>?_,fun hn h' dd' hs=>?_⟩
  ·have q:=rel.val k
   rw[hp] at q;cases hv:xK kvs k with
   |none=>rw[hv] at q;exact False.elim q
   |some x =>
    rw[hv] at q;exact h x H p.2 _ (c1 x hv) (I.tok _) q
  ·have q:=rel.val k
   rw[hn] at q;cases hv:xK kvs k with
   |some x=>rw[hv] at q;exact False.elim q
   |none =>
    obtain⟨q,es,ep,hq,h2,h3,h4,_,h5⟩:=dd';refine h v _ r _ (c2 hv) (vZ I (by rw[e];exact True.intro) hs ⟨q,hq⟩ ⟨hl,hd,_,(rel.put k eb rv).keeps fun c ys ec=>?_,q,es,ep,hq,h2,h3,h4,h5⟩) rv;rw[upd_ne (Z5 ec e (fun z=>nomatch z))];exact ec
end
def zfi(td ty tx:TE):TE:=fun σ H Q=>td σ H fun x H1=>∃ a,x=.ref a/\IsD H1 a/\ty σ H1 fun y H2=>tx σ H2 fun z H3=>zgI H3 a y z Q
section
variable {X:Cx}{o e f:Expr}{apos cpos:Pos}{td ty tx:TE}
theorem WR(hu:X.A.units+1<cLine)(ho:Bx (PE X o td))(he:Bx (PE X e ty))(hf:Bx (PE X f tx))(m:M2 X o "setdefault" apos e f cpos):Bx (PE X (.Call (.Attribute o "setdefault" apos) [e,f] [] cpos) (zfi td ty tx)):=by
 have ho:=ho.of;have he:=he.of;have hf:=hf.of;refine⟨?_⟩;intro pins s σ H Q I h;refine wpAny_Call_method m.base m.few m.line PySem.F.plainAttrs_dict PySem.F.slot_dict_setdefault PySem.F.type_dict_setdefault (thn (ho pins s σ H _ I h) fun u s1 hq0=>?_);obtain⟨x,H1,I1,rx,a,ex,d,q1⟩:=hq0;subst ex;obtain rfl:u=Value.ref a:=rx;obtain⟨t1,t2,_⟩:=XR I1 d;refine⟨t1,t2,?_⟩;rw[m.trees];refine Calls.callWith_builtin rfl (Calls.evalArgs_plain (Calls.spliced_cons (thn (he pins s1 σ H1 _ I1 q1) fun iv s2 ⟨y,H2,I2,ry,q2⟩ =>
  Calls.spliced_cons (thn (hf pins s2 σ H2 _ I2 q2) fun fv s3 ⟨z,H3,I3,rz,g⟩=>Calls.spliced_nil ?_))))
 exact zaJ hu I3 g ry rz fun x H' w' s4 c I4 rw'=>⟨x,H',I4,rw',c⟩
end
end L2
namespace L2
namespace Sco
open PySem PyProof.Rows
section
variable {rk:Value->Int}
noncomputable def kf(rk:Value->Int)(l:List Keyed)(i:Nat):Int:=(l[i]?.map fun x=>rk x.1).getD 0
theorem zcw{l:List Keyed}{i:Nat}(h:i<l.length):kf rk l i=rk l[i].1:=by
 unfold kf;rw[List.getElem?_eq_getElem h];rfl
theorem zbp{a:Array Keyed}{i:Nat}(h:i<a.size):rk a[i].1=kf rk a.toList i:=by
 rw[zcw (by simpa using h)];simp
def SA(rk:Value->Int)(l:List Keyed):Prop:=l.Pairwise fun x y=>rk x.1<=rk y.1
theorem SA.of{l:List Keyed}(h:∀ i j,i<j->j<l.length->kf rk l i<=kf rk l j):SA rk l:=by
 refine List.pairwise_iff_getElem.mpr fun i j hi hj hij=>?_;have:=h i j hij hj;rw[zcw hi,zcw hj] at this;exact this
end
section
variable {prog:Program}{w:World}{A:Around}{E:Value->Shared->Prop}{s:Shared}{it:List Keyed}{κ:SortKind}{rk:Value->Int}
def Cmp(prog:Program)(w:World)(A:Around)(s:Shared)(it:List Keyed)(κ:SortKind)(rk:Value->Int):Prop :=
 ∀ x∈it,∀ y∈it,∀ (Q:Bool->Shared->Prop) (E:Value->Shared->Prop),Q (decide (rk x.1<rk y.1)) s->wpAny (model prog w) A (keyLt' κ x.1 y.1) Q E s
theorem zgK(C:Cmp prog w A s it κ rk){st:SortSt}(hk:kindOf st=κ){x y:Keyed}(hx:x∈it)(hy:y∈it){Q:Option Bool->SortSt->Prop}(h:Q (some (decide (rk x.1<rk y.1))) st):wpS (model prog w) A E s (lt' x y) Q st:=by
 rw[lt'_eq];refine wpS_bind (wpS_get ?_);rw[hk];refine wpS_bind (wpS_lift (wpAny_attempt (C x hx y hy _ _ ⟨rfl,?_⟩)));exact wpS_pure h
theorem zaV{st:SortSt}{arr:Array Keyed}{i:Nat}(hi:i<arr.size){Q:Keyed->SortSt->Prop}(h:Q arr[i] st):wpS (model prog w) A E s (elem' arr i) Q st:=by
 rw[elem'_eq,getElem?_pos arr i hi];exact wpS_pure h
def In(it:List Keyed)(o:Array Keyed):Prop:=∀ x∈o,x∈it
theorem In.at{o:Array Keyed}{i:Nat}(h:In it o)(hi:i<o.size):o[i]∈it:=h _ (Array.getElem_mem hi)
end
section
variable {prog:Program}{w:World}{A:Around}{E:Value->Shared->Prop}{s:Shared}{it T:List Keyed}{κ:SortKind}{n:Nat}{rk:Value->Int}
structure TB (it T:List Keyed) (κ:SortKind) (n:Nat) (st:SortSt):Prop where
 z:(arrOf st).size=n
 p:(arrOf st).toList.Perm T
 i:In it (arrOf st)
 k:kindOf st=κ
 f:failedOf st=none
theorem TB.perm{st:SortSt}(t:TB it T κ n st){xs:Array Keyed}(p:xs.Perm (arrOf st)):TB it T κ n (setArr st xs) :=
 ⟨p.size_eq.trans t.z,(Array.perm_iff_toList_perm.mp p).trans t.p,fun x hx=>t.i x (mem_def.mpr ((Array.perm_iff_toList_perm.mp p).mem_iff.mp (mem_def.mp hx))),t.k,t.f⟩
def ks(rk:Value->Int)(st:SortSt)(i:Nat):Int:=kf rk (arrOf st).toList i
theorem VX{st st':SortSt}{i j:Nat}(h:(arrOf st')[i]?=(arrOf st)[j]?):ks rk st' i=ks rk st j:=by
 unfold ks kf;rw[Array.getElem?_toList,Array.getElem?_toList,h]
def Sg(rk:Value->Int)(st:SortSt)(lo hi:Nat):Prop:=∀ i j,lo<=i->i<=j->j<hi->ks rk st i<=ks rk st j
theorem t_ltAt(C:Cmp prog w A s it κ rk){st:SortSt}(t:TB it T κ n st){i j:Nat}(hi:i<n)(hj:j<n){Q:Option Bool->SortSt->Prop}(h:Q (some (decide (ks rk st i<ks rk st j))) st):wpS (model prog w) A E s (ltAt' i j) Q st:=by
 rw[ltAt'_eq];refine wpS_bind (wpS_get ?_);have hi:i<(arrOf st).size:=by rw[t.z];exact hi
 have hj:j<(arrOf st).size:=by rw[t.z];exact hj
 refine wpS_bind (zaV hi (wpS_bind (zaV hj (zgK C t.k (t.i.at hi) (t.i.at hj) ?_))));rw[zbp (rk:=rk) hi,zbp (rk:=rk) hj];exact h
structure Od (rk:Value->Int) (it T:List Keyed) (κ:SortKind) (n:Nat) (p:Array (Nat×Nat×Nat)) (lo:Nat) (f:Nat->Int) (st:SortSt):Prop where
 t:TB it T κ n st
 p:pendingOf st=p
 l:∀ i,i<lo->ks rk st i=f i
variable {p:Array (Nat×Nat×Nat)}{lo:Nat}{f:Nat->Int}
theorem t_rev{st:SortSt}(o:Od rk it T κ n p lo f st){i j:Nat}(hi:lo<=i)(hj:j<=n){Q:Unit->SortSt->Prop}(h:∀ st',Od rk it T κ n p lo f st'->(∀ k,ks rk st' k=if i<=k/\k<j then ks rk st (i+j-1-k) else ks rk st k)->Q () st'):wpS (model prog w) A E s (reverseSlice' i j) Q st:=by
 rw[reverseSlice'_eq];have hk:∀ k,ks rk (setArr st (mirror (arrOf st) i j ((j-i)/2))) k=if i<=k/\k<j then ks rk st (i+j-1-k) else ks rk st k:=fun k=>by
  have e:=getElem?_mirror_all (xs:=arrOf st) (i:=i) (j:=j) (by rw[o.t.z];exact hj) k;by_cases q:i<=k/\k<j
  ·rw[if_pos q] at e ⊢
   exact VX e
  ·rw[if_neg q] at e ⊢
   exact VX e
 refine wpS_modify (h _ ⟨o.t.perm (mirror_perm _ _ _ _),o.p,fun k hk'=>?_⟩ hk);rw[hk k,if_neg (by omega)];exact o.l k hk'
theorem t_move{st:SortSt}(o:Od rk it T κ n p lo f st){i j:Nat}(hj:lo<=j)(hji:j<=i)(hi:i<n){Q:Unit->SortSt->Prop}(h:∀ st',Od rk it T κ n p lo f st'->(∀ k,ks rk st' k=if k=j then ks rk st i else if j<k/\k<=i then ks rk st (k-1) else ks rk st k)->Q () st'):wpS (model prog w) A E s (moveDown' i j) Q st:=by
 rw[moveDown'_eq];have hk:∀ k,ks rk (setArr st (bubble (arrOf st) i (i-j))) k=if k=j then ks rk st i else if j<k/\k<=i then ks rk st (k-1) else ks rk st k:=fun k=>by
  have e:=getElem?_bubble (xs:=arrOf st) (src:=i) (by rw[o.t.z];exact hi) (i-j) (by omega) k;rw[show i-(i-j)=j by omega] at e;by_cases q:k=j
  ·rw[if_pos q] at e ⊢
   exact VX e
  ·rw[if_neg q] at e ⊢
   by_cases q2:j<k/\k<=i
   ·rw[if_pos q2] at e ⊢
    exact VX e
   ·rw[if_neg q2] at e ⊢
    exact VX e
 refine wpS_modify (h _ ⟨o.t.perm (bubble_perm _ _ _),o.p,fun k hk'=>?_⟩ hk);rw[hk k,if_neg (by omega),if_neg (by omega)];exact o.l k hk'
theorem zfe(C:Cmp prog w A s it κ rk){st:SortSt}(o:Od rk it T κ n p lo f st){m ok:Nat}(hm:lo+m<=n)(hok:ok<=m)(hm1:1<=m)(sg:Sg rk st lo (lo+ok)){Q:Bool->SortSt->Prop}(h:∀ st',Od rk it T κ n p lo f st'->Sg rk st' lo (lo+m)->Q true st'):wpS (model prog w) A E s (binarySort' lo m ok) Q st:=by
 rw[binarySort'_eq];refine wpS_bind (wpS_mono (wpS_forRange (I:=fun k c st'=>c=(none,())/\Od rk it T κ n p lo f st'/\Sg rk st' lo (lo+k)) (Q:=fun c st'=>c=(none,())/\Od rk it T κ n p lo f st'/\Sg rk st' lo (lo+m)) ?_ ?_ ⟨rfl,o,?_⟩) ?_)
 ·rintro k c st1 hk1 hk ⟨rfl,o1,sg1⟩
  dsimp only;refine wpS_bind (wpS_mono (wpS_forRange (I:=fun jj c st'=>st'=st1/\∃ l r,c=(none,l,r)/\l<=r/\r<=k/\r<=l+(k-jj)/\(∀ i,i<l->ks rk st1 (lo+i)<=ks rk st1 (lo+k))/\(∀ i,r<=i->i<k->ks rk st1 (lo+k)<=ks rk st1 (lo+i))) (Q:=fun c st'=>st'=st1/\∃ l r,c=(none,l,r)/\l<=k/\(∀ i,i<l->ks rk st1 (lo+i)<=ks rk st1 (lo+k))/\(∀ i,l<=i->i<k->ks rk st1 (lo+k)<=ks rk st1 (lo+i))) ?_ ?_ ⟨rfl,_,_,rfl,by omega,Nat.le_refl _,by omega,fun i hi=>by omega,fun i h1 h2=>by omega⟩) ?_)
  ·rintro j c st2 _ hj ⟨rfl,l,r,rfl,hlr,hr,hf,g1,g2⟩
   dsimp only;by_cases q:l≥r
   ·rw[if_pos q]
    exact wpS_pure ⟨rfl,_,_,rfl,by omega,g1,fun i h1 h2=>g2 i (by omega) h2⟩
   ·rw[if_neg q]
    refine wpS_bind (t_ltAt C o1.t (by omega) (by omega) ?_);by_cases z:ks rk st2 (lo+k)<ks rk st2 (lo+(l+r)/2)
    ·rw[decide_eq_true z]
     refine wpS_pure ⟨rfl,_,_,rfl,by omega,by omega,by omega,g1,fun i h1 h2=>?_⟩;have:=sg1 (lo+(l+r)/2) (lo+i) (by omega) (by omega) (by omega);omega
    ·rw[decide_eq_false z]
     refine wpS_pure ⟨rfl,_,_,rfl,by omega,by omega,by omega,fun i h1=>?_,g2⟩;have:=sg1 (lo+i) (lo+(l+r)/2) (by omega) (by omega) (by omega);omega
  ·rintro c st2 ⟨rfl,l,r,rfl,hlr,hr,hf,g1,g2⟩
   have e:max 0 k=k:=by omega
   rw[e] at hf;exact⟨rfl,_,_,rfl,by omega,g1,fun i h1 h2=>g2 i (by omega) h2⟩
  ·rintro c st2 ⟨rfl,l,r,rfl,hl,g1,g2⟩
   dsimp only;refine wpS_bind (t_move o1 (by omega) (by omega) (by omega) fun st3 o3 e3=>wpS_pure ⟨rfl,o3,fun i j h1 h2 h3=>?_⟩);rw[e3 i,e3 j];have ge:∀ x,lo<=x->x<lo+l->ks rk st2 x<=ks rk st2 (lo+k):=fun x a1 a2=>by
    have:=g1 (x-lo) (by omega);rw[show lo+(x-lo)=x by omega] at this;exact this
   have le:∀ x,lo+l<=x->x<lo+k->ks rk st2 (lo+k)<=ks rk st2 x:=fun x a1 a2=>by
    have:=g2 (x-lo) (by omega) (by omega);rw[show lo+(x-lo)=x by omega] at this;exact this
   by_cases c1:i=lo+l
   ·rw[if_pos c1]
    by_cases c2:j=lo+l
    ·rw[if_pos c2];exact Int.le_refl _
    ·rw[if_neg c2,if_pos (by omega)]
     exact le (j-1) (by omega) (by omega)
   ·rw[if_neg c1]
    by_cases c3:lo+l<i/\i<=lo+k
    ·rw[if_pos c3,if_neg (by omega),if_pos (by omega)]
     exact sg1 _ _ (by omega) (by omega) (by omega)
    ·rw[if_neg c3]
     by_cases c2:j=lo+l
     ·rw[if_pos c2]
      exact ge i h1 (by omega)
     ·rw[if_neg c2]
      by_cases c4:lo+l<j/\j<=lo+k
      ·rw[if_pos c4]
       exact sg1 _ _ h1 (by omega) (by omega)
      ·rw[if_neg c4]
       exact sg1 _ _ h1 h2 (by omega)
 ·rintro c st' ⟨rfl,o1,sg1⟩
  refine⟨rfl,o1,?_⟩;rw[show max (max ok 1) m=m by omega] at sg1;exact sg1
 ·intro i j h1 h2 h3
  by_cases q:ok=0
  ·have:i=j:=by omega
   rw[this];exact Int.le_refl _
  ·exact sg i j h1 h2 (by omega)
 ·rintro c st1 ⟨rfl,o1,sg1⟩
  exact wpS_pure (h st1 o1 sg1)
def Dn(rk:Value->Int)(st:SortSt)(lo m g:Nat):Prop:=(∀ i j,lo<=i->i<=j->j<lo+m->ks rk st j<=ks rk st i)/\g+1<=m/\∀ i,lo+m<=i+g+1->i<lo+m->ks rk st i=ks rk st (lo+m-1)
theorem zga(C:Cmp prog w A s it κ rk){st:SortSt}(o:Od rk it T κ n p lo f st){m k:Nat}(hm:lo+m<=n)(hk1:1<=k)(hk:k<=m)(sg:Sg rk st lo (lo+k)){c0:Option (Option Nat)×Nat}(hc:c0=(none,k)){g:Nat->Option (Option Nat)×Nat->StateT SortSt Sem (ForInStep (Option (Option Nat)×Nat))}
  (hg:∀ (x i:Nat) (R:ForInStep (Option (Option Nat)×Nat)->SortSt->Prop),1<=i->i<m->(ks rk st (lo+i)<ks rk st (lo+i-1)->R (.done (none,i)) st)->(¬ ks rk st (lo+i)<ks rk st (lo+i-1)->R (.yield (none,i+1)) st)->wpS (model prog w) A E s (g x (none,i)) R st){Q:Option (Option Nat)×Nat->SortSt->Prop}
  (h:∀ j,k<=j->j<=m->Sg rk st lo (lo+j)->(j=m\/ks rk st (lo+j)<ks rk st (lo+j-1))->Q (none,j) st):wpS (model prog w) A E s (forIn [k:m] c0 g) Q st:=by
 subst hc;refine wpS_mono (wpS_forRange (I:=fun i c st'=>st'=st/\c=(none,i)/\Sg rk st lo (lo+i)) (Q:=fun c st'=>st'=st/\∃ j,c=(none,j)/\k<=j/\j<=m/\Sg rk st lo (lo+j)/\(j=m\/ks rk st (lo+j)<ks rk st (lo+j-1))) ?_ ?_ ⟨rfl,rfl,sg⟩) ?_
 ·rintro i c st1 hi1 hi ⟨rfl,rfl,sg1⟩
  refine hg i i _ (by omega) hi (fun z=>⟨rfl,i,rfl,hi1,by omega,sg1,.inr z⟩) fun z=>⟨rfl,rfl,fun a b h1 h2 h3=>?_⟩;by_cases e:b=lo+i
  ·subst e
   by_cases e2:a=lo+i
   ·subst e2;exact Int.le_refl _
   ·have:=sg1 a (lo+i-1) h1 (by omega) (by omega)
    omega
  ·exact sg1 a b h1 h2 (by omega)
 ·rintro c st1 ⟨rfl,rfl,sg1⟩
  rw[show max k m=m by omega] at sg1 ⊢;exact⟨rfl,m,rfl,hk,Nat.le_refl _,sg1,.inl rfl⟩
 ·rintro c st1 ⟨rfl,j,rfl,h1,h2,h3,h4⟩
  exact h j h1 h2 h3 h4
theorem jn3{α:Type}{H:α->Prop}{G:Prop}(h:∃ P:α->Prop,(∀ m,H m->P m)/\((∀ m,H m->P m)->G)):G:=by
 obtain⟨P,J,k⟩:=h;exact k J
theorem zbE(C:Cmp prog w A s it κ rk){st:SortSt}(o:Od rk it T κ n p lo f st){m:Nat}(h1:1<=m)(hm:lo+m<=n){Q:Option Nat->SortSt->Prop}(h:∀ k st',1<=k->k<=m->Od rk it T κ n p lo f st'->Sg rk st' lo (lo+k)->Q (some k) st'):wpS (model prog w) A E s (countRun' lo m) Q st:=by
 rw[countRun'_eq];refine wpS_bind (zga C o hm (Nat.le_refl _) h1 (fun i j a b c=>by rw[show i=j by omega];exact Int.le_refl _) rfl (fun x i R i1 i2 y1 y2=>wpS_bind (t_ltAt C o.t (by omega) (by omega) (by
  dsimp only;by_cases z:ks rk st (lo+i)<ks rk st (lo+i-1)
  ·rw[decide_eq_true z]
   exact wpS_pure (y1 z)
  ·rw[decide_eq_false z]
   exact wpS_pure (y2 z)))) fun k k1 k2 sg k3=>?_)
 dsimp only;by_cases q:(k == m)=true
 ·rw[if_pos q]
  exact wpS_pure (h k st k1 k2 o sg)
 rw[if_neg q];have q:k≠m:=fun z=>q (by simp[z]);have k3:ks rk st (lo+k)<ks rk st (lo+k-1):=k3.resolve_left q;refine jn3 (H:=fun st2=>Od rk it T κ n p lo f st2/\Dn rk st2 lo (k+1) 0) ?_;apply Exists.intro;apply And.intro
 case right =>
  intro J;by_cases qk:k>1
  ·rw[if_pos qk]
   refine wpS_bind (t_ltAt C o.t (by omega) (by omega) ?_);by_cases z:ks rk st lo<ks rk st (lo+k-1)
   ·rw[decide_eq_true z]
    exact wpS_pure (h k st k1 k2 o sg)
   ·rw[decide_eq_false z]
    simp only[false_eq_true,if_false];refine wpS_bind (t_rev o (by omega) (by omega) fun st2 o2 e2=>J st2 ⟨o2,fun i j a1 a2 a3=>?_,by omega,fun i a1 a2=>by rw[show i=lo+(k+1)-1 by omega]⟩);have eq:∀ x,lo<=x->x<lo+k->ks rk st x=ks rk st lo:=fun x b1 b2=>by
     have c1:=sg lo x (Nat.le_refl _) b1 b2;have c2:=sg x (lo+k-1) b1 (by omega) (by omega);omega
    have eq2:∀ x,lo<=x->x<lo+k->ks rk st2 x=ks rk st lo:=fun x b1 b2=>by
     rw[e2 x,if_pos ⟨b1,b2⟩];exact eq _ (by omega) (by omega)
    have e4:ks rk st2 (lo+k)=ks rk st (lo+k):=by rw[e2,if_neg (by omega)]
    have e5:=eq (lo+k-1) (by omega) (by omega);by_cases c:j=lo+k
    ·subst c
     by_cases c2:i=lo+k
     ·subst c2;exact Int.le_refl _
     ·rw[e4,eq2 i a1 (by omega)]
      omega
    ·rw[eq2 j (by omega) (by omega),eq2 i a1 (by omega)]
     exact Int.le_refl _
  ·rw[if_neg qk]
   have:k=1:=by omega
   subst this;refine J st ⟨o,fun i j a1 a2 a3=>?_,by omega,fun i a1 a2=>by rw[show i=lo+(1+1)-1 by omega]⟩;rcases Nat.lt_or_eq_of_le a2 with c | c
   ·rw[show i=lo by omega,show j=lo+1 by omega]
    rw[Nat.add_sub_cancel] at k3;omega
   ·subst c;exact Int.le_refl _
 case left =>
  intro st2 ⟨o2,d2⟩;refine wpS_bind (wpS_lift (wpAny_rule ⟨rfl,?_⟩));refine wpS_bind (wpS_mono (wpS_forRange (I:=fun i c st'=>Od rk it T κ n p lo f st'/\∃ g,c=(none,i,g)/\Dn rk st' lo i g) (Q:=fun c st'=>Od rk it T κ n p lo f st'/\∃ j g,c=(none,j,g)/\k+1<=j/\j<=m/\Dn rk st' lo j g) ?_ ?_ ⟨o2,_,rfl,d2⟩) ?_)
  ·rintro i c st3 hi1 hi ⟨o3,g,rfl,⟨d1,d2,d3⟩⟩
   dsimp only;refine wpS_bind (t_ltAt C o3.t (by omega) (by omega) ?_);by_cases z:ks rk st3 (lo+i)<ks rk st3 (lo+i-1)
   ·rw[decide_eq_true z]
    simp only[if_true];by_cases qg:g>0
    ·rw[if_pos qg]
     refine wpS_bind (t_rev o3 (by omega) (by omega) fun st4 o4 e4=>wpS_pure ⟨o4,_,rfl,?_⟩);have same:∀ x,lo<=x->x<n->ks rk st4 x=ks rk st3 x:=fun x b1 b2=>by
      rw[e4 x];by_cases c:lo+i-(g+1)<=x/\x<lo+i
      ·rw[if_pos c,d3 (lo+i-(g+1)+(lo+i)-1-x) (by omega) (by omega),d3 x (by omega) (by omega)]
      ·rw[if_neg c]
     refine⟨fun a b a1 a2 a3=>?_,by omega,fun x a1 a2=>by rw[show x=lo+(i+1)-1 by omega]⟩;rw[same a a1 (by omega),same b (by omega) (by omega)];by_cases c:b=lo+i
     ·subst c
      by_cases c2:a=lo+i
      ·subst c2;exact Int.le_refl _
      ·have:=d1 a (lo+i-1) a1 (by omega) (by omega)
       omega
     ·exact d1 a b a1 a2 (by omega)
    ·rw[if_neg qg]
     refine wpS_pure ⟨o3,_,rfl,fun a b a1 a2 a3=>?_,by omega,fun x a1 a2=>by rw[show x=lo+(i+1)-1 by omega]⟩;by_cases c:b=lo+i
     ·subst c
      by_cases c2:a=lo+i
      ·subst c2;exact Int.le_refl _
      ·have:=d1 a (lo+i-1) a1 (by omega) (by omega)
       omega
     ·exact d1 a b a1 a2 (by omega)
   ·rw[decide_eq_false z]
    simp only[false_eq_true,if_false];refine wpS_bind (t_ltAt C o3.t (by omega) (by omega) ?_);by_cases z2:ks rk st3 (lo+i-1)<ks rk st3 (lo+i)
    ·rw[decide_eq_true z2]
     exact wpS_pure ⟨o3,_,_,rfl,hi1,by omega,d1,d2,d3⟩
    ·rw[decide_eq_false z2]
     refine wpS_pure ⟨o3,_,rfl,fun a b a1 a2 a3=>?_,by omega,fun x a1 a2=>?_⟩
     ·by_cases c:b=lo+i
      ·subst c
       by_cases c2:a=lo+i
       ·subst c2;exact Int.le_refl _
       ·have:=d1 a (lo+i-1) a1 (by omega) (by omega)
        omega
      ·exact d1 a b a1 a2 (by omega)
     ·rw[show lo+(i+1)-1=lo+i by omega]
      by_cases c:x=lo+i
      ·rw[c]
      ·have:=d3 x (by omega) (by omega)
       omega
  ·rintro c st3 ⟨o3,g,rfl,d3⟩
   rw[show max (k+1) m=m by omega] at d3 ⊢;exact⟨o3,_,_,rfl,by omega,Nat.le_refl _,d3⟩
  ·rintro c st3 ⟨o3,j,g,rfl,j1,j2,d3⟩
   dsimp only;refine jn3 (H:=fun st4=>Od rk it T κ n p lo f st4/\∀ i j',lo<=i->i<=j'->j'<lo+j->ks rk st4 j'<=ks rk st4 i) ?_;apply Exists.intro;apply And.intro
   case right =>
    intro J;by_cases qg:g>0
    ·rw[if_pos qg]
     refine wpS_bind (t_rev o3 (by have:=d3.2.1;omega) (by omega) fun st4 o4 e4=>J st4 ⟨o4,fun a b a1 a2 a3=>?_⟩);have same:∀ x,lo<=x->x<n->ks rk st4 x=ks rk st3 x:=fun x b1 b2=>by
      have:=d3.2.1;rw[e4 x];by_cases c:lo+j-(g+1)<=x/\x<lo+j
      ·rw[if_pos c,d3.2.2 (lo+j-(g+1)+(lo+j)-1-x) (by omega) (by omega),d3.2.2 x (by omega) (by omega)]
      ·rw[if_neg c]
     rw[same a a1 (by omega),same b (by omega) (by omega)];exact d3.1 a b a1 a2 a3
    ·rw[if_neg qg]
     exact J st3 ⟨o3,d3.1⟩
   case left =>
    intro st4 ⟨o4,d4⟩;refine wpS_bind (t_rev o4 (by omega) (by omega) fun st5 o5 e5=>?_);have sg5:Sg rk st5 lo (lo+j):=fun a b a1 a2 a3=>by
     rw[e5 a,e5 b,if_pos ⟨a1,by omega⟩,if_pos ⟨by omega,a3⟩];exact d4 _ _ (by omega) (by omega) (by omega)
    refine wpS_bind (zga C o5 hm (by omega) j2 sg5 rfl (fun x i R i1 i2 y1 y2=>wpS_bind (t_ltAt C o5.t (by omega) (by omega) (by
     dsimp only;by_cases z:ks rk st5 (lo+i)<ks rk st5 (lo+i-1)
     ·rw[decide_eq_true z]
      exact wpS_pure (y1 z)
     ·rw[decide_eq_false z]
      exact wpS_pure (y2 z)))) fun k' b1 b2 b3 b4=>?_)
    exact wpS_pure (h k' st5 (by omega) b2 o5 b3)
theorem Sg.sa{st:SortSt}(h:Sg rk st 0 (arrOf st).size):SA rk (arrOf st).toList:=SA.of fun i j hij hj=>h i j (zero_le _) (by omega) (by simpa using hj)
end
end Sco
namespace Sco
open PySem PyProof.Rows PySem.W
section
variable {prog:Program}{w:World}{A:Around}{E:Value->Shared->Prop}{s:Shared}{it T:List Keyed}{κ:SortKind}{n:Nat}{rk:Value->Int}
theorem VS:∀ z,z<=63->2<=z->minRun' z z 0=z:=by decide
theorem zdw(C:Cmp prog w A s it κ rk){st:SortSt}(t:TB it T κ n st)(hp:pendingOf st = #[])(h2:2<=n)(h66:n<=63){Q:Unit->SortSt->Prop}(h:∀ st',TB it T κ n st'->Sg rk st' 0 n->Q () st'):wpS (model prog w) A E s sortRuns' Q st:=by
 have r1:=VS n h66 h2;rw[sortRuns'_eq];refine wpS_bind (wpS_get ?_);rw[t.z];dsimp only;refine wpS_bind (wpS_mono (wpS_forRange (I:=fun i c st'=>TB it T κ n st'/\∃ lo,c=(none,lo)/\i<=lo/\((lo=0/\pendingOf st' = #[])\/(lo=n/\Sg rk st' 0 n/\∃ p1,pendingOf st' = #[(0,n,p1)])))
  (Q:=fun c st'=>TB it T κ n st'/\∃ lo,c=(none,lo)/\Sg rk st' 0 n/\∃ p1,pendingOf st' = #[(0,n,p1)]) ?_ ?_ ⟨t,0,rfl,Nat.le_refl _,.inl ⟨rfl,hp⟩⟩) ?_)
 ·rintro i c st1 _ hi ⟨t1,lo,rfl,hil,hc⟩
  dsimp only;rcases hc with⟨rfl,hpd⟩ | ⟨rfl,s1,hpd⟩
  ·rw[if_neg (by omega)]
   refine wpS_bind (zbE (p:=pendingOf st1) (f:=ks rk st1) C ⟨t1,rfl,fun _ _=>rfl⟩ (by omega) (by omega) fun fd st0 f1 f2 o0 s0=>?_);dsimp only;rw[Nat.zero_add] at s0;rw[r1];by_cases q2:fd<n
   ·rw[if_pos q2]
    refine wpS_bind (wpS_lift (wpAny_rule ⟨rfl,?_⟩));refine wpS_bind (zfe C o0 (by omega) (by omega) (by omega) (by rw[Nat.zero_add];exact s0) fun st2 o2 s2=>?_);simp only[Bool.not_true,false_eq_true,if_false];refine wpS_bind (wpS_get ?_);rw[o2.p,hpd];refine wpS_bind (wpS_modify (wpS_pure ⟨⟨o2.t.z,o2.t.p,o2.t.i,o2.t.k,o2.t.f⟩,_,rfl,by omega,.inr ⟨by omega,?_,0,?_⟩⟩))
    ·have e:0+min (n-0) n=n:=by omega
     rw[e] at s2;exact s2
    ·show(pendingOf st2).push _=_
     rw[o2.p,hpd,Nat.sub_zero,min_self];rfl
   ·rw[if_neg q2]
    have ef:fd=n:=by omega
    refine wpS_bind (wpS_get ?_);rw[o0.p,hpd];refine wpS_bind (wpS_modify (wpS_pure ⟨⟨o0.t.z,o0.t.p,o0.t.i,o0.t.k,o0.t.f⟩,_,rfl,by omega,.inr ⟨by omega,by rw[ef] at s0;exact s0,0,?_⟩⟩));show(pendingOf st0).push _=_;rw[o0.p,hpd,ef];rfl
  ·rw[if_pos (Nat.le_refl _)]
   exact wpS_pure ⟨t1,_,rfl,s1,hpd⟩
 ·rintro c st1 ⟨t1,lo,rfl,hil,hc⟩
  rcases hc with⟨l0,_⟩ | ⟨_,h⟩
  ·omega
  ·exact⟨t1,lo,rfl,h⟩
 ·rintro c st1 ⟨t1,lo,rfl,sf,p1,hpd⟩
  dsimp only;refine wpS_bind (wpS_mono (wpS_forRange (I:=fun i c st'=>st'=st1/\c=(none,())) (Q:=fun c st'=>st'=st1/\c=(none,())) ?_ (fun _ _ h=>h) ⟨rfl,rfl⟩) ?_)
  ·rintro i c st2 _ hi ⟨rfl,rfl⟩
   refine wpS_bind (wpS_get ?_);rw[hpd];exact wpS_pure ⟨rfl,rfl⟩
  ·rintro c st2 ⟨rfl,rfl⟩
   exact wpS_pure (h st2 t1 sf)
end
def PrV(h:Heap)(v:Value)(p:Int×Int):Prop:=∃ x o t u n,v=.ref x/\h.get? x=some o/\o.cls=.type "tuple" /\ o.data=.seq #[.int p.1 t,.int p.2 u] n
noncomputable def rkP(p:Int×Int):Int:=p.1*1000+p.2
section
variable {prog:Program}{w:World}{A:Around}{E:Value->Shared->Prop}{s:Shared}
theorem zfA{x y:Value}{p q:Int×Int}(hx:PrV s.heap x p)(hy:PrV s.heap y q)(bp:0<=p.2/\p.2<1000)(bq:0<=q.2/\q.2<1000){Q:Bool->Shared->Prop}(h:Q (decide (rkP p<rkP q)) s):wpAny (model prog w) A (keyLt' (tuples' true) x y) Q E s:=by
 obtain⟨x,o,t,u,n,rfl,ho,_,hd⟩:=hx;obtain⟨y,o',t',u',n',rfl,ho',_,hd'⟩:=hy;unfold rkP at h;refine kat_lt ho hd ho' hd' (kat_cons (wpAny_eqBool_int ?_));by_cases e1:p.1=q.1
 ·refine kat_go (fun _=>kat_yes (kat_cons (wpAny_eqBool_int ?_))) fun z=>absurd e1 (by simpa using z)
  by_cases e2:p.2=q.2
  ·refine kat_go (fun _=>kat_yes (kat_nil ?_)) fun z=>absurd e2 (by simpa using z)
   have e:decide (p.1*1000+p.2<q.1*1000+q.2)=false:=decide_eq_false (by omega);rw[e] at h;exact h
  ·refine kat_go (fun z=>absurd (by simpa using z) e2) fun _=>kat_no (kat_one _ _ (lt_int ?_))
   have e:decide (p.1*1000+p.2<q.1*1000+q.2)=decide (p.2<q.2):=decide_eq_decide.mpr (by omega);rw[e] at h;exact h
 ·refine kat_go (fun z=>absurd (by simpa using z) e1) fun _=>kat_no (oneLt_int ?_)
  have e:decide (p.1*1000+p.2<q.1*1000+q.2)=decide (p.1<q.1):=decide_eq_decide.mpr (by omega);rw[e] at h;exact h
theorem Vs:∀ {vs:List Value},(∀ v∈vs,(∃ p,PrV s.heap v p))->∃ fs:List Value,KatTups s.heap vs fs/\fs.length=vs.length/\∀ f∈fs,∃ i t,f=.int i t
 |[],_=>⟨[],.nil,rfl,fun f hf=>by cases hf⟩
 |v::vs,h=>by
  obtain⟨fs,k,hl,hi⟩:=Vs (vs:=vs) fun v hv=>h v (mem_cons_of_mem _ hv);obtain⟨⟨i,j⟩,x,o,t,u,n,rfl,ho,hc,hd⟩:=h v mem_cons_self;refine⟨.int i t::fs,.cons ho hc hd rfl k,by simp[hl],fun f hf=>?_⟩;rcases mem_cons.mp hf with rfl | hf
  ·exact⟨i,t,rfl⟩
  ·exact hi f hf
theorem zb0{vs:List Value}(h:∀ v∈vs,(∃ p,PrV s.heap v p))(hne:0<vs.length){Q:SortKind->Shared->Prop}(q:Q (tuples' true) s):wpAny (model prog w) A (keyKind' vs.toArray) Q E s:=by
 obtain⟨fs,k,hl,hi⟩:=Vs h;refine kat_kind (T:=.type "int") k (by omega) (fun v hv=>?_) rfl q;obtain⟨i,t,rfl⟩:=hi v hv;exact Looks.of_pure rfl
theorem XH{vs:List Value}{p:Keyed}(h:p∈vs.toArray.zip vs.toArray):p.1∈vs/\p.2∈vs:=by
 have h:p∈(vs.toArray.zip vs.toArray).toList:=mem_def.mp h;rw[toList_zip] at h;obtain⟨a,b⟩:=p;exact of_mem_zip h
theorem PrV.keeps{h h':Heap}{v:Value}{p:Int×Int}(q:PrV h v p)(k:∀ b o,h.get? b=some o->o.cls=.type "tuple" -> h'.get? b=some o):PrV h' v p:=by
 obtain⟨x,o,t,u,n,e,ho,hc,hd⟩:=q;exact⟨x,o,t,u,n,e,k _ _ ho hc,hc,hd⟩
theorem WC:∀ vs:List Value,(vs.toArray.zip vs.toArray).toList.map (fun p:Keyed=>p.2)=vs:=fun vs=>by
 rw[toList_zip];exact List.map_snd_zip (Nat.le_refl _)
theorem Xc{vs:List Value}{p:Keyed}(h:p∈(vs.toArray.zip vs.toArray).toList):p.1=p.2:=by
 rw[toList_zip] at h;obtain⟨i,hi,e⟩:=getElem_of_mem h;rw[List.getElem_zip] at e;rw[<- e]
theorem zbZ{vs:List Value}{val:Value->Int×Int}(h:∀ v∈vs,PrV s.heap v (val v))(hb:∀ v∈vs,0<=(val v).2/\(val v).2<1000)(h2:2<=vs.length)(h66:vs.length<=63){Q:Unit->SortSt->Prop}
  (q:∀ st':SortSt,failedOf st'=none->((arrOf st').map (·.2)).toList.Perm vs->((arrOf st').map (·.2)).toList.Pairwise (fun x y=>rkP (val x)<=rkP (val y))->Q () st') :
  wpS (model prog w) A E s sortRuns' Q (SortSt.mk' (tuples' true) (vs.toArray.zip vs.toArray) #[] 7 none):=by
 have hz:(vs.toArray.zip vs.toArray).size=vs.length:=by simp
 refine zdw (it:=(vs.toArray.zip vs.toArray).toList) (T:=(vs.toArray.zip vs.toArray).toList) (κ:=tuples' true) (n:=vs.length) (rk:=fun v=>rkP (val v)) (fun x hx y hy Q E hq=>?_) ⟨hz,List.Perm.refl _,fun x hx=>mem_def.mp hx,rfl,rfl⟩ rfl h2 h66 fun st' t sg=>q st' t.f ?_ ?_
 ·have mx:=(XH (mem_def.mpr hx)).1
  have my:=(XH (mem_def.mpr hy)).1;exact zfA (h _ mx) (h _ my) (hb _ mx) (hb _ my) hq
 ·rw[toList_map]
  have:=t.p.map (fun p:Keyed=>p.2);rw[WC] at this;exact this
 ·rw[toList_map,pairwise_map]
  have sa:SA (fun v=>rkP (val v)) (arrOf st').toList:=Sg.sa (by rw[t.z];exact sg);refine sa.imp_of_mem fun {x y} hx hy hxy=>?_;rw[<- Xc (t.p.mem_iff.mp hx),<- Xc (t.p.mem_iff.mp hy)];exact hxy
theorem Wg{a:Addr}{vs:List Value}{n:Nat}{P:PySem.Fin->Shared->Prop}(ho:s.heap.get? a=some (seqObj "list" vs.toArray n)){val:Value->Int×Int}(hp:∀ v∈vs,PrV s.heap v (val v))(hb:∀ v∈vs,0<=(val v).2/\(val v).2<1000)(h66:vs.length<=63)
  (h:∀ o:Array Value,o.toList.Perm vs->o.toList.Pairwise (fun x y=>rkP (val x)<=rkP (val y))->P (.done (.ret .none)) { s with heap:=sortedHeap s.heap a vs o }):wpAny (model prog w) A (Builtin.«list.sort» ⟨[.ref a],[]⟩) P E s:=by
 have big:63<=sizeLine:=by decide
 have ha:=Heap.lt_size ho;rw[list_sort_plain];refine wpAny_bind (listItems_at ho rfl (wpAny_bind (listUpdate_at ho rfl ?_ (by simp;omega) (zero_le _))));have o1:=get?_update_seq ho (fun _=>(#[]:Array Value));refine wpAny_bind (seqEpoch_at o1 rfl (wpAny_bind (wpAny_newTuple (wpAny_bind (wpAny_newList (wpAny_holding ?_) (zero_le _))) (by show vs.length<=_;omega))));generalize hH:Heap.push (Heap.push (s.heap.update a (Obj.mapSeq fun _=>(#[]:Array Value))) (seqObj "tuple" vs.toArray 0)) (seqObj "list" #[] 0)=H6;have hs:∀ o:Array Value,sortedHeap s.heap a vs o=H6.update a (Obj.mapSeq fun _=>o):=fun o=>by rw[<- hH];rfl
 have o6:=Heap.get?_push_of_some (seqObj "list" #[] 0) (Heap.get?_push_of_some (seqObj "tuple" vs.toArray 0) o1);rw[hH] at o6;have hp6:∀ v∈vs,PrV H6 v (val v):=fun v hv=>(hp v hv).keeps fun b o e hc=>by
  have hb:a≠b:=fun z=>by
   rw[<- z,ho] at e;cases e;have hc:Value.type "list" = .type "tuple" := hc;injection hc with hc;exact absurd hc (by decide)
  rw[<- hH];refine Heap.get?_push_of_some _ (Heap.get?_push_of_some _ ?_);rw[Heap.get?_update_other _ _ hb];exact e
 have e6:({ s with heap:=Heap.push (Heap.push (s.heap.update a (Obj.mapSeq fun _=>(#[]:Array Value))) (seqObj "tuple" vs.toArray 0)) (seqObj "list" #[] 0) }:Shared)={ s with heap:=H6 }:=by rw[hH]
 refine(show wpAny (model prog w) A _ P E { s with heap:=H6 } from ?_);dsimp only;have hz0:((vs.toArray.zip vs.toArray).map (fun p:Keyed=>p.2)).size=vs.length:=by simp
 by_cases q:vs.toArray.size<2
 ·rw[if_pos q,if_pos q]
  refine wpAny_bind (wpAny_pure ?_);rw[StateT.run_pure];refine wpAny_bind (wpAny_pure (wpAny_bind (seqEpoch_at o6 rfl (wpAny_bind (listUpdate_at o6 rfl ?_ (zero_le _) (by show((vs.toArray.zip vs.toArray).map (fun p:Keyed=>p.2)).size<=_;omega))))));simp only[bne_self_eq_false,false_eq_true,if_false];refine wpAny_pure ?_;rw[<- hs];have e:((vs.toArray.zip vs.toArray).map (fun p:Keyed=>p.2)).toList=vs:=by rw[toList_map];exact WC vs
  refine h _ (by rw[e]) ?_;rw[e];have q:vs.length<2:=by simpa using q
  match vs,q with
  |[],_=>exact List.Pairwise.nil
  |[x],_=>exact List.pairwise_singleton _ _
 ·rw[if_neg q,if_neg q]
  have q:2<=vs.length:=by simp at q;omega
  refine wpAny_bind (zb0 (fun v hv=>⟨_,hp6 v hv⟩) (by omega) ?_);refine wpAny_bind (wpAny_mono (zbZ (s:={ s with heap:=H6 }) hp6 hb q h66 (Q:=fun _ st'=>failedOf st'=none/\((arrOf st').map (·.2)).toList.Perm vs/\((arrOf st').map (·.2)).toList.Pairwise (fun x y=>rkP (val x)<=rkP (val y))) fun st' a1 a2 a3=>⟨a1,a2,a3⟩) ?_ fun _ _ e=>e);rintro⟨⟨⟩,st'⟩ s' ⟨rfl,hf,hz,hm⟩;have hz':((arrOf st').map (·.2)).size=vs.length:=by rw[<- length_toList,hz.length_eq]
  refine wpAny_bind (seqEpoch_at o6 rfl (wpAny_bind (listUpdate_at o6 rfl ?_ (zero_le _) (by show((arrOf st').map (·.2)).size<=_;omega))));rw[hf];simp only[bne_self_eq_false,false_eq_true,if_false];refine wpAny_pure ?_;rw[<- hs];exact h _ hz hm
theorem ZG{l:Addr}{vs:List Value}{Q:Value->Shared->Prop}(hl:s.heap.IsList l vs.toArray){val:Value->Int×Int}(hp:∀ v∈vs,PrV s.heap v (val v))(hb:∀ v∈vs,0<=(val v).2/\(val v).2<1000)(h66:vs.length<=63)
  (h:∀ o:Array Value,o.toList.Perm vs->o.toList.Pairwise (fun x y=>rkP (val x)<=rkP (val y))->Q (.ref (s.heap.objs.size+1)) { s with heap:=sortedAll s.heap vs o }):wpAny (model prog w) A (call (.builtin "sorted") [.ref l]) Q E s:=by
 have big:63<=sizeLine:=by decide
 refine Calls.call_function_entry kind_sorted plain_sorted entry_sorted (args_sorted1 _) ?_;unfold Builtin.«sorted»;refine wpAny_bind (m:=checkCount "sorted" 1 1 _) (wpAny_pure (wpAny_bind (collect_list hl (wpAny_bind (wpAny_newList ?_ (by show vs.length<=_;omega))) (by omega))));have hz:(Heap.update (Heap.push s.heap (seqObj "list" #[] 0)) s.heap.objs.size (Obj.mapSeq fun x=>x++vs.toArray)).objs.size=s.heap.objs.size+1:=(Heap.size_update _ _ _).trans (size_push' _ _);have hk:∀ b o,s.heap.get? b=some o->(Heap.push (Heap.update (Heap.push s.heap (seqObj "list" #[] 0)) s.heap.objs.size (Obj.mapSeq fun x=>x++vs.toArray)) (seqObj "list" vs.toArray 0)).get? b=some o:=fun b o e=>by
  refine Heap.get?_push_of_some _ ?_;rw[Heap.get?_update_other _ _ (Nat.ne_of_gt (Heap.lt_size e))];exact Heap.get?_push_of_some _ e
 have ho:=Heap.get?_push_size (Heap.update (Heap.push s.heap (seqObj "list" #[] 0)) s.heap.objs.size (Obj.mapSeq fun x=>x++vs.toArray)) (o:=seqObj "list" vs.toArray 0) rfl;refine(show wpAny _ _ _ _ _ { s with heap:=Heap.push (Heap.update (Heap.push s.heap (seqObj "list" #[] 0)) s.heap.objs.size (Obj.mapSeq fun x=>x++vs.toArray)) (seqObj "list" vs.toArray 0) } from ?_);rw[hz] at ho ⊢;refine wpAny_bind (wpAny_holding (wpAny_call_entry slot_list_sort ⟨_,ho,rfl⟩ entry_list_sort ?_ (args_list_sort _)));refine Wg ho (fun v hv=>(hp v hv).keeps fun b o e _=>hk b o e) hb h66 fun o z m=>⟨_,rfl,wpAny_pure ⟨_,rfl,h o z m⟩⟩
end
section
variable {X:Cx}
abbrev PT:=Addr×Int×Int
theorem Vv{α β:Type}{f:α->β}:∀ {l m:List β},l.Perm m->∀ ps:List α,ps.map f=m->∃ qs:List α,qs.Perm ps/\qs.map f=l:=by
 intro l m h
 induction h with
 |nil =>
  intro ps e;exact⟨ps,List.Perm.refl _,e⟩
 | @cons x l m _ ih =>
  intro ps e;cases ps with
  |nil=>cases e
  |cons p ps =>
   rw[map_cons] at e;injection e with e1 e2;obtain⟨qs,h1,h2⟩:=ih ps e2;exact⟨p::qs,h1.cons p,by rw[map_cons,h2,e1]⟩
 |swap x y l =>
  intro ps e
  match ps,e with
  |p::q::ps,e =>
   rw[map_cons,map_cons] at e;injection e with e1 e2;injection e2 with e2 e3;exact⟨q::p::ps,List.Perm.swap _ _ _,by rw[map_cons,map_cons,e1,e2,e3]⟩
 |trans _ _ ih1 ih2 =>
  intro ps e;obtain⟨qs,h1,h2⟩:=ih2 ps e;obtain⟨rs,h3,h4⟩:=ih1 qs h2;exact⟨rs,h3.trans h1,h4⟩
noncomputable def vlH(H:Hp):Value->Int×Int
 |.ref a=>match H a with
  |some (.tup [.int i,.int j])=>(i,j)
  |_=>(0,0)
 |_=>(0,0)
def PsAt(H:Hp)(ps:List PT):Prop:=∀ p∈ps,H p.1=some (.tup [.int p.2.1,.int p.2.2])/\0<=p.2.2/\p.2.2<1000
theorem PsAt.vl{H:Hp}{ps:List PT}(h:PsAt H ps){p:PT}(hp:p∈ps):vlH H (.ref p.1)=p.2:=by
 show(match H p.1 with
  |some (.tup [.int i,.int j])=>(i,j)
  |_=>(0,0))=p.2
 rw[(h p hp).1]
theorem PsAt.prv{pins:List (Addr×Obj)}{σ:St}{H:Hp}{s:Shared}{ps:List PT}(I:Inv X pins σ H s)(h:PsAt H ps):∀ v∈ps.map (fun p=>Value.ref p.1),PrV s.heap v (vlH H v):=fun v hv=>by
 obtain⟨p,hp,rfl⟩:=mem_map.mp hv;rw[h.vl hp];obtain⟨_,vs,rr,ob,e1,e2,n,e3⟩:=(show ObjOk X.prog X.w H s.heap p.1 (.tup [.int p.2.1,.int p.2.2]) from I.hok p.1 _ (h p hp).1);cases rr with
 |cons r1 rr =>
  cases rr with
  |cons r2 rr =>
   cases rr;obtain⟨t1,rfl⟩:=r1;obtain⟨t2,rfl⟩:=r2;exact⟨p.1,ob,t1,t2,n,rfl,e1,e2,e3⟩
theorem ZA:∀ {ps:List PT}{us:List Value},Vals (ps.map fun p=>V.ref p.1) us->us=ps.map fun p=>Value.ref p.1
 |[],_,h=>by cases h;rfl
 |p::ps,_,h=>by
  cases h with
  |cons r t =>
   cases r;rw[map_cons,ZA t]
theorem ZJ:∀ (ps:List PT),Vals (ps.map fun p=>V.ref p.1) (ps.map fun p=>Value.ref p.1)
 |[]=>.nil
 |p::ps=>.cons rfl (ZJ ps)
def zdW(K:W.Frag):List V->Hp->VK->Prop:=fun xs H Q=>∃ (a:Addr) (ps:List PT),xs=[V.ref a]/\SqL K H a (ps.map fun p=>V.ref p.1)/\ps.length<=63/\PsAt H ps /\
 ∀ (l:Addr) (qs:List PT),H l=none->qs.Perm ps->qs.Pairwise (fun x y=>rkP x.2<=rkP y.2)->Q (.ref l) (upd H l (.lst (qs.map fun p=>V.ref p.1)))
theorem Vm{H:Hp}{ps:List PT}(h:PsAt H ps){o:Array Value}(po:o.toList.Perm (ps.map fun p=>Value.ref p.1))(so:o.toList.Pairwise (fun x y=>rkP (vlH H x)<=rkP (vlH H y))):∃ qs:List PT,qs.Perm ps/\qs.Pairwise (fun x y=>rkP x.2<=rkP y.2)/\o.toList=qs.map fun p=>Value.ref p.1:=by
 obtain⟨qs,h1,h2⟩:=Vv po ps rfl;refine⟨qs,h1,?_,h2.symm⟩;rw[<- h2,pairwise_map] at so;refine so.imp_of_mem fun {x y} hx hy hxy=>?_;rw[h.vl (h1.mem_iff.mp hx),h.vl (h1.mem_iff.mp hy)] at hxy;exact hxy
theorem call_sortX:xr X (.builtin "sorted") (zdW X.K):=by
 intro pins s σ H xs us Q I r h;obtain⟨a,ps,rfl,ha,h66,hy,q⟩:=h;obtain⟨u,rfl,ru⟩:=r.one;cases ru;obtain⟨its,rv,p,hz⟩:=I.list ha;have hl:=ZA rv;subst hl;refine ZG p.isList (hy.prv I) (fun v hv=>?_) (by rw[length_map];exact h66) fun o z m=>?_
 ·obtain⟨p,hp,rfl⟩:=mem_map.mp hv
  rw[hy.vl hp];exact(hy p hp).2
 ·obtain⟨qs,h1,h2,h3⟩:=Vm hy z m
  have hn:H (s.heap.objs.size+1)=none:=I.hok.fresh (le_succ _);obtain⟨c,hc⟩:=sortedAll_at s.heap (ps.map fun p=>Value.ref p.1) o;refine⟨.ref _,_,I.laid (a:=s.heap.objs.size+1) (o:=.lst (qs.map fun p=>V.ref p.1)) (t':=s.toks) (fun _ _ e=>sortedAll_old e) (le_succ _) ⟨by rw[length_map,h1.length_eq];rw[length_map] at hz;exact hz,o.toList,c,by rw[h3];exact ZJ qs,hc⟩,rfl,q _ qs hn h1 h2⟩
end
end Sco
end L2
namespace L2
open PySem PySem.Spec PyProof.Rows
def zeZ(h:Heap)(d:Addr)(es:Array DictEntry)(ep:Nat):Prop:=∃ o,h.get? d=some o/\o.ExactDict/\o.data=.dict es ep
def KIt(h:Heap)(it d:Addr)(i n ep:Nat):Prop:=h.get? it=some { cls:=.type "dict_keyiterator",data:=.fields #[.ref d,.int i 0,.int n 0,.int ep 0] }
section
variable {prog:Program}{w:World}{A:Around}{E:Value->Shared->Prop}{s:Shared}
theorem zbB{it d:Addr}{i ep:Nat}{es:Array DictEntry}{e:DictEntry}{Q:PySem.Fin->Shared->Prop}(hi:KIt s.heap it d i es.size ep)(hd:zeZ s.heap d es ep)(he:es[i]?=some e)
  (h:∀ h',KIt h' it d (i+1) es.size ep->Heap.SameBut it s.heap h'->Q (.done (.ret e.key)) { s with heap:=h' }):wpAny (model prog w) A (Builtin.«dict_keyiterator.__next__» ⟨[.ref it],[]⟩) Q E s:=by
 obtain⟨⟨c,dct,dat,sl⟩,ho,ex,hdat⟩:=hd;cases hdat;have hT:s.TypeIs (.ref it) "dict_keyiterator" := ⟨_,hi,rfl⟩;refine wpAny_bind (m:=Builtin.Dict_items.slot0 "__next__" _) (wpAny_pure ?_);refine wpAny_bind ?_;refine wpAny_bind ?_;have z1:((es.size:Int) != (es.size:Int))=false:=by simp
 have z2:((ep:Int) != (ep:Int))=false:=by simp
 repeat (any_goals (first | assumption | (simp only[z1,z2,false_eq_true,if_false]) | wp_step))
 have z3:(if (i:Int)<0 then none else es[((i:Int)).toNat]?)=some e:=by
  rw[if_neg (by omega)];exact he
 rw[z3];refine wpAny_bind ?_;refine wpAny_bind (m:=typeNameOfWhole (.ref it)) ?_
 repeat (any_goals (first | assumption | wp_step))
 refine h _ ((Heap.get?_update_self _ hi (by kernel_rfl)).trans (congrArg some ?_)) ⟨Heap.size_update _ _ _,fun b hb=>Heap.get?_update_ne _ _ _ _ hb⟩
 kernel_rfl
theorem zdq{it d:Addr}{ep:Nat}{es:Array DictEntry}{Q:PySem.Fin->Shared->Prop}(hh:A.handled=none){i:Nat}(hi:KIt s.heap it d i es.size ep)(hle:es.size<=i)(hd:zeZ s.heap d es ep)
  (h:∀ h' e,Heap.ExtBut it s.heap h'->(∃ o,h'.get? e=some o/\o.cls=.type "StopIteration")->E (.ref e) { s with heap:=h' }):wpAny (model prog w) A (Builtin.«dict_keyiterator.__next__» ⟨[.ref it],[]⟩) Q E s:=by
 obtain⟨⟨c,dct,dat,sl⟩,ho,ex,hdat⟩:=hd;cases hdat;have hT:s.TypeIs (.ref it) "dict_keyiterator" := ⟨_,hi,rfl⟩;refine wpAny_bind (m:=Builtin.Dict_items.slot0 "__next__" _) (wpAny_pure ?_);refine wpAny_bind ?_;refine wpAny_bind ?_;have z1:((es.size:Int) != (es.size:Int))=false:=by simp
 have z2:((ep:Int) != (ep:Int))=false:=by simp
 repeat (any_goals (first | assumption | (simp only[z1,z2,false_eq_true,if_false]) | wp_step))
 have z3:(if (i:Int)<0 then none else es[((i:Int)).toNat]?)=none:=by
  rw[if_neg (by omega)];show es[i]?=none;simp[hle]
 rw[z3];refine wpAny_bind ?_;refine wpAny_bind (m:=typeNameOfWhole (.ref it)) ?_
 repeat (any_goals (first | assumption | wp_step))
 refine wpAny_raiseNew_none hh ?_;refine h _ _ (fun b o hb e=>?_) ⟨_,Heap.get?_push_size _ rfl,rfl⟩;exact Heap.get?_push_of_some _ (Heap.get?_push_of_some _ ((Heap.get?_update_ne _ _ _ _ hb).trans e))
theorem WT{it d:Addr}{i ep:Nat}{es:Array DictEntry}{e:DictEntry}{Q:Option Value->Shared->Prop}(hi:KIt s.heap it d i es.size ep)(hd:zeZ s.heap d es ep)(he:es[i]?=some e)
  (h:∀ h',KIt h' it d (i+1) es.size ep->Heap.SameBut it s.heap h'->Q (some e.key) { s with heap:=h' }):wpAny (model prog w) A (pyNext (.ref it)) Q E s:=by
 have hT:s.TypeIs (.ref it) "dict_keyiterator" := ⟨_,hi,rfl⟩;unfold pyNext;exact wpAny_bind (wpAny_attempt (wpAny_callSpecial?_slot (name:=Str.ofString "__next__") hT F.slot_dict_keyiterator_next (wpAny_call_entry F.slot_dict_keyiterator_next hT F.entry_dict_keyiterator_next (zbB hi hd he fun h' a1 a2=>⟨_,rfl,wpAny_pure (h h' a1 a2)⟩) (F.args_dict_keyiterator_next_1 _))))
theorem UL{it d:Addr}{ep:Nat}{es:Array DictEntry}{Q:Option Value->Shared->Prop}(hh:A.handled=none){i:Nat}(hi:KIt s.heap it d i es.size ep)(hle:es.size<=i)(hd:zeZ s.heap d es ep)
  (h:∀ h',Heap.ExtBut it s.heap h'->Q none { s with heap:=h' }):wpAny (model prog w) A (pyNext (.ref it)) Q E s:=by
 have hT:s.TypeIs (.ref it) "dict_keyiterator" := ⟨_,hi,rfl⟩;unfold pyNext;refine wpAny_bind (wpAny_attempt (wpAny_callSpecial?_slot (name:=Str.ofString "__next__") hT F.slot_dict_keyiterator_next (wpAny_call_entry F.slot_dict_keyiterator_next hT F.entry_dict_keyiterator_next (zdq hh hi hle hd fun h' e hk he=>?_) (F.args_dict_keyiterator_next_1 _))));obtain⟨o,ho,hc⟩:=he;exact wpAny_bind (wpAny_isInstance (T := "StopIteration") (b:=true) ⟨o,ho,hc⟩ isSubtype_stop (wpAny_pure (h _ hk)))
theorem zbC{d:Addr}{ep:Nat}{es:Array DictEntry}{Q:Value->Shared->Prop}(hd:zeZ s.heap d es ep)(hm:(d == sysModules)=false)
  (q:Q (.ref s.heap.objs.size) { s with heap:=s.heap.push { cls:=.type "dict_keyiterator",data:=.fields #[.ref d,.int 0 0,.int es.size 0,.int ep 0] } }):wpAny (model prog w) A (pyIter (.ref d)) Q E s:=by
 obtain⟨⟨c,dct,dat,sl⟩,ho,ex,hdat⟩:=hd;cases hdat;have hT:s.TypeIs (.ref d) "dict" := ⟨_,ho,ex.1⟩;refine wpAny_pyIter_slot hT F.slot_dict_iter (wpAny_call_entry F.slot_dict_iter hT F.entry_dict_iter ?_ (F.args_dict_iter_1 _));unfold Builtin.«dict.__iter__»;refine wpAny_bind ?_;unfold Builtin.Dict.dictSlotNone;refine wpAny_bind (wpAny_notOrdered_dict hT ?_);show wpAny _ _ (pure (Value.ref d)) _ _ _;refine wpAny_pure ?_;have e:Builtin.Dict.showsAll d=pure ():=by
  unfold Builtin.Dict.showsAll;rw[if_neg (by rw[hm];simp)]
 refine wpAny_bind (m:=Builtin.Dict.addrOf (.ref d)) (wpAny_pure ?_);rw[e]
 repeat (any_goals (first | assumption | wp_step))
 refine⟨_,rfl, "dict_keyiterator",_,⟨_,Heap.get?_push_size _ rfl,rfl⟩,F.slot_dict_keyiterator_next.lookup,?_⟩;exact q
end
section
variable {X:Cx}{pins:List (Addr×Obj)}{σ:St}{H G:Hp}{s:Shared}{d:Addr}{od:Obj}{kvs:List (List Key×V)}
theorem Inv.frozT(I:Inv X pins σ H s)(e:H d=some (.dT kvs))(q0:s.heap.get? d=some od):Inv X pins σ (upd H d (.frz od (.dT kvs))) s:=by
 have ne:∀ {b:Addr}{o:HO},H b=some o->(∀ kvs,o≠.dT kvs)->upd H d (.frz od (.dT kvs)) b=some o:=fun {b o} q n=>by
  rw[upd_ne (fun z=>by rw[z,e] at q;injection q with q;exact n _ q.symm)];exact q
 have no:∀ {b:Addr},H b=none->upd H d (.frz od (.dT kvs)) b=none:=fun {b} q=>by
  rw[upd_ne (fun z=>by rw[z,e] at q;cases q)];exact q
 refine⟨I.ok,I.os,I.bare,⟨I.base.keep,I.base.slot,fun b o q n x=>no (I.base.free b o q n x),I.base.there,fun b xs q=>ne (I.base.tups b xs q) (fun _ z=>by cases z),fun b o u q=>ne (I.base.frzs b o u q) (fun _ z=>by cases z),fun b ps q=>?_⟩,I.loc,I.cell,no I.free,fun x c q=>no (I.freeC x c q),fun p hp=>?_,fun b o q=>?_,I.len⟩
 ·obtain⟨m,q⟩:=I.base.tbls b ps q
  exact⟨m,ne q (fun _ z=>by cases z)⟩
 ·obtain⟨p1,p2,p3⟩:=I.pin p hp
  exact⟨p1,no p2,p3⟩
 ·have st:∀ {b:Addr}{o:HO},H b=some o->ObjOk X.prog X.w (upd H d (.frz od (.dT kvs))) s.heap b o:=fun {b o} q=>(I.hok b o q).stay (fun c u _ q=>q) (fun c q=>ne q (fun _ z=>by cases z)) fun c xs q=>ne q (fun _ z=>by cases z)
  by_cases c:b=d
  ·subst c
   rw[upd_same] at q;cases q;exact⟨q0,st e⟩
  ·rw[upd_ne c] at q
   exact st q
noncomputable def ItT(d:Addr)(od:Obj)(kvs:List (List Key×V)):It :=
 ⟨fun i H=>H d=some (.frz od (.dT kvs))/\i<kvs.length,fun i H x H'=>H'=H/\∃ kv b,kvs[i]?=some kv/\x=.ref b/\H b=some (.tup (kv.1.map kV)),fun i H=>H d=some (.frz od (.dT kvs))/\kvs.length<=i⟩
theorem KT.getAt{H:Hp}:∀ {kvs:List (List Key×V)}{xs:List (List Key×Addr×Value)},KT H kvs xs->∀ {i:Nat}{p:List Key×V},kvs[i]?=some p->∃ x,xs[i]?=some x/\p.1=x.1/\H x.2.1=some (.tup (p.1.map kV))
 |_,_,.cons h t,0,p,e=>by cases e;exact⟨_,rfl,h.1,h.2.1⟩
 |_,_,.cons h t,i+1,p,e=>by
  obtain⟨x,h1,h2⟩:=KT.getAt t (i:=i) (p:=p) (by simpa using e);exact⟨x,by simpa using h1,h2⟩
 |_,_,.nil,i,p,e=>by simp at e
theorem Yy{P:Program}{w:World}{K:W.Frag}{tg:Expr}{it d:Addr}{od:Obj}{kvs:List (List Key×V)}{es:Array DictEntry}{ep:Nat}(hed:od.ExactDict)(hda:od.data=.dict es ep)(hle:es.size=kvs.length) :
  Turn P w K tg (ItT d od kvs) [it] it (fun i h=>KIt h it d i es.size ep) where
 mem:=by simp
 obj:=fun i h o1 b hb=>by
  rw[mem_singleton.mp hb];exact⟨_,o1,fun v z=>by
   have z':Data.fields _=Data.cell v:=z;cases z'⟩
 keep:=fun i h h' st k=>k it (by simp) _ st
 item:=by
  intro X hP hw hK hc i pins s σ H E I hf st hg;subst hP hw hK;obtain⟨f0,f1,f2,f3,f4,f5⟩:=hf it (by simp);obtain⟨d3,d4⟩:=I.hok d _ hg.1;have hx:kvs[i]?=some (kvs[i]'hg.2):=List.getElem?_eq_getElem hg.2;obtain⟨z,y,xs,rel,o,es2,ep2,h1,h2,h3,h4,h5⟩:=(show ObjOk X.prog X.w H s.heap d (.dT kvs) from d4);rw[d3] at h1;cases h1;rw[hda] at h3;cases h3;obtain⟨x,hxi,e1,e2⟩:=KT.getAt rel hx;have he:es[i]?=some (entryOfKey (tupleKind (zP X.prog X.w)) x):=by
   rw[<- Array.getElem?_toList,h4,List.getElem?_map,hxi];rfl
  refine WT st ⟨od,d3,hed,hda⟩ he fun h' st4 sb=>?_;refine⟨_,rfl,Wt (s:={ s with heap:=h' }) (n := "dict_keyiterator") st4 rfl rfl (by decide) ⟨.ref x.2.1,H,I.turned (t':=s.toks) (fun b o hb q=>sb.extBut b o hb q) f0 f1 f3 f4 f5,rfl,⟨rfl,_,x.2.1,hx,rfl,e2⟩,st4,fun b hb=>(hf b hb).1⟩⟩
 done:=by
  intro X hP hw hK hc i pins s σ H E I hf st hg;subst hP hw hK;obtain⟨f0,f1,f2,f3,f4,f5⟩:=hf it (by simp);have d3:=(I.hok d _ hg.1).1;exact UL (I.ok.hd hc) st (by have:=hg.2;omega) ⟨od,d3,hed,hda⟩ fun h' kk=>⟨rfl,I.turned (t':=s.toks) (fun b o hb q=>kk b o hb q) f0 f1 f3 f4 f5⟩
 self:=fun _ i s _ _ st h=>wpAny_pyIter_keyiter (it:=it) (d:=d) (i:=i) (n:=es.size) (ep:=ep) ⟨_,st,rfl,rfl⟩ h
def zhm(td:TE):TI:=fun σ H R=>td σ H fun x H1=>∃ (d:Addr) (kvs:List (List Key×V)),x=.ref d/\H1 d=some (.dT kvs)/\∀ od:Obj,R (ItT d od kvs) (upd H1 d (.frz od (.dT kvs)))
theorem Yw{tg l:Expr}{td:TE}(hl:Bx (PE X l td)):Bx (PI X tg l (zhm td)):=by
 have hl:=hl.of;refine⟨?_⟩;intro pins s σ H R I h;refine thn (hl pins s σ H _ I h) fun v s1 hq0=>?_;obtain⟨x,H1,I1,rx,d,kvs,ex,e,q⟩:=hq0;subst ex;obtain rfl:v=Value.ref d:=rx;obtain⟨z,hd,xs,rel,dd⟩:=zcS I1.hok e;obtain⟨od,es',ep,q1,q2,q3,q4,q5,q6⟩:=dd;refine zbC ⟨od,q1,q2,q3⟩ hd ?_;have I1f:=I1.frozT e q1;have hle:es'.size=kvs.length:=by
  rw[<- length_toList,q4,length_map];exact(Paired.length rel).symm
 refine⟨_,[s1.heap.objs.size],_,_,_,rfl,I1f.kept (t':=s1.toks) fun b u q=>Heap.get?_push_of_some _ q,Yy q2 q3 hle,Heap.get?_push_size _ rfl,fun b hb=>?_,q od⟩;rw[mem_singleton.mp hb];exact I1f.fpOk (Nat.le_refl _) (I1f.hok.fresh (Nat.le_refl _))
end
theorem for_keysT{d:Addr}{od:Obj}{kvs:List (List Key×V)}{g:TG}{tb:TS}{D:Ends}{σ:St}{H:Hp}(Pv:Nat->St->Hp->Prop)(h0:Pv 0 σ H)(hf:∀ i σ H,Pv i σ H->H d=some (.frz od (.dT kvs)))
  (hs:∀ i kv b σ H,kvs[i]?=some kv->H b=some (.tup (kv.1.map kV))->Pv i σ H->g (.ref b) σ H fun σ2 H2=>tb { D with nx:=Pv (i+1),ct:=Pv (i+1),bk:=D.nx } σ2 H2) (hd:∀ σ H,Pv kvs.length σ H->D.nx σ H) :
  ∃ W:Nat->Nat->St->Hp->Prop,(∃ m,W 0 m σ H)/\∀ i m σ H,W i m σ H ->
   ((ItT d od kvs).stop i H/\D.nx σ H)\/((ItT d od kvs).go i H/\∃ N:St->Hp->Prop,(∀ σ' H',N σ' H'->∃ m',m'<m/\W (i+1) m' σ' H')/\∀ x H',(ItT d od kvs).yld i H x H'->g x σ H' fun σ2 H2=>tb { D with nx:=N,ct:=N,bk:=D.nx } σ2 H2):=by
 refine⟨fun i m σ H=>m=kvs.length-i/\i<=kvs.length/\Pv i σ H,⟨_,rfl,zero_le _,h0⟩,?_⟩;rintro i m σ H ⟨rfl,hi,p⟩;by_cases hlt:i<kvs.length
 ·refine .inr ⟨⟨hf i σ H p,hlt⟩,Pv (i+1),fun σ' H' p'=>⟨_,by omega,rfl,hlt,p'⟩,fun x H' y=>?_⟩
  obtain⟨rfl,kv,b,hk,rfl,hb⟩:=y;exact hs i kv b σ _ hk hb p
 ·have e:i=kvs.length:=by omega
  subst e;exact .inl ⟨⟨hf _ σ H p,Nat.le_refl _⟩,hd σ H p⟩
section
variable {P:Program}{w:World}{K:W.Frag}{mg:Str->Option Value}{base:Heap}{N:List Str}{qual:Str}{scope:Scope}{f:Addr}{cd:Value}{A:Around}{outer:List Env}{s0:Shared}{H0:Hp}{E:XK}
 {k:Nat}{f':Addr}{fd:FuncData}{ps:List Str}{sp:Sp}{x:Str}{p pos:Pos}{e:Expr}{es:List Expr}{t:TA}
theorem WS(c:Callee1 P w K mg base x f' fd ps k sp)(hr:Room k (yM (CX1 P w) P w K mg base N qual scope f cd A outer s0 H0 E).A)(ha:Bx (PA (yM (CX1 P w) P w K mg base N qual scope f cd A outer s0 H0 E) (e::es) t))(hg:Gl (yM (CX1 P w) P w K mg base N qual scope f cd A outer s0 H0 E) x:=by rfl)(hdb:(x == ("__debug__" : Str))=false:=by decide)(he:starEach (e::es) (yM (CX1 P w) P w K mg base N qual scope f cd A outer s0 H0 E).env=(false,eval e (yM (CX1 P w) P w K mg base N qual scope f cd A outer s0 H0 E).env)::starEach es (yM (CX1 P w) P w K mg base N qual scope f cd A outer s0 H0 E).env:=by rfl)(hpl:(backTo pos (starEach es (yM (CX1 P w) P w K mg base N qual scope f cd A outer s0 H0 E).env)).any (·.1)=false:=by rfl):Bx (PE (yM (CX1 P w) P w K mg base N qual scope f cd A outer s0 H0 E) (.Call (.Name x p) (e::es) [] pos) (w8 sp [] E t)):=by
 have ha:=ha.of;exact⟨Vz (X:=yM (CX1 P w) P w K mg base N qual scope f cd A outer s0 H0 E) (CX:=CX1 P w) c.ok hr hg c.g c.kp c.b .nil zd2 ha hdb he hpl⟩
end
end L2
namespace L2
open PySem PySem.W PyProof.Rows
structure Fe where
 a:Addr
 n:Str
 q:Str
 s:Stmt
 ps:List Str
 N:List Str
 c:Addr
structure Ce where
 a:Addr
 n:Str
 i:Addr
 fs:List Str
structure Tab where
 f:List Fe
 c:List Ce
 b:List Str
 k:List (Value×Value×Bool)
 m:List (Str×Value)
 t:List (Addr×List Str)
 x:List Addr
 y:List Addr
 u:List (Addr×Addr×Bool)
noncomputable def dK(K:Frag)(f:Addr):FuncData:=match K.lookup f with
 |some ⟨_,_,.func d,_⟩=>d
 |_=>default
def fnX(e:Fe)(g:FuncData):FuncData:=fnOf e.n e.q (defArgs e.s) (defBody e.s) (defScope e.s) .none g.kwdefaults g.doc g.pyModule g.annotations g.code g.closureTuple
def fnB(K:Frag)(e:Fe):Option Obj:=match K.lookup e.a with
 |some ⟨c,d,.func g,sl⟩=>some ⟨c,d,.func (fnX e g),sl⟩
 |_=>none
def scB(e:Fe):Bool:=decide ((defScope e.s).kind=.function)&&!(defScope e.s).isCoroutine&&!(defScope e.s).isGenerator&&decide e.N.Nodup&&decide (e.N.take e.ps.length=e.ps) &&
 e.ps.all (fun x=>decide ((defScope e.s).names.lookup x=some .local\/(defScope e.s).names.lookup x=some .cell))&&(defScope e.s).names.all fun y=>decide (y.2≠.free)
theorem zgY{e:Fe}(h:scB e=true):FnScope e.N e.ps (defScope e.s):=by
 unfold scB at h;simp only[and_eq_true,decide_eq_true_eq,not_eq_true',all_eq_true] at h;exact⟨h.1.1.1.1.1.1,h.1.1.1.1.1.2,h.1.1.1.1.2,h.1.1.1.2,h.1.1.2,h.1.2,h.2⟩
noncomputable def eqv(x y:Option (Option Value)):Bool:=decide (x=y)
def fnC(K:Frag)(e:Fe):Bool:=codeIn K (dK K e.a).code e.q&&keepIn K (.ref e.a)&&isFn K (.ref e.a)&&eqv (if e.c=0 then nsIn K mainGlobals e.n else findIn K (.ref e.c) e.n) (some (some (.ref e.a)))
def clC(K:Frag)(e:Ce):Bool:=plainGet K e.a Str.empty&&hasDictIn K e.a&&plainOver K e.a&&eqv (findIn K (.ref e.a) "__setattr__") (some (some (.builtin "object.__setattr__"))) &&
 eqv (nsIn K mainGlobals e.n) (some (some (.ref e.a)))&&makesIn K e.a&&eqv (findIn K (.ref e.a) "__init__") (some (some (if e.i=0 then .builtin "object.__init__" else .ref e.i)))&&keepIn K (.ref e.a) &&
 eqv (findIn K (.ref e.a) "__class__") (some (some (.builtin "object.__class__")))&&decide (mroIn K e.a (.type "object")=some true)&&e.fs.all (fun f=>eqv (findIn K (.ref e.a) f) (some none))&&(e.i == 0||isFn K (.ref e.i))
def tpC(K:Frag)(p:Addr×List Str):Bool:=match K.lookup p.1 with
 |some ⟨.type "tuple",_,.seq its _,_⟩=>decide (its.toList.map (fun v=>match v with | .str x _=>some x | _=>none)=p.2.map some)
 |_=>false
def xiC(K:Frag)(c:Addr):Bool:=eqv (findIn K (.ref c) "__getattribute__") (some (some (.builtin "BaseException.__getattribute__")))&&eqv (findIn K (.ref c) "__getattr__") (some none)&&eqv (findIn K (.ref c) "__class__") (some (some (.builtin "object.__class__"))) &&
 decide (mroIn K c (.type "object")=some true)&&decide (mroIn K c (.type "BaseException")=some true)&&hasDictIn K c
def chk(t:Tab)(K:Frag):Bool :=
 t.f.all (fnC K)&&t.c.all (clC K)&&t.b.all (fun x=>eqv (nsIn K mainGlobals x) (some none))&&t.k.all (fun p=>decide (kitOne K p.1 p.2.1=some p.2.2))&&t.m.all (fun p=>eqv (nsIn K mainGlobals p.1) (some (some p.2)))&&t.t.all (tpC K) &&
 t.x.all (fun c=>excIn K c Yn "ValueError.__new__")&&t.y.all (xiC K)&&t.u.all (fun p=>decide (zde K p.1 p.2.1=some p.2.2))&&eqv (specialIn K (.builtin "object.__class__") "__get__") (some (some (.builtin "getset_descriptor.__get__")))&&decide (takesIn K (.builtin "object.__class__")=some true)
abbrev bdA(t:Tab)(g:FuncData)(us:List Value):Prop:=(t.f.filter fun e=>e.ps.length == us.length).map (fun e=>bindArgs (fnX e g) ⟨us,[]⟩)=(t.f.filter fun e=>e.ps.length == us.length).map fun e=>pure (e.ps.zip us)
structure Txt0 (t:Tab) (K:Frag) (mg:Str->Option Value):Prop where
 ck:chk t K=true
 fe:t.f.map (fun e=>K.lookup e.a)=t.f.map (fnB K)
 bd:∀ (g:FuncData) (us:List Value),us.length<=8->bdA t g us
 mg:∀ x v,nsIn K mainGlobals x=some v->mg x=v
theorem zbm{α β:Type}{f g:α->β}{l:List α}(h:l.map f=l.map g){i:Nat}{e:α}(hi:l[i]?=some e):f e=g e:=by
 have:=congrArg (fun l=>l[i]?) h
 simpa[List.getElem?_map,hi] using this
theorem yO{α:Type}{f:α->Bool}{l:List α}(h:l.all f=true){i:Nat}{e:α}(hi:l[i]?=some e):f e=true:=all_eq_true.mp h e (mem_of_getElem? hi)
section
variable {t:Tab}{K:Frag}{mg:Str->Option Value}
theorem Txt0.parts(T:Txt0 t K mg):(t.f.all (fnC K)=true/\t.c.all (clC K)=true/\t.b.all (fun x=>eqv (nsIn K mainGlobals x) (some none))=true/\t.k.all (fun p=>decide (kitOne K p.1 p.2.1=some p.2.2))=true)/\(t.m.all (fun p=>eqv (nsIn K mainGlobals p.1) (some (some p.2)))=true/\t.t.all (tpC K)=true /\
  t.x.all (fun c=>excIn K c Yn "ValueError.__new__")=true/\t.y.all (xiC K)=true/\t.u.all (fun p=>decide (zde K p.1 p.2.1=some p.2.2))=true)/\specialIn K (.builtin "object.__class__") "__get__" = some (some (.builtin "getset_descriptor.__get__"))/\takesIn K (.builtin "object.__class__")=some true:=by
 have h:=T.ck;unfold chk at h;simp only[and_eq_true] at h;obtain⟨⟨⟨⟨⟨⟨⟨⟨⟨⟨h1,h2⟩,h3⟩,h4⟩,h5⟩,h6⟩,h7⟩,h8⟩,h9⟩,h10⟩,h11⟩:=h;exact⟨⟨h1,h2,h3,h4⟩,⟨h5,h6,h7,h8,h9⟩,of_decide_eq_true h10,of_decide_eq_true h11⟩
theorem XW{e:Fe}(h:fnC K e=true):codeIn K (dK K e.a).code e.q=true/\keepIn K (.ref e.a)=true/\isFn K (.ref e.a)=true/\(if e.c=0 then nsIn K mainGlobals e.n else findIn K (.ref e.c) e.n)=some (some (.ref e.a)):=by
 unfold fnC at h;simp only[and_eq_true] at h;exact⟨h.1.1.1,h.1.1.2,h.1.2,of_decide_eq_true h.2⟩
theorem fnD{e:Fe}(T:Txt0 t K mg){i:Nat}(hi:t.f[i]?=some e):∃ oc od sl,K.lookup e.a=some ⟨oc,od,.func (dK K e.a),sl⟩/\dK K e.a=fnX e (dK K e.a):=by
 have h1:=zbm T.fe hi;have hk:=(XW (yO T.parts.1.1 hi)).2.1;simp only[fnB] at h1;unfold dK
 split at h1
 ·rename_i c d g sl lk
  rw[lk] at h1 ⊢;injection h1 with h1;injection h1 with _ _ h1 _;injection h1 with h1;exact⟨c,d,sl,rfl,h1⟩
 ·unfold keepIn at hk
  simp only[h1] at hk;cases hk
theorem Txt0.fn(T:Txt0 t K mg)(i:Nat){a c:Addr}{n q:Str}{s:Stmt}{ps N:List Str}(hi:t.f[i]?=some ⟨a,n,q,s,ps,N,c⟩:=by rfl):Fun K n q s a (dK K a):=by
 obtain⟨oc,od,sl,h1,h2⟩:=fnD T hi;obtain⟨k1,k2,_⟩:=XW (yO T.parts.1.1 hi);exact⟨⟨oc,od,(dK K a).kwdefaults,(dK K a).doc,(dK K a).pyModule,(dK K a).annotations,(dK K a).code,(dK K a).closureTuple,sl,h2,h1,k1⟩,k2⟩
theorem Txt0.be(T:Txt0 t K mg)(i:Nat){a c:Addr}{n q:Str}{s:Stmt}{ps N:List Str}(hi:t.f[i]?=some ⟨a,n,q,s,ps,N,c⟩:=by rfl)(h8:ps.length<=8:=by exact Nat.le_of_ble_eq_true rfl)(us:List Value)(hl:us.length=ps.length):bindArgs (dK K a) ⟨us,[]⟩=pure (ps.zip us):=by
 obtain⟨oc,od,sl,h1,h2⟩:=fnD T hi;have hb:=T.bd (dK K a) us (by omega);have hm:(⟨a,n,q,s,ps,N,c⟩:Fe)∈t.f.filter fun e=>e.ps.length == us.length:=mem_filter.mpr ⟨mem_of_getElem? hi,by simp[hl]⟩;obtain⟨j,hj⟩:=List.getElem?_of_mem hm;have:=zbm hb hj;rw[<- h2] at this;exact this
theorem Txt0.bi(T:Txt0 t K mg)(i:Nat){a c:Addr}{n q:Str}{s:Stmt}{ps N:List Str}(hi:t.f[i]?=some ⟨a,n,q,s,ps,N,c⟩:=by rfl)(h8:ps.length<=8:=by exact Nat.le_of_ble_eq_true rfl):Binds K (dK K a) ps []:=.all (T.be i hi h8)
theorem Txt0.g(T:Txt0 t K mg)(i:Nat){a:Addr}{n q:Str}{s:Stmt}{ps N:List Str}(hi:t.f[i]?=some ⟨a,n,q,s,ps,N,0⟩:=by rfl):mg n=some (.ref a):=T.mg _ _ (XW (yO T.parts.1.1 hi)).2.2.2
theorem Txt0.mt(T:Txt0 t K mg)(i:Nat){a c:Addr}{n q:Str}{s:Stmt}{ps N:List Str}(hi:t.f[i]?=some ⟨a,n,q,s,ps,N,c⟩:=by rfl)(hc:c≠0:=by exact Nat.succ_ne_zero _):Meth K c n a:=by
 obtain⟨_,k2,k3,k4⟩:=XW (yO T.parts.1.1 hi);exact⟨by simpa[hc] using k4,k3,k2⟩
theorem Yj{e:Ce}(h:clC K e=true):Cls K e.a/\nsIn K mainGlobals e.n=some (some (.ref e.a))/\makesIn K e.a=true/\findIn K (.ref e.a) "__init__" = some (some (if e.i=0 then .builtin "object.__init__" else .ref e.i))/\keepIn K (.ref e.a)=true/\findIn K (.ref e.a) "__class__" = some (some (.builtin "object.__class__"))/\mroIn K e.a (.type "object")=some true/\(∀ f∈e.fs,findIn K (.ref e.a) f=some none)/\(e.i≠0->isFn K (.ref e.i)=true):=by
 unfold clC at h;simp only[and_eq_true,eqv,decide_eq_true_eq,all_eq_true,or_eq_true,beq_iff_eq] at h;obtain⟨⟨⟨⟨⟨⟨⟨⟨⟨⟨⟨h1,h2⟩,h3⟩,h4⟩,h5⟩,h6⟩,h7⟩,h8⟩,h9⟩,h10⟩,h11⟩,h12⟩:=h;exact⟨⟨h1,h2,h3,h4⟩,h5,h6,h7,h8,h9,h10,h11,fun z=>h12.resolve_left z⟩
theorem Txt0.gc(T:Txt0 t K mg)(i:Nat){a z:Addr}{n:Str}{fs:List Str}(hi:t.c[i]?=some ⟨a,n,z,fs⟩:=by rfl):mg n=some (.ref a):=T.mg _ _ (Yj (yO T.parts.1.2.1 hi)).2.1
theorem Txt0.cl(T:Txt0 t K mg)(i:Nat){a z:Addr}{n:Str}{fs:List Str}(hi:t.c[i]?=some ⟨a,n,z,fs⟩:=by rfl):Cls K a:=(Yj (yO T.parts.1.2.1 hi)).1
theorem Txt0.mm(T:Txt0 t K mg)(i:Nat){a z:Addr}{n:Str}{fs:List Str}(hi:t.c[i]?=some ⟨a,n,z,fs⟩:=by rfl)(hz:z≠0:=by exact Nat.succ_ne_zero _):Mk K a z:=by
 obtain⟨_,_,h3,h4,h5,_,_,_,h9⟩:=Yj (yO T.parts.1.2.1 hi);exact⟨h3,by simpa[hz] using h4,h9 hz,h5⟩
theorem Txt0.ty(T:Txt0 t K mg)(i:Nat){a z:Addr}{n:Str}{fs:List Str}(hi:t.c[i]?=some ⟨a,n,z,fs⟩:=by rfl):∀ (H:Hp) (p dx:Addr) (gs:List (Str×V)),H p=some (.ins a dx gs)->TyOf K H (.ref p) (.ref a):=fun H p dx gs e=>by
 obtain⟨h1,_,_,_,_,h6,h7,_⟩:=Yj (yO T.parts.1.2.1 hi);exact .ins e h1 h6 T.parts.2.2.1 T.parts.2.2.2 h7
theorem Txt0.na(T:Txt0 t K mg)(i j:Nat){a z:Addr}{n f:Str}{fs:List Str}(hi:t.c[i]?=some ⟨a,n,z,fs⟩:=by rfl)(hj:fs[j]?=some f:=by rfl):NoAttr K a f:=(Yj (yO T.parts.1.2.1 hi)).2.2.2.2.2.2.2.1 f (mem_of_getElem? hj)
theorem Txt0.n(T:Txt0 t K mg)(i:Nat){x:Str}(hi:t.b[i]?=some x:=by rfl):mg x=none:=T.mg _ _ (of_decide_eq_true (yO T.parts.1.2.2.1 hi))
theorem Txt0.k(T:Txt0 t K mg)(i:Nat){x y:Value}{b:Bool}(hi:t.k[i]?=some (x,y,b):=by rfl):kitOne K x y=some b:=of_decide_eq_true (yO T.parts.1.2.2.2 hi)
theorem Txt0.gg(T:Txt0 t K mg)(i:Nat){x:Str}{v:Value}(hi:t.m[i]?=some (x,v):=by rfl):mg x=some v:=T.mg _ _ (of_decide_eq_true (yO T.parts.2.1.1 hi))
theorem Xi:∀ {vs:List Value}{xs:List Str},vs.map (fun v=>match v with | .str x _=>some x | _=>none)=xs.map some->Vals (xs.map V.str) vs
 |[],[],_=>.nil
 |[],_::_,h=>by simp at h
 |_::_,[],h=>by simp at h
 |v::vs,x::xs,h=>by
  simp only[map_cons,List.cons.injEq] at h;refine .cons ?_ (Xi h.2);have h1:=h.1
  split at h1
  ·cases h1;exact⟨_,rfl⟩
  ·cases h1
theorem Txt0.gs(T:Txt0 t K mg)(i:Nat){a:Addr}{xs:List Str}(hi:t.t[i]?=some (a,xs):=by rfl)(hz:xs.length<=1000:=by exact Nat.le_of_ble_eq_true rfl):∀ H:Hp,SqT K H a (xs.map V.str):=fun H=>by
 have h:=yO T.parts.2.1.2.1 hi;unfold tpC at h
 split at h
 ·rename_i od its n sl lk
  have hv:=Xi (of_decide_eq_true h);have hl:=hv.length;simp only[length_map,length_toList] at hl;exact .inr ⟨_,its,n,lk,rfl,rfl,by have:=ye hz;omega,hv⟩
 ·cases h
theorem Txt0.xc(T:Txt0 t K mg)(i:Nat){a:Addr}(hi:t.x[i]?=some a:=by rfl):XCls K a:=yO T.parts.2.1.2.2.1 hi
theorem Txt0.xi(T:Txt0 t K mg)(i:Nat){a:Addr}(hi:t.y[i]?=some a:=by rfl):XIs K a:=by
 have h:=yO T.parts.2.1.2.2.2.1 hi;unfold xiC at h;simp only[and_eq_true,eqv,decide_eq_true_eq] at h;obtain⟨⟨⟨⟨⟨h1,h2⟩,h3⟩,h4⟩,h5⟩,h6⟩:=h;exact⟨h1,h2,h3,T.parts.2.2.1,T.parts.2.2.2,h4,h5,h6⟩
end
theorem zf3{t:Tab}(h0:∀ g,bdA t g [])(h1:∀ g a,bdA t g [a])(h2:∀ g a b,bdA t g [a,b])(h3:∀ g a b c,bdA t g [a,b,c])(h4:∀ g a b c d,bdA t g [a,b,c,d])(h5:∀ g a b c d e,bdA t g [a,b,c,d,e])(h6:∀ g a b c d e f,bdA t g [a,b,c,d,e,f])(h7:∀ g a b c d e f i,bdA t g [a,b,c,d,e,f,i])(h8:∀ g a b c d e f i j,bdA t g [a,b,c,d,e,f,i,j]):∀ (g:FuncData) (us:List Value),us.length<=8->bdA t g us
 |g,[],_=>h0 g
 |g,[a],_=>h1 g a
 |g,[a,b],_=>h2 g a b
 |g,[a,b,c],_=>h3 g a b c
 |g,[a,b,c,d],_=>h4 g a b c d
 |g,[a,b,c,d,e],_=>h5 g a b c d e
 |g,[a,b,c,d,e,f],_=>h6 g a b c d e f
 |g,[a,b,c,d,e,f,i],_=>h7 g a b c d e f i
 |g,[a,b,c,d,e,f,i,j],_=>h8 g a b c d e f i j
 |g,_::_::_::_::_::_::_::_::_::_,h=>by simp at h
def xnC(K:Frag)(p:Addr×Addr×Str):Bool:=Yu K p.1 p.2.1&&(K.lookup p.2.1).any (fun o=>o.cls == .type "function")&&keepIn K (.ref p.1)&&eqv (findIn K (.ref p.1) "__setattr__") (some (some (.builtin "object.__setattr__")))&&decide (mroIn K p.1 (.type "object")=some true)&&(clsIn K p.1).any (fun cd=>vP cd.mro)&&hasDictIn K p.1 &&
 eqv (findIn K (.ref p.1) p.2.2) (some none)&&eqv (findIn K (.ref p.1) "__getattribute__") (some (some (.builtin "BaseException.__getattribute__")))&&eqv (findIn K (.ref p.1) "__getattr__") (some none)&&decide (mroIn K p.1 (.type "BaseException")=some true)
structure TxtX (w:World) (t:Tab) (z:List (Addr×Addr×Str)) (d:List (Addr×List (Str×Int))) (K:Frag) (mg:Str->Option Value):Prop extends Txt0 t K mg where
 zz:z.all (xnC K)=true
 dd:∀ p∈d,STab w K p.1 p.2
 td:t.t.all (fun p=>(K.lookup p.1).any (fun o=>decide (o.cls=.type "tuple")&&o.dict.isNone))=true
section
variable {w:World}{t:Tab}{z:List (Addr×Addr×Str)}{d:List (Addr×List (Str×Int))}{K:Frag}{mg:Str->Option Value}
theorem TxtX.xz(T:TxtX w t z d K mg)(i:Nat){a f:Addr}{x:Str}(hi:z[i]?=some (a,f,x)):Yu K a f=true/\(K.lookup f).any (fun o=>o.cls == .type "function")=true/\keepIn K (.ref a)=true/\XSet K a/\takerIn K a x=some none/\XGet K a x:=by
 have h:=yO T.zz hi;unfold xnC at h;simp only[and_eq_true,eqv,decide_eq_true_eq] at h;obtain⟨⟨⟨⟨⟨⟨⟨⟨⟨⟨h1,h2⟩,h3⟩,h4⟩,h5⟩,h6⟩,h7⟩,h8⟩,h9⟩,h10⟩,h11⟩:=h;exact⟨h1,h2,h3,⟨h4,h5,h6,h7⟩,by unfold takerIn;rw[h8];rfl,⟨h9,h10,h11,h7,h8⟩⟩
theorem TxtX.xn(T:TxtX w t z d K mg)(i:Nat){a f:Addr}{x:Str}(hi:z[i]?=some (a,f,x):=by rfl):Yu K a f=true:=(T.xz i hi).1
theorem TxtX.xf(T:TxtX w t z d K mg)(i:Nat){a f:Addr}{x:Str}(hi:z[i]?=some (a,f,x):=by rfl):(K.lookup f).any (fun o=>o.cls == .type "function")=true:=(T.xz i hi).2.1
theorem TxtX.xk(T:TxtX w t z d K mg)(i:Nat){a f:Addr}{x:Str}(hi:z[i]?=some (a,f,x):=by rfl):keepIn K (.ref a)=true:=(T.xz i hi).2.2.1
theorem TxtX.xs(T:TxtX w t z d K mg)(i:Nat){a f:Addr}{x:Str}(hi:z[i]?=some (a,f,x):=by rfl):XSet K a:=(T.xz i hi).2.2.2.1
theorem TxtX.xt(T:TxtX w t z d K mg)(i:Nat){a f:Addr}{x:Str}(hi:z[i]?=some (a,f,x):=by rfl):takerIn K a x=some none:=(T.xz i hi).2.2.2.2.1
theorem TxtX.xg(T:TxtX w t z d K mg)(i:Nat){a f:Addr}{x:Str}(hi:z[i]?=some (a,f,x):=by rfl):XGet K a x:=(T.xz i hi).2.2.2.2.2
theorem TxtX.sd(T:TxtX w t z d K mg)(i:Nat){a:Addr}{D:List (Str×Int)}(hi:d[i]?=some (a,D):=by rfl):STab w K a D:=T.dd _ (mem_of_getElem? hi)
theorem TxtX.tt(T:TxtX w t z d K mg)(i:Nat){a:Addr}{xs:List Str}(hi:t.t[i]?=some (a,xs):=by rfl)(H:Hp):tyV K "tuple" (.ref a) H:=by
 have h:=yO T.td hi;cases e:K.lookup a with
 |none=>rw[e] at h;cases h
 |some o =>
  rw[e] at h;simp only[Option.any_some,and_eq_true,decide_eq_true_eq,Option.isNone_iff_eq_none] at h;exact .inr (.inl ⟨rfl,o,e,h.1,h.2⟩)
end
end L2
namespace L2
open PySem PySem.Spec PyProof.Rows
theorem mtV{X:Cx}{m:Str}{t:TA}{σ:St}{H:Hp}{Q:VK}{i:Nat}{a C dx f:Addr}{fs:List (Str×V)}{fd:FuncData}{ps:List Str}{k:Nat}{sp:Sp}(hv:σ[i]?=some (some (.ref a)))(hp:H a=some (.ins C dx fs))(hl:fs.lookup m=none)(hc:Cls X.K C)(hm:Meth X.K C m f)
  (ok:FnOk X.prog X.w X.K X.mg X.base CX0 k f fd ps sp) (hr:Room k X.A) (hb:Binds X.K fd ps []) (h:t σ H fun vs H2=>sp (.ref a::(vs++[])) H2 Q E0):uq X m (yV i) t σ H Q:=⟨_,hv,a,C,dx,fs,f,fd,ps,k,sp,rfl,hp,hl,hc,hm,ok,hr,hb,h⟩
theorem ag0{σ:St}{H:Hp}{R:List V->Hp->Prop}(h:R [] H):wN σ H R:=h
theorem ag1{i:Nat}{σ:St}{H:Hp}{v:V}{R:List V->Hp->Prop}(hv:σ[i]?=some (some v))(h:R [v] H):yr (yV i) wN σ H R:=⟨_,hv,h⟩
end L2
namespace K04
open PySem L2
inductive Ex where
 |num (i:Int)
 |name (x:Str)
 |two (w:Str) (e f:Ex)
 |mod (e:Ex) (n:Int)
 |less (e f g h:Ex)
noncomputable def Ex.dep:Ex->Nat
 |.num _=>1
 |.name _=>1
 |.two _ e f=>max e.dep f.dep+1
 |.mod e _=>e.dep+1
 |.less e f g h=>max (max e.dep f.dep) (max g.dep h.dep)+1
theorem Ex.dep_pos:∀ e:Ex,1<=e.dep
 |.num _=>Nat.le_refl _
 |.name _=>Nat.le_refl _
 |.two _ _ _=>le_add_left _ _
 |.mod _ _=>le_add_left _ _
 |.less _ _ _ _=>le_add_left _ _
abbrev zdc(w:Str):Prop:=w = "add" \/ w = "sub" \/ w = "min" \/ w = "max"
def Ex.ok(names:List Str):Ex->Prop
 |.num i=>-100000000000000000000<i/\i<100000000000000000000
 |.name x=>x∈names
 |.two w e f=>zdc w/\e.ok names/\f.ok names
 |.mod e n=>(1<=n/\n<=1000000000)/\e.ok names
 |.less e f g h=>e.ok names/\f.ok names/\g.ok names/\h.ok names
def Ext(l:Addr)(H H':Hp):Prop:=∀ b o,H b=some o->b≠l->H' b=some o
theorem Ext.refl{l:Addr}{H:Hp}:Ext l H H:=fun _ _ e _=>e
theorem Ext.trans{l:Addr}{H H1 H2:Hp}(a:Ext l H H1)(b:Ext l H1 H2):Ext l H H2:=fun c o e n=>b c o (a c o e n) n
theorem Ext.same{l:Addr}{H H':Hp}(a:Same H H'):Ext l H H':=fun c o e _=>a c o e
theorem Ext.new{l p:Addr}{H:Hp}{o:HO}(h:H p=none):Ext l H (upd H p o):=fun c u e _=>by rw[upd_ne (nZ e h)];exact e
theorem Ext.at{l:Addr}{H:Hp}{o:HO}:Ext l H (upd H l o):=fun c u e n=>by rw[upd_ne n];exact e
theorem sW{p:Addr}{H:Hp}{o:HO}(h:H p=none):Same H (upd H p o):=fun c u e=>by rw[upd_ne (nZ e h)];exact e
def zhv(st:List V):Prop:=(∃ a:Int,st=[V.int a])\/∃ a b c:Int,st=[V.int a,V.int b,V.int c]
def StAt(H:Hp)(l:Addr):Prop:=∃ st,H l=some (.lst st)/\zhv st
theorem StAt.same{H H':Hp}{l:Addr}(s:StAt H l)(h:Same H H'):StAt H' l:=by
 obtain⟨st,e,k⟩:=s;exact⟨st,h _ _ e,k⟩
theorem eqV_refl{x:V}(h:wK x=true):eqV x x=true:=by
 cases x<;>simp[wK] at h<;>simp[eqV]
theorem Same.made{H:Hp}{x dx C:Addr}{fs fs':List (Str×V)}(nx:H x=none)(ndx:H dx=none):Same H (upd (upd (upd H dx (.own x)) x (.ins C dx fs')) x (.ins C dx fs)):=fun b o e=>by
 rw[upd_ne (nZ e nx),upd_ne (nZ e nx),upd_ne (nZ e ndx)];exact e
theorem zfB:(10:Int) ^ (20:Int).toNat=100000000000000000000:=by decide
theorem zg9:(10:Int) ^ (9:Int).toNat=1000000000:=by decide
theorem StAt.ne{H:Hp}{l p:Addr}(s:StAt H l)(h:H p=none):p≠l:=by
 obtain⟨st,e,_⟩:=s;exact(nZ e h).symm
theorem YZ{i:Nat}{v:V}{τ:St}{H:Hp}{A B:St->Hp->Prop}(h:A (τ.set i (some v)) H):Yg i v τ H fun τ2 H4=>ze2 τ2 H4 fun b H5=>if b=true then A τ2 H5 else B τ2 H5:=by
 show if true=true then A (τ.set i (some v)) H else B (τ.set i (some v)) H
 exact vc h
theorem zan:((1009:Int).natAbs.log2<9000):=by decide
theorem zam:((2003:Int).natAbs.log2<9000):=by decide
noncomputable def zfW:V->Bool
 |.int _=>true
 |.bl _=>true
 |_=>false
noncomputable def zgB:V->Bool
 |.bl _=>true
 |_=>false
noncomputable def zeA:V->Bool
 |.str _=>true
 |_=>false
def Lf(K:W.Frag)(H:Hp)(v:V):Prop:=∃ t,TyOf K H v t/\PySem.W.kitOne K t (.type "int")=some (zfW v)/\PySem.W.kitOne K t (.type "bool")=some (zgB v)/\PySem.W.kitOne K t (.type "str")=some (zeA v)
noncomputable def whole:V->Bool
 |.int _=>true
 |_=>false
noncomputable def Xu:V->Bool
 |.int i=>decide ((if i<0 then -i else i)<100000000000000000000)
 |_=>false
def vn(ws:List Str):V->Bool
 |.str x=>inV (.str x) (ws.map V.str)
 |_=>false
noncomputable def zcT:V->Bool
 |.int i=>decide (1<=i)&&decide (i<=1000000000)
 |_=>false
theorem UI(v:V):whole v=(zfW v&&!zgB v):=by cases v<;>rfl
theorem Zw{v:V}(h:whole v=true):∃ i,v=.int i:=by
 cases v<;>simp[whole] at h;exact⟨_,rfl⟩
theorem zaz{v:V}(h:zeA v=true):∃ x,v=.str x:=by
 cases v<;>simp[zeA] at h;exact⟨_,rfl⟩
theorem inV_str{x:Str}:∀ {ws:List Str},inV (.str x) (ws.map V.str)=true↔x∈ws
 |[]=>by simp[inV]
 |w::ws=>by
  have ih:=inV_str (x:=x) (ws:=ws);unfold inV at ih ⊢;rw[map_cons,any_cons,or_eq_true,mem_cons,ih]
  constructor
  ·rintro(h | h)
   ·left
    have:V.str w=V.str x:=by simpa[eqV] using h
    cases this;rfl
   ·exact .inr h
  ·rintro(h | h)
   ·left
    subst h;exact eqV_refl rfl
   ·exact .inr h
theorem flat_strs(ws:List Str):(ws.map V.str).all wK=true:=by
 rw[all_eq_true];intro v hv;obtain⟨x,_,rfl⟩:=mem_map.mp hv;rfl
inductive Gx where
 |num (v:V)
 |name (v:V)
 |two (w:V) (e f:Gx)
 |mod (e:Gx) (n:V)
 |less (e f g h:Gx)
 |oth (v:V)
noncomputable abbrev twoWs:List Str:=["add", "sub", "min", "max"]
def Gx.sound(names:List Str):Nat->Gx->Bool
 |0,_=>false
 |_+1,.num v=>Xu v
 |_+1,.name v=>vn names v
 |n+1,.two w e f=>vn twoWs w&&([e,f].all (Gx.sound names n))
 |n+1,.mod e v=>zcT v&&Gx.sound names n e
 |n+1,.less e f g h=>[e,f,g,h].all (Gx.sound names n)
 |_+1,.oth _=>false
noncomputable def Ex.gx:Ex->Gx
 |.num i=>.num (.int i)
 |.name x=>.name (.str x)
 |.two w e f=>.two (.str w) e.gx f.gx
 |.mod e n=>.mod e.gx (.int n)
 |.less e f g h=>.less e.gx f.gx g.gx h.gx
theorem Ex.sound{names:List Str}:∀ {n:Nat}{e:Ex},e.ok names->e.dep<=n->e.gx.sound names n=true
 |0,e,_,d=>by have:=e.dep_pos;omega
 |n+1,.num i,o,d=>by
  obtain⟨o1,o2⟩:=o;show decide _=true;refine decide_eq_true ?_
  split<;>omega
 |n+1,.name x,o,d=>inV_str.mpr o
 |n+1,.two w e f,o,d=>by
  obtain⟨hw,o1,o2⟩:=o;have d:max e.dep f.dep+1<=n+1:=d;have h1:=Ex.sound (n:=n) o1 (by omega);have h2:=Ex.sound (n:=n) o2 (by omega);show(inV (.str w) (twoWs.map V.str)&&([e.gx,f.gx].all _))=true;have hw':inV (.str w) (twoWs.map V.str)=true:=inV_str.mpr (by rcases hw with rfl | rfl | rfl | rfl<;>simp);rw[hw'];simp[h1,h2]
 |n+1,.mod e i,o,d=>by
  obtain⟨⟨i1,i2⟩,o1⟩:=o;have d:e.dep+1<=n+1:=d;have h1:=Ex.sound (n:=n) o1 (by omega);show((decide (1<=i)&&decide (i<=1000000000))&&e.gx.sound names n)=true;simp[h1,i1,i2]
 |n+1,.less e f g h,o,d=>by
  obtain⟨o1,o2,o3,o4⟩:=o;have d:max (max e.dep f.dep) (max g.dep h.dep)+1<=n+1:=d;have h1:=Ex.sound (n:=n) o1 (by omega);have h2:=Ex.sound (n:=n) o2 (by omega);have h3:=Ex.sound (n:=n) o3 (by omega);have h4:=Ex.sound (n:=n) o4 (by omega);show([e.gx,f.gx,g.gx,h.gx].all _)=true;simp[h1,h2,h3,h4]
noncomputable def Ex.words:Ex->List Str
 |.num i=>[toString i]
 |.name x=>[x]
 |.two w e f=>w::(e.words++f.words)
 |.mod e n => "mod" :: (e.words++[(toString n:Str)])
 |.less e f g h => "less" :: (e.words++(f.words++(g.words++h.words)))
noncomputable def Ex.size:Ex->Nat
 |.num _=>1
 |.name _=>1
 |.two _ e f=>1+e.size+f.size
 |.mod e _=>2+e.size
 |.less e f g h=>1+e.size+f.size+g.size+h.size
theorem Ex.words_len:∀ e:Ex,e.words.length=e.size
 |.num _=>rfl
 |.name _=>rfl
 |.two _ e f=>by simp[Ex.words,Ex.size,Ex.words_len e,Ex.words_len f];omega
 |.mod e _=>by simp[Ex.words,Ex.size,Ex.words_len e];omega
 |.less e f g h=>by simp[Ex.words,Ex.size,Ex.words_len e,Ex.words_len f,Ex.words_len g,Ex.words_len h];omega
noncomputable def top(i:Nat):Stmt:=PySem.Challenge.pw_beatless_k93_settings_that_are_none.main.body.getD i (.Pass ⟨0,0,0,0⟩)
def inC(i j:Nat):Stmt:=inClass (top i) j
def fnT:List Fe:=[⟨96, "is_whole", "is_whole",top 8,["value"],["value"],0⟩,
 ⟨101, "copied", "copied",top 10,["value"],["value"],0⟩,
 ⟨192, "are_parents", "are_parents",top 12,["web", "parents"],["web", "parents", "hand", "parent"],0⟩,
 ⟨199, "come_to_leaders", "come_to_leaders",top 13,["web", "way"],["web", "way", "hand"],0⟩,
 ⟨206, "is_bridge", "is_bridge",top 14,["web", "way", "bridge"],["web", "way", "bridge"],0⟩,
 ⟨213, "are_bridges", "are_bridges",top 15,["web", "way", "bridges"],["web", "way", "bridges", "seen", "bridge"],0⟩,
 ⟨220, "is_grounded", "is_grounded",top 16,["web", "way"],["web", "way"],0⟩,
 ⟨227, "first_joins", "first_joins",top 17,["way", "lines"],["way", "lines", "found", "one", "other", "leaders"],0⟩,
 ⟨234, "lets", "lets",top 18,["web", "way"],["web", "way", "bridged", "leaders"],0⟩,
 ⟨241, "refuse_unlet", "refuse_unlet",top 19,["web", "way"],["web", "way"],0⟩,
 ⟨468, "is_short_number", "is_short_number",top 37,["value"],["value"],0⟩,
 ⟨475, "is_word_of", "is_word_of",top 38,["word", "words"],["word", "words"],0⟩,
 ⟨482, "is_divisor", "is_divisor",top 39,["number"],["number"],0⟩,
 ⟨489, "are_sound", "are_sound",top 40,["parts", "names", "deep"],["parts", "names", "deep", "part"],0⟩,
 ⟨496, "is_sound", "is_sound",top 41,["expr", "names", "deep"],["expr", "names", "deep"],0⟩,
 ⟨501, "count_words", "count_words",top 42,["exprs"],["exprs"],0⟩,
 ⟨550, "is_number_word", "is_number_word",top 44,["word"],["word", "figures", "figure"],0⟩,
 ⟨557, "number_of", "number_of",top 45,["word"],["word"],0⟩,
 ⟨564, "read_part", "read_part",top 46,["word", "parts"],["word", "parts"],0⟩,
 ⟨571, "read_words", "read_words",top 47,["words"],["words", "parts", "word", "part"],0⟩,
 ⟨578, "read_row", "read_row",top 48,["row", "first"],["row", "first", "words"],0⟩,
 ⟨585, "are_hands", "are_hands",top 52,["hands"],["hands", "ahead", "hand"],0⟩,
 ⟨592, "is_line", "is_line",top 53,["line", "hands"],["line", "hands"],0⟩,
 ⟨599, "are_lines", "are_lines",top 54,["lines", "hands"],["lines", "hands", "seen", "line"],0⟩,
 ⟨606, "near_by_hand", "near_by_hand",top 55,["hands", "lines"],["hands", "lines", "near", "hand", "one", "other"],0⟩,
 ⟨686, "read_numbers", "read_numbers",top 63,["words"],["words", "numbers", "word"],0⟩,
 ⟨693, "read_kind", "read_kind",top 64,["kind", "row"],["kind", "row", "numbers"],0⟩,
 ⟨700, "may_follow", "may_follow",top 65,["kind", "value", "kind_ahead", "value_ahead"],["kind", "value", "kind_ahead", "value_ahead"],0⟩,
 ⟨705, "read_rows", "read_rows",top 66,["rows"],["rows", "found", "kind_ahead", "at", "row", "kind", "value"],0⟩,
 ⟨710, "read_setting", "read_setting",top 67,["text"],["text", "found", "hands", "web", "program", "parents", "way"],0⟩,
 ⟨717, "_law_cell_at", "_law_cell_at",top 69,["_law_script", "_law_k"],["_law_script", "_law_k"],0⟩,
 ⟨724, "_law_digit", "_law_digit",top 70,["_law_state", "_law_base"],["_law_state", "_law_base", "_law_cell", "_law_found", "_law_number"],0⟩,
 ⟨729, "_law_rows", "_law_rows",top 71,["_law_state"],["_law_state", "_law_many", "_law_top", "_law_rows_here", "_law_cut"],0⟩,
 ⟨736, "_law_spoiled", "_law_spoiled",top 72,["_law_row_here", "_law_cell"],["_law_row_here", "_law_cell", "_law_words", "_law_at", "_law_odd", "_law_some"],0⟩,
 ⟨741, "_law_form", "_law_form",top 73,["_law_row_here"],["_law_row_here", "_law_words", "_law_word"],0⟩,
 ⟨748, "_law_signed", "_law_signed",top 74,["_law_row_here", "_law_cell"],["_law_row_here", "_law_cell", "_law_signs", "_law_at", "_law_sign"],0⟩,
 ⟨755, "_law_row", "_law_row",top 75,["_law_text"],["_law_text", "_law_row_here", "e"],0⟩,
 ⟨762, "_law_moved", "_law_moved",top 76,["_law_rows_here", "_law_cell"],["_law_rows_here", "_law_cell", "_law_at", "_law_way", "_law_word"],0⟩,
 ⟨769, "law", "law",top 77,["_law_script"],["_law_script", "_law_rows_here", "_law_k", "_law_cell", "_law_at", "_law_bad", "_law_odd"],0⟩,
 ⟨115, "__init__", "Way.__init__",inC 11 0,["self", "parents", "bridges"],["self", "parents", "bridges"],181⟩,
 ⟨122, "parent_of", "Way.parent_of",inC 11 1,["self", "hand"],["self", "hand", "each", "parent"],181⟩,
 ⟨129, "all_parents", "Way.all_parents",inC 11 2,["self"],["self"],181⟩,
 ⟨136, "all_bridges", "Way.all_bridges",inC 11 3,["self"],["self"],181⟩,
 ⟨143, "path_up", "Way.path_up",inC 11 4,["self", "hand"],["self", "hand", "path", "above"],181⟩,
 ⟨150, "leader", "Way.leader",inC 11 5,["self", "hand"],["self", "hand"],181⟩,
 ⟨269, "__init__", "Num.__init__",inC 22 0,["self", "value"],["self", "value"],293⟩,
 ⟨290, "words", "Num.words",inC 22 3,["self"],["self"],293⟩,
 ⟨309, "__init__", "Name.__init__",inC 23 0,["self", "word"],["self", "word"],333⟩,
 ⟨330, "words", "Name.words",inC 23 3,["self"],["self"],333⟩,
 ⟨349, "__init__", "Two.__init__",inC 24 0,["self", "word", "one", "other"],["self", "word", "one", "other"],373⟩,
 ⟨370, "words", "Two.words",inC 24 3,["self"],["self"],373⟩,
 ⟨389, "__init__", "Mod.__init__",inC 25 0,["self", "inner", "number"],["self", "inner", "number"],413⟩,
 ⟨410, "words", "Mod.words",inC 25 3,["self"],["self"],413⟩,
 ⟨429, "__init__", "Less.__init__",inC 26 0,["self", "one", "other", "third", "fourth"],["self", "one", "other", "third", "fourth"],453⟩,
 ⟨450, "words", "Less.words",inC 26 3,["self"],["self"],453⟩,
 ⟨515, "__init__", "Program.__init__",inC 43 0,["self", "start", "send", "when", "renew"],["self", "start", "send", "when", "renew"],539⟩,
 ⟨620, "__init__", "Web.__init__",inC 56 0,["self", "hands", "lines"],["self", "hands", "lines"],672⟩,
 ⟨627, "hands", "Web.hands",inC 56 1,["self"],["self"],672⟩,
 ⟨634, "lines", "Web.lines",inC 56 2,["self"],["self"],672⟩,
 ⟨641, "has_hand", "Web.has_hand",inC 56 3,["self", "hand"],["self", "hand"],672⟩,
 ⟨648, "has_line", "Web.has_line",inC 56 4,["self", "one", "other"],["self", "one", "other"],672⟩,
 ⟨72, "__init__", "NoText.__init__",inC 5 0,["self", "row"],["self", "row"],75⟩]
def tbT:Tab:={ f:=fnT,c:=[⟨181, "Way",115,["own_parents", "own_bridges"]⟩,⟨293, "Num",269,["value"]⟩,⟨333, "Name",309,["word"]⟩,⟨373, "Two",349,["word", "one", "other"]⟩,⟨413, "Mod",389,["inner", "number"]⟩,⟨453, "Less",429,["one", "other", "third", "fourth"]⟩,⟨539, "Program",515,["start", "send", "when", "renew"]⟩,⟨672, "Web",620,["own_hands", "own_lines", "near"]⟩],b:=["len", "int", "min", "max", "range", "isinstance", "list", "dict", "abs", "sorted", "str", "sum", "bool", "tuple", "enumerate", "reversed", "ValueError"],k:=[(.type "int",.type "int",true),(.type "int",.type "bool",false),(.type "list",.type "list",true),(.type "tuple",.type "tuple",true),(.type "tuple",.type "list",false),(.type "dict",.type "list",false),(.type "dict",.type "tuple",false),(.type "dict",.type "dict",true),(.type "int",.type "list",false),(.type "int",.type "tuple",false),(.type "int",.type "dict",false),(.type "NoneType",.type "list",false),(.type "NoneType",.type "tuple",false),(.type "NoneType",.type "dict",false),(.type "NoneType",.type "int",false),(.type "str",.type "int",false),(.ref 181,.ref 181,true),(.type "bool",.type "bool",true),(.ref 293,.ref 293,true),(.ref 333,.ref 293,false),(.ref 333,.ref 333,true),(.ref 373,.ref 293,false),(.ref 373,.ref 333,false),(.ref 373,.ref 373,true),(.ref 413,.ref 293,false),(.ref 413,.ref 333,false),(.ref 413,.ref 373,false),(.ref 413,.ref 413,true),(.ref 453,.ref 293,false),(.ref 453,.ref 333,false),(.ref 453,.ref 373,false),(.ref 453,.ref 413,false),(.ref 453,.ref 453,true),(.type "str",.type "str",true),(.type "str",.type "tuple",false),(.type "int",.type "str",false),(.type "str",.type "bool",false),(.ref 539,.ref 539,true),(.ref 75,.ref 44,false),(.ref 75,.ref 56,false),(.ref 75,.ref 87,false),(.ref 75,.ref 31,true),(.type "NoneType",.type "str",false),(.type "bool",.type "str",false),(.type "list",.type "str",false),(.type "tuple",.type "str",false)],m:=[("START_NAMES",.ref 456),("SEND_NAMES",.ref 457),("RENEW_NAMES",.ref 458),("TWO_WORDS",.ref 460),("MOST_WORDS",.int 60 812),("MOST_DEEP",.int 8 814),("ALL_NAMES",.ref 459),("PARTS",.ref 461),("FIGURES",.str "0123456789" 810),("MOST_HANDS",.int 12 976),("LAST_HAND",.int 99 978),("KINDS",.ref 677),("NEEDED",.ref 678),("PAIRS",.ref 679),("MOST_FIGURES",.int 20 1128),("MOST_ROUNDS",.int 40 1130),("NoWeb",.ref 44),("NoProgram",.ref 56),("NoWay",.ref 87),("BeatlessError",.ref 31),("NoText",.ref 75)],t:=[(456,["me", "lines"]),(457,["worth", "me", "round", "lines", "to"]),(458,["worth", "me", "round", "lines", "sum", "least", "most", "count"]),(460,["add", "sub", "min", "max"]),(459,["worth", "me", "round", "lines", "to", "sum", "least", "most", "count"]),(677,["hands", "line", "parent", "bridge", "start", "send", "when", "reckon", "rounds"]),(678,["hands", "start", "send", "when", "reckon", "rounds"]),(679,["line", "parent", "bridge"])],x:=[44,56,87],y:=[75],u:=[(44,75,false),(44,56,false),(44,87,false),(56,75,false),(56,44,false),(56,87,false),(87,75,false),(87,44,false),(87,56,false)] }
theorem scA:fnT.all scB=true:=by decide +kernel
theorem scp(i:Nat){a c:Addr}{n q:Str}{s:Stmt}{ps N:List Str}(hi:fnT[i]?=some ⟨a,n,q,s,ps,N,c⟩:=by rfl):FnScope N ps (defScope s):=zgY (yO scA hi)
abbrev Ad:=Unit
noncomputable def xnT:List (Addr×Addr×Str):=[(75,72, "row")]
noncomputable def dnT:List (Addr×List (Str×Int)):=[(461,[("add",2),("sub",2),("min",2),("max",2),("mod",2),("less",4)])]
abbrev Txt(w:World)(K:W.Frag)(mg:Str->Option Value)(_:Ad):Prop:=TxtX w tbT xnT dnT K mg
theorem cal(P:Program)(base:Heap){w:World}{K:W.Frag}{mg:Str->Option Value}{a:Ad}(T:Txt w K mg a)(i:Nat){f:Addr}{n q:Str}{s:Stmt}{ps N:List Str}{k:Nat}{sp:Sp}(hi:tbT.f[i]?=some ⟨f,n,q,s,ps,N,0⟩)(o:FnOk P w K mg base CX0 k f (dK K f) ps sp)(h8:ps.length<=8:=by exact Nat.le_of_ble_eq_true rfl):Callee P w K mg base n f (dK K f) ps k sp:=⟨o,T.g i hi,(T.fn i hi).kp,T.bi i hi h8⟩
def Made(a:Ad)(H:Hp):Ex->V->Prop
 |.num i,v=>∃ p dx,v=.ref p/\H p=some (.ins 293 dx [("value",.int i)])
 |.name x,v=>∃ p dx,v=.ref p/\H p=some (.ins 333 dx [("word",.str x)])
 |.two w e f,v=>∃ p dx u1 u2,v=.ref p/\H p=some (.ins 373 dx [("word",.str w),("one",u1),("other",u2)])/\Made a H e u1/\Made a H f u2
 |.mod e n,v=>∃ p dx u1,v=.ref p/\H p=some (.ins 413 dx [("inner",u1),("number",.int n)])/\Made a H e u1
 |.less e f g h,v=>∃ p dx u1 u2 u3 u4,v=.ref p/\H p=some (.ins 453 dx [("one",u1),("other",u2),("third",u3),("fourth",u4)])/\Made a H e u1/\Made a H f u2/\Made a H g u3/\Made a H h u4
theorem Made.mono{a:Ad}{H H':Hp}(k:∀ b C dx fs,H b=some (.ins C dx fs)->H' b=some (.ins C dx fs)):∀ {e:Ex}{v:V},Made a H e v->Made a H' e v
 |.num _,_,⟨p,dx,e,h⟩=>⟨p,dx,e,k _ _ _ _ h⟩
 |.name _,_,⟨p,dx,e,h⟩=>⟨p,dx,e,k _ _ _ _ h⟩
 |.two _ _ _,_,⟨p,dx,u1,u2,e,h,t1,t2⟩=>⟨p,dx,u1,u2,e,k _ _ _ _ h,t1.mono k,t2.mono k⟩
 |.mod _ _,_,⟨p,dx,u1,e,h,t1⟩=>⟨p,dx,u1,e,k _ _ _ _ h,t1.mono k⟩
 |.less _ _ _ _,_,⟨p,dx,u1,u2,u3,u4,e,h,t1,t2,t3,t4⟩=>⟨p,dx,u1,u2,u3,u4,e,k _ _ _ _ h,t1.mono k,t2.mono k,t3.mono k,t4.mono k⟩
theorem Made.same{a:Ad}{H H':Hp}(k:Same H H'){e:Ex}{v:V}(t:Made a H e v):Made a H' e v:=t.mono fun b C dx fs h=>k b _ h
section
variable {P:Program}{w:World}{K:W.Frag}{mg:Str->Option Value}{base:Heap}{a:Ad}
def ze4(C:Addr)(x:Str):Sp:=fun vs H Q _=>∃ (p dx:Addr) (v:V),vs=[.ref p,v]/\H p=some (.ins C dx [])/\Q .non (upd H p (.ins C dx [(x,v)]))
def zgm(C:Addr)(x y:Str):Sp:=fun vs H Q _=>∃ (p dx:Addr) (v u:V),vs=[.ref p,v,u]/\H p=some (.ins C dx [])/\Q .non (upd H p (.ins C dx [(x,v),(y,u)]))
def zgl(C:Addr)(x y z:Str):Sp:=fun vs H Q _=>∃ (p dx:Addr) (v u t:V),vs=[.ref p,v,u,t]/\H p=some (.ins C dx [])/\Q .non (upd H p (.ins C dx [(x,v),(y,u),(z,t)]))
def zgk(C:Addr)(x y z o:Str):Sp:=fun vs H Q _=>∃ (p dx:Addr) (v u t r:V),vs=[.ref p,v,u,t,r]/\H p=some (.ins C dx [])/\Q .non (upd H p (.ins C dx [(x,v),(y,u),(z,t),(o,r)]))
theorem YO(T:Txt w K mg a):FnOk P w K mg base CX0 1 269 (dK K 269) ["self", "value"] (ze4 293 "value"):=by
 refine(T.fn 45 rfl).ok (scp 45 rfl) (fun vs H Q E h=>?_) (fun cdv A outer s H vs Q E hr h=>?_)
 ·obtain⟨p,dx,v,rfl,_⟩:=h
  rfl
 ·obtain⟨p,dx,v,rfl,hp,k⟩:=h
  refine zR (ze (yn (zj 0) (zj 1) rfl)) ?_;refine⟨_,rfl,_,rfl,p,293,dx,_,rfl,hp,(T.cl 1 rfl),(T.na 1 0 rfl rfl),(by show 0<1000;decide),?_⟩;exact k
theorem ZZ(T:Txt w K mg a):FnOk P w K mg base CX0 1 309 (dK K 309) ["self", "word"] (ze4 333 "word"):=by
 refine(T.fn 47 rfl).ok (scp 47 rfl) (fun vs H Q E h=>?_) (fun cdv A outer s H vs Q E hr h=>?_)
 ·obtain⟨p,dx,v,rfl,_⟩:=h
  rfl
 ·obtain⟨p,dx,v,rfl,hp,k⟩:=h
  refine zR (ze (yn (zj 0) (zj 1) rfl)) ?_;refine⟨_,rfl,_,rfl,p,333,dx,_,rfl,hp,(T.cl 2 rfl),(T.na 2 0 rfl rfl),(by show 0<1000;decide),?_⟩;exact k
theorem YN(T:Txt w K mg a):FnOk P w K mg base CX0 1 349 (dK K 349) ["self", "word", "one", "other"] (zgl 373 "word" "one" "other"):=by
 refine(T.fn 49 rfl).ok (scp 49 rfl) (fun vs H Q E h=>?_) (fun cdv A outer s H vs Q E hr h=>?_)
 ·obtain⟨p,dx,v,u,t,rfl,_⟩:=h
  rfl
 ·obtain⟨p,dx,v,u,t,rfl,hp,k⟩:=h
  refine zR (zd (yn (zj 0) (zj 1) rfl)
   (zd (yn (zj 0) (zj 2) rfl)
   (ze (yn (zj 0) (zj 3) rfl)))) ?_
  refine⟨_,rfl,_,rfl,p,373,dx,_,rfl,hp,(T.cl 3 rfl),(T.na 3 0 rfl rfl),(by show 0<1000;decide),?_⟩;refine⟨_,rfl,_,rfl,p,373,dx,_,rfl,upd_same,(T.cl 3 rfl),(T.na 3 1 rfl rfl),(by show 1<1000;decide),?_⟩;refine⟨_,rfl,_,rfl,p,373,dx,_,rfl,upd_same,(T.cl 3 rfl),(T.na 3 2 rfl rfl),(by show 2<1000;decide),?_⟩;rw[yH,yH];exact k
theorem YQ(T:Txt w K mg a):FnOk P w K mg base CX0 1 389 (dK K 389) ["self", "inner", "number"] (zgm 413 "inner" "number"):=by
 refine(T.fn 51 rfl).ok (scp 51 rfl) (fun vs H Q E h=>?_) (fun cdv A outer s H vs Q E hr h=>?_)
 ·obtain⟨p,dx,v,u,rfl,_⟩:=h
  rfl
 ·obtain⟨p,dx,v,u,rfl,hp,k⟩:=h
  refine zR (zd (yn (zj 0) (zj 1) rfl)
   (ze (yn (zj 0) (zj 2) rfl))) ?_
  refine⟨_,rfl,_,rfl,p,413,dx,_,rfl,hp,(T.cl 4 rfl),(T.na 4 0 rfl rfl),(by show 0<1000;decide),?_⟩;refine⟨_,rfl,_,rfl,p,413,dx,_,rfl,upd_same,(T.cl 4 rfl),(T.na 4 1 rfl rfl),(by show 1<1000;decide),?_⟩;rw[yH];exact k
theorem Z1(T:Txt w K mg a):FnOk P w K mg base CX0 1 429 (dK K 429) ["self", "one", "other", "third", "fourth"] (zgk 453 "one" "other" "third" "fourth"):=by
 refine(T.fn 53 rfl).ok (scp 53 rfl) (fun vs H Q E h=>?_) (fun cdv A outer s H vs Q E hr h=>?_)
 ·obtain⟨p,dx,v,u,t,r,rfl,_⟩:=h
  rfl
 ·obtain⟨p,dx,v,u,t,r,rfl,hp,k⟩:=h
  refine zR (zd (yn (zj 0) (zj 1) rfl)
   (zd (yn (zj 0) (zj 2) rfl)
   (zd (yn (zj 0) (zj 3) rfl)
   (ze (yn (zj 0) (zj 4) rfl))))) ?_
  refine⟨_,rfl,_,rfl,p,453,dx,_,rfl,hp,(T.cl 5 rfl),(T.na 5 0 rfl rfl),(by show 0<1000;decide),?_⟩;refine⟨_,rfl,_,rfl,p,453,dx,_,rfl,upd_same,(T.cl 5 rfl),(T.na 5 1 rfl rfl),(by show 1<1000;decide),?_⟩;refine⟨_,rfl,_,rfl,p,453,dx,_,rfl,upd_same,(T.cl 5 rfl),(T.na 5 2 rfl rfl),(by show 2<1000;decide),?_⟩;refine⟨_,rfl,_,rfl,p,453,dx,_,rfl,upd_same,(T.cl 5 rfl),(T.na 5 3 rfl rfl),(by show 3<1000;decide),?_⟩;rw[yH,yH,yH];exact k
theorem wk{K:W.Frag}{x c:V}{t cv:Value}{b:Bool}{i:Nat}{tb te:TS}{D:Ends}{σ:St}{H:Hp}(hv:σ[i]?=some (some x))(hc:zcW c=some cv)(ty:TyOf K H x t)(kk:PySem.W.kitOne K t cv=some b)(h:if b=true then tb D σ H else te D σ H):zc6 (tB (tCB (zfx K) (yr (yV i) (yr (tC c) wN)))) tb te D σ H:=⟨_,hv,_,_,_,_,_,rfl,hc,ty,kk,_,rfl,h⟩
def Vi:Sp:=fun vs H Q _=>∃ (l:Addr) (n:Int),vs=[.ref l,.int n]/\StAt H l/\0<n/\n.natAbs.log2<9000/\∀ (d:Int) (H':Hp),0<=d->d<n->StAt H' l->Ext l H H'->Q (.int d) H'
theorem zad(T:Txt w K mg a):FnOk P w K mg base CX0 1 724 (dK K 724) ["_law_state", "_law_base"] Vi:=by
 refine(T.fn 31 rfl).ok (scp 31 rfl) (fun vs H Q E h=>?_) (fun cdv A outer s H vs Q E hr h=>?_)
 ·obtain⟨l,n,rfl,_⟩:=h
  rfl
 ·obtain⟨l,n,rfl,⟨st,hst,ok⟩,hn,hlog,k⟩:=h
  refine zR (y9 (zv (zp yX (zq zx (by rfl) (T.n 0 rfl) yf (zh (zj 0) zb)) zg (zB _))
    (zd (zr (i:=2) (scp 31 rfl).nd rfl (Or.inl rfl) (zw zC (zj 0) zg (fun _ _=>rfl)))
    (zd (vd (zk uy (zj 2) (zF UE (by rfl) (T.n 1 rfl) uG (zn (zO zd7 (zj 2) (zk VA zg zg) (zB _)) zb))) (uJ (zj 0) zg uV))
    (ze (xa (zY F.plainAttrs_list F.slot_list_extend F.type_list_extend VR (zj 0) (zn (zt (zU (zk yS (zj 2) zg) (zy zg zb))) zb))))))
    zo)
   (zd (zv (zp u8 (zw zC (zj 0) zg (fun _ _=>rfl)) zg (zB _))
    (zd (zr (i:=3) (scp 31 rfl).nd rfl (Or.inl rfl) (zk yS (zw zC (zj 0) zg (fun _ _=>rfl)) (zj 1)))
    (zd (vd (zk yD (zw zC (zj 0) zg (fun _ _=>rfl)) (zj 1)) (uJ (zj 0) zg uV))
    (ze (zm (zj 3)))))
    zo)
   (zd (vd (zk yA (zw zC (zj 0) zg (fun _ _=>rfl)) zg) (uJ (zj 0) zg uV))
   (zd (zr (i:=4) (scp 31 rfl).nd rfl (Or.inl rfl) (zk yS (zk uy (zk yA (zk yA (zw zC (zj 0) zg (fun _ _=>rfl)) (zk uy zg (zw zC (zj 0) zg (fun _ _=>rfl)))) zg) zg) zg))
   (zd (zr (i:=4) (scp 31 rfl).nd rfl (Or.inl rfl) (zk yS (zk uy (zj 4) (zk yA (zk yD (zj 4) zg) zg)) zg))
   (ze (zm (zk yS (zk yS (zk uy (zj 4) (zk yA (zk yD (zj 4) zg) zg)) zg) (zj 1))))))))) ?_
  refine⟨fun σ' H'=>∃ (c0:Option V) (x y z:Int),σ'=[some (.ref l),some (.int n),c0,none,none]/\H' l=some (.lst [.int x,.int y,.int z])/\Ext l H H',?_,?_⟩
  ·-- if len(_law_state) == 1:
   refine⟨_,rfl,l,st,rfl,.inl (sO hst),rfl,_,rfl,?_⟩;rcases ok with⟨x,rfl⟩ | ⟨x,y,z,rfl⟩
   ·refine zZ rfl ?_
    refine⟨_,rfl,l,_,0,_,rfl,rfl,sO hst,rfl,_,rfl,_,rfl,_,_,rfl,rfl,⟨by decide,by decide,by decide⟩,_,_,rfl,rfl,.inr ⟨_,rfl,_,_,rfl,rfl,.inr (b01 _),_,rfl,l,_,0,0,rfl,rfl,hst,rfl,?_⟩⟩
    ·refine⟨_,rfl,.inl ⟨rfl,_,sO upd_same⟩,_,rfl,_,_,rfl,rfl,(by show(0:Int)<2147483647;decide),(by show 2<=sizeLine;decide),fun p hp=>?_⟩
     have hpl:p≠l:=by
      intro z;rw[z,upd_same] at hp;cases hp
     have hp0:H p=none:=by rw[upd_ne hpl] at hp;exact hp
     refine⟨l,p,[_],[_,_],rfl,rfl,(upd_ne hpl.symm).trans upd_same,upd_same,(by show 1+2<=sizeLine;decide),?_⟩;refine⟨_,_,_,_,rfl,upd_same,fun b o e nb=>?_⟩;rw[upd_ne nb,upd_ne (nZ e hp0),upd_ne nb];exact e
   ·refine iZ rfl ?_
    exact⟨none,x,y,z,rfl,hst,Ext.refl⟩
  ·rintro σ' H1 ⟨c0,x,y,z,rfl,hst,hx⟩
   -- if _law_state[0]>0:
   refine⟨_,rfl,l,_,0,_,rfl,rfl,sO hst,rfl,_,_,rfl,rfl,_,rfl,?_⟩;refine zcA (fun q=>?_) (fun q=>?_)
   ·refine⟨_,rfl,l,_,0,_,rfl,rfl,sO hst,rfl,_,rfl,_,_,rfl,rfl,hn,_,rfl,l,_,0,_,rfl,rfl,sO hst,rfl,_,rfl,_,_,rfl,rfl,⟨hn,hlog⟩,_,rfl,l,_,0,0,rfl,rfl,hst,rfl,_,rfl,?_⟩
    exact k _ _ (emod_nonneg _ (Int.ne_of_gt hn)) (emod_lt_of_pos _ hn) ⟨_,upd_same,.inr ⟨_,_,_,rfl⟩⟩ (hx.trans Ext.at)
   ·refine⟨_,rfl,l,_,2,_,rfl,rfl,sO hst,rfl,_,_,rfl,rfl,_,rfl,l,_,2,2,rfl,rfl,hst,rfl,?_⟩
    refine⟨_,rfl,l,_,1,_,rfl,rfl,sO upd_same,rfl,_,rfl,l,_,2,_,rfl,rfl,sO upd_same,rfl,_,_,rfl,rfl,.inl ⟨by decide,by decide⟩,_,_,rfl,rfl,_,_,rfl,rfl,_,_,rfl,rfl,.inr ⟨by decide,by decide⟩,_,_,rfl,rfl,(by show(0:Int)<2147483647;decide),?_⟩;generalize hv:(y+7919*(z+1)+1)*48271%2147483647=v;have v1:0<=v:=by rw[<- hv];exact emod_nonneg _ (by decide)
    have v2:v<2147483647:=by rw[<- hv];exact emod_lt_of_pos _ (by decide)
    refine⟨_,rfl,_,rfl,_,_,rfl,rfl,⟨by show(0:Int)<1009;decide,zan⟩,_,_,rfl,rfl,_,_,rfl,rfl,.inl ⟨by omega,by omega⟩,_,_,rfl,rfl,(by show(0:Int)<2147483647;decide),?_⟩;generalize hu:v*(v/1009+69621)%2147483647=u;have u1:0<=u:=by rw[<- hu];exact emod_nonneg _ (by decide)
    have u2:u<2147483647:=by rw[<- hu];exact emod_lt_of_pos _ (by decide)
    refine⟨_,rfl,_,rfl,_,_,rfl,rfl,⟨by show(0:Int)<2003;decide,zam⟩,_,_,rfl,rfl,_,_,rfl,rfl,.inl ⟨by omega,by omega⟩,_,_,rfl,rfl,(by show(0:Int)<2147483399;decide),_,rfl,_,_,rfl,rfl,hn,?_⟩;exact k _ _ (emod_nonneg _ (Int.ne_of_gt hn)) (emod_lt_of_pos _ hn) ⟨_,upd_same,.inr ⟨_,_,_,rfl⟩⟩ (hx.trans Ext.at)
abbrev zeB(e:Ex):Prop:=∃ i,e=.num i
abbrev zbr(e:Ex):Prop:=∃ x,e=.name x
abbrev zez(e:Ex):Prop:=∃ w e1 e2,e=.two w e1 e2
abbrev zeC(e:Ex):Prop:=∃ e1 n,e=.mod e1 n
abbrev zbs(e:Ex):Prop:=∃ e1 e2 e3 e4,e=.less e1 e2 e3 e4
def zbK(K:W.Frag)(f:V->Bool):Sp:=fun vs H Q _=>∃ v,vs=[v]/\Lf K H v/\Q (.bl (f v)) H
theorem vK(T:Txt w K mg a):FnOk P w K mg base CX0 1 96 (dK K 96) ["value"] (zbK K whole):=by
 refine(T.fn 0 rfl).ok (scp 0 rfl) (fun vs H Q E h=>?_) (fun cdv A outer s H vs Q E hr h=>?_)
 ·obtain⟨v,rfl,_⟩:=h
  rfl
 ·obtain⟨v,rfl,⟨t,ty,k1,k2,_⟩,k⟩:=h
  refine zR (ze (zm (yp (zq zK (by rfl) (T.n 5 rfl) zu (zh (zj 0) (zh (yz (T.n 1 rfl) uG) zb))) (yo (uK (zq zK (by rfl) (T.n 5 rfl) zu (zh (zj 0) (zh (yz (T.n 12 rfl) Zu) zb)))))))) ?_;rw[UI] at k;refine⟨_,rfl,_,_,_,_,_,rfl,rfl,ty,k1,_,rfl,?_⟩;by_cases q:zfW v=true
  ·rw[q] at k
   exact zZ q ⟨_,rfl,_,_,_,_,_,rfl,rfl,ty,k2,_,rfl,k⟩
  ·have q:=eq_false_iff.mpr q
   rw[q] at k;exact iZ q k
theorem YM(T:Txt w K mg a):FnOk P w K mg base CX0 2 468 (dK K 468) ["value"] (zbK K Xu):=by
 have c_is_whole:=cal P base T 0 rfl (vK T);refine(T.fn 10 rfl).ok (scp 10 rfl) (fun vs H Q E h=>?_) (fun cdv A outer s H vs Q E hr h=>?_)
 ·obtain⟨v,rfl,_⟩:=h
  rfl
 ·obtain⟨v,rfl,lf,k⟩:=h
  refine zR (ze (zm (yp (zG c_is_whole hr.m (zh (zj 0) zb)) (yo (zO YJ (zq zaN (by rfl) (T.n 8 rfl) zeW (zh (zj 0) zb)) (zk VA zg zg) (zB _)))))) ?_;refine⟨_,rfl,v,rfl,lf,_,rfl,?_⟩;by_cases q:whole v=true
  ·obtain⟨i,rfl⟩:=Zw q
   refine zZ q ⟨_,rfl,i,rfl,_,_,rfl,rfl,⟨by decide,by decide,by decide⟩,_,_,rfl,rfl,?_⟩;rw[zfB];exact k
  ·have q:=eq_false_iff.mpr q
   refine iZ q ?_;have e:Xu v=false:=by cases v<;>first | rfl | simp[whole] at q
   rw[e] at k;exact k
theorem Za(T:Txt w K mg a):FnOk P w K mg base CX0 2 482 (dK K 482) ["number"] (zbK K zcT):=by
 have c_is_whole:=cal P base T 0 rfl (vK T);refine(T.fn 12 rfl).ok (scp 12 rfl) (fun vs H Q E h=>?_) (fun cdv A outer s H vs Q E hr h=>?_)
 ·obtain⟨v,rfl,_⟩:=h
  rfl
 ·obtain⟨v,rfl,lf,k⟩:=h
  refine zR (ze (zm (yp (zG c_is_whole hr.m (zh (zj 0) zb)) (yp (zO zd7 (zj 0) zg (zB _)) (yo (zO zb7 (zj 0) (zk VA zg zg) (zB _))))))) ?_;refine⟨_,rfl,v,rfl,lf,_,rfl,?_⟩;by_cases q:whole v=true
  ·obtain⟨i,rfl⟩:=Zw q
   have k':Q (.bl (decide (1<=i)&&decide (i<=1000000000))) H:=k;refine zZ q ⟨_,rfl,_,_,rfl,rfl,_,rfl,?_⟩;by_cases q1:(1:Int)<=i
   ·refine zZ (decide_eq_true q1) ⟨_,rfl,_,_,rfl,rfl,⟨by decide,by decide,by decide⟩,_,_,rfl,rfl,?_⟩
    rw[decide_eq_true q1,Bool.true_and] at k';rw[zg9];exact k'
   ·refine iZ (decide_eq_false q1) ?_
    rw[decide_eq_false q1,Bool.false_and] at k';exact k'
  ·have q:=eq_false_iff.mpr q
   refine iZ q ?_;have e:zcT v=false:=by cases v<;>first | rfl | simp[whole] at q
   rw[e] at k;exact k
def zaX(K:W.Frag):Sp:=fun vs H Q _=>∃ (v:V) (p:Addr) (ws:List Str),vs=[v,.ref p]/\Lf K H v/\SqT K H p (ws.map V.str)/\Q (.bl (vn ws v)) H
theorem Wl(T:Txt w K mg a):FnOk P w K mg base CX0 1 475 (dK K 475) ["word", "words"] (zaX K):=by
 refine(T.fn 11 rfl).ok (scp 11 rfl) (fun vs H Q E h=>?_) (fun cdv A outer s H vs Q E hr h=>?_)
 ·obtain⟨v,p,ws,rfl,_⟩:=h
  rfl
 ·obtain⟨v,p,ws,rfl,⟨t,ty,_,_,k3⟩,hp,k⟩:=h
  refine zR (ze (zm (yp (zq zK (by rfl) (T.n 5 rfl) zu (zh (zj 0) (zh (yz (T.n 10 rfl) xL) zb))) (yo (zO yv (zj 0) (zj 1) (by with_unfolding_all rfl)))))) ?_;refine⟨_,rfl,_,_,_,_,_,rfl,rfl,ty,k3,_,rfl,?_⟩;by_cases q:zeA v=true
  ·obtain⟨x,rfl⟩:=zaz q
   exact zZ q ⟨_,rfl,_,rfl,p,_,rfl,.inr hp,rfl,flat_strs ws,k⟩
  ·have q:=eq_false_iff.mpr q
   refine iZ q ?_;have e:vn ws v=false:=by cases v<;>first | rfl | simp[zeA] at q
   rw[e] at k;exact k
theorem TyOf.same{K:W.Frag}{H H':Hp}{v:V}{t:Value}(s:Same H H')(h:TyOf K H v t):TyOf K H' v t:=by
 cases h with
 |non=>exact .non
 |bl x=>exact .bl x
 |int i=>exact .int i
 |str x=>exact .str x
 |flt x=>exact .flt x
 |lst e=>exact .lst (s _ _ e)
 |frz e=>exact .frz (s _ _ e)
 |tup e=>exact .tup (s _ _ e)
 |dK e=>exact .dK (s _ _ e)
 |dT e=>exact .dT (s _ _ e)
 |ins e cl ha hn htk hm=>exact .ins (s _ _ e) cl ha hn htk hm
theorem Lf.same{K:W.Frag}{H H':Hp}{v:V}(s:Same H H')(h:Lf K H v):Lf K H' v:=by
 obtain⟨t,ty,k⟩:=h;exact⟨t,TyOf.same s ty,k⟩
def GMade(K:W.Frag)(a:Ad)(H:Hp):Gx->V->Prop
 |.num v,r=>∃ p dx,r=.ref p/\H p=some (.ins 293 dx [("value",v)])/\Lf K H v
 |.name v,r=>∃ p dx,r=.ref p/\H p=some (.ins 333 dx [("word",v)])/\Lf K H v
 |.two wd e f,r=>∃ p dx u1 u2,r=.ref p/\H p=some (.ins 373 dx [("word",wd),("one",u1),("other",u2)])/\Lf K H wd/\GMade K a H e u1/\GMade K a H f u2
 |.mod e n,r=>∃ p dx u1,r=.ref p/\H p=some (.ins 413 dx [("inner",u1),("number",n)])/\Lf K H n/\GMade K a H e u1
 |.less e f g h,r=>∃ p dx u1 u2 u3 u4,r=.ref p/\H p=some (.ins 453 dx [("one",u1),("other",u2),("third",u3),("fourth",u4)])/\GMade K a H e u1/\GMade K a H f u2/\GMade K a H g u3/\GMade K a H h u4
 |.oth v,r=>r=v/\∃ t,TyOf K H v t/\PySem.W.kitOne K t (.ref 293)=some false/\PySem.W.kitOne K t (.ref 333)=some false/\PySem.W.kitOne K t (.ref 373)=some false/\PySem.W.kitOne K t (.ref 413)=some false/\PySem.W.kitOne K t (.ref 453)=some false
theorem GMade.same{H H':Hp}(s:Same H H'):∀ {g:Gx}{r:V},GMade K a H g r->GMade K a H' g r
 |.num _,_,⟨p,dx,e,h,l⟩=>⟨p,dx,e,s _ _ h,l.same s⟩
 |.name _,_,⟨p,dx,e,h,l⟩=>⟨p,dx,e,s _ _ h,l.same s⟩
 |.two _ _ _,_,⟨p,dx,u1,u2,e,h,l,t1,t2⟩=>⟨p,dx,u1,u2,e,s _ _ h,l.same s,t1.same s,t2.same s⟩
 |.mod _ _,_,⟨p,dx,u1,e,h,l,t1⟩=>⟨p,dx,u1,e,s _ _ h,l.same s,t1.same s⟩
 |.less _ _ _ _,_,⟨p,dx,u1,u2,u3,u4,e,h,t1,t2,t3,t4⟩=>⟨p,dx,u1,u2,u3,u4,e,s _ _ h,t1.same s,t2.same s,t3.same s,t4.same s⟩
 |.oth _,_,⟨e,t,ty,k⟩=>⟨e,t,TyOf.same s ty,k⟩
theorem zbo(T:Txt w K mg a){H:Hp}(i:Int):Lf K H (.int i):=⟨_,.int i,(T.k 0 rfl),(T.k 1 rfl),(T.k 35 rfl)⟩
theorem zbn(T:Txt w K mg a){H:Hp}(x:Str):Lf K H (.str x):=⟨_,.str x,(T.k 15 rfl),(T.k 36 rfl),(T.k 33 rfl)⟩
theorem Made.gx(T:Txt w K mg a){H:Hp}:∀ {e:Ex}{r:V},Made a H e r->GMade K a H e.gx r
 |.num i,_,⟨p,dx,e,h⟩=>⟨p,dx,e,h,zbo T i⟩
 |.name x,_,⟨p,dx,e,h⟩=>⟨p,dx,e,h,zbn T x⟩
 |.two w _ _,_,⟨p,dx,u1,u2,e,h,t1,t2⟩=>⟨p,dx,u1,u2,e,h,zbn T w,t1.gx T,t2.gx T⟩
 |.mod _ n,_,⟨p,dx,u1,e,h,t1⟩=>⟨p,dx,u1,e,h,zbo T n,t1.gx T⟩
 |.less _ _ _ _,_,⟨p,dx,u1,u2,u3,u4,e,h,t1,t2,t3,t4⟩=>⟨p,dx,u1,u2,u3,u4,e,h,t1.gx T,t2.gx T,t3.gx T,t4.gx T⟩
def GMs(K:W.Frag)(a:Ad)(H:Hp)(rs:List V)(gs:List Gx):Prop:=rs.length=gs.length/\∀ (i:Nat) r,rs[i]?=some r->∃ g,gs[i]?=some g/\GMade K a H g r
def xO(K:W.Frag)(a:Ad)(n:Nat):Sp:=fun vs H Q _=>∃ (g:Gx) (r:V) (nm:Addr) (names:List Str) (d:Int),vs=[r,.ref nm,.int d]/\GMade K a H g r/\(∀ H,SqT K H nm (names.map V.str))/\0<=d/\d<n/\∀ H',Same H H'->Q (.bl (g.sound names d.toNat)) H'
def zbM(K:W.Frag)(a:Ad)(n:Nat):Sp:=fun vs H Q _=>∃ (l:Addr) (rs:List V) (gs:List Gx) (nm:Addr) (names:List Str) (d:Int),vs=[.ref l,.ref nm,.int d]/\H l=some (.lst rs)/\GMs K a H rs gs/\(∀ H,SqT K H nm (names.map V.str))/\0<=d/\d<n/\∀ H',Same H H'->Q (.bl (gs.all (Gx.sound names d.toNat))) H'
theorem zbg(T:Txt w K mg a){n:Nat}(I:FnOk P w K mg base CX0 (2*n+1) 496 (dK K 496) ["expr", "names", "deep"] (xO K a n)):FnOk P w K mg base CX0 (2*n+2) 489 (dK K 489) ["parts", "names", "deep"] (zbM K a n):=by
 have c_is_sound:Callee P w K mg base "is_sound" 496 (dK K 496) ["expr", "names", "deep"] (2*n+1) (xO K a n):=⟨I,(T.g 14 rfl),(T.fn 14 rfl).kp,(T.bi 14 rfl)⟩;refine(T.fn 13 rfl).ok (scp 13 rfl) (fun vs H Q E h=>?_) (fun cdv A outer s H vs Q E hr h=>?_)
 ·obtain⟨l,rs,gs,nm,names,d,rfl,_⟩:=h
  rfl
 ·obtain⟨l,rs,gs,nm,names,d,rfl,hl,⟨hlen,hgm⟩,hn,d0,d1,k⟩:=h
  refine zR (zd (yt PassesOwn.never rfl (yE (zj 0)) (zE (i:=3) (scp 13 rfl).nd rfl (Or.inl rfl))
    (ze (zv (zX (zH (zG c_is_sound hr.m (zh (zj 3) (zh (zj 1) (zh (zj 2) zb))))))
     (ze (zm zM))
     zo)))
   (ze (zm zM))) ?_
  refine⟨_,rfl,l,rfl,⟨_,sO hl⟩,?_⟩;refine for_list (K:=K) (a:=l) (xs:=rs) (fun i σ H'=>∃ o,σ=[some (.ref l),some (.ref nm),some (.int d),o]/\Same H H'/\(gs.take i).all (Gx.sound names d.toNat)=true) ?_ ?_ ?_ ?_
  ·exact⟨none,rfl,sR H,by simp⟩
  ·rintro i σ H' _ ⟨o,_,sm,_⟩
   exact sO (sm _ _ hl)
  ·rintro i x σ H' hi ⟨o,rfl,sm,ha⟩
   obtain⟨g,hg,gm⟩:=hgm i x hi;refine⟨_,rfl,_,rfl,_,rfl,g,x,nm,names,d,rfl,gm.same sm,hn,d0,d1,fun H1 s1=>⟨_,rfl,?_⟩⟩;have hi':i<gs.length:=(List.getElem?_eq_some_iff.mp hg).1;by_cases q:g.sound names d.toNat=true
   ·refine iZ (by rw[q];rfl) ?_
    refine⟨_,rfl,sm.trans s1,?_⟩;rw[take_add_one,hg,List.all_append,ha];simp[q]
   ·have q:=eq_false_iff.mpr q
    refine zZ (by rw[q];rfl) ?_;have e:gs.all (Gx.sound names d.toNat)=false:=by
     rw[List.all_eq_false];exact⟨g,mem_of_getElem? hg,by rw[q];simp⟩
    have:=k H1 (sm.trans s1);rw[e] at this;exact this
  ·rintro σ H' ⟨o,rfl,sm,ha⟩
   rw[hlen,take_length] at ha;have:=k H' sm;rw[ha] at this;exact this
theorem zgC{H:Hp}{u1 u2:V}{g1 g2:Gx}(h1:GMade K a H g1 u1)(h2:GMade K a H g2 u2):GMs K a H [u1,u2] [g1,g2]:=⟨rfl,fun i r e=>by
 match i,e with
 |0,e=>cases e;exact⟨_,rfl,h1⟩
 |1,e=>cases e;exact⟨_,rfl,h2⟩
 |_+2,e=>simp at e⟩
theorem zho{H:Hp}{u1 u2 u3 u4:V}{g1 g2 g3 g4:Gx}(h1:GMade K a H g1 u1)(h2:GMade K a H g2 u2)(h3:GMade K a H g3 u3)(h4:GMade K a H g4 u4):GMs K a H [u1,u2,u3,u4] [g1,g2,g3,g4]:=⟨rfl,fun i r e=>by
 match i,e with
 |0,e=>cases e;exact⟨_,rfl,h1⟩
 |1,e=>cases e;exact⟨_,rfl,h2⟩
 |2,e=>cases e;exact⟨_,rfl,h3⟩
 |3,e=>cases e;exact⟨_,rfl,h4⟩
 |_+4,e=>simp at e⟩
theorem YK(T:Txt w K mg a){n:Nat}(I:FnOk P w K mg base CX0 (2*n+1) 496 (dK K 496) ["expr", "names", "deep"] (xO K a n)):FnOk P w K mg base CX0 (2*n+3) 496 (dK K 496) ["expr", "names", "deep"] (xO K a (n+1)):=by
 have c_is_sound:Callee P w K mg base "is_sound" 496 (dK K 496) ["expr", "names", "deep"] (2*n+1) (xO K a n):=⟨I,(T.g 14 rfl),(T.fn 14 rfl).kp,(T.bi 14 rfl)⟩;have c_are_sound:Callee P w K mg base "are_sound" 489 (dK K 489) ["parts", "names", "deep"] (2*n+2) (zbM K a n):=⟨zbg T I,(T.g 13 rfl),(T.fn 13 rfl).kp,(T.bi 13 rfl)⟩;have c_is_short_number:=cal P base T 10 rfl (YM T);have c_is_divisor:=cal P base T 12 rfl (Za T);have c_is_word_of:=cal P base T 11 rfl (Wl T);refine(T.fn 14 rfl).ok (scp 14 rfl) (fun vs H Q E h=>?_) (fun cdv A outer s H vs Q E hr h=>?_)
 ·obtain⟨g,r,nm,names,d,rfl,_⟩:=h
  rfl
 ·obtain⟨g,r,nm,names,d,rfl,gm,hn,d0,d1,k⟩:=h
  refine zR (zd (zv (zp yX (zj 2) zg (zB _))
    (ze (zm zM))
    zo)
   (zd (zv (zH (zq zK (by rfl) (T.n 5 rfl) zu (zh (zj 0) (zh (yG (T.gc 1 rfl)) zb))))
    (ze (zm (zG c_is_short_number hr.m (zn (zI (zj 0) rfl) zb))))
    zo)
   (zd (zv (zH (zq zK (by rfl) (T.n 5 rfl) zu (zh (zj 0) (zh (yG (T.gc 2 rfl)) zb))))
    (ze (zm (zG c_is_word_of hr.m (zn (zI (zj 0) rfl) (zh (zj 1) zb)))))
    zo)
   (zd (zv (zH (zq zK (by rfl) (T.n 5 rfl) zu (zh (zj 0) (zh (yG (T.gc 3 rfl)) zb))))
    (ze (zm (yp (zG c_is_word_of hr.m (zn (zI (zj 0) rfl) (zh (yd (v:=.ref 460) rfl (T.gg 3 rfl) rfl) zb))) (yo (zG c_are_sound hr.m (zn (zt (zn (zI (zj 0) rfl) (zn (zI (zj 0) rfl) zb))) (zh (zj 1) (zU (zk wj (zj 2) zg) zb))))))))
    zo)
   (zd (zv (zH (zq zK (by rfl) (T.n 5 rfl) zu (zh (zj 0) (zh (yG (T.gc 4 rfl)) zb))))
    (ze (zm (yp (zG c_is_divisor hr.m (zn (zI (zj 0) rfl) zb)) (yo (zG c_is_sound hr.m (zn (zI (zj 0) rfl) (zh (zj 1) (zU (zk wj (zj 2) zg) zb))))))))
    zo)
   (zd (zv (zH (zq zK (by rfl) (T.n 5 rfl) zu (zh (zj 0) (zh (yG (T.gc 5 rfl)) zb))))
    (ze (zm (zG c_are_sound hr.m (zn (zt (zn (zI (zj 0) rfl) (zn (zI (zj 0) rfl) (zn (zI (zj 0) rfl) (zn (zI (zj 0) rfl) zb))))) (zh (zj 1) (zU (zk wj (zj 2) zg) zb))))))
    zo)
   (ze (zm zM)))))))) ?_
  refine⟨_,rfl,rfl,_,rfl,?_⟩;refine zcA (fun q=>?_) (fun q=>?_)
  ·have e:d=0:=by simpa using q
   subst e;exact k H (sR H)
  have hd:d≠0:=fun e=>q (by subst e;rfl);have e1:d.toNat=(d-1).toNat+1:=by omega
  rw[e1] at k;have b0:0<=d-1:=by omega
  have b1:d-1<n:=by omega
  cases g with
  |num v =>
   obtain⟨p,dx,rfl,hp,lf⟩:=gm;refine wk rfl rfl ((T.ty 1 rfl) H p dx _ hp) (T.k 18 rfl) (vc ?_);exact⟨_,rfl,p,_,dx,_,_,rfl,hp,(T.cl 1 rfl),(T.na 1 0 rfl rfl),rfl,v,rfl,lf,k H (sR H)⟩
  |name v =>
   obtain⟨p,dx,rfl,hp,lf⟩:=gm;refine wk rfl rfl ((T.ty 2 rfl) H p dx _ hp) (T.k 19 rfl) (Yt ?_);refine wk rfl rfl ((T.ty 2 rfl) H p dx _ hp) (T.k 20 rfl) (vc ?_);exact⟨_,rfl,p,_,dx,_,_,rfl,hp,(T.cl 2 rfl),(T.na 2 0 rfl rfl),rfl,_,rfl,v,nm,names,rfl,lf,hn H,k H (sR H)⟩
  |two wd g1 g2 =>
   obtain⟨p,dx,u1,u2,rfl,hp,lf,m1,m2⟩:=gm;refine wk rfl rfl ((T.ty 3 rfl) H p dx _ hp) (T.k 21 rfl) (Yt ?_);refine wk rfl rfl ((T.ty 3 rfl) H p dx _ hp) (T.k 22 rfl) (Yt ?_);refine wk rfl rfl ((T.ty 3 rfl) H p dx _ hp) (T.k 23 rfl) (vc ?_);refine⟨_,rfl,p,_,dx,_,_,rfl,hp,(T.cl 3 rfl),(T.na 3 0 rfl rfl),rfl,wd,_,twoWs,rfl,lf,(T.gs 3 rfl) H,_,rfl,?_⟩;have k':∀ H',Same H H'->Q (.bl (vn twoWs wd&&([g1,g2].all (Gx.sound names (d-1).toNat)))) H':=k;by_cases qw:vn twoWs wd=true
   ·rw[qw] at k'
    refine zZ qw ?_;refine⟨_,rfl,p,_,dx,_,_,rfl,hp,(T.cl 3 rfl),(T.na 3 1 rfl rfl),rfl,_,rfl,p,_,dx,_,_,rfl,hp,(T.cl 3 rfl),(T.na 3 2 rfl rfl),rfl,(by show 2<=sizeLine;decide),fun lp hlp=>?_⟩;have s1:=sW (o:=HO.lst [u1,u2]) hlp;exact⟨_,rfl,_,rfl,_,_,rfl,rfl,lp,_,_,nm,names,d-1,rfl,upd_same,zgC (m1.same s1) (m2.same s1),hn,b0,b1,fun H2 s2=>k' H2 (s1.trans s2)⟩
   ·have qw:=eq_false_iff.mpr qw
    rw[qw] at k';exact iZ qw (k' H (sR H))
  |mod g1 v =>
   obtain⟨p,dx,u1,rfl,hp,lf,m1⟩:=gm;refine wk rfl rfl ((T.ty 4 rfl) H p dx _ hp) (T.k 24 rfl) (Yt ?_);refine wk rfl rfl ((T.ty 4 rfl) H p dx _ hp) (T.k 25 rfl) (Yt ?_);refine wk rfl rfl ((T.ty 4 rfl) H p dx _ hp) (T.k 26 rfl) (Yt ?_);refine wk rfl rfl ((T.ty 4 rfl) H p dx _ hp) (T.k 27 rfl) (vc ?_);refine⟨_,rfl,p,_,dx,_,_,rfl,hp,(T.cl 4 rfl),(T.na 4 1 rfl rfl),rfl,v,rfl,lf,_,rfl,?_⟩;have k':∀ H',Same H H'->Q (.bl (zcT v&&g1.sound names (d-1).toNat)) H':=k;by_cases qw:zcT v=true
   ·rw[qw] at k'
    refine zZ qw ?_;exact⟨_,rfl,p,_,dx,_,_,rfl,hp,(T.cl 4 rfl),(T.na 4 0 rfl rfl),rfl,_,rfl,_,rfl,_,_,rfl,rfl,g1,u1,nm,names,d-1,rfl,m1,hn,b0,b1,k'⟩
   ·have qw:=eq_false_iff.mpr qw
    rw[qw] at k';exact iZ qw (k' H (sR H))
  |less g1 g2 g3 g4 =>
   obtain⟨p,dx,u1,u2,u3,u4,rfl,hp,m1,m2,m3,m4⟩:=gm;refine wk rfl rfl ((T.ty 5 rfl) H p dx _ hp) (T.k 28 rfl) (Yt ?_);refine wk rfl rfl ((T.ty 5 rfl) H p dx _ hp) (T.k 29 rfl) (Yt ?_);refine wk rfl rfl ((T.ty 5 rfl) H p dx _ hp) (T.k 30 rfl) (Yt ?_);refine wk rfl rfl ((T.ty 5 rfl) H p dx _ hp) (T.k 31 rfl) (Yt ?_);refine wk rfl rfl ((T.ty 5 rfl) H p dx _ hp) (T.k 32 rfl) (vc ?_);refine⟨_,rfl,p,_,dx,_,_,rfl,hp,(T.cl 5 rfl),(T.na 5 0 rfl rfl),rfl,_,rfl,p,_,dx,_,_,rfl,hp,(T.cl 5 rfl),(T.na 5 1 rfl rfl),rfl,_,rfl,p,_,dx,_,_,rfl,hp,(T.cl 5 rfl),(T.na 5 2 rfl rfl),rfl,_,rfl,p,_,dx,_,_,rfl,hp,(T.cl 5 rfl),(T.na 5 3 rfl rfl),rfl,(by show 4<=sizeLine;decide),fun lp hlp=>?_⟩;have s1:=sW (o:=HO.lst [u1,u2,u3,u4]) hlp;exact⟨_,rfl,_,rfl,_,_,rfl,rfl,lp,_,_,nm,names,d-1,rfl,upd_same,zho (m1.same s1) (m2.same s1) (m3.same s1) (m4.same s1),hn,b0,b1,fun H2 s2=>k H2 (s1.trans s2)⟩
  |oth v =>
   obtain⟨rfl,t,ty,n1,n2,n3,n4,n5⟩:=gm;refine wk rfl rfl (ty) n1 (Yt ?_);refine wk rfl rfl (ty) n2 (Yt ?_);refine wk rfl rfl (ty) n3 (Yt ?_);refine wk rfl rfl (ty) n4 (Yt ?_);refine wk rfl rfl (ty) n5 (Yt ?_);exact k H (sR H)
theorem zdQ{k:Nat}:FnOk P w K mg base CX0 k 496 (dK K 496) ["expr", "names", "deep"] (xO K a 0) :=
 ⟨fun vs H Q E h=>by
  obtain⟨g,r,nm,names,d,rfl,_⟩:=h;rfl,fun A outer s H args us vs Q E _ _ _ _ h=>by
  obtain⟨g,r,nm,names,d,_,_,_,d0,d1,_⟩:=h;exact absurd d1 (by simp;omega)⟩
theorem Vk(T:Txt w K mg a):∀ n,FnOk P w K mg base CX0 (2*n+1) 496 (dK K 496) ["expr", "names", "deep"] (xO K a n)
 |0=>zdQ
 |n+1=>YK T (Vk T n)
theorem VU{i:Int}(h : -100000000000000000000<i/\i<100000000000000000000):i.natAbs.log2<1920:=by
 by_cases h0:i.natAbs=0
 ·rw[h0];decide
 ·have:=(Nat.log2_lt h0 (k:=67)).mpr (lt_of_le_of_lt (show i.natAbs<=100000000000000000000 by omega) (by decide))
  omega
def xb(a:Ad)(n:Nat)(Kd:Ex->Prop):Sp:=fun vs H Q _=>∃ (e:Ex) (r:V) (names:List Str),vs=[r]/\Kd e/\Made a H e r/\e.ok names/\e.dep<=n/\e.size<=sizeLine/\∀ p H',H' p=some (.lst (e.words.map V.str))->Same H H'->Q (.ref p) H'
structure Wordss (P:Program) (w:World) (K:W.Frag) (mg:Str->Option Value) (base:Heap) (a:Ad) (n:Nat):Prop where
 num:FnOk P w K mg base CX0 (n+1) 290 (dK K 290) ["self"] (xb a n zeB)
 name:FnOk P w K mg base CX0 (n+1) 330 (dK K 330) ["self"] (xb a n zbr)
 two:FnOk P w K mg base CX0 (n+1) 370 (dK K 370) ["self"] (xb a n zez)
 mod:FnOk P w K mg base CX0 (n+1) 410 (dK K 410) ["self"] (xb a n zeC)
 less:FnOk P w K mg base CX0 (n+1) 450 (dK K 450) ["self"] (xb a n zbs)
theorem Wordss.call{n:Nat}(R:Wordss P w K mg base a n)(T:Txt w K mg a){A:Around}(hr:Room (n+1) A){H:Hp}{e:Ex}{x:V}{names:List Str}(hM:Made a H e x)(ho:e.ok names)(hd:e.dep<=n)(hs:e.size<=sizeLine) :
  ∃ (p C dx:Addr) (fs:List (Str×V)) (f:Addr) (fd:FuncData) (ps:List Str) (k:Nat) (sp:Sp),x=.ref p/\H p=some (.ins C dx fs)/\fs.lookup ("words" : Str)=none/\Cls K C/\Meth K C "words" f/\FnOk P w K mg base CX0 k f fd ps sp/\Room k A/\Binds K fd ps [] /\
   ∀ Q:VK,(∀ p H',H' p=some (.lst (e.words.map V.str))->Same H H'->Q (.ref p) H')->sp (x::([]++[])) H Q E0:=by
 cases e with
 |num i =>
  obtain⟨p,dx,rfl,hp⟩:=id hM;exact⟨p,_,dx,_,_,_,_,_,_,rfl,hp,rfl,(T.cl 1 rfl),(T.mt 46 rfl),R.num,hr,(T.bi 46 rfl),fun Q q=>⟨_,_,names,rfl,⟨_,rfl⟩,hM,ho,hd,hs,q⟩⟩
 |name i =>
  obtain⟨p,dx,rfl,hp⟩:=id hM;exact⟨p,_,dx,_,_,_,_,_,_,rfl,hp,rfl,(T.cl 2 rfl),(T.mt 48 rfl),R.name,hr,(T.bi 48 rfl),fun Q q=>⟨_,_,names,rfl,⟨_,rfl⟩,hM,ho,hd,hs,q⟩⟩
 |two i e1 e2 =>
  obtain⟨p,dx,u1,u2,rfl,hp,_⟩:=id hM;exact⟨p,_,dx,_,_,_,_,_,_,rfl,hp,rfl,(T.cl 3 rfl),(T.mt 50 rfl),R.two,hr,(T.bi 50 rfl),fun Q q=>⟨_,_,names,rfl,⟨_,_,_,rfl⟩,hM,ho,hd,hs,q⟩⟩
 |mod e1 i =>
  obtain⟨p,dx,u1,rfl,hp,_⟩:=id hM;exact⟨p,_,dx,_,_,_,_,_,_,rfl,hp,rfl,(T.cl 4 rfl),(T.mt 52 rfl),R.mod,hr,(T.bi 52 rfl),fun Q q=>⟨_,_,names,rfl,⟨_,_,rfl⟩,hM,ho,hd,hs,q⟩⟩
 |less e1 e2 e3 e4 =>
  obtain⟨p,dx,u1,u2,u3,u4,rfl,hp,_⟩:=id hM;exact⟨p,_,dx,_,_,_,_,_,_,rfl,hp,rfl,(T.cl 5 rfl),(T.mt 54 rfl),R.less,hr,(T.bi 54 rfl),fun Q q=>⟨_,_,names,rfl,⟨_,_,_,_,rfl⟩,hM,ho,hd,hs,q⟩⟩
theorem ZY(T:Txt w K mg a)(n:Nat):FnOk P w K mg base CX0 (n+1) 290 (dK K 290) ["self"] (xb a n zeB):=by
 refine(T.fn 46 rfl).ok (scp 46 rfl) (fun vs H Q E h=>?_) (fun cdv A outer s H vs Q E hr h=>?_)
 ·obtain⟨e,r,names,rfl,_⟩:=h
  rfl
 ·obtain⟨e,r,names,rfl,⟨i,rfl⟩,⟨p,dx,rfl,hp⟩,ho,_,_,k⟩:=h
  refine zR (ze (zm (zt (yj (zF yc (by rfl) (T.n 10 rfl) xL (zn (zI (zj 0) rfl) zb)) zb)))) ?_;refine⟨_,rfl,p,_,dx,_,_,rfl,hp,(T.cl 1 rfl),(T.na 1 0 rfl rfl),rfl,i,rfl,VU ho,(by show 1<=sizeLine;decide),fun q hq=>?_⟩;exact k _ _ upd_same (sW hq)
theorem Zb(T:Txt w K mg a)(n:Nat):FnOk P w K mg base CX0 (n+1) 330 (dK K 330) ["self"] (xb a n zbr):=by
 refine(T.fn 48 rfl).ok (scp 48 rfl) (fun vs H Q E h=>?_) (fun cdv A outer s H vs Q E hr h=>?_)
 ·obtain⟨e,r,names,rfl,_⟩:=h
  rfl
 ·obtain⟨e,r,names,rfl,⟨i,rfl⟩,⟨p,dx,rfl,hp⟩,ho,_,_,k⟩:=h
  refine zR (ze (zm (zt (zn (zI (zj 0) rfl) zb)))) ?_;refine⟨_,rfl,p,_,dx,_,_,rfl,hp,(T.cl 2 rfl),(T.na 2 0 rfl rfl),rfl,(by show 1<=sizeLine;decide),fun q hq=>?_⟩;exact k _ _ upd_same (sW hq)
theorem Uw{x y:Addr}{xs ys:List V}{H:Hp}{Q:VK}(hx:H x=some (.lst xs))(hy:H y=some (.lst ys))(hz:xs.length+ys.length<=sizeLine)(k:∀ p,H p=none->Q (.ref p) (upd H p (.lst (xs++ys)))):WB (.ref x) (.ref y) H Q:=⟨x,y,xs,ys,rfl,rfl,hx,hy,hz,k⟩
theorem Wordss.at{n:Nat}(R:Wordss P w K mg base a n)(T:Txt w K mg a){X:Cx}(e1:X.prog=P)(e2:X.w=w)(e3:X.K=K)(e4:X.mg=mg)(e5:X.base=base)(hr:Room (n+1) X.A){H:Hp}{e:Ex}{x:V}{names:List Str}{to:TE}{σ:St}{Q:VK}(hto:∀ R:VK,R x H->to σ H R)(hM:Made a H e x)(ho:e.ok names)(hd:e.dep<=n)(hs:e.size<=sizeLine)(q:∀ p H',H' p=some (.lst (e.words.map V.str))->Same H H'->Q (.ref p) H'):uq X "words" to wN σ H Q:=by
 subst e1 e2 e3 e4 e5;refine hto _ ?_;obtain⟨p1,c1,x1,f1,f2,f3,f4,f5,f6,q1,q2,q3,q4,q5,q6,q7,q8,q9⟩:=R.call T hr hM ho hd hs;exact⟨p1,c1,x1,f1,f2,f3,f4,f5,f6,q1,q2,q3,q4,q5,q6,q7,q8,q9 _ q⟩
theorem ZX(T:Txt w K mg a){n:Nat}(R:Wordss P w K mg base a n):FnOk P w K mg base CX0 (n+2) 370 (dK K 370) ["self"] (xb a (n+1) zez):=by
 refine(T.fn 50 rfl).ok (scp 50 rfl) (fun vs H Q E h=>?_) (fun cdv A outer s H vs Q E hr h=>?_)
 ·obtain⟨e,r,names,rfl,_⟩:=h
  rfl
 ·obtain⟨e,r,names,rfl,⟨wd,e1,e2,rfl⟩,⟨p,dx,u1,u2,rfl,hp,m1,m2⟩,⟨_,o1,o2⟩,hdep,hz,k⟩:=h
  have hdep:max e1.dep e2.dep+1<=n+1:=hdep;have hz:1+e1.size+e2.size<=sizeLine:=hz;have l1:=e1.words_len;have l2:=e2.words_len;refine zR (ze (zm (zk zL (zk zL (zt (zn (zI (zj 0) rfl) zb)) (zT (zI (zj 0) rfl))) (zT (zI (zj 0) rfl))))) ?_;refine⟨_,rfl,p,_,dx,_,_,rfl,hp,(T.cl 3 rfl),(T.na 3 0 rfl rfl),rfl,(by show 1<=sizeLine;decide),fun q0 hq0=>?_⟩;have s0:=sW (o:=HO.lst [V.str wd]) hq0;refine R.at T rfl rfl rfl rfl rfl hr (fun R' q=>⟨_,rfl,p,_,dx,_,_,rfl,s0 _ _ hp,(T.cl 3 rfl),(T.na 3 1 rfl rfl),rfl,q⟩) (m1.same s0) o1 (by omega) (by omega) fun w1 H1 t1 s1=>?_;refine Uw (s1 _ _ upd_same) t1 (by simp[l1];omega) fun q2 hq2=>?_;have s2:=s0.trans (s1.trans (sW (o:=HO.lst ([V.str wd]++e1.words.map V.str)) hq2));refine R.at T rfl rfl rfl rfl rfl hr (fun R' q=>⟨_,rfl,p,_,dx,_,_,rfl,s2 _ _ hp,(T.cl 3 rfl),(T.na 3 2 rfl rfl),rfl,q⟩) (m2.same s2) o2 (by omega) (by omega) fun w2 H2 t2 s3=>?_;refine Uw (s3 _ _ upd_same) t2 (by simp[l1,l2];omega) fun q4 hq4=>?_;refine k _ _ ?_ (s2.trans (s3.trans (sW hq4)));rw[upd_same];simp[Ex.words]
theorem Z0(T:Txt w K mg a){n:Nat}(R:Wordss P w K mg base a n):FnOk P w K mg base CX0 (n+2) 410 (dK K 410) ["self"] (xb a (n+1) zeC):=by
 refine(T.fn 52 rfl).ok (scp 52 rfl) (fun vs H Q E h=>?_) (fun cdv A outer s H vs Q E hr h=>?_)
 ·obtain⟨e,r,names,rfl,_⟩:=h
  rfl
 ·obtain⟨e,r,names,rfl,⟨e1,i,rfl⟩,⟨p,dx,u1,rfl,hp,m1⟩,⟨⟨i1,i2⟩,o1⟩,hdep,hz,k⟩:=h
  have hdep:e1.dep+1<=n+1:=hdep;have hz:2+e1.size<=sizeLine:=hz;have l1:=e1.words_len;refine zR (ze (zm (zk zL (zk zL (zt (zy zi zb)) (zT (zI (zj 0) rfl))) (zt (yj (zF yc (by rfl) (T.n 10 rfl) xL (zn (zI (zj 0) rfl) zb)) zb))))) ?_;refine⟨by show 1<=sizeLine;decide,fun q0 hq0=>?_⟩;have s0:=sW (o:=HO.lst [V.str "mod"]) hq0;refine R.at T rfl rfl rfl rfl rfl hr (fun R' q=>⟨_,rfl,p,_,dx,_,_,rfl,s0 _ _ hp,(T.cl 4 rfl),(T.na 4 0 rfl rfl),rfl,q⟩) (m1.same s0) o1 (by omega) (by omega) fun w1 H1 t1 s1=>?_;refine Uw (s1 _ _ upd_same) t1 (by simp[l1];omega) fun q2 hq2=>?_;have s2:=s0.trans (s1.trans (sW (o:=HO.lst ([V.str "mod"]++e1.words.map V.str)) hq2));refine⟨_,rfl,p,_,dx,_,_,rfl,s2 _ _ hp,(T.cl 4 rfl),(T.na 4 1 rfl rfl),rfl,i,rfl,VU (by omega),(by show 1<=sizeLine;decide),fun q3 hq3=>?_⟩;refine⟨q2,q3,_,_,rfl,rfl,(sW hq3) _ _ upd_same,upd_same,(by simp[l1];omega),fun q4 hq4=>?_⟩;refine k _ _ ?_ (s2.trans ((sW hq3).trans (sW hq4)));rw[upd_same];simp[Ex.words]
theorem Zc(T:Txt w K mg a){n:Nat}(R:Wordss P w K mg base a n):FnOk P w K mg base CX0 (n+2) 450 (dK K 450) ["self"] (xb a (n+1) zbs):=by
 refine(T.fn 54 rfl).ok (scp 54 rfl) (fun vs H Q E h=>?_) (fun cdv A outer s H vs Q E hr h=>?_)
 ·obtain⟨e,r,names,rfl,_⟩:=h
  rfl
 ·obtain⟨e,r,names,rfl,⟨e1,e2,e3,e4,rfl⟩,⟨p,dx,u1,u2,u3,u4,rfl,hp,m1,m2,m3,m4⟩,⟨o1,o2,o3,o4⟩,hdep,hz,k⟩:=h
  have hdep:max (max e1.dep e2.dep) (max e3.dep e4.dep)+1<=n+1:=hdep;have hz:1+e1.size+e2.size+e3.size+e4.size<=sizeLine:=hz;have l1:=e1.words_len;have l2:=e2.words_len;have l3:=e3.words_len;have l4:=e4.words_len;refine zR (ze (zm (zk zL (zk zL (zk zL (zk zL (zt (zy zi zb)) (zT (zI (zj 0) rfl))) (zT (zI (zj 0) rfl))) (zT (zI (zj 0) rfl))) (zT (zI (zj 0) rfl))))) ?_;refine⟨by show 1<=sizeLine;decide,fun q0 hq0=>?_⟩;have s0:=sW (o:=HO.lst [V.str "less"]) hq0;refine R.at T rfl rfl rfl rfl rfl hr (fun R' q=>⟨_,rfl,p,_,dx,_,_,rfl,s0 _ _ hp,(T.cl 5 rfl),(T.na 5 0 rfl rfl),rfl,q⟩) (m1.same s0) o1 (by omega) (by omega) fun w1 H1 t1 y1=>?_;refine Uw (y1 _ _ upd_same) t1 (by simp[l1,l2,l3,l4];omega) fun q1 hq1=>?_;have s1:=s0.trans (y1.trans (sW (o:=HO.lst ([V.str "less"]++e1.words.map V.str)) hq1));refine R.at T rfl rfl rfl rfl rfl hr (fun R' q=>⟨_,rfl,p,_,dx,_,_,rfl,s1 _ _ hp,(T.cl 5 rfl),(T.na 5 1 rfl rfl),rfl,q⟩) (m2.same s1) o2 (by omega) (by omega) fun w2 H2 t2 y2=>?_;refine Uw (y2 _ _ upd_same) t2 (by simp[l1,l2,l3,l4];omega) fun q2 hq2=>?_;have s2:=s1.trans (y2.trans (sW (o:=HO.lst (([V.str "less"]++e1.words.map V.str)++e2.words.map V.str)) hq2));refine R.at T rfl rfl rfl rfl rfl hr (fun R' q=>⟨_,rfl,p,_,dx,_,_,rfl,s2 _ _ hp,(T.cl 5 rfl),(T.na 5 2 rfl rfl),rfl,q⟩) (m3.same s2) o3 (by omega) (by omega) fun w3 H3 t3 y3=>?_;refine Uw (y3 _ _ upd_same) t3 (by simp[l1,l2,l3,l4];omega) fun q3 hq3=>?_;have s3:=s2.trans (y3.trans (sW (o:=HO.lst ((([V.str "less"]++e1.words.map V.str)++e2.words.map V.str)++e3.words.map V.str)) hq3));refine R.at T rfl rfl rfl rfl rfl hr (fun R' q=>⟨_,rfl,p,_,dx,_,_,rfl,s3 _ _ hp,(T.cl 5 rfl),(T.na 5 3 rfl rfl),rfl,q⟩) (m4.same s3) o4 (by omega) (by omega) fun w4 H4 t4 y4=>?_;refine Uw (y4 _ _ upd_same) t4 (by simp[l1,l2,l3,l4];omega) fun q4 hq4=>?_;refine k _ _ ?_ (s3.trans (y4.trans (sW hq4)));rw[upd_same];simp[Ex.words]
theorem vN{f:Addr}{fd:FuncData}{ps:List Str}{Kd:Ex->Prop}{k:Nat}(hl:ps.length=1):FnOk P w K mg base CX0 k f fd ps (xb a 0 Kd) :=
 ⟨fun vs H Q E h=>by
  obtain⟨e,r,names,rfl,_⟩:=h;exact hl.symm,fun A outer s H args us vs Q E _ _ _ _ h=>by
  obtain⟨e,r,names,_,_,_,_,hd,_⟩:=h;have:=e.dep_pos;omega⟩
theorem Xd(T:Txt w K mg a):∀ n,Wordss P w K mg base a n
 |0=>⟨vN rfl,vN rfl,vN rfl,vN rfl,vN rfl⟩
 |n+1=>⟨ZY T (n+1),Zb T (n+1),ZX T (Xd T n),Z0 T (Xd T n),Zc T (Xd T n)⟩
theorem Gx.of_sound{names:List Str}:∀ {n:Nat}{g:Gx},g.sound names n=true->∃ e:Ex,g=e.gx/\e.ok names/\e.dep<=n
 |0,_,h=>by cases h
 |n+1,.num v,h=>by
  cases v with
  |int i =>
   have h:decide ((if i<0 then -i else i)<100000000000000000000)=true:=h;have h:=of_decide_eq_true h;refine⟨.num i,rfl,?_,le_add_left _ _⟩
   split at h
   ·constructor<;>omega
   ·constructor<;>omega
  |_=>cases h
 |n+1,.name v,h=>by
  cases v with
  |str x=>exact⟨.name x,rfl,inV_str.mp h,le_add_left _ _⟩
  |_=>cases h
 |n+1,.two w e f,h=>by
  have h:(vn twoWs w&&([e,f].all (Gx.sound names n)))=true:=h;rw[and_eq_true] at h;obtain⟨hw,h⟩:=h;simp only[all_cons,all_nil,Bool.and_true,and_eq_true] at h;obtain⟨e1,rfl,o1,d1⟩:=Gx.of_sound h.1;obtain⟨e2,rfl,o2,d2⟩:=Gx.of_sound h.2;cases w with
  |str x =>
   refine⟨.two x e1 e2,rfl,⟨?_,o1,o2⟩,by show max e1.dep e2.dep+1<=n+1;omega⟩;have hm:x∈twoWs:=inV_str.mp hw;simp only[mem_cons,not_mem_nil,or_false] at hm;exact hm
  |_=>cases hw
 |n+1,.mod e v,h=>by
  have h:(zcT v&&Gx.sound names n e)=true:=h;rw[and_eq_true] at h;obtain⟨e1,rfl,o1,d1⟩:=Gx.of_sound h.2;cases v with
  |int i =>
   have h1:(decide (1<=i)&&decide (i<=1000000000))=true:=h.1;rw[and_eq_true] at h1;exact⟨.mod e1 i,rfl,⟨⟨of_decide_eq_true h1.1,of_decide_eq_true h1.2⟩,o1⟩,by show e1.dep+1<=n+1;omega⟩
  |_=>cases h.1
 |n+1,.less e f g k,h=>by
  have h:[e,f,g,k].all (Gx.sound names n)=true:=h;simp only[all_cons,all_nil,Bool.and_true,and_eq_true] at h;obtain⟨h1,h2,h3,h4⟩:=h;obtain⟨e1,rfl,o1,d1⟩:=Gx.of_sound h1;obtain⟨e2,rfl,o2,d2⟩:=Gx.of_sound h2;obtain⟨e3,rfl,o3,d3⟩:=Gx.of_sound h3;obtain⟨e4,rfl,o4,d4⟩:=Gx.of_sound h4;exact⟨.less e1 e2 e3 e4,rfl,⟨o1,o2,o3,o4⟩,by show max (max e1.dep e2.dep) (max e3.dep e4.dep)+1<=n+1;omega⟩
 |n+1,.oth _,h=>by cases h
theorem Ex.gx_inj:∀ {e f:Ex},e.gx=f.gx->e=f
 |.num i,.num j,h=>by cases h;rfl
 |.name i,.name j,h=>by cases h;rfl
 |.two w e f,.two w' e' f',h=>by
  injection h with h1 h2 h3;cases h1;rw[Ex.gx_inj h2,Ex.gx_inj h3]
 |.mod e n,.mod e' n',h=>by
  injection h with h1 h2;cases h2;rw[Ex.gx_inj h1]
 |.less e f g k,.less e' f' g' k',h=>by
  injection h with h1 h2 h3 h4;rw[Ex.gx_inj h1,Ex.gx_inj h2,Ex.gx_inj h3,Ex.gx_inj h4]
theorem zba{a b:Nat}(h:a<=b):4 ^ a<=4 ^ b:=Nat.pow_le_pow_right (by decide) h
theorem Ex.size_le:∀ e:Ex,3*e.size+1<=4 ^ e.dep
 |.num _=>by show 4<=4 ^ 1;decide
 |.name _=>by show 4<=4 ^ 1;decide
 |.two _ e f=>by
  have h1:=e.size_le;have h2:=f.size_le;have p1:=zba (le_max_left e.dep f.dep);have p2:=zba (le_max_right e.dep f.dep);show 3*(1+e.size+f.size)+1<=4 ^ (max e.dep f.dep+1);rw[pow_succ];omega
 |.mod e _=>by
  have h1:=e.size_le;have h3:=e.dep_pos;have p1:4 ^ 1<=4 ^ e.dep:=zba h3;show 3*(2+e.size)+1<=4 ^ (e.dep+1);rw[pow_succ];omega
 |.less e f g k=>by
  have h1:=e.size_le;have h2:=f.size_le;have h3:=g.size_le;have h4:=k.size_le;have p1:=zba (le_trans (le_max_left e.dep f.dep) (le_max_left _ (max g.dep k.dep)));have p2:=zba (le_trans (le_max_right e.dep f.dep) (le_max_left _ (max g.dep k.dep)));have p3:=zba (le_trans (le_max_left g.dep k.dep) (le_max_right (max e.dep f.dep) _));have p4:=zba (le_trans (le_max_right g.dep k.dep) (le_max_right (max e.dep f.dep) _));show 3*(1+e.size+f.size+g.size+k.size)+1<=4 ^ (max (max e.dep f.dep) (max g.dep k.dep)+1);rw[pow_succ];omega
theorem Ex.size_line{e:Ex}(h:e.dep<=8):e.size<=sizeLine:=by
 have h1:=e.size_le;have h2:4 ^ e.dep<=65536:=zba h;have:sizeLine=16777216:=by decide
 omega
def zc2(a:Ad)(H:Hp)(n:Nat)(rs:List V)(es:List Ex):Prop:=rs.length=es.length/\∀ (i:Nat) r,rs[i]?=some r->∃ e names,es[i]?=some e/\Made a H e r/\e.ok names/\e.dep<=n/\e.size<=sizeLine
def ue(es:List Ex):LI:=es.map fun e=>(e.size:Int)
def Vj(a:Ad)(n:Nat):Sp:=fun vs H Q _=>∃ (l:Addr) (rs:List V) (es:List Ex),vs=[.ref l]/\H l=some (.lst rs)/\rs.length<=1000/\zc2 a H n rs es/\∀ H',Same H H'->Q (.int (ue es).sum) H'
theorem zae(T:Txt w K mg a)(n:Nat):FnOk P w K mg base CX0 (n+2) 501 (dK K 501) ["exprs"] (Vj a n):=by
 have WW:Wordss P w K mg base a n:=Xd T n;refine(T.fn 15 rfl).ok (scp 15 rfl) (fun vs H Q E h=>?_) (fun cdv A outer s H vs Q E hr h=>?_)
 ·obtain⟨l,rs,es,rfl,_⟩:=h
  rfl
 ·obtain⟨l,rs,es,rfl,hl,hz,⟨hlen,hm⟩,k⟩:=h
  refine⟨_,(yg (xx (yJ (Ux rfl) (by rfl) (T.n 11 rfl) zeT (xo (Vy rfl (N':=["expr"]) (t:=1) (caps:=[]) ⟨rfl,rfl,rfl⟩ (wV (pv 0)) (fun _=>(wt (i:=0) (show(["expr"]:List Str).Nodup by decide +kernel) rfl (Or.inl rfl))) (fun _=>Vr) (fun _=>(yJ zx (by rfl) (T.n 0 rfl) yf (zgw (ZR (pv 0)) ym)))) ym)))),?_⟩;refine⟨_,rfl,l,rfl,⟨_,sO hl⟩,fun D hD _=>?_⟩;refine v6 (K:=K) (a:=l) (xs:=rs) (fun i zs τ H'=>∃ o,τ=[o]/\i<=rs.length/\zs=((ue es).take i).map V.int/\H' D=some (.lst zs)/\Same H H') ?_ ?_ ?_ ?_
  ·exact⟨none,rfl,zero_le _,by simp,upd_same,sW hD⟩
  ·rintro i zs τ H' ⟨o,_,_,_,_,sm⟩
   exact sO (sm _ _ hl)
  ·rintro i x zs τ H' hi ⟨o,rfl,_,rfl,hD',sm⟩
   obtain⟨e,names,he,m,ok,dd,sz⟩:=hm i x hi;have hi':i<rs.length:=(List.getElem?_eq_some_iff.mp hi).1;refine YZ ?_;refine⟨_,rfl,?_⟩;obtain⟨p1,c1,x1,f1,f2,f3,f4,f5,f6,z1,z2,z3,z4,z5,z6,z7,z8,z9⟩:=WW.call T (A:=A.deeper (PyProof.Rows.envOfC "count_words" (defScope (top 42)) s.heap.objs.size 501 cdv)) hr (m.same sm) ok dd sz;refine⟨p1,c1,x1,f1,f2,f3,f4,f5,f6,z1,z2,z3,z4,z5,z6,z7,z8,z9 _ fun p H1 t1 s1=>?_⟩;have ez:(ue es)[i]?=some ((e.size:Nat):Int):=by unfold ue;rw[List.getElem?_map,he];rfl
   refine⟨p,_,rfl,.inl (sO t1),s1 _ _ hD',?_,some x,rfl,hi',?_,upd_same,?_⟩
   ·rw[length_map]
    exact ye (le_trans (List.length_take_le _ _) (by omega))
   ·rw[take_add_one,ez,map_append,length_map,e.words_len]
    rfl
   ·have s2:=sm.trans s1
    intro b o e;have hb:b≠D:=nZ e hD;rw[upd_ne hb];exact s2 b o e
  ·rintro zs τ H' ⟨o,rfl,_,rfl,hD',sm⟩
   have el:(ue es).take rs.length=ue es:=take_of_length_le (by unfold ue;rw[length_map,hlen];exact Nat.le_refl _);rw[el] at hD';exact⟨D,ue es,rfl,sO hD',k H' sm⟩
noncomputable abbrev uR:List Str:=["me", "lines"]
noncomputable abbrev vF:List Str:=["worth", "me", "round", "lines", "to"]
noncomputable abbrev uX:List Str:=["worth", "me", "round", "lines", "sum", "least", "most", "count"]
theorem GMade.made{H:Hp}:∀ {e:Ex}{r:V},GMade K a H e.gx r->Made a H e r
 |.num i,_,⟨p,dx,e,h,_⟩=>⟨p,dx,e,h⟩
 |.name x,_,⟨p,dx,e,h,_⟩=>⟨p,dx,e,h⟩
 |.two w _ _,_,⟨p,dx,u1,u2,e,h,_,t1,t2⟩=>⟨p,dx,u1,u2,e,h,t1.made,t2.made⟩
 |.mod _ n,_,⟨p,dx,u1,e,h,_,t1⟩=>⟨p,dx,u1,e,h,t1.made⟩
 |.less _ _ _ _,_,⟨p,dx,u1,u2,u3,u4,e,h,t1,t2,t3,t4⟩=>⟨p,dx,u1,u2,u3,u4,e,h,t1.made,t2.made,t3.made,t4.made⟩
def zc3(g1 g2 g3 g4:Gx):Prop:=∃ e1 e2 e3 e4:Ex,(g1=e1.gx/\g2=e2.gx/\g3=e3.gx/\g4=e4.gx)/\(e1.ok uR/\e2.ok vF/\e3.ok vF/\e4.ok uX)/\(e1.dep<=8/\e2.dep<=8/\e3.dep<=8/\e4.dep<=8)/\e1.size+e2.size+e3.size+e4.size<=60
def Vc(K:W.Frag)(a:Ad):Sp:=fun vs H Q E=>∃ (p dx:Addr) (r1 r2 r3 r4:V) (g1 g2 g3 g4:Gx),vs=[.ref p,r1,r2,r3,r4]/\H p=some (.ins 539 dx [])/\(GMade K a H g1 r1/\GMade K a H g2 r2/\GMade K a H g3 r3/\GMade K a H g4 r4) /\
 (zc3 g1 g2 g3 g4->∀ H',Same H H'->Q .non (upd H' p (.ins 539 dx [("start",r1),("send",r2),("when",r3),("renew",r4)])))/\(¬ zc3 g1 g2 g3 g4->∀ H',Same H H'->E (.ref 56) none H')
theorem U7(T:Txt w K mg a):FnOk P w K mg base (CX1 P w) 22 515 (dK K 515) ["self", "start", "send", "when", "renew"] (Vc K a):=by
 have c_is_sound:Callee P w K mg base "is_sound" 496 (dK K 496) ["expr", "names", "deep"] 19 (xO K a 9):=⟨Vk T 9,(T.g 14 rfl),(T.fn 14 rfl).kp,(T.bi 14 rfl)⟩;have c_are_sound:Callee P w K mg base "are_sound" 489 (dK K 489) ["parts", "names", "deep"] 20 (zbM K a 9):=⟨zbg T (Vk T 9),(T.g 13 rfl),(T.fn 13 rfl).kp,(T.bi 13 rfl)⟩;have c_count_words:Callee P w K mg base "count_words" 501 (dK K 501) ["exprs"] 10 (Vj a 8):=⟨zae T 8,(T.g 15 rfl),(T.fn 15 rfl).kp,(T.bi 15 rfl)⟩;refine(T.fn 55 rfl).ok1 (scp 55 rfl) (fun vs H Q E h=>?_) (fun cdv A outer s H vs Q E hr h=>?_)
 ·obtain⟨p,dx,r1,r2,r3,r4,g1,g2,g3,g4,rfl,_⟩:=h
  rfl
 ·obtain⟨p,dx,r1,r2,r3,r4,g1,g2,g3,g4,rfl,hp,⟨m1,m2,m3,m4⟩,k,kx⟩:=h
  refine⟨_,(zS (vJ (xQ (xP (U3 c_is_sound hr.m (we (pv 1) (we (xj (v:=.ref 456) rfl (T.gg 0 rfl) rfl) (we (xj (v:=.int 8) rfl (T.gg 5 rfl) ⟨_,rfl⟩) ym))))))
    (yg (wG hr.hd (T.xc 1 rfl) (T.gg 17 rfl) (zd3 ZQ ym)))
    xh)
   (zS (vJ (xQ (xP (U3 c_are_sound hr.m (xo (XB (we (pv 2) (we (pv 3) ym))) (we (xj (v:=.ref 457) rfl (T.gg 1 rfl) rfl) (we (xj (v:=.int 8) rfl (T.gg 5 rfl) ⟨_,rfl⟩) ym))))))
    (yg (wG hr.hd (T.xc 1 rfl) (T.gg 17 rfl) (zd3 ZQ ym)))
    xh)
   (zS (vJ (xQ (xP (U3 c_is_sound hr.m (we (pv 4) (we (xj (v:=.ref 458) rfl (T.gg 2 rfl) rfl) (we (xj (v:=.int 8) rfl (T.gg 5 rfl) ⟨_,rfl⟩) ym))))))
    (yg (wG hr.hd (T.xc 1 rfl) (T.gg 17 rfl) (zd3 ZQ ym)))
    xh)
   (zS (vJ (wq u8 (U3 c_count_words hr.m (xo (XB (we (pv 1) (we (pv 2) (we (pv 3) (we (pv 4) ym))))) ym)) (xj (v:=.int 60) rfl (T.gg 4 rfl) ⟨_,rfl⟩) (zB _))
    (yg (wG hr.hd (T.xc 1 rfl) (T.gg 17 rfl) (zd3 ZQ ym)))
    xh)
   (zS (ZO (pv 0) (pv 1) rfl)
   (zS (ZO (pv 0) (pv 2) rfl)
   (zS (ZO (pv 0) (pv 3) rfl)
   (yg (ZO (pv 0) (pv 4) rfl))))))))),?_⟩
  refine⟨_,rfl,g1,r1,_,uR,8,rfl,m1,(T.gs 0 rfl),by decide,by decide,fun H1 s1=>⟨_,rfl,?_⟩⟩;by_cases q1:g1.sound uR (8:Int).toNat=true
  case neg =>
   refine zZ (by rw[not_eq_true] at q1;rw[q1];rfl) ⟨by show 1<=1000;decide,kx ?_ H1 s1⟩;rintro⟨e1,e2,e3,e4,⟨rfl,_⟩,⟨o1,_⟩,⟨d1,_⟩,_⟩;exact q1 (Ex.sound o1 d1)
  refine iZ (by rw[q1];rfl) ?_;refine⟨_,rfl,_,rfl,(by show 2<=sizeLine;decide),fun lp hlp=>?_⟩;have s2:=s1.trans (sW (o:=HO.lst [r2,r3]) hlp);refine⟨lp,_,_,_,vF,8,rfl,upd_same,zgC (m2.same s2) (m3.same s2),(T.gs 1 rfl),by decide,by decide,fun H3 s3=>⟨_,rfl,?_⟩⟩;have s3:=s2.trans s3;by_cases q2:g2.sound vF (8:Int).toNat=true
  case neg =>
   refine zZ (by rw[not_eq_true] at q2;rw[all_cons,q2];rfl) ⟨by show 1<=1000;decide,kx ?_ H3 s3⟩;rintro⟨e1,e2,e3,e4,⟨_,rfl,_⟩,⟨_,o1,_⟩,⟨_,d1,_⟩,_⟩;exact q2 (Ex.sound o1 d1)
  by_cases q3:g3.sound vF (8:Int).toNat=true
  case neg =>
   refine zZ (by rw[not_eq_true] at q3;rw[all_cons,all_cons,q2,q3];rfl) ⟨by show 1<=1000;decide,kx ?_ H3 s3⟩;rintro⟨e1,e2,e3,e4,⟨_,_,rfl,_⟩,⟨_,_,o1,_⟩,⟨_,_,d1,_⟩,_⟩;exact q3 (Ex.sound o1 d1)
  refine iZ (by rw[all_cons,all_cons,q2,q3];rfl) ?_;refine⟨_,rfl,g4,r4,_,uX,8,rfl,m4.same s3,(T.gs 2 rfl),by decide,by decide,fun H4 s4=>⟨_,rfl,?_⟩⟩;have s4:=s3.trans s4;by_cases q4:g4.sound uX (8:Int).toNat=true
  case neg =>
   refine zZ (by rw[not_eq_true] at q4;rw[q4];rfl) ⟨by show 1<=1000;decide,kx ?_ H4 s4⟩;rintro⟨e1,e2,e3,e4,⟨_,_,_,rfl⟩,⟨_,_,_,o1⟩,⟨_,_,_,d1⟩,_⟩;exact q4 (Ex.sound o1 d1)
  refine iZ (by rw[q4];rfl) ?_;obtain⟨e1,rfl,o1,d1⟩:=Gx.of_sound q1;obtain⟨e2,rfl,o2,d2⟩:=Gx.of_sound q2;obtain⟨e3,rfl,o3,d3⟩:=Gx.of_sound q3;obtain⟨e4,rfl,o4,d4⟩:=Gx.of_sound q4;have m1:=m1.made;have m2:=m2.made;have m3:=m3.made;have m4:=m4.made;refine⟨_,rfl,_,rfl,_,rfl,_,rfl,(by show 4<=sizeLine;decide),fun lq hlq=>?_⟩;have s5:=s4.trans (sW (o:=HO.lst [r1,r2,r3,r4]) hlq);refine⟨lq,_,[e1,e2,e3,e4],rfl,upd_same,by simp,⟨rfl,fun i r hi=>?_⟩,fun H6 s6=>⟨_,_,rfl,rfl,_,rfl,?_⟩⟩
  ·match i,hi with
   |0,hi=>cases hi;exact⟨e1,_,rfl,m1.same s5,o1,d1,Ex.size_line d1⟩
   |1,hi=>cases hi;exact⟨e2,_,rfl,m2.same s5,o2,d2,Ex.size_line d2⟩
   |2,hi=>cases hi;exact⟨e3,_,rfl,m3.same s5,o3,d3,Ex.size_line d3⟩
   |3,hi=>cases hi;exact⟨e4,_,rfl,m4.same s5,o4,d4,Ex.size_line d4⟩
   |_+4,hi=>simp at hi
  have s6:=s5.trans s6;have es:(ue [e1,e2,e3,e4]).sum=(e1.size+e2.size+e3.size+e4.size:Nat):=by
   simp[ue];omega
  rw[es];by_cases hz:e1.size+e2.size+e3.size+e4.size<=60
  case neg =>
   refine zZ (decide_eq_true (by show((e1.size+e2.size+e3.size+e4.size:Nat):Int)>60;omega)) ⟨by show 1<=1000;decide,kx ?_ H6 s6⟩;rintro⟨f1,f2,f3,f4,⟨h1,h2,h3,h4⟩,_,_,z⟩;cases Ex.gx_inj h1;cases Ex.gx_inj h2;cases Ex.gx_inj h3;cases Ex.gx_inj h4;exact hz z
  refine iZ (decide_eq_false (by show ¬ ((e1.size+e2.size+e3.size+e4.size:Nat):Int)>60;omega)) ?_;refine⟨_,rfl,_,rfl,p,539,dx,_,rfl,s6 _ _ hp,(T.cl 6 rfl),(T.na 6 0 rfl rfl),(by show 0<1000;decide),?_⟩;refine⟨_,rfl,_,rfl,p,539,dx,_,rfl,upd_same,(T.cl 6 rfl),(T.na 6 1 rfl rfl),(by show 1<1000;decide),?_⟩;refine⟨_,rfl,_,rfl,p,539,dx,_,rfl,upd_same,(T.cl 6 rfl),(T.na 6 2 rfl rfl),(by show 2<1000;decide),?_⟩;refine⟨_,rfl,_,rfl,p,539,dx,_,rfl,upd_same,(T.cl 6 rfl),(T.na 6 3 rfl rfl),(by show 3<1000;decide),?_⟩;rw[yH,yH,yH];exact k ⟨e1,e2,e3,e4,⟨rfl,rfl,rfl,rfl⟩,⟨o1,o2,o3,o4⟩,⟨d1,d2,d3,d4⟩,hz⟩ H6 s6
end
end K04
namespace L2
open PySem PySem.Spec PyProof.Rows PySem.Builtin PySem.Builtin.Str
section
variable {X:Cx}
def zgZ:V->Option Int->Option Int->Hp->VK->Prop:=fun x lo hi H Q=>∃ z,x=.str z/\z.length<=sizeLine/\Q (.str (Txt.slice z lo hi)) H
theorem Xs:SlR X zgZ:=by
 intro pins s σ H x v vl vu lo hi sl Q I rx hs pl pu h;obtain⟨z,rfl,hz,q⟩:=h;obtain⟨t,rfl⟩:=rx;refine⟨"str",_,F.slot_str_getitem.lookup,typeIs_str _ _ _,?_⟩;cases pl with
 |none =>
  cases pu with
  |none=>exact wpAny_getItem_str_slice (l:=none) (u:=none) (st:=none) hs rfl (post_val_or_str ⟨le_trans (Txt.slice_le z _ _) hz,fun t' k=>⟨.str _,H,I.tok _,⟨_,rfl⟩,q⟩⟩)
  |int j u=>exact wpAny_getItem_str_slice (l:=none) (u:=some (j,u)) (st:=none) hs rfl (post_val_or_str ⟨le_trans (Txt.slice_le z _ _) hz,fun t' k=>⟨.str _,H,I.tok _,⟨_,rfl⟩,q⟩⟩)
 |int i v =>
  cases pu with
  |none=>exact wpAny_getItem_str_slice (l:=some (i,v)) (u:=none) (st:=none) hs rfl (post_val_or_str ⟨le_trans (Txt.slice_le z _ _) hz,fun t' k=>⟨.str _,H,I.tok _,⟨_,rfl⟩,q⟩⟩)
  |int j u=>exact wpAny_getItem_str_slice (l:=some (i,v)) (u:=some (j,u)) (st:=none) hs rfl (post_val_or_str ⟨le_trans (Txt.slice_le z _ _) hz,fun t' k=>⟨.str _,H,I.tok _,⟨_,rfl⟩,q⟩⟩)
end
end L2
namespace K04
open PySem L2 PySem.NumText PySem.W.KIN
theorem wP{x y:Str}(h:x.cps.toList=y.cps.toList):x=y:=by
 apply Str.ext';exact Array.toList_inj.mp h
theorem wQ(x:Str)(c:Nat):Txt.startswith x ⟨#[c]⟩=decide (x.cps.toList.head?=some c):=by
 rw[Bool.eq_iff_iff,decide_eq_true_eq];unfold Txt.startswith;rw[and_eq_true,decide_eq_true_eq,StrLaws.subAt_one,List.head?_eq_getElem?]
theorem vD{x:Str}{c:Nat}{r:List Nat}(h:x.cps.toList=c::r):(Txt.slice x (some 1) none).cps.toList=r:=by
 have hl:x.length=r.length+1:=by
  show x.cps.size=_;rw[<- length_toList,h];rfl
 have e:=eq_of_beq (PyProof.Rows.slice_closes_fromL (x:=x) (i:=1) (b:=x.length) (by decide) (by omega) rfl);rw[e,h];show((List.drop 1 (c::r)).take _)=r;rw[List.drop_succ_cons,drop_zero];exact take_of_length_le (by omega)
theorem ut{x:Str}(h:x.length<=22):Txt.slice x none (some 22)=x:=by
 rw[PyProof.Rows.slice_to_beyond (by omega)];have e:=eq_of_beq (PyProof.Rows.slice_closes_toL (x:=x) (j:=x.length) (by omega) (by omega));rw[e];apply wP;show((x.cps.toList.drop 0).take _)=_;rw[drop_zero];exact take_of_length_le (by rw[length_toList];show x.length<=_;omega)
noncomputable def Yb(c:Nat):Bool:=decide (c∈("0123456789" : Str).cps.toList)
noncomputable def yN(x:Str):Str:=if Txt.startswith x "-" then Txt.slice x (some 1) none else x
def WZ(x:Str):Bool:=decide (yN x ≠ "")&&(decide (x = "0")||!Txt.startswith (yN x) "0")
def ua(x:Str):Bool:=(yN x).cps.toList.all Yb&&WZ x
theorem Z7:("-" : Str)=⟨#[45]⟩:=by decide +kernel
theorem contains_one(x:Str)(c:Nat):Txt.contains x ⟨#[c]⟩=decide (c∈x.cps.toList):=StrLaws.found_one x c
noncomputable def wZ(c:Nat):List (List Nat)->List Nat
 |[]=>[]
 |[x]=>x
 |x::y::r=>x++c::wZ c (y::r)
theorem xq(c:Nat):∀ ws:List Str,(Str.join ⟨#[c]⟩ ws).cps.toList=wZ c (ws.map (·.cps.toList))
 |[]=>rfl
 |[x]=>rfl
 |x::y::r=>by
  show(x++⟨#[c]⟩++Str.join ⟨#[c]⟩ (y::r)).cps.toList=_;rw[Str.cps_append,Str.cps_append,Array.toList_append,Array.toList_append,xq c (y::r)];simp[wZ]
theorem Us{c:Nat}:∀ {x y a b:List Nat},c∉x->c∉y->x++c::a=y++c::b->x=y/\a=b
 |[],[],a,b,_,_,h=>⟨rfl,by simpa using h⟩
 |[],y::ys,a,b,_,hy,h=>by
  have:c=y:=by simpa using(List.cons.inj h).1
  exact absurd (this ▸ mem_cons_self ..) hy
 |x::xs,[],a,b,hx,_,h=>by
  have:x=c:=by simpa using(List.cons.inj h).1
  exact absurd (this ▸ mem_cons_self ..) hx
 |x::xs,y::ys,a,b,hx,hy,h=>by
  have e:=List.cons.inj h;obtain⟨h1,h2⟩:=Us (fun z=>hx (mem_cons_of_mem _ z)) (fun z=>hy (mem_cons_of_mem _ z)) e.2;exact⟨by rw[e.1,h1],h2⟩
theorem XX{c:Nat}:∀ {us vs:List (List Nat)},us≠[]->vs≠[]->(∀ u∈us,c∉u)->(∀ v∈vs,c∉v)->wZ c us=wZ c vs->us=vs
 |[u],[v],_,_,_,_,h=>by
  have:u=v:=h;rw[this]
 |[u],v::v'::vs,_,_,hu,_,h=>by
  have h:u=v++c::wZ c (v'::vs):=h;have:=hu u (mem_singleton.mpr rfl);rw[h] at this;exact absurd (by simp) this
 |u::u'::us,[v],_,_,_,hv,h=>by
  have h:u++c::wZ c (u'::us)=v:=h;have:=hv v (mem_singleton.mpr rfl);rw[<- h] at this;exact absurd (by simp) this
 |u::u'::us,v::v'::vs,_,_,hu,hv,h=>by
  have h:u++c::wZ c (u'::us)=v++c::wZ c (v'::vs):=h;obtain⟨e1,e2⟩:=Us (hu u (mem_cons_self ..)) (hv v (mem_cons_self ..)) h;have ih:=XX (us:=u'::us) (vs:=v'::vs) (by simp) (by simp) (fun x hx=>hu x (mem_cons_of_mem _ hx)) (fun x hx=>hv x (mem_cons_of_mem _ hx)) e2;rw[e1,ih]
theorem VT:∀ {us vs:List Str},us.map (·.cps.toList)=vs.map (·.cps.toList)->us=vs
 |[],[],_=>rfl
 |[],_::_,h=>by cases h
 |_::_,[],h=>by cases h
 |u::us,v::vs,h=>by
  have e:=List.cons.inj h;rw[wP e.1,VT e.2]
theorem ve(x y:Str):Txt.split x y≠[]:=by
 unfold Txt.split
 split
 ·simp
 ·split
  ·simp
  ·rw[StrLaws.partsBetween_eq]
   obtain⟨p,r,e⟩:=StrLaws.partsFrom_ne x y.length 0 (Builtin.Str.occurrences x y 0 x.length (x.length+1));rw[e];simp
theorem wS{c:Nat}{ws:List Str}(hn:ws≠[])(hf:∀ w∈ws,c∉w.cps.toList):Txt.split (Txt.join ⟨#[c]⟩ ws) ⟨#[c]⟩=ws:=by
 have e0:Txt.join ⟨#[c]⟩ ws=Str.join ⟨#[c]⟩ ws:=StrLaws.glued_eq_join _ _;have e1:=StrLaws.join_split (Txt.join ⟨#[c]⟩ ws) ⟨#[c]⟩;have e2:(Str.join ⟨#[c]⟩ (Txt.split (Txt.join ⟨#[c]⟩ ws) ⟨#[c]⟩)).cps.toList=(Str.join ⟨#[c]⟩ ws).cps.toList:=by rw[e1,e0]
 rw[xq,xq] at e2;refine VT (XX (c:=c) (by simpa using ve _ _) (by simpa using hn) ?_ ?_ e2)
 ·intro u hu
  obtain⟨p,hp,rfl⟩:=mem_map.mp hu;exact StrLaws.split_free _ c p hp
 ·intro u hu
  obtain⟨p,hp,rfl⟩:=mem_map.mp hu;exact hf p hp
theorem xm(x y:Str):(Builtin.Str.partsBetween x (Builtin.Str.occurrences x y 0 x.length (x.length+1)) y.length).length<=x.length+2:=by
 unfold Builtin.Str.partsBetween;have:=StrLaws.occ_length_le x y 0 x.length (x.length+1);simp;omega
end K04
namespace K04
open PySem L2
noncomputable abbrev allNs:List Str:=["worth", "me", "round", "lines", "to", "sum", "least", "most", "count"]
noncomputable abbrev xy:List (Str×Int):=[("add",2),("sub",2),("min",2),("max",2),("mod",2),("less",4)]
noncomputable def zen:List Ex->Option (List Ex)
 |e1::e2::e3::e4::r=>some (.less e1 e2 e3 e4::r)
 |_=>none
noncomputable def zgz:List Ex->Option (List Ex)
 |e1::.num n::r=>some (.mod e1 n::r)
 |_=>none
noncomputable def zf7(w:Str):List Ex->Option (List Ex)
 |e1::e2::r=>some (.two w e1 e2::r)
 |_=>none
theorem less_no:inV (.str "less") (allNs.map V.str)=false/\ua "less" = false/\tabV xy "less" = some 4:=by decide +kernel
theorem mod_no:inV (.str "mod") (allNs.map V.str)=false/\ua "mod" = false/\tabV xy "mod" = some 2:=by decide +kernel
theorem vo{w:Str}(h:zdc w):inV (.str w) (allNs.map V.str)=false/\ua w=false/\tabV xy w=some 2:=by
 rcases h with rfl | rfl | rfl | rfl<;>decide +kernel
theorem zdt{w:Str}(h:zdc w):w ≠ "less" /\ w ≠ "mod" := by
 rcases h with rfl | rfl | rfl | rfl<;>decide +kernel
theorem uP{w:Str}{i:Int}(h:tabV xy w=some i):w = "less" \/ w = "mod" \/ zdc w:=by
 unfold tabV at h;obtain⟨p,hp,_⟩:=map_eq_some_iff.mp h;have hm:=List.mem_of_find?_eq_some hp;have he:=List.find?_some hp;have he:p.1=w:=by simpa using he
 subst he;simp only[mem_cons,not_mem_nil,or_false] at hm;rcases hm with rfl | rfl | rfl | rfl | rfl | rfl
 ·exact .inr (.inr (.inl rfl))
 ·exact .inr (.inr (.inr (.inl rfl)))
 ·exact .inr (.inr (.inr (.inr (.inl rfl))))
 ·exact .inr (.inr (.inr (.inr (.inr rfl))))
 ·exact .inr (.inl rfl)
 ·exact .inl rfl
theorem Xl{w:Str}(h:inV (.str w) (allNs.map V.str)=true\/ua w=true):tabV xy w=none:=by
 cases e:tabV xy w with
 |none=>rfl
 |some i =>
  have z:inV (.str w) (allNs.map V.str)=false/\ua w=false:=by
   rcases uP e with rfl | rfl | t
   ·exact⟨less_no.1,less_no.2.1⟩
   ·exact⟨mod_no.1,mod_no.2.1⟩
   ·exact⟨(vo t).1,(vo t).2.1⟩
  rw[z.1,z.2] at h;rcases h with h | h<;>cases h
theorem Xn{B:Nat}:∀ {ws:List Str},(∀ w∈ws,w.length<=B)->(ws.map (·.length)).sum<=ws.length*B
 |[],_=>by simp
 |w::ws,h=>by
  have:=Xn (ws:=ws) fun x hx=>h x (mem_cons_of_mem _ hx);have:=h w (mem_cons_self ..);simp only[map_cons,List.sum_cons,length_cons,Nat.succ_mul];omega
theorem Zj{c B:Nat}{ws:List Str}(h:∀ w∈ws,w.length<=B):(Txt.join ⟨#[c]⟩ ws).length<=ws.length*B+ws.length:=by
 have e0:Txt.join ⟨#[c]⟩ ws=Str.join ⟨#[c]⟩ ws:=StrLaws.glued_eq_join _ _;rw[e0];have h1:=StrLaws.join_length_le ⟨#[c]⟩ ws;have h2:=Xn h;have e:(⟨#[c]⟩:Str).length=1:=rfl;rw[e] at h1;omega
theorem zcz{c B:Nat}{ws:List Str}(h:∀ w∈ws,w.length<=B)(hz:ws.length*B+ws.length<=100000):JoinOk ⟨#[c]⟩ ws=true:=by
 unfold JoinOk;rw[StrLaws.joinTotal,not_eq_true'];have h2:=Xn h;have e:(⟨#[c]⟩:Str).length=1:=rfl;rw[e];unfold Builtin.Str.tooLong;have e2:sizeLine=16777216:=rfl;rw[decide_eq_false_iff_not,e2,Nat.mul_one];omega
theorem XI{c d:Nat}:∀ {ws:List (List Nat)},d∈wZ c ws->d=c\/∃ w∈ws,d∈w
 |[],h=>by cases h
 |[x],h=>.inr ⟨x,mem_singleton.mpr rfl,h⟩
 |x::y::r,h=>by
  have h:d∈x++c::wZ c (y::r):=h;rcases mem_append.mp h with h | h
  ·exact .inr ⟨x,mem_cons_self ..,h⟩
  rcases mem_cons.mp h with h | h
  ·exact .inl h
  ·rcases XI h with h | ⟨w,hw,h⟩
   ·exact .inl h
   ·exact .inr ⟨w,mem_cons_of_mem _ hw,h⟩
theorem mem_join{c d:Nat}{ws:List Str}(h:d∈(Txt.join ⟨#[c]⟩ ws).cps.toList):d=c\/∃ w∈ws,d∈w.cps.toList:=by
 have e0:Txt.join ⟨#[c]⟩ ws=Str.join ⟨#[c]⟩ ws:=StrLaws.glued_eq_join _ _;rw[e0,xq] at h;rcases XI h with h | ⟨w,hw,h⟩
 ·exact .inl h
 ·obtain⟨p,hp,rfl⟩:=mem_map.mp hw
  exact .inr ⟨p,hp,h⟩
theorem yT:(" " : Str)=⟨#[32]⟩:=by decide +kernel
theorem vj:("\n" : Str)=⟨#[10]⟩:=by decide +kernel
end K04
namespace K04
open PySem L2 PySem.NumText PySem.W.KIN
theorem zcY(ws:List Str):(Txt.join " " ws).cps.toList=wZ 32 (ws.map (·.cps.toList)):=by
 rw[yT];have e0:Txt.join ⟨#[32]⟩ ws=Str.join ⟨#[32]⟩ ws:=StrLaws.glued_eq_join _ _;rw[e0,xq]
theorem v8(x:Str):x.cps.toList.length=x.length:=length_toList
theorem vE(x:Str):(Txt.slice x none (some 22)).cps.toList=x.cps.toList.take 22:=by
 by_cases h:x.length<=22
 ·rw[ut h,take_of_length_le (by rw[v8];exact h)]
 ·have e:=eq_of_beq (PyProof.Rows.slice_closes_toL (x:=x) (j:=22) (by omega) (by omega))
  rw[show(some 22:Option Int)=some ((22:Nat):Int) from rfl] at e ⊢;rw[e];show((x.cps.toList.drop 0).take _)=_;rw[drop_zero];rfl
theorem zcQ{l:List Nat}(h:l.all Yb=true):AllDigits l:=fun c hc=>by
 have:=all_eq_true.mp h c hc;have:=of_decide_eq_true this;have e:("0123456789" : Str).cps.toList=[48,49,50,51,52,53,54,55,56,57]:=by decide +kernel
 rw[e] at this;simp only[mem_cons,not_mem_nil,or_false] at this;omega
noncomputable def zcm(w:Str):Int:=(intText? (Txt.slice w none (some 22))).getD 0
theorem Z2{x:Str}(h:ua x=true):intText? (Txt.slice x none (some 22))=some (zcm x):=by
 have key:∃ n,intText? (Txt.slice x none (some 22))=some n:=by
  unfold ua at h;rw[and_eq_true] at h;obtain⟨h1,h2⟩:=h;have d1:=zcQ h1;have hl:(Txt.slice x none (some 22)).length<=22:=by
   rw[<- v8,vE];exact le_trans (List.length_take_le _ _) (Nat.le_refl _)
  have ne:yN x ≠ "" := by
   unfold WZ at h2;rw[and_eq_true] at h2;exact of_decide_eq_true h2.1
  have ne':(yN x).cps.toList≠[]:=fun z=>ne (wP (by rw[z];decide +kernel));by_cases q:Txt.startswith x "-" = true
  ·have q':=q
   rw[Z7,wQ,decide_eq_true_eq] at q';cases e:x.cps.toList with
   |nil=>rw[e] at q';cases q'
   |cons c r =>
    rw[e] at q';have hc:c=45:=Option.some.inj q';subst hc;have ef:(yN x).cps.toList=r:=by
     unfold yN;rw[if_pos q];exact vD e
    rw[ef] at d1 ne';refine⟨_,intText_neg (cs:=r.take 21) ?_ (fun c hc=>d1 c (mem_of_mem_take hc)) ?_ (by omega)⟩
    ·rw[vE,e]
     rfl
    ·intro z
     cases r with
     |nil=>exact ne' rfl
     |cons a b=>cases z
  ·have ef:yN x=x:=by
    unfold yN;exact if_neg q
   rw[ef] at d1 ne';refine⟨_,intText_digits (x:=Txt.slice x none (some 22)) ?_ ?_ (by omega)⟩
   ·rw[vE]
    exact fun c hc=>d1 c (mem_of_mem_take hc)
   ·rw[vE]
    intro z;cases hx:x.cps.toList with
    |nil=>exact ne' hx
    |cons a b=>rw[hx] at z;cases z
 obtain⟨n,e⟩:=key;unfold zcm;rw[e];rfl
def wF(w:Str)(es:List Ex):Option (List Ex) :=
 if inV (.str w) (allNs.map V.str)=true then some (.name w::es)
 else if ua w=true then some (.num (zcm w)::es)
 else if w = "less" then zen es
 else if w = "mod" then zgz es
 else if w∈twoWs then zf7 w es
 else none
def rdG(w:Str)(acc:Option (List Ex)):Option (List Ex):=acc.bind (wF w)
theorem Xy:∀ ws:List Str,ws.foldr rdG none=none
 |[]=>rfl
 |w::ws=>by
  show rdG w (ws.foldr rdG none)=none;rw[Xy ws];rfl
noncomputable def zha:Option (List Ex)->Option Ex
 |some [e]=>some e
 |_=>none
def uY(ws:List Str):Option Ex:=zha (ws.foldr rdG (some []))
def zbQ(first row:Str):Option Ex:=match Txt.split row " " with
 |w::ws=>if w=first then uY ws else none
 |[]=>none
theorem vw{w:Str}{es:List Ex}(h1:inV (.str w) (allNs.map V.str)=false)(h2:ua w=false) :
  (tabV xy w=none/\wF w es=none)\/(w = "less" /\ wF w es=zen es)\/(w = "mod" /\ wF w es=zgz es)\/(zdc w/\wF w es=zf7 w es):=by
 unfold wF;rw[if_neg (by rw[h1];simp),if_neg (by rw[h2];simp)];by_cases h3:w = "less"
 ·exact .inr (.inl ⟨h3,if_pos h3⟩)
 rw[if_neg h3];by_cases h4:w = "mod"
 ·exact .inr (.inr (.inl ⟨h4,if_pos h4⟩))
 rw[if_neg h4];by_cases h5:w∈twoWs
 ·exact .inr (.inr (.inr ⟨by simpa using h5,if_pos h5⟩))
 ·refine .inl ⟨?_,if_neg h5⟩
  cases e:tabV xy w with
  |none=>rfl
  |some i =>
   rcases uP e with h | h | h
   ·exact absurd h h3
   ·exact absurd h h4
   ·exact absurd (by simpa using h) h5
theorem Wf{w:Str}{es es':List Ex}(h:wF w es=some es'):∃ e',es'=e'::es.drop ((tabV xy w).getD 0).toNat:=by
 by_cases h1:inV (.str w) (allNs.map V.str)=true
 ·unfold wF at h
  rw[if_pos h1] at h;cases h;exact⟨_,by rw[Xl (.inl h1)];rfl⟩
 by_cases h2:ua w=true
 ·unfold wF at h
  rw[if_neg h1,if_pos h2] at h;cases h;exact⟨_,by rw[Xl (.inr h2)];rfl⟩
 rcases vw (es:=es) (eq_false_iff.mpr h1) (eq_false_iff.mpr h2) with⟨_,e⟩ | ⟨rfl,e⟩ | ⟨rfl,e⟩ | ⟨t,e⟩
 ·rw[e] at h;cases h
 ·rw[e] at h
  match es,h with
  |e1::e2::e3::e4::r,h=>cases h;exact⟨_,by rw[less_no.2.2];rfl⟩
 ·rw[e] at h
  match es,h with
  |e1::.num n::r,h=>cases h;exact⟨_,by rw[mod_no.2.2];rfl⟩
 ·rw[e] at h
  match es,h with
  |e1::e2::r,h=>cases h;exact⟨_,by rw[(vo t).2.2];rfl⟩
end K04
namespace K04
open PySem L2
theorem yk{x y:Str}:decide (V.str x=V.str y)=decide (x=y):=by
 by_cases h:x=y
 ·rw[decide_eq_true h,decide_eq_true (by rw[h])]
 ·rw[decide_eq_false h,decide_eq_false (by intro z;exact h (V.str.inj z))]
section
variable {P:Program}{w:World}{K:W.Frag}{mg:Str->Option Value}{base:Heap}{a:Ad}
def Asc(x:Str):Prop:=x.cps.all (· < 128)=true/\x.length<=sizeLine
theorem Xb{x:Str}(h:∀ c∈x.cps.toList,c<128):x.cps.all (· < 128)=true:=by
 rw[<- Array.all_toList,all_eq_true];intro c hc;exact decide_eq_true (h c hc)
theorem Asc.mem{x:Str}(h:Asc x):∀ c∈x.cps.toList,c<128:=fun c hc=>by
 have:=h.1;rw[<- Array.all_toList,all_eq_true] at this;exact of_decide_eq_true (this c hc)
theorem zaP{x:Str}(h:Asc x):Asc (yN x):=by
 unfold yN;by_cases q:Txt.startswith x "-" = true
 ·rw[if_pos q]
  refine⟨Xb fun c hc=>?_,le_trans (Txt.slice_le x _ _) h.2⟩;rw[Z7,wQ,decide_eq_true_eq] at q;cases e:x.cps.toList with
  |nil=>rw[e] at q;cases q
  |cons d r =>
   rw[vD e] at hc;exact h.mem c (by rw[e];exact mem_cons_of_mem _ hc)
 ·rw[if_neg q];exact h
def YC:Sp:=fun vs H Q _=>∃ x,vs=[.str x]/\Asc x/\Q (.bl (ua x)) H
theorem XF(T:Txt w K mg a):FnOk P w K mg base CX0 1 550 (dK K 550) ["word"] YC:=by
 refine(T.fn 16 rfl).ok (scp 16 rfl) (fun vs H Q E h=>?_) (fun cdv A outer s H vs Q E hr h=>?_)
 ·obtain⟨x,rfl,_⟩:=h
  rfl
 ·obtain⟨x,rfl,ha,k⟩:=h
  refine zR (y9 (zr (i:=1) (scp 16 rfl).nd rfl (Or.inl rfl) (yQ (zH (zY F.plainAttrs_str F.slot_str_startswith F.type_str_startswith xE (zj 0) (zy zi zb))) (zA Xs (zj 0) (w_po_some zg) zD) (zj 0)))
   (zd (yt PassesOwn.never rfl (Xg (zj 1)) (zE (i:=2) (scp 16 rfl).nd rfl (Or.inl rfl))
    (ze (zv (zp ZU (zj 2) (yd (v:=.str "0123456789") rfl (T.gg 8 rfl) ⟨_,rfl⟩) (by with_unfolding_all rfl))
     (ze (zm zM))
     zo)))
   (ze (zm (yp (zO wv (zj 1) zi (zB _)) (yo (WM (zO yX (zj 0) zi (zB _)) (yo (uK (zY F.plainAttrs_str F.slot_str_startswith F.type_str_startswith xE (zj 1) (zy zi zb))))))))))) ?_
  refine⟨fun σ' H'=>σ'=[some (.str x),some (.str (yN x)),none]/\H'=H,?_,?_⟩
  ·refine⟨_,rfl,rfl,_,_,rfl,rfl,_,rfl,?_⟩
   by_cases q:Txt.startswith x "-" = true
   ·refine zZ q ⟨_,rfl,_,rfl,x,rfl,ha.2,?_⟩
    rw[show Txt.slice x (some 1) none=yN x by unfold yN;rw[if_pos q]];exact⟨rfl,rfl⟩
   ·refine iZ (eq_false_iff.mpr q) ⟨_,rfl,?_⟩
    refine⟨?_,rfl⟩;unfold yN;rw[if_neg q];rfl
  rintro σ' H' ⟨rfl,rfl⟩;generalize hf:yN x=f;have haf:Asc f:=hf ▸ zaP ha;refine⟨_,rfl,f,rfl,haf.1,?_⟩;refine zcL (x:=f) (fun i σ H2=>∃ o,σ=[some (.str x),some (.str f),o]/\H2=H'/\(f.cps.toList.take i).all Yb=true) ?_ ?_ ?_
  ·exact⟨none,rfl,rfl,by simp⟩
  ·rintro i c σ H2 hc ⟨o,rfl,rfl,hall⟩
   refine⟨_,rfl,_,_,rfl,rfl,_,rfl,?_⟩;rw[contains_one];by_cases q:Yb c=true
   ·refine iZ (by show(!(decide (c∈_)))=false;rw[show decide _=true from q];rfl) ?_
    refine⟨_,rfl,rfl,?_⟩;rw[take_add_one,hc,List.all_append,hall];simp[q]
   ·refine zZ (by show(!(decide (c∈_)))=true;rw[show decide _=false from eq_false_iff.mpr q];rfl) ?_
    have e:ua x=false:=by
     unfold ua;rw[hf];have:f.cps.toList.all Yb=false:=List.all_eq_false.mpr ⟨c,mem_of_getElem? hc,q⟩;rw[this];rfl
    rw[e] at k;exact k
  ·rintro σ H2 ⟨o,rfl,rfl,hall⟩
   rw[take_length] at hall;have e:ua x=WZ x:=by
    unfold ua;rw[hf,hall];rfl
   rw[e] at k;unfold WZ at k;rw[hf] at k;refine⟨_,rfl,rfl,_,rfl,?_⟩;by_cases q:f = ""
   ·refine iZ (by rw[yk,decide_eq_true q];rfl) ?_
    rw[decide_eq_false (by simpa using q)] at k;exact k
   ·refine zZ (by rw[yk,decide_eq_false q];rfl) ?_
    rw[decide_eq_true q,Bool.true_and] at k;refine⟨_,rfl,rfl,_,rfl,?_⟩;rw[yk];by_cases q0:x = "0"
    ·refine zZ (decide_eq_true q0) ?_
     rw[decide_eq_true q0] at k;exact k
    ·refine iZ (decide_eq_false q0) ⟨_,rfl,rfl,_,_,rfl,rfl,_,rfl,?_⟩
     rw[decide_eq_false q0] at k;exact k
def Vd:Sp:=fun vs H Q _=>∃ x,vs=[.str x]/\x.length<=sizeLine/\ua x=true/\Q (.int (zcm x)) H
theorem U8(T:Txt w K mg a):FnOk P w K mg base CX0 1 557 (dK K 557) ["word"] Vd:=by
 refine(T.fn 17 rfl).ok (scp 17 rfl) (fun vs H Q E h=>?_) (fun cdv A outer s H vs Q E hr h=>?_)
 ·obtain⟨x,rfl,_⟩:=h
  rfl
 ·obtain⟨x,rfl,hz,hn,k⟩:=h
  refine zR (ze (zm (zF Yl (by rfl) (T.n 1 rfl) uG (zn (zA Xs (zj 0) zD (w_po_some zg)) zb)))) ?_;have hl:(Txt.slice x none (some 22)).length<=22:=by
   rw[<- v8,vE];exact List.length_take_le _ _
  exact⟨_,rfl,_,rfl,x,rfl,hz,_,_,rfl,Z2 hn,by omega,k⟩
def MadeL(a:Ad)(H:Hp):List V->List Ex->Prop
 |[],[]=>True
 |r::rs,e::es=>Made a H e r/\MadeL a H rs es
 |_,_=>False
theorem MadeL.same{H H':Hp}(k:Same H H'):∀ {rs:List V}{es:List Ex},MadeL a H rs es->MadeL a H' rs es
 |[],[],_=>trivial
 |_::_,_::_,⟨h,t⟩=>⟨h.same k,MadeL.same k t⟩
theorem MadeL.cons{H:Hp}{rs:List V}{e:Ex}{es:List Ex}(h:MadeL a H rs (e::es)):∃ r rs',rs=r::rs'/\Made a H e r/\MadeL a H rs' es:=by
 match rs,h with
 |r::rs',⟨h1,h2⟩=>exact⟨r,rs',rfl,h1,h2⟩
theorem MadeL.nil{H:Hp}{rs:List V}(h:MadeL a H rs []):rs=[]:=by
 match rs,h with
 |[],_=>rfl
theorem MadeL.drop{H:Hp}:∀ (n:Nat){rs:List V}{es:List Ex},MadeL a H rs es->MadeL a H (rs.drop n) (es.drop n)
 |0,_,_,h=>h
 |_+1,[],[],h=>h
 |n+1,_::_,_::_,⟨_,t⟩=>MadeL.drop n t
theorem MadeL.len{H:Hp}:∀ {rs:List V}{es:List Ex},MadeL a H rs es->rs.length=es.length
 |[],[],_=>rfl
 |_::_,_::_,⟨_,t⟩=>by rw[length_cons,length_cons,MadeL.len t]
def zaZ(a:Ad):Sp:=fun vs H Q _=>∃ x l rs es,vs=[.str x,.ref l]/\Asc x/\H l=some (.lst rs)/\MadeL a H rs es /\
 (∀ e' rest,wF x es=some (e'::rest)->∀ r H',Made a H' e' r->Same H H'->Q r H')/\(wF x es=none->Q .non H)
theorem zb9(T:Txt w K mg a):FnOk P w K mg base CX0 3 564 (dK K 564) ["word", "parts"] (zaZ a):=by
 have c_is_number_word:=cal P base T 16 rfl (XF T);have c_number_of:=cal P base T 17 rfl (U8 T);have m_Num:Maker P w K mg base "Num" 293 269 (dK K 269) ["self", "value"] 1 (ze4 293 "value"):=⟨YO T,(T.gc 1 rfl),(T.mm 1 rfl),(T.bi 45 rfl)⟩;have m_Name:Maker P w K mg base "Name" 333 309 (dK K 309) ["self", "word"] 1 (ze4 333 "word"):=⟨ZZ T,(T.gc 2 rfl),(T.mm 2 rfl),(T.bi 47 rfl)⟩;have m_Two:Maker P w K mg base "Two" 373 349 (dK K 349) ["self", "word", "one", "other"] 1 (zgl 373 "word" "one" "other"):=⟨YN T,(T.gc 3 rfl),(T.mm 3 rfl),(T.bi 49 rfl)⟩;have m_Mod:Maker P w K mg base "Mod" 413 389 (dK K 389) ["self", "inner", "number"] 1 (zgm 413 "inner" "number"):=⟨YQ T,(T.gc 4 rfl),(T.mm 4 rfl),(T.bi 51 rfl)⟩;have m_Less:Maker P w K mg base "Less" 453 429 (dK K 429) ["self", "one", "other", "third", "fourth"] 1 (zgk 453 "one" "other" "third" "fourth"):=⟨Z1 T,(T.gc 5 rfl),(T.mm 5 rfl),(T.bi 53 rfl)⟩;refine(T.fn 18 rfl).ok (scp 18 rfl) (fun vs H Q E h=>?_) (fun cdv A outer s H vs Q E hr h=>?_)
 ·obtain⟨x,l,rs,es,rfl,_⟩:=h
  rfl
 ·obtain⟨x,l,rs,es,rfl,ha,hl,hm,k,kn⟩:=h
  refine zR (zd (zv (zp yv (zj 0) (yd (v:=.ref 459) rfl (T.gg 6 rfl) rfl) (by with_unfolding_all rfl))
    (ze (zm (ul m_Name hr.m (zh (zj 0) zb))))
    zo)
   (zd (zv (zH (zG c_is_number_word hr.m (zh (zj 0) zb)))
    (ze (zm (ul m_Num hr.m (yj (zG c_number_of hr.m (zh (zj 0) zb)) zb))))
    zo)
   (zd (zv (uc (yP (zp VB (zj 0) (yd (v:=.ref 461) rfl (T.gg 7 rfl) rfl) (by with_unfolding_all rfl)) (yR (zp YJ (zq zx (by rfl) (T.n 0 rfl) yf (zh (zj 1) zb)) (zw zey (yd (v:=.ref 461) rfl (T.gg 7 rfl) rfl) (zj 0) (fun _ _=>rfl)) (zB _)))))
    (ze (zm zJ))
    zo)
   (zd (zv (zp yX (zj 0) zi (zB _))
    (ze (zm (ul m_Less hr.m (zn (zw zC (zj 1) zg (fun _ _=>rfl)) (zn (zw zC (zj 1) zg (fun _ _=>rfl)) (zn (zw zC (zj 1) zg (fun _ _=>rfl)) (zn (zw zC (zj 1) zg (fun _ _=>rfl)) zb)))))))
    zo)
   (zd (zv (zp yX (zj 0) zi (zB _))
    (ze (zm (yQ (zH (zq zK (by rfl) (T.n 5 rfl) zu (zn (zw zC (zj 1) zg (fun _ _=>rfl)) (zh (yG (T.gc 1 rfl)) zb)))) (ul m_Mod hr.m (zn (zw zC (zj 1) zg (fun _ _=>rfl)) (zn (zI (zw zC (zj 1) zg (fun _ _=>rfl)) rfl) zb))) zJ)))
    zo)
   (ze (zm (ul m_Two hr.m (zh (zj 0) (zn (zw zC (zj 1) zg (fun _ _=>rfl)) (zn (zw zC (zj 1) zg (fun _ _=>rfl)) zb))))))))))) ?_
  refine⟨_,rfl,_,_,rfl,.inr ((T.gs 4 rfl) H),rfl,flat_strs allNs,_,rfl,?_⟩;by_cases h1:inV (.str x) (allNs.map V.str)=true
  ·refine zZ h1 ⟨_,rfl,fun p dx nx ndx nex=>⟨p,dx,_,rfl,upd_same,rfl,?_⟩⟩
   exact k (.name x) es (by unfold wF;rw[if_pos h1]) _ _ ⟨p,dx,rfl,upd_same⟩ (Same.made nx ndx)
  have h1':=eq_false_iff.mpr h1;refine iZ h1' ⟨_,rfl,x,rfl,ha,_,rfl,?_⟩;by_cases h2:ua x=true
  ·refine zZ h2 ⟨_,rfl,x,rfl,ha.2,h2,?_⟩
   refine fun p dx nx ndx nex=>⟨p,dx,_,rfl,upd_same,rfl,?_⟩;exact k (.num (zcm x)) es (by unfold wF;rw[if_neg h1,if_pos h2]) _ _ ⟨p,dx,rfl,upd_same⟩ (Same.made nx ndx)
  have h2':=eq_false_iff.mpr h2;refine iZ h2' ?_;have hlen:=hm.len;rcases vw (es:=es) h1' h2' with⟨tn,e⟩ | ⟨rfl,e⟩ | ⟨rfl,e⟩ | ⟨t,e⟩
  ·refine⟨_,rfl,_,_,_,rfl,rfl,(T.sd 0 rfl),_,rfl,zZ (by rw[tn];rfl) ?_⟩
   exact kn e
  ·refine⟨_,rfl,_,_,_,rfl,rfl,(T.sd 0 rfl),_,rfl,iZ (by rw[less_no.2.2];rfl) ?_⟩
   refine⟨_,rfl,l,_,rfl,.inl (sO hl),_,rfl,_,_,_,4,rfl,rfl,(T.sd 0 rfl),less_no.2.2,_,_,rfl,rfl,_,rfl,?_⟩
   match es,hm,hlen,e with
   |e1::e2::e3::e4::r,hm,hlen,e =>
    obtain⟨r1,rs1,rfl,m1,hm⟩:=hm.cons;obtain⟨r2,rs2,rfl,m2,hm⟩:=hm.cons;obtain⟨r3,rs3,rfl,m3,hm⟩:=hm.cons;obtain⟨r4,rs4,rfl,m4,hm⟩:=hm.cons;refine iZ (decide_eq_false (by simp only[length_cons];omega)) ?_;refine⟨_,rfl,rfl,_,rfl,zZ (by decide +kernel) ?_⟩;refine⟨_,rfl,l,_,0,_,rfl,rfl,sO hl,zN (j:=0) rfl,_,rfl,l,_,1,_,rfl,rfl,sO hl,zN (j:=1) rfl,_,rfl,l,_,2,_,rfl,rfl,sO hl,zN (j:=2) rfl,_,rfl,l,_,3,_,rfl,rfl,sO hl,zN (j:=3) rfl,?_⟩;refine fun p dx nx ndx nex=>⟨p,dx,_,_,_,_,rfl,upd_same,rfl,?_⟩;have s5:Same H _:=Same.made (C:=453) (fs:=[("one",r1),("other",r2),("third",r3),("fourth",r4)]) (fs':=[]) nx ndx;exact k (.less e1 e2 e3 e4) r e _ _ ⟨p,dx,r1,r2,r3,r4,rfl,upd_same,m1.same s5,m2.same s5,m3.same s5,m4.same s5⟩ s5
   |[],_,hlen,e=>exact zZ (decide_eq_true (by show(rs.length:Int)<4;rw[hlen];simp)) (kn e)
   |[_],_,hlen,e=>exact zZ (decide_eq_true (by show(rs.length:Int)<4;rw[hlen];simp)) (kn e)
   |[_,_],_,hlen,e=>exact zZ (decide_eq_true (by show(rs.length:Int)<4;rw[hlen];simp)) (kn e)
   |[_,_,_],_,hlen,e=>exact zZ (decide_eq_true (by show(rs.length:Int)<4;rw[hlen];simp)) (kn e)
  ·refine⟨_,rfl,_,_,_,rfl,rfl,(T.sd 0 rfl),_,rfl,iZ (by rw[mod_no.2.2];rfl) ?_⟩
   refine⟨_,rfl,l,_,rfl,.inl (sO hl),_,rfl,_,_,_,2,rfl,rfl,(T.sd 0 rfl),mod_no.2.2,_,_,rfl,rfl,_,rfl,?_⟩
   match es,hm,hlen,e with
   |[],_,hlen,e=>exact zZ (decide_eq_true (by show(rs.length:Int)<2;rw[hlen];simp)) (kn e)
   |[_],_,hlen,e=>exact zZ (decide_eq_true (by show(rs.length:Int)<2;rw[hlen];simp)) (kn e)
   |e1::e2::r,hm,hlen,e =>
    obtain⟨r1,rs1,rfl,m1,hm⟩:=hm.cons;obtain⟨r2,rs2,rfl,m2,hm⟩:=hm.cons;refine iZ (decide_eq_false (by simp only[length_cons];omega)) ?_;refine⟨_,rfl,rfl,_,rfl,iZ (by decide +kernel) ?_⟩;refine⟨_,rfl,rfl,_,rfl,zZ (by decide +kernel) ?_⟩;cases e2 with
    |num n =>
     obtain⟨p2,dx2,rfl,h2⟩:=m2;refine⟨_,rfl,l,_,1,_,rfl,rfl,sO hl,zN (j:=1) rfl,_,_,_,_,_,rfl,rfl,(T.ty 1 rfl) H p2 dx2 _ h2,(T.k 18 rfl),_,rfl,vc ?_⟩;refine⟨_,rfl,l,_,0,_,rfl,rfl,sO hl,zN (j:=0) rfl,_,rfl,l,_,1,_,rfl,rfl,sO hl,zN (j:=1) rfl,p2,_,dx2,_,_,rfl,h2,(T.cl 1 rfl),(T.na 1 0 rfl rfl),rfl,?_⟩;refine fun p dx nx ndx nex=>⟨p,dx,_,_,rfl,upd_same,rfl,?_⟩;have s5:Same H _:=Same.made (C:=413) (fs:=[("inner",r1),("number",.int n)]) (fs':=[]) nx ndx;exact k (.mod e1 n) r e _ _ ⟨p,dx,r1,rfl,upd_same,m1.same s5⟩ s5
    |name y =>
     obtain⟨p2,dx2,rfl,h2⟩:=m2;exact⟨_,rfl,l,_,1,_,rfl,rfl,sO hl,zN (j:=1) rfl,_,_,_,_,_,rfl,rfl,(T.ty 2 rfl) H p2 dx2 _ h2,(T.k 19 rfl),_,rfl,iZ rfl (kn e)⟩
    |two y f g =>
     obtain⟨p2,dx2,_,_,rfl,h2,_⟩:=m2;exact⟨_,rfl,l,_,1,_,rfl,rfl,sO hl,zN (j:=1) rfl,_,_,_,_,_,rfl,rfl,(T.ty 3 rfl) H p2 dx2 _ h2,(T.k 21 rfl),_,rfl,iZ rfl (kn e)⟩
    |mod f n =>
     obtain⟨p2,dx2,_,rfl,h2,_⟩:=m2;exact⟨_,rfl,l,_,1,_,rfl,rfl,sO hl,zN (j:=1) rfl,_,_,_,_,_,rfl,rfl,(T.ty 4 rfl) H p2 dx2 _ h2,(T.k 24 rfl),_,rfl,iZ rfl (kn e)⟩
    |less f g h i =>
     obtain⟨p2,dx2,_,_,_,_,rfl,h2,_⟩:=m2;exact⟨_,rfl,l,_,1,_,rfl,rfl,sO hl,zN (j:=1) rfl,_,_,_,_,_,rfl,rfl,(T.ty 5 rfl) H p2 dx2 _ h2,(T.k 28 rfl),_,rfl,iZ rfl (kn e)⟩
  ·obtain⟨n1,n2,n3⟩:=vo t
   obtain⟨n4,n5⟩:=zdt t;refine⟨_,rfl,_,_,_,rfl,rfl,(T.sd 0 rfl),_,rfl,iZ (by rw[n3];rfl) ?_⟩;refine⟨_,rfl,l,_,rfl,.inl (sO hl),_,rfl,_,_,_,2,rfl,rfl,(T.sd 0 rfl),n3,_,_,rfl,rfl,_,rfl,?_⟩
   match es,hm,hlen,e with
   |[],_,hlen,e=>exact zZ (decide_eq_true (by show(rs.length:Int)<2;rw[hlen];simp)) (kn e)
   |[_],_,hlen,e=>exact zZ (decide_eq_true (by show(rs.length:Int)<2;rw[hlen];simp)) (kn e)
   |e1::e2::r,hm,hlen,e =>
    obtain⟨r1,rs1,rfl,m1,hm⟩:=hm.cons;obtain⟨r2,rs2,rfl,m2,hm⟩:=hm.cons;refine iZ (decide_eq_false (by simp only[length_cons];omega)) ?_;refine⟨_,rfl,rfl,_,rfl,iZ (by rw[yk];exact decide_eq_false n4) ?_⟩;refine⟨_,rfl,rfl,_,rfl,iZ (by rw[yk];exact decide_eq_false n5) ?_⟩;refine⟨_,rfl,_,rfl,l,_,0,_,rfl,rfl,sO hl,zN (j:=0) rfl,_,rfl,l,_,1,_,rfl,rfl,sO hl,zN (j:=1) rfl,?_⟩;refine fun p dx nx ndx nex=>⟨p,dx,_,_,_,rfl,upd_same,rfl,?_⟩;have s5:Same H _:=Same.made (C:=373) (fs:=[("word",.str x),("one",r1),("other",r2)]) (fs':=[]) nx ndx;exact k (.two x e1 e2) r e _ _ ⟨p,dx,r1,r2,rfl,upd_same,m1.same s5,m2.same s5⟩ s5
theorem ze7{x:V}{xs:List V}:uj (x::xs) (some 1) none=xs:=by
 have h1:HT.sIx (x::xs).length 0 (some 1)=1:=by
  unfold HT.sIx;simp
 have h2:HT.sIx (x::xs).length (x::xs).length none=xs.length+1:=rfl;unfold uj;rw[h1,h2];simp
theorem at0{x:V}{xs:List V}:atI (x::xs) 0=some x:=by
 unfold atI ixN;simp
theorem vk{xs:List V}(k:Nat):uj xs (some (k:Int)) none=xs.drop k:=by
 have h1:HT.sIx xs.length 0 (some (k:Int))=min k xs.length:=by
  unfold HT.sIx;simp;omega
 have h2:HT.sIx xs.length xs.length none=xs.length:=rfl;unfold uj;rw[h1,h2];by_cases h:k<=xs.length
 ·rw[min_eq_left h]
  exact take_of_length_le (by simp)
 ·rw[Nat.min_eq_right (by omega),List.drop_eq_nil_of_le (Nat.le_refl _),List.drop_eq_nil_of_le (by omega)]
  simp
theorem zdv(w:Str):(tabV xy w).getD 0=(((tabV xy w).getD 0).toNat:Int):=by
 cases e:tabV xy w with
 |none=>rfl
 |some i =>
  have:0<=i:=by
   rcases uP e with rfl | rfl | h
   ·rw[less_no.2.2] at e;cases e;decide
   ·rw[mod_no.2.2] at e;cases e;decide
   ·rw[(vo h).2.2] at e;cases e;decide
  show i=(i.toNat:Int);omega
theorem Made.ref{a:Ad}{H:Hp}:∀ {e:Ex}{r:V},Made a H e r->∃ p,r=.ref p
 |.num _,_,⟨p,_,h,_⟩=>⟨p,h⟩
 |.name _,_,⟨p,_,h,_⟩=>⟨p,h⟩
 |.two _ _ _,_,⟨p,_,_,_,h,_⟩=>⟨p,h⟩
 |.mod _ _,_,⟨p,_,_,h,_⟩=>⟨p,h⟩
 |.less _ _ _ _,_,⟨p,_,_,_,_,_,h,_⟩=>⟨p,h⟩
theorem Made.no{a:Ad}{H:Hp}{e:Ex}{r:V}(h:Made a H e r):decide (r=.non)=false:=by
 obtain⟨p,rfl⟩:=h.ref;rfl
def Xq(a:Ad):Sp:=fun vs H Q _=>∃ (l:Addr) (ws:List Str),vs=[.ref l]/\H l=some (.lst (ws.map V.str))/\(∀ w∈ws,Asc w)/\ws.length<=1000 /\
 (∀ e,uY ws=some e->∀ r H',Made a H' e r->Same H H'->Q r H')/\(uY ws=none->∀ H',Same H H'->Q .non H')
theorem VH(T:Txt w K mg a):FnOk P w K mg base CX0 4 571 (dK K 571) ["words"] (Xq a):=by
 have c_read_part:=cal P base T 18 rfl (zb9 T);refine(T.fn 19 rfl).ok (scp 19 rfl) (fun vs H Q E h=>?_) (fun cdv A outer s H vs Q E hr h=>?_)
 ·obtain⟨l,ws,rfl,_⟩:=h
  rfl
 ·obtain⟨l,ws,rfl,hl,hasc,hlen,k,kn⟩:=h
  refine zR (zd (zr (i:=1) (scp 19 rfl).nd rfl (Or.inl rfl) (zt zb))
   (zd (yt PassesOwn.never rfl (uI rfl (T.n 15 rfl) (zh (zj 0) zb)) (zE (i:=2) (scp 19 rfl).nd rfl (Or.inl rfl))
    (zd (zr (i:=3) (scp 19 rfl).nd rfl (Or.inl rfl) (zG c_read_part hr.m (zh (zj 2) (zh (zj 1) zb))))
    (zd (zv (zp VD (zj 3) zJ (zB _))
     (ze (zm zJ))
     zo)
    (ze (zr (i:=1) (scp 19 rfl).nd rfl (Or.inl rfl) (zk zL (zt (zh (zj 3) zb)) (zA zQ (zj 1) (w_po_some (X9 (yd (v:=.ref 461) rfl (T.gg 7 rfl) rfl) (zj 2) zg ⟨rfl,rfl,rfl,rfl⟩)) zD)))))))
   (ze (zm (yQ (zp yX (zq zx (by rfl) (T.n 0 rfl) yf (zh (zj 1) zb)) zg (zB _)) (zw zC (zj 1) zg (fun _ _=>rfl)) zJ))))) ?_
  refine⟨by show 0<=sizeLine;decide,fun q0 hq0=>?_⟩;have s0:=sW (o:=HO.lst []) hq0;refine⟨_,rfl,l,_,rfl,sO (s0 _ _ hl),?_⟩;refine zcM (K:=K) (a:=l) (xs:=ws.map V.str) (fun i σ H'=>∃ q rs es o2 o3,σ=[some (.ref l),some (.ref q),o2,o3]/\Same H H'/\H' q=some (.lst rs)/\MadeL a H' rs es/\(ws.drop (ws.length-i)).foldr rdG (some [])=some es/\rs.length<=i) ?_ ?_ ?_ ?_
  ·exact⟨q0,[],[],none,none,rfl,s0,upd_same,trivial,by rw[Nat.sub_zero,List.drop_length];rfl,Nat.le_refl _⟩
  ·rintro i σ H' _ ⟨q,rs,es,o2,o3,_,sm,_⟩
   exact sO (sm _ _ hl)
  ·rintro i x σ H' hx ⟨q,rs,es,o2,o3,rfl,sm,hq,hm,hes,hrs⟩
   have hi:i<ws.length:=by
    have:=(List.getElem?_eq_some_iff.mp hx).1
    simpa using this
   rw[List.getElem?_reverse (by simpa using hi),length_map,List.getElem?_map] at hx;obtain⟨wd,hwd,rfl⟩:=map_eq_some_iff.mp hx;have hj:ws.length-1-i<ws.length:=by omega
   have ej:ws.drop (ws.length-(i+1))=wd::ws.drop (ws.length-i):=by
    rw[show ws.length-(i+1)=ws.length-1-i by omega,List.drop_eq_getElem_cons hj,show ws.length-1-i+1=ws.length-i by omega]
    congr 1
    exact(List.getElem?_eq_some_iff.mp hwd).2
   have ew:ws=ws.take (ws.length-(i+1))++wd::ws.drop (ws.length-i):=by
    rw[<- ej,List.take_append_drop]
   have e1:(ws.drop (ws.length-(i+1))).foldr rdG (some [])=wF wd es:=by
    rw[ej];show rdG wd ((ws.drop (ws.length-i)).foldr rdG (some []))=_;rw[hes];rfl
   refine⟨_,rfl,_,rfl,wd,q,rs,es,rfl,hasc wd (mem_of_getElem? hwd),hq,hm,fun e' rest hst r H1 m1 s1=>?_,fun hst=>?_⟩
   ·obtain⟨e'',he⟩:=Wf hst
    cases he;refine⟨_,rfl,rfl,_,rfl,iZ m1.no ?_⟩;refine⟨_,rfl,(by show 1<=sizeLine;decide),fun p1 hp1=>?_⟩;have s2:=s1.trans (sW (o:=HO.lst [r]) hp1);refine⟨_,rfl,_,_,rfl,(T.sd 0 rfl),_,rfl,_,_,rfl,rfl,_,rfl,q,rs,rfl,sO (s2 _ _ hq),fun p2 hp2=>?_⟩;rw[zdv,vk];generalize hk:((tabV xy wd).getD 0).toNat=kk at *;have s3:=s2.trans (sW (o:=HO.lst (rs.drop kk)) hp2);have hd:(rs.drop kk).length<=i:=le_trans (by simp) hrs;refine⟨p1,p2,[r],rs.drop kk,rfl,rfl,(sW hp2) _ _ upd_same,upd_same,(by rw[List.length_singleton];exact le_trans (show 1+(rs.drop kk).length<=2000 by omega) (by decide)),fun p3 hp3=>?_⟩;have s4:=sW (o:=HO.lst ([r]++rs.drop kk)) hp3;refine⟨p3,[r]++rs.drop kk,e'::es.drop kk,_,_,rfl,sm.trans (s3.trans s4),upd_same,⟨?_,?_⟩,e1.trans hst,?_⟩
    ·exact m1.same ((sW (o:=HO.lst [r]) hp1).trans ((sW hp2).trans s4))
    ·exact(hm.drop kk).same (s3.trans s4)
    ·rw[length_append,List.length_singleton]
     omega
   ·refine⟨_,rfl,rfl,_,rfl,zZ rfl (kn ?_ _ sm)⟩
    unfold uY;have:ws.foldr rdG (some [])=none:=by
     conv=>lhs;rw[ew]
     rw[List.foldr_append];have:(wd::ws.drop (ws.length-i)).foldr rdG (some [])=none:=by rw[<- ej,e1,hst]
     rw[this];exact Xy _
    rw[this];rfl
  ·rintro σ H' ⟨q,rs,es,o2,o3,rfl,sm,hq,hm,hes,hrs⟩
   rw[length_map,sub_self,drop_zero] at hes;have hlen:=hm.len;refine⟨_,rfl,q,_,rfl,.inl (sO hq),rfl,_,rfl,?_⟩
   match es,hm,hes,hlen with
   |[e],hm,hes,hlen =>
    obtain⟨r,rs',rfl,m1,hm⟩:=hm.cons;cases hm.nil;exact zZ rfl ⟨_,rfl,q,_,0,_,rfl,rfl,sO hq,at0,k e (by unfold uY;rw[hes];rfl) _ _ m1 sm⟩
   |[],hm,hes,hlen=>exact iZ (decide_eq_false (by rw[hlen];simp)) (kn (by unfold uY;rw[hes];rfl) _ sm)
   |e::f::r,hm,hes,hlen=>exact iZ (decide_eq_false (by rw[hlen];simp;omega)) (kn (by unfold uY;rw[hes];rfl) _ sm)
structure Fit (row:Str):Prop where
 len:row.length<=100000
 asc:∀ w∈Txt.split row " ",Asc w
 cnt:(Txt.split row " ").length<=1000
def zdN(a:Ad):Sp:=fun vs H Q _=>∃ (row first:Str),vs=[.str row,.str first]/\Fit row /\
 (∀ e,zbQ first row=some e->∀ r H',Made a H' e r->Same H H'->Q r H')/\(zbQ first row=none->∀ H',Same H H'->Q .non H')
theorem zed(T:Txt w K mg a):FnOk P w K mg base CX0 5 578 (dK K 578) ["row", "first"] (zdN a):=by
 have c_read_words:=cal P base T 19 rfl (VH T);refine(T.fn 20 rfl).ok (scp 20 rfl) (fun vs H Q E h=>?_) (fun cdv A outer s H vs Q E hr h=>?_)
 ·obtain⟨row,first,rfl,_⟩:=h
  rfl
 ·obtain⟨row,first,rfl,hf,k,kn⟩:=h
  refine zR (zd (zr (i:=2) (scp 20 rfl).nd rfl (Or.inl rfl) (zY F.plainAttrs_str F.slot_str_split F.type_str_split xF (zj 0) (zy zi zb)))
   (ze (zm (yQ (zp yX (zw zC (zj 2) zg (fun _ _=>rfl)) (zj 1) (zB _)) (zG c_read_words hr.m (zn (zA zQ (zj 2) (w_po_some zg) zD) zb)) zJ)))) ?_
  obtain⟨hl,ha,hc⟩:=hf;have hp:=xm row " ";have e2:sizeLine=16777216:=rfl;refine⟨_,rfl,rfl,_,_,rfl,rfl,(by decide +kernel),(by omega),(by omega),(by omega),fun p hp=>?_⟩;have hne:=ve row " ";unfold zbQ at k kn;generalize hs:Txt.split row " " = ws at *;cases ws with
  |nil=>exact absurd rfl hne
  |cons f ws =>
   have s0:=sW (o:=HO.lst ((f::ws).map V.str)) hp;refine⟨_,rfl,p,_,0,_,rfl,rfl,sO upd_same,at0,_,rfl,rfl,_,rfl,?_⟩;rw[yk];by_cases hf:f=first
   ·refine zZ (decide_eq_true hf) ?_
    simp only[if_pos hf] at k kn;refine⟨_,rfl,_,rfl,p,_,rfl,sO upd_same,fun p2 hp2=>?_⟩;rw[map_cons,ze7];have s1:=s0.trans (sW (o:=HO.lst (ws.map V.str)) hp2);exact⟨p2,ws,rfl,upd_same,fun w hw=>ha w (mem_cons_of_mem _ hw),by rw[length_cons] at hc;omega,fun e he r H' m sm=>k e he r H' m (s1.trans sm),fun he H' sm=>kn he H' (s1.trans sm)⟩
   ·refine iZ (decide_eq_false hf) ?_
    simp only[if_neg hf] at k kn;exact kn trivial _ s0
theorem Made.updL{a:Ad}{H:Hp}{D:Addr}{zs:List V}{o:HO}(hD:H D=some (.lst zs)){e:Ex}{v:V}(t:Made a H e v):Made a (L2.upd H D o) e v:=t.mono fun b C dx fs h=>by
 have hb:b≠D:=Z5 h hD (by intro z;cases z);rw[upd_ne hb];exact h
def GoodE(e1 e2 e3 e4:Ex):Prop:=(e1.ok uR/\e1.dep<=8)/\(e2.ok vF/\e2.dep<=8)/\(e3.ok vF/\e3.dep<=8)/\(e4.ok uX/\e4.dep<=8)/\e1.size+e2.size+e3.size+e4.size<=60
theorem good_gx{e1 e2 e3 e4:Ex}:zc3 e1.gx e2.gx e3.gx e4.gx↔GoodE e1 e2 e3 e4:=by
 constructor
 ·rintro⟨f1,f2,f3,f4,⟨h1,h2,h3,h4⟩,⟨o1,o2,o3,o4⟩,⟨d1,d2,d3,d4⟩,z⟩
  cases Ex.gx_inj h1;cases Ex.gx_inj h2;cases Ex.gx_inj h3;cases Ex.gx_inj h4;exact⟨⟨o1,d1⟩,⟨o2,d2⟩,⟨o3,d3⟩,⟨o4,d4⟩,z⟩
 ·rintro⟨⟨o1,d1⟩,⟨o2,d2⟩,⟨o3,d3⟩,⟨o4,d4⟩,z⟩
  exact⟨e1,e2,e3,e4,⟨rfl,rfl,rfl,rfl⟩,⟨o1,o2,o3,o4⟩,⟨d1,d2,d3,d4⟩,z⟩
theorem ZV(T:Txt w K mg a):FnOk P w K mg base CX0 1 72 (dK K 72) ["self", "row"] (Vp 75 "row"):=by
 refine(T.fn 61 rfl).ok (scp 61 rfl) (fun vs H Q E h=>?_) (fun cdv A outer s H vs Q E hr h=>?_)
 ·obtain⟨p,v,rfl,_⟩:=h
  rfl
 ·obtain⟨p,v,rfl,hp,k⟩:=h
  refine zR (ze (WH (zj 0) (zj 1) rfl)) ?_;exact⟨_,rfl,_,rfl,p,_,rfl,hp,(T.xs 0 rfl),(T.xt 0 rfl),fun d hd=>k d hd⟩
structure Hs (hs:LI):Prop where
 l1:1<=hs.length
 l12:hs.length<=12
 up:hs.Pairwise (· < ·)
 lo:∀ h∈hs,0<=h
 hi:∀ h∈hs,h<=99
structure Ls (hs:LI) (ls:LP):Prop where
 nd:ls.Nodup
 ok:∀ p∈ls,p.1∈hs/\p.2∈hs/\p.1<p.2
 le:ls.length<=66
def Adj(ls:LP)(x y:Int):Prop:=(x,y)∈ls\/(y,x)∈ls
theorem uM{as:LI}(h:as.Pairwise (· < ·)):as.Nodup:=h.imp fun {a b} z=>by omega
theorem zco:∀ {as bs:LI},as.Nodup->(∀ x∈as,x∈bs)->as.length<=bs.length
 |[],_,_,_=>zero_le _
 |a::as,bs,hn,hs=>by
  rw[nodup_cons] at hn;have ha:=hs a mem_cons_self;have ih:=zco (as:=as) (bs:=bs.erase a) hn.2 fun x hx=>by
   have ne:x≠a:=fun z=>hn.1 (by rw[<- z];exact hx);exact(List.mem_erase_of_ne ne).mpr (hs x (mem_cons_of_mem _ hx))
  rw[List.length_erase_of_mem ha] at ih;have:=length_pos_of_mem ha;rw[length_cons];omega
def nbs(ls:LP)(h:Int):LI:=ls.flatMap fun p=>(if p.1=h then[p.2] else[])++if p.2=h then[p.1] else[]
theorem zcq{ls:LP}{h x:Int}:x∈nbs ls h↔Adj ls h x:=by
 unfold nbs Adj;rw[List.mem_flatMap]
 constructor
 ·rintro⟨⟨u,v⟩,hp,hx⟩
  dsimp only at hx;rw[mem_append] at hx;rcases hx with hx | hx
  ·split at hx
   ·rename_i e;subst e
    rw[mem_singleton] at hx;subst hx;exact .inl hp
   ·cases hx
  ·split at hx
   ·rename_i e;subst e
    rw[mem_singleton] at hx;subst hx;exact .inr hp
   ·cases hx
 ·rintro(h1 | h1)
  ·exact⟨_,h1,by simp⟩
  ·exact⟨_,h1,by simp⟩
theorem VQ{h:Int}:∀ {ls:LP},(nbs ls h).length<=2*ls.length
 |[]=>Nat.le_refl _
 |p::ls=>by
  have ih:=VQ (h:=h) (ls:=ls);unfold nbs at ih ⊢;rw[List.flatMap_cons,length_append,length_append,length_cons];have h1:(if p.1=h then[p.2] else[]).length<=1:=by split<;>simp
  have h2:(if p.2=h then[p.1] else[]).length<=1:=by split<;>simp
  omega
theorem zaj{ls:LP}{p:Int×Int}{h:Int}:nbs (ls++[p]) h=nbs ls h++((if p.1=h then[p.2] else[])++if p.2=h then[p.1] else[]):=by
 unfold nbs;rw[List.flatMap_append,List.flatMap_cons,List.flatMap_nil,append_nil]
theorem zai{ls:LP}{p:Int×Int}{i:Nat}{h:Int}(e:ls[i]?=some p):nbs (ls.take (i+1)) h=nbs (ls.take i) h++((if p.1=h then[p.2] else[])++if p.2=h then[p.1] else[]):=by
 rw[take_add_one,e];exact zaj
def LnAt(H:Hp)(rs:List V)(ls:LP):Prop:=rs.length=ls.length/\∀ (i:Nat) r p,rs[i]?=some r->ls[i]?=some p->∃ q,r=.ref q/\H q=some (.tup [.int p.1,.int p.2])
theorem LnAt.same{H H':Hp}{rs:List V}{ls:LP}(h:LnAt H rs ls)(s:Same H H'):LnAt H' rs ls:=⟨h.1,fun i r p h1 h2=>by
 obtain⟨q,e,t⟩:=h.2 i r p h1 h2;exact⟨q,e,s _ _ t⟩⟩
theorem LnAt.get{H:Hp}{rs:List V}{ls:LP}(h:LnAt H rs ls){i:Nat}{r:V}(e:rs[i]?=some r):∃ p q,ls[i]?=some p/\r=.ref q/\H q=some (.tup [.int p.1,.int p.2]):=by
 have hi:i<ls.length:=by rw[<- h.1];exact(List.getElem?_eq_some_iff.mp e).1
 have hp:ls[i]?=some ls[i]:=by simp[hi]
 obtain⟨q,e1,e2⟩:=h.2 i r _ e hp;exact⟨_,q,hp,e1,e2⟩
theorem xW{x:Int}:∀ {ns:LI},inV (.int x) (ns.map V.int)=decide (x∈ns)
 |[]=>by simp[inV]
 |n::ns=>by
  have ih:=xW (x:=x) (ns:=ns);unfold inV at ih ⊢;rw[map_cons,any_cons,ih];show((n == x)||decide (x∈ns))=decide (x∈n::ns);by_cases e:n=x
  ·simp[e]
  ·have e':¬ x=n:=fun z=>e z.symm
   simp[e,e']
theorem xX(ns:LI):(ns.map V.int).all wK=true:=by
 rw[all_eq_true];intro v hv;obtain⟨x,_,rfl⟩:=mem_map.mp hv;rfl
def uT:Sp:=fun vs H Q _=>∃ i:Int,vs=[.int i]/\Q (.bl true) H
theorem u9(T:Txt w K mg a):FnOk P w K mg base CX0 1 96 (dK K 96) ["value"] uT:=by
 refine(T.fn 0 rfl).ok (scp 0 rfl) (fun vs H Q E h=>?_) (fun cdv A outer s H vs Q E hr h=>?_)
 ·obtain⟨i,rfl,_⟩:=h
  rfl
 ·obtain⟨i,rfl,k⟩:=h
  refine⟨_,(yg (xx (XD (yJ zK (by rfl) (T.n 5 rfl) zu (we (pv 0) (we (uv (T.n 1 rfl) uG) ym))) (Vw (zbc (yJ zK (by rfl) (T.n 5 rfl) zu (we (pv 0) (we (uv (T.n 12 rfl) Zu) ym)))))))),?_⟩;refine⟨_,rfl,_,_,_,_,_,rfl,rfl,.int i,(T.k 0 rfl),_,rfl,vc ?_⟩;exact⟨_,rfl,_,_,_,_,_,rfl,rfl,.int i,(T.k 1 rfl),_,rfl,k⟩
def Vg:Sp:=fun vs H Q _=>∃ (h:Addr) (hs:LI),vs=[.ref h]/\H h=some (.lst (hs.map V.int))/\∀ b:Bool,(b=true↔Hs hs)->Q (.bl b) H
theorem zac(T:Txt w K mg a):FnOk P w K mg base CX0 2 585 (dK K 585) ["hands"] Vg:=by
 have c_is_whole:=cal P base T 0 rfl (u9 T);refine(T.fn 21 rfl).ok (scp 21 rfl) (fun vs H Q E h=>?_) (fun cdv A outer s H vs Q E hr h=>?_)
 ·obtain⟨h,hs,rfl,_⟩:=h
  rfl
 ·obtain⟨h,hs,rfl,hh,k⟩:=h
  have no:¬Hs hs->Q (.bl false) H:=fun n=>k false ⟨fun z=>(nomatch z),fun z=>absurd z n⟩;refine⟨_,(zS (vJ (PW.pt (ZL (xQ (xP (yJ zK (by rfl) (T.n 5 rfl) zu (we (pv 0) (we (uv (T.n 6 rfl) wA) ym))))) (ZL (wq YJ (yJ zx (by rfl) (T.n 0 rfl) yf (we (pv 0) ym)) wg (zB _)) (uu (wq u8 (yJ zx (by rfl) (T.n 0 rfl) yf (we (pv 0) ym)) (xj (v:=.int 12) rfl (T.gg 9 rfl) ⟨_,rfl⟩) (zB _))))))
    (yg (xx uf))
    xh)
   (zS (ZM (i:=1) (scp 21 rfl).nd rfl (Or.inl rfl) (zd1 WV wg))
   (zS (ZN PassesOwn.never rfl (wV (pv 0)) (wt (i:=2) (scp 21 rfl).nd rfl (Or.inl rfl))
    (zS (vJ (PW.pt (ZL (xQ (xP (U3 c_is_whole hr.m (we (pv 2) ym)))) (ZL (wq zb7 (pv 2) (pv 1) (zB _)) (uu (wq u8 (pv 2) (xj (v:=.int 99) rfl (T.gg 10 rfl) ⟨_,rfl⟩) (zB _))))))
     (yg (xx uf))
     xh)
    (yg (ZM (i:=1) (scp 21 rfl).nd rfl (Or.inl rfl) (pv 2)))))
   (yg (xx uf))))),?_⟩
  refine⟨_,rfl,_,_,_,_,_,rfl,rfl,.lst hh,(T.k 2 rfl),_,rfl,iZ rfl ?_⟩;refine⟨_,rfl,h,_,rfl,.inl (sO hh),_,_,rfl,rfl,_,rfl,zcA (fun z=>?_) (fun z1=>?_)⟩
  ·have z:=of_decide_eq_true z
   rw[length_map] at z;exact no fun W=>by have:=W.l1;omega
  refine⟨_,rfl,h,_,rfl,.inl (sO hh),_,_,rfl,rfl,_,rfl,zcA (fun z=>?_) (fun z2=>?_)⟩
  ·have z:=of_decide_eq_true z
   rw[length_map] at z;exact no fun W=>by have:=W.l12;omega
  have w1:1<=hs.length:=by
   have:¬ (((hs.map V.int).length:Int)<1):=fun z=>z1 (decide_eq_true z);rw[length_map] at this;omega
  have w12:hs.length<=12:=by
   have:¬ (12<((hs.map V.int).length:Int)):=fun z=>z2 (decide_eq_true z);rw[length_map] at this;omega
  refine⟨1,rfl,_,rfl,h,rfl,⟨_,sO hh⟩,?_⟩;refine for_list (K:=K) (a:=h) (xs:=hs.map V.int) (fun i σ H'=>H'=H/\∃ (m:Int) (o:Option V),σ=[some (.ref h),some (.int m),o]/\-1<=m/\(m = -1\/m∈hs.take i)/\(hs.take i).Pairwise (· < ·)/\∀ x∈hs.take i,0<=x/\x<=99/\x<=m) ?_ ?_ ?_ ?_
  ·exact⟨rfl,-1,none,rfl,Int.le_refl _,.inl rfl,by simp,fun x hx=>by simp at hx⟩
  ·rintro i σ H' _ ⟨rfl,_⟩
   exact sO hh
  ·rintro i x σ H' hi ⟨rfl,m,o,rfl,hm,hor,up,hall⟩
   rw[List.getElem?_map] at hi;obtain⟨y,hy,rfl⟩:=map_eq_some_iff.mp hi;have hym:=mem_of_getElem? hy;have etk:hs.take (i+1)=hs.take i++[y]:=by rw[take_add_one,hy];rfl
   have bef:Hs hs->∀ u∈hs.take i,u<y:=fun W u hu=>by
    have:=W.up;rw[<- List.take_append_drop (i+1) hs,etk,append_assoc,pairwise_append] at this;exact this.2.2 u hu y (by simp)
   refine⟨_,rfl,y,rfl,_,rfl,iZ rfl ?_⟩;refine⟨_,rfl,_,rfl,_,_,rfl,rfl,_,rfl,zcA (fun z=>?_) (fun z1=>?_)⟩
   ·have z:=of_decide_eq_true z
    refine no fun W=>?_;have h0:=W.lo y hym;rcases hor with e | e
    ·omega
    ·have:=bef W m e
     omega
   refine⟨_,rfl,_,_,rfl,rfl,_,rfl,zcA (fun z=>?_) (fun z2=>?_)⟩
   ·have z:=of_decide_eq_true z
    exact no fun W=>by have:=W.hi y hym;omega
   have z1:¬ (y<=m):=fun z=>z1 (decide_eq_true z);have z2:¬ (99<y):=fun z=>z2 (decide_eq_true z);refine⟨_,rfl,rfl,y,_,rfl,by omega,.inr (by rw[etk];simp),?_,fun u hu=>?_⟩
   ·rw[etk,pairwise_append]
    refine⟨up,by simp,fun u hu v hv=>?_⟩;rw[mem_singleton.mp hv];have:=(hall u hu).2.2;omega
   ·rw[etk] at hu
    rcases mem_append.mp hu with e | e
    ·have:=hall u e
     omega
    ·rw[mem_singleton.mp e]
     omega
  ·rintro σ H' ⟨rfl,m,o,rfl,hm,hor,up,hall⟩
   rw[length_map,take_length] at up hall;exact k true ⟨fun _=>⟨w1,w12,up,fun x hx=>(hall x hx).1,fun x hx=>(hall x hx).2.1⟩,fun _=>rfl⟩
def OkP(hs:LI)(p:Int×Int):Prop:=p.1∈hs/\p.2∈hs/\p.1<p.2
def za2:Sp:=fun vs H Q _=>∃ (q h:Addr) (hs:LI) (p:Int×Int),vs=[.ref q,.ref h]/\H q=some (.tup [.int p.1,.int p.2])/\H h=some (.lst (hs.map V.int))/\∀ b:Bool,(b=true↔OkP hs p)->Q (.bl b) H
theorem zcc(T:Txt w K mg a):FnOk P w K mg base CX0 2 592 (dK K 592) ["line", "hands"] za2:=by
 have c_is_whole:=cal P base T 0 rfl (u9 T);refine(T.fn 22 rfl).ok (scp 22 rfl) (fun vs H Q E h=>?_) (fun cdv A outer s H vs Q E hr h=>?_)
 ·obtain⟨q,h,hs,p,rfl,_⟩:=h
  rfl
 ·obtain⟨q,h,hs,⟨x,y⟩,rfl,hq,hh,k⟩:=h
  dsimp only at hq;have k':Q (.bl (decide (x∈hs)&&(decide (y∈hs)&&decide (x<y)))) H:=k _ (by
   rw[and_eq_true,and_eq_true,decide_eq_true_eq,decide_eq_true_eq,decide_eq_true_eq];exact Iff.rfl)
  refine⟨_,(zS (vJ (PW.pt (ZL (xQ (xP (yJ zK (by rfl) (T.n 5 rfl) zu (we (pv 0) (we (uv (T.n 13 rfl) wc) ym))))) (uu (wq wv (yJ zx (by rfl) (T.n 0 rfl) yf (we (pv 0) ym)) wg (zB _)))))
    (yg (xx uf))
    xh)
   (zS (vJ (PW.pt (ZL (xQ (xP (U3 c_is_whole hr.m (xo (YH yY (pv 0) wg (fun _ _=>rfl)) ym)))) (uu (xQ (xP (U3 c_is_whole hr.m (xo (YH yY (pv 0) wg (fun _ _=>rfl)) ym)))))))
    (yg (xx uf))
    xh)
   (yg (xx (XD (u6 yv (YH yY (pv 0) wg (fun _ _=>rfl)) (pv 1) (by with_unfolding_all rfl)) (XD (u6 yv (YH yY (pv 0) wg (fun _ _=>rfl)) (pv 1) (by with_unfolding_all rfl)) (Vw (u6 YJ (YH yY (pv 0) wg (fun _ _=>rfl)) (YH yY (pv 0) wg (fun _ _=>rfl)) (zB _))))))))),?_⟩
  refine⟨_,rfl,_,_,_,_,_,rfl,rfl,.tup hq,(T.k 3 rfl),_,rfl,iZ rfl ?_⟩;refine⟨_,rfl,q,_,rfl,.inr (sP hq),rfl,_,rfl,iZ rfl ?_⟩;refine⟨_,rfl,q,_,0,_,rfl,rfl,sP hq,rfl,x,rfl,_,rfl,iZ rfl ?_⟩;refine⟨_,rfl,q,_,1,_,rfl,rfl,sP hq,rfl,y,rfl,_,rfl,iZ rfl ?_⟩;refine⟨_,rfl,q,_,0,_,rfl,rfl,sP hq,rfl,_,rfl,h,_,rfl,.inl (sO hh),rfl,xX hs,_,rfl,?_⟩;by_cases c1:x∈hs
  case neg =>
   refine iZ (by show inV (.int x) _=false;rw[xW];exact decide_eq_false c1) ?_;rw[decide_eq_false c1] at k';exact k'
  refine zZ (by show inV (.int x) _=true;rw[xW];exact decide_eq_true c1) ?_;rw[decide_eq_true c1] at k';refine⟨_,rfl,q,_,1,_,rfl,rfl,sP hq,rfl,_,rfl,h,_,rfl,.inl (sO hh),rfl,xX hs,_,rfl,?_⟩;by_cases c2:y∈hs
  case neg =>
   refine iZ (by show inV (.int y) _=false;rw[xW];exact decide_eq_false c2) ?_;rw[decide_eq_false c2] at k';exact k'
  refine zZ (by show inV (.int y) _=true;rw[xW];exact decide_eq_true c2) ?_;rw[decide_eq_true c2] at k';exact⟨_,rfl,q,_,0,_,rfl,rfl,sP hq,rfl,_,rfl,q,_,1,_,rfl,rfl,sP hq,rfl,_,_,rfl,rfl,k'⟩
def Wk:LI->List (Int×Int)
 |[]=>[]
 |h::t=>t.map (fun x=>(h,x))++Wk t
theorem ZT:∀ hs:LI,(Wk hs).length*2+hs.length=hs.length*hs.length
 |[]=>rfl
 |h::t=>by
  have ih:=ZT t;show(t.map (fun x=>(h,x))++Wk t).length*2+(t.length+1)=(t.length+1)*(t.length+1);rw[length_append,length_map];have e:(t.length+1)*(t.length+1)=t.length*t.length+t.length+(t.length+1):=by rw[Nat.succ_mul,Nat.mul_succ]
  omega
theorem ZS:∀ {hs:LI}{x y:Int},hs.Pairwise (· < ·)->x∈hs->y∈hs->x<y->(x,y)∈Wk hs
 |h::t,x,y,up,hx,hy,lt=>by
  rw[pairwise_cons] at up;show(x,y)∈t.map (fun x=>(h,x))++Wk t;rw[mem_append];rcases mem_cons.mp hx with rfl | hx'
  ·rcases mem_cons.mp hy with rfl | hy
   ·omega
   ·exact .inl (mem_map.mpr ⟨y,hy,rfl⟩)
  ·rcases mem_cons.mp hy with rfl | hy
   ·have:=up.1 x hx';omega
   ·exact .inr (ZS up.2 hx' hy lt)
theorem zbj:∀ {as bs:LP},as.Nodup->(∀ x∈as,x∈bs)->as.length<=bs.length
 |[],_,_,_=>zero_le _
 |a::as,bs,hn,hs=>by
  rw[nodup_cons] at hn;have ha:=hs a mem_cons_self;have ih:=zbj (as:=as) (bs:=bs.erase a) hn.2 fun x hx=>by
   have ne:x≠a:=fun z=>hn.1 (by rw[<- z];exact hx);exact(List.mem_erase_of_ne ne).mpr (hs x (mem_cons_of_mem _ hx))
  rw[List.length_erase_of_mem ha] at ih;have:=length_pos_of_mem ha;rw[length_cons];omega
theorem Ls.of{hs:LI}{ls:LP}(W:Hs hs)(nd:ls.Nodup)(ok:∀ p∈ls,p.1∈hs/\p.2∈hs/\p.1<p.2):Ls hs ls where
 nd:=nd
 ok:=ok
 le:=by
  have h1:=zbj (bs:=Wk hs) nd fun p hp=>ZS W.up (ok p hp).1 (ok p hp).2.1 (ok p hp).2.2;have h2:=ZT hs;have h3:hs.length*hs.length<=12*hs.length:=Nat.mul_le_mul_right _ W.l12;have h4:=W.l12;omega
section
variable {κ:Type} [DecidableEq κ]
theorem wC{kvs:List (κ×V)}{k:κ}:(xK kvs k).isSome=decide (k∈kvs.map (·.1)):=by
 rw[<- xD];by_cases h:k∈kvs.map (·.1)
 ·rw[decide_eq_true h,List.any_eq_true]
  obtain⟨p,hp,rfl⟩:=mem_map.mp h;exact⟨p,hp,decide_eq_true rfl⟩
 ·rw[decide_eq_false h,List.any_eq_false]
  intro p hp e;exact h (mem_map.mpr ⟨p,hp,of_decide_eq_true e⟩)
theorem valV_yes{kvs:List (κ×V)}{k:κ}(h:k∈kvs.map (·.1)):(xK kvs k).isSome=true:=by rw[wC];exact decide_eq_true h
theorem uL{kvs:List (κ×V)}{k:κ}(h:k∉kvs.map (·.1)):(xK kvs k).isSome=false:=by rw[wC];exact decide_eq_false h
theorem putK_new{kvs:List (κ×V)}{k:κ}{v:V}(h:k∉kvs.map (·.1)):putK kvs k v=kvs++[(k,v)]:=by
 unfold putK;rw[if_neg];rw[xD,wC,decide_eq_true_iff];exact h
end
theorem _root_.L2.Same.updF{p:Addr}{H H':Hp}{o:HO}(x:Same H H')(h:H p=none):Same H (L2.upd H' p o):=fun b u e=>by
 rw[upd_ne (nZ e h)];exact x b u e
noncomputable abbrev XQ(p:Int×Int):List Key:=[Sum.inl p.1,Sum.inl p.2]
theorem XO{p q:Int×Int}(h:XQ p=XQ q):p=q:=by
 obtain⟨a,b⟩:=p;obtain⟨c,d⟩:=q;simp[XQ] at h;rw[h.1,h.2]
theorem Zf{α:Type}{xs:List α}{i:Nat}{x:α}(h:xs.Nodup)(e:xs[i]?=some x):x∉xs.take i:=by
 intro m;obtain⟨j,hj,ej⟩:=getElem_of_mem m;obtain⟨hi,ei⟩:=List.getElem?_eq_some_iff.mp e;rw[List.getElem_take] at ej;rw[length_take] at hj;have:=(List.nodup_iff_pairwise_ne.mp h);exact List.pairwise_iff_getElem.mp this j i (by omega) hi (by omega) (ej.trans ei.symm)
def Vf:Sp:=fun vs H Q _=>∃ (l h:Addr) (rs:List V) (hs:LI) (ls:LP),vs=[.ref l,.ref h]/\H l=some (.lst rs)/\LnAt H rs ls/\H h=some (.lst (hs.map V.int))/\Hs hs/\ls.length<=1000/\∀ (b:Bool) (H':Hp),(b=true↔Ls hs ls)->Same H H'->Q (.bl b) H'
theorem zaa(T:Txt w K mg a):FnOk P w K mg base CX0 3 599 (dK K 599) ["lines", "hands"] Vf:=by
 have c_is_line:=cal P base T 22 rfl (zcc T);refine(T.fn 23 rfl).ok (scp 23 rfl) (fun vs H Q E h=>?_) (fun cdv A outer s H vs Q E hr h=>?_)
 ·obtain⟨l,h,rs,hs,ls,rfl,_⟩:=h
  rfl
 ·obtain⟨l,h,rs,hs,ls,rfl,hl,hrs,hh,W,l1000,k⟩:=h
  have hu:=vY hr;have no:¬Ls hs ls->∀ H',Same H H'->Q (.bl false) H':=fun n H' s=>k false H' ⟨fun z=>(nomatch z),fun z=>absurd z n⟩ s;refine⟨_,(zS (vJ (xQ (xP (yJ zK (by rfl) (T.n 5 rfl) zu (we (pv 0) (we (uv (T.n 6 rfl) wA) ym)))))
    (yg (xx uf))
    xh)
   (zS (ZM (i:=2) (scp 23 rfl).nd rfl (Or.inl rfl) XC)
   (zS (ZN PassesOwn.never rfl (wV (pv 0)) (wt (i:=3) (scp 23 rfl).nd rfl (Or.inl rfl))
    (zS (vJ (PW.pt (ZL (xQ (xP (U3 c_is_line hr.m (we (pv 3) (we (pv 1) ym))))) (uu (za9 (zbd hu (pv 3) (pv 2))))))
     (yg (xx uf))
     xh)
    (yg (YG hu (pv 2) (pv 3) uf rfl))))
   (yg (xx uf))))),?_⟩
  refine⟨_,rfl,_,_,_,_,_,rfl,rfl,.lst hl,(T.k 2 rfl),_,rfl,iZ rfl ?_⟩;refine fun d hd=>?_;refine⟨_,rfl,l,rfl,⟨_,sO (sW hd _ _ hl)⟩,?_⟩;refine for_list (K:=K) (a:=l) (xs:=rs) (fun i σ H'=>∃ (kvs:List (List Key×V)) (o:Option V),σ=[some (.ref l),some (.ref h),some (.ref d),o]/\H' d=some (.dT kvs)/\kvs.map (·.1)=(ls.take i).map XQ/\(ls.take i).Nodup/\(∀ p∈ls.take i,OkP hs p)/\Same H H') ?_ ?_ ?_ ?_
  ·exact⟨[],none,rfl,upd_same,by simp,by simp,fun p hp=>by simp at hp,sW hd⟩
  ·rintro i σ H' _ ⟨kvs,o,_,_,_,_,_,sm⟩
   exact sO (sm _ _ hl)
  ·rintro i x σ H' hi ⟨kvs,o,rfl,hd',hk,nd,gd,sm⟩
   obtain⟨p,q,hp,rfl,hq⟩:=(hrs.same sm).get hi;have hm:p∈ls:=mem_of_getElem? hp;have etk:ls.take (i+1)=ls.take i++[p]:=by rw[take_add_one,hp];rfl
   refine⟨_,rfl,_,rfl,q,h,hs,p,rfl,hq,sm _ _ hh,fun b hb=>⟨_,rfl,?_⟩⟩;cases b with
   |false=>exact zZ rfl (no (fun L=>by have:=hb.mpr (L.ok p hm);cases this) H' sm)
   |true =>
   have gp:=hb.mp rfl;refine iZ rfl ?_;have hz:kvs.length<=1000:=by
    have:=congrArg List.length hk;rw[length_map,length_map,length_take] at this;omega
   refine⟨_,rfl,_,rfl,d,_,rfl,DGet.t (k:=XQ p) hd' hq,_,rfl,?_⟩;by_cases c:XQ p∈kvs.map (·.1)
   ·refine zZ (valV_yes c) (no (fun L=>?_) H' sm)
    rw[hk] at c;obtain⟨p',m',e'⟩:=mem_map.mp c;rw[XO e'] at m';exact Zf L.nd hp m'
   ·refine iZ (uL c) ?_
    refine⟨_,rfl,_,rfl,d,_,rfl,DPut.t (k:=XQ p) hd' hq (ye hz),?_⟩;refine⟨_,_,rfl,upd_same,?_,?_,fun u hu=>?_,sm.updF hd⟩
    ·rw[putK_new c,map_append,hk,etk,map_append]
     rfl
    ·rw[etk,nodup_append]
     refine⟨nd,by simp,fun u hu v hv e=>c ?_⟩;rw[mem_singleton.mp hv] at e;rw[hk,<- e];exact mem_map.mpr ⟨u,hu,rfl⟩
    ·rw[etk] at hu
     rcases mem_append.mp hu with e | e
     ·exact gd u e
     ·rw[mem_singleton.mp e]
      exact gp
  ·rintro σ H' ⟨kvs,o,rfl,_,_,nd,gd,sm⟩
   rw[hrs.1,take_length] at nd gd;exact k true H' ⟨fun _=>Ls.of W nd gd,fun _=>rfl⟩ sm
def tab(ad:Int->Addr)(us:LI):List (Key×V):=us.map fun h=>(Sum.inl h,V.ref (ad h))
theorem Xm{ad:Int->Addr}{us:LI}:(tab ad us).map (·.1)=us.map Sum.inl:=by
 unfold tab;rw[map_map];rfl
theorem zaU{ad:Int->Addr}{x:Int}:∀ {us:LI},x∈us->xK (tab ad us) (Sum.inl x:Key)=some (V.ref (ad x))
 |u::us,h=>by
  show xK ((Sum.inl u,V.ref (ad u))::tab ad us) _=_;by_cases e:u=x
  ·subst e;rw[wD rfl]
  ·rw[wE (fun z=>e (by injection z)),zaU]
   rcases mem_cons.mp h with z | z
   ·exact absurd z.symm e
   ·exact z
theorem uQ{H:Hp}{d:Addr}{ad:Int->Addr}{us:LI}{x:Int}(e:H d=some (.dK (tab ad us)))(h:x∈us):DGet H d (V.int x) (some (V.ref (ad x))):=by
 have:=DGet.k (k:=Sum.inl x) e;rw[zaU h] at this;exact this
theorem Ua{x:Int}{us:LI}:(Sum.inl x:Key)∈us.map (Sum.inl:Int->Key)↔x∈us:=by
 rw[mem_map];exact⟨fun⟨y,h,e⟩=>by injection e with e;exact e ▸ h,fun h=>⟨x,h,rfl⟩⟩
noncomputable def ze5(ad:Int->Addr)(y:Int)(p:Addr):Int->Addr:=fun x=>if x=y then p else ad x
theorem putA_at{ad:Int->Addr}{x y:Int}{p:Addr}(e:x=y):ze5 ad y p x=p:=if_pos e
theorem putA_ne{ad:Int->Addr}{x y:Int}{p:Addr}(e:¬ x=y):ze5 ad y p x=ad x:=if_neg e
structure Near (H:Hp) (d:Addr) (hs:LI) (ls:LP) (ad:Int->Addr):Prop where
 d:H d=some (.dK (tab ad hs))
 nb:∀ h∈hs,H (ad h)=some (.lst ((nbs ls h).map V.int))
theorem Near.same{H H':Hp}{d:Addr}{hs:LI}{ls:LP}{ad:Int->Addr}(n:Near H d hs ls ad)(s:Same H H'):Near H' d hs ls ad:=⟨s _ _ n.d,fun h m=>s _ _ (n.nb h m)⟩
def za1:Sp:=fun vs H Q _=>∃ (h l:Addr) (rs:List V) (hs:LI) (ls:LP),vs=[.ref h,.ref l]/\H h=some (.lst (hs.map V.int))/\H l=some (.lst rs)/\LnAt H rs ls/\Hs hs/\Ls hs ls /\
 ∀ (d:Addr) (ad:Int->Addr) H',Same H H'->H d=none->(∀ x∈hs,H (ad x)=none)->Near H' d hs ls ad->Q (.ref d) H'
theorem zcb(T:Txt w K mg a):FnOk P w K mg base CX0 1 606 (dK K 606) ["hands", "lines"] za1:=by
 refine(T.fn 24 rfl).ok (scp 24 rfl) (fun vs H Q E h=>?_) (fun cdv A outer s H vs Q E hr h=>?_)
 ·obtain⟨h,l,rs,hs,ls,rfl,_⟩:=h
  rfl
 ·obtain⟨h,l,rs,hs,ls,rfl,hh,hl,hrs,W,L,k⟩:=h
  have l66:=L.le;have l12:=W.l12;have hu:=vY hr;refine⟨_,(zS (ZM (i:=2) (scp 24 rfl).nd rfl (Or.inl rfl) U2)
   (zS (ZN PassesOwn.never rfl (wV (pv 0)) (wt (i:=3) (scp 24 rfl).nd rfl (Or.inl rfl))
    (yg (YG hu (pv 2) (pv 3) (XB ym) rfl)))
   (zS (ZN PassesOwn.never rfl (wV (pv 1)) (zbb rfl (u5 (wt (i:=4) (scp 24 rfl).nd rfl (Or.inl rfl)) (u5 (wt (i:=5) (scp 24 rfl).nd rfl (Or.inl rfl)) Vu)))
    (zS (YF (zb5 F.plainAttrs_list F.slot_list_append F.type_list_append xB (YI hu (pv 2) (pv 4) (fun _ _=>rfl)) (we (pv 5) ym)))
    (yg (YF (zb5 F.plainAttrs_list F.slot_list_append F.type_list_append xB (YI hu (pv 2) (pv 5) (fun _ _=>rfl)) (we (pv 4) ym))))))
   (yg (xx (pv 2)))))),?_⟩
  refine fun d hd=>?_;refine⟨_,rfl,h,rfl,⟨_,sO (sW hd _ _ hh)⟩,?_⟩;refine for_list (K:=K) (a:=h) (xs:=hs.map V.int) (fun i σ H'=>∃ (ad:Int->Addr) (o:Option V),σ=[some (.ref h),some (.ref l),some (.ref d),o,none,none]/\H' d=some (.dK (tab ad (hs.take i))) /\
   (∀ x∈hs.take i,H' (ad x)=some (.lst [])/\H (ad x)=none)/\(∀ x∈hs.take i,∀ y∈hs.take i,ad x=ad y->x=y)/\Same H H') ?_ ?_ ?_ ?_
  ·exact⟨fun _=>0,none,rfl,upd_same,fun x hx=>by simp at hx,fun x hx=>by simp at hx,sW hd⟩
  ·rintro i σ H' _ ⟨ad,o,_,_,_,_,sm⟩
   exact sO (sm _ _ hh)
  ·rintro i x σ H' hi ⟨ad,o,rfl,hd',hat,hinj,sm⟩
   rw[List.getElem?_map] at hi;obtain⟨y,hy,rfl⟩:=map_eq_some_iff.mp hi;have hnew:y∉hs.take i:=Zf (uM W.up) hy;refine⟨(by show 0<=sizeLine;decide),fun p hp=>?_⟩;have hpd:p≠d:=fun z=>by rw[z,hd'] at hp;cases hp
   have hd2:(upd H' p (.lst [])) d=some (.dK (tab ad (hs.take i))):=by rw[upd_ne hpd.symm];exact hd'
   refine⟨_,rfl,_,rfl,d,_,rfl,DPut.k (k:=Sum.inl y) hd2 (ye ?_),?_⟩
   ·unfold tab
    rw[length_map,length_take];omega
   ·have et:hs.take (i+1)=hs.take i++[y]:=by rw[take_add_one,hy];rfl
    have hp0:H p=none:=sm.free hp;have hne:∀ x∈hs.take i,ad x≠p:=fun x hx z=>by
     have:=(hat x hx).1;rw[z,hp] at this;cases this
    have had:∀ x∈hs.take i,ad x≠d:=fun x hx z=>by
     have:=(hat x hx).1;rw[z,hd'] at this;cases this
    refine⟨ze5 ad y p,_,rfl,?_,?_,?_,(sm.updF hp0).updF hd⟩
    ·rw[upd_same,K04.putK_new (by rw[Xm,Ua];exact hnew),et]
     unfold tab;rw[map_append]
     congr 3
     ·refine List.map_congr_left fun x hx=>?_
      rw[putA_ne (fun z=>hnew (by rw[<- z];exact hx))]
     ·show _=[(Sum.inl y,V.ref (ze5 ad y p y))]
      rw[putA_at rfl]
    ·intro x hx
     rw[et,mem_append,mem_singleton] at hx;by_cases e:x=y
     ·rw[putA_at e,upd_ne hpd,upd_same]
      exact⟨rfl,hp0⟩
     ·rw[putA_ne e]
      have hx:=hx.resolve_right e;rw[upd_ne (had x hx),upd_ne (hne x hx)];exact hat x hx
    ·intro x hx z hz
     rw[et,mem_append,mem_singleton] at hx hz;by_cases e1:x=y
     ·by_cases e2:z=y
      ·intro _;rw[e1,e2]
      ·rw[putA_at e1,putA_ne e2]
       intro q;exact absurd q.symm (hne z (hz.resolve_right e2))
     ·by_cases e2:z=y
      ·rw[putA_ne e1,putA_at e2]
       intro q;exact absurd q (hne x (hx.resolve_right e1))
      ·rw[putA_ne e1,putA_ne e2]
       exact hinj x (hx.resolve_right e1) z (hz.resolve_right e2)
  ·rintro σ H1 ⟨ad,o,rfl,hd',hat,hinj,sm⟩
   rw[length_map,take_length] at hd' hat hinj;refine⟨_,rfl,l,rfl,⟨_,sO (sm _ _ hl)⟩,?_⟩;refine for_list (K:=K) (a:=l) (xs:=rs) (fun i σ H'=>∃ (o1 o2:Option V),σ=[some (.ref h),some (.ref l),some (.ref d),o,o1,o2]/\Near H' d hs (ls.take i) ad/\Same H H') ?_ ?_ ?_ ?_
   ·exact⟨none,none,rfl,⟨hd',fun x hx=>by rw[List.take_zero];exact(hat x hx).1⟩,sm⟩
   ·rintro i σ H' _ ⟨o1,o2,_,_,sm'⟩
    exact sO (sm' _ _ hl)
   ·rintro i x σ H' hi ⟨o1,o2,rfl,N,sm'⟩
    obtain⟨⟨x,y⟩,q,hp,rfl,hq⟩:=(hrs.same sm').get hi;obtain⟨hx,hy,hxy⟩:=L.ok _ (mem_of_getElem? hp);dsimp only at hq hx hy hxy;refine⟨q,_,rfl,sP hq,rfl,_,_,rfl,_,_,rfl,rfl,?_⟩;have len:∀ z,((nbs (ls.take i) z).map V.int).length<sizeLine:=fun z=>by
     rw[length_map];have:=VQ (h:=z) (ls:=ls.take i);rw[length_take] at this;exact ye (by omega)
    have hdx:ad x≠d:=fun z=>by
     have:=N.nb x hx;rw[z,N.d] at this;cases this
    have hdy:ad y≠d:=fun z=>by
     have:=N.nb y hy;rw[z,N.d] at this;cases this
    have hne:ad y≠ad x:=fun z=>by have:=hinj y hy x hx z;omega
    refine⟨_,rfl,_,rfl,d,V.ref (ad x),rfl,uQ N.d hx,.inl ⟨rfl,_,sO (N.nb x hx)⟩,_,rfl,_,_,_,rfl,rfl,N.nb x hx,len x,?_⟩;have nd2:(upd H' (ad x) (.lst ((nbs (ls.take i) x).map V.int++[V.int y]))) d=some (.dK (tab ad hs)):=by rw[upd_ne hdx.symm];exact N.d
    have ny2:(upd H' (ad x) (.lst ((nbs (ls.take i) x).map V.int++[V.int y]))) (ad y)=some (.lst ((nbs (ls.take i) y).map V.int)):=by rw[upd_ne hne];exact N.nb y hy
    refine⟨_,rfl,_,rfl,d,V.ref (ad y),rfl,uQ nd2 hy,.inl ⟨rfl,_,sO ny2⟩,_,rfl,_,_,_,rfl,rfl,ny2,len y,?_⟩;refine⟨_,_,rfl,⟨?_,fun z hz=>?_⟩,(sm'.updF (hat x hx).2).updF (hat y hy).2⟩
    ·rw[upd_ne hdy.symm];exact nd2
    ·rw[zai hp]
     by_cases e2:z=y
     ·subst e2
      rw[upd_same,if_neg (by show ¬ x=z;omega),if_pos rfl,map_append];rfl
     ·rw[upd_ne (fun q=>e2 (hinj z hz y hy q))]
      by_cases e1:z=x
      ·subst e1
       rw[upd_same,if_pos rfl,if_neg (by show ¬ y=z;omega),map_append];rfl
      ·rw[upd_ne (fun q=>e1 (hinj z hz x hx q)),if_neg (fun q=>e1 q.symm),if_neg (fun q=>e2 q.symm),append_nil,append_nil]
       exact N.nb z hz
   ·rintro σ H' ⟨o1,o2,rfl,N,sm'⟩
    rw[hrs.1,take_length] at N;exact⟨_,rfl,k d ad H' sm' hd (fun x hx=>(hat x hx).2) N⟩
theorem Near.ext{H H':Hp}{d p dx C:Addr}{fs:List (Str×V)}{hs:LI}{ls:LP}{ad:Int->Addr}(n:Near H d hs ls ad)(hp:H p=some (.ins C dx fs))(s:Ext p H H'):Near H' d hs ls ad :=
 ⟨s _ _ n.d (fun z=>by rw[<- z,n.d] at hp;cases hp),fun h m=>s _ _ (n.nb h m) (fun z=>by rw[<- z,n.nb h m] at hp;cases hp)⟩
theorem LnAt.ext{H H':Hp}{p dx C:Addr}{fs:List (Str×V)}{rs:List V}{ls:LP}(h:LnAt H rs ls)(hp:H p=some (.ins C dx fs))(s:Ext p H H'):LnAt H' rs ls:=⟨h.1,fun i r q h1 h2=>by
 obtain⟨t,e,ht⟩:=h.2 i r q h1 h2;exact⟨t,e,s _ _ ht fun z=>by rw[<- z,ht] at hp;cases hp⟩⟩
theorem Ext.free{l p:Addr}{H H':Hp}(k:Ext l H H')(n:p≠l)(h:H' p=none):H p=none:=by
 cases e:H p with
 |none=>rfl
 |some o=>have:=k _ _ e n;rw[h] at this;cases this
open Sco
def srt(ls:LP):LP:=ls.mergeSort fun p q=>decide (rkP p<=rkP q)
def Bd(ls:LP):Prop:=∀ p∈ls,0<=p.2/\p.2<1000
theorem uS(ls:LP):(srt ls).Perm ls:=List.mergeSort_perm _ _
theorem zdI(ls:LP):(srt ls).Pairwise fun p q=>rkP p<=rkP q:=by
 have:=List.pairwise_mergeSort (le:=fun p q:Int×Int=>decide (rkP p<=rkP q)) (fun a b c h1 h2=>by simp at *;omega) (fun a b=>by simp;omega) ls;exact this.imp fun h=>by simpa using h
theorem zbS{p q:Int×Int}(bp:0<=p.2/\p.2<1000)(bq:0<=q.2/\q.2<1000)(h:rkP p=rkP q):p=q:=by
 obtain⟨a,b⟩:=p;obtain⟨c,d⟩:=q;unfold rkP at h;dsimp only at *;have:a=c:=by omega
 subst this;rw[show b=d by omega]
theorem zaS:∀ {as bs:LP},Bd as->as.Perm bs->as.Pairwise (fun p q=>rkP p<=rkP q)->bs.Pairwise (fun p q=>rkP p<=rkP q)->as=bs
 |[],bs,_,pm,_,_=>(List.nil_perm.mp pm).symm
 |x::as,[],_,pm,_,_=>absurd pm.length_eq (by simp)
 |x::as,y::bs,B,pm,u1,u2=>by
  obtain⟨a1,a2⟩:=pairwise_cons.mp u1;obtain⟨b1,b2⟩:=pairwise_cons.mp u2;have hy:y∈x::as:=pm.mem_iff.mpr mem_cons_self;have hx:x∈y::bs:=pm.mem_iff.mp mem_cons_self;have l1:rkP x<=rkP y:=by
   rcases mem_cons.mp hy with z | z
   ·rw[z];exact Int.le_refl _
   ·exact a1 y z
  have l2:rkP y<=rkP x:=by
   rcases mem_cons.mp hx with z | z
   ·rw[z];exact Int.le_refl _
   ·exact b1 x z
  have e:x=y:=zbS (B x mem_cons_self) (B y hy) (by omega);subst e;rw[zaS (fun p hp=>B p (mem_cons_of_mem _ hp)) (List.Perm.cons_inv pm) a2 b2]
theorem zdJ{as ls:LP}(B:Bd ls)(pm:as.Perm ls)(u:as.Pairwise fun p q=>rkP p<=rkP q):as=srt ls :=
 zaS (fun p hp=>B p (pm.mem_iff.mp hp)) (pm.trans (uS ls).symm) u (zdI ls)
theorem LnAt.ps{H:Hp}:∀ {rs:List V}{ls:LP},LnAt H rs ls->Bd ls->∃ ps:List PT,ps.map (fun p=>V.ref p.1)=rs/\ps.map (·.2)=ls/\PsAt H ps
 |[],[],_,_=>⟨[],rfl,rfl,fun p hp=>by cases hp⟩
 |[],_::_,h,_=>absurd h.1 (by simp)
 |_::_,[],h,_=>absurd h.1 (by simp)
 |r::rs,p::ls,h,B=>by
  obtain⟨q,rfl,hq⟩:=h.2 0 r p rfl rfl;obtain⟨ps,e1,e2,e3⟩:=LnAt.ps (H:=H) (rs:=rs) (ls:=ls) ⟨by have:=h.1;simpa using this,fun i r p h1 h2=>h.2 (i+1) r p (by simpa using h1) (by simpa using h2)⟩ fun p hp=>B p (mem_cons_of_mem _ hp);refine⟨(q,p)::ps,by rw[map_cons,e1],by rw[map_cons,e2],fun x hx=>?_⟩;rcases mem_cons.mp hx with z | z
  ·rw[z]
   exact⟨hq,B p mem_cons_self⟩
  ·exact e3 x z
theorem zfz{H:Hp}{qs:List PT}(h:PsAt H qs):LnAt H (qs.map fun p=>V.ref p.1) (qs.map (·.2)):=by
 refine⟨by simp,fun i r p h1 h2=>?_⟩;rw[List.getElem?_map] at h1 h2;obtain⟨q,e1,rfl⟩:=map_eq_some_iff.mp h1;rw[e1] at h2;cases h2;exact⟨q.1,rfl,(h q (mem_of_getElem? e1)).1⟩
theorem _root_.L2.Sco.PsAt.same{H H':Hp}{ps:List PT}(h:PsAt H ps)(s:Same H H'):PsAt H' ps:=fun p hp=>⟨s _ _ (h p hp).1,(h p hp).2⟩
theorem _root_.L2.Sco.PsAt.sub{H:Hp}{ps qs:List PT}(h:PsAt H ps)(s:∀ q∈qs,q∈ps):PsAt H qs:=fun p hp=>h p (s p hp)
theorem zbI{H:Hp}{ps qs:List PT}(h:PsAt H ps)(pm:qs.Perm ps)(u:qs.Pairwise fun x y=>rkP x.2<=rkP y.2):LnAt H (qs.map fun p=>V.ref p.1) (srt (ps.map (·.2))):=by
 have e:qs.map (·.2)=srt (ps.map (·.2)):=zdJ (fun p hp=>by
  obtain⟨x,hx,rfl⟩:=mem_map.mp hp;exact(h x hx).2) (pm.map _) (by rw[pairwise_map];exact u)
 have:=zfz (h.sub fun q hq=>pm.mem_iff.mp hq);rw[e] at this;exact this
theorem Ls.bd{hs:LI}{ls:LP}(W:Hs hs)(L:Ls hs ls):Bd ls:=fun p hp=>by
 have:=(L.ok p hp).2.1;have a1:=W.lo p.2 this;have a2:=W.hi p.2 this;omega
structure WebAt (a:Ad) (H:Hp) (p:Addr) (hs:LI) (ls:LP) (dx oh ol d:Addr) (ad:Int->Addr):Prop where
 p:H p=some (.ins 672 dx [("own_hands",.ref oh),("own_lines",.ref ol),("near",.ref d)])
 oh:H oh=some (.lst (hs.map V.int))
 nr:Near H d hs ls ad
 ol:∃ zs,H ol=some (.lst zs)/\LnAt H zs (srt ls)
theorem WebAt.same{H H':Hp}{p dx oh ol d:Addr}{hs:LI}{ls:LP}{ad:Int->Addr}(w:WebAt a H p hs ls dx oh ol d ad)(s:Same H H'):WebAt a H' p hs ls dx oh ol d ad:=⟨s _ _ w.p,s _ _ w.oh,w.nr.same s,by obtain⟨zs,e1,e2⟩:=w.ol;exact⟨zs,s _ _ e1,e2.same s⟩⟩
def zdK(a:Ad):Sp:=fun vs H Q E=>∃ (p dx h l:Addr) (rs:List V) (hs:LI) (ls:LP),vs=[.ref p,.ref h,.ref l]/\H p=some (.ins 672 dx [])/\H h=some (.lst (hs.map V.int))/\H l=some (.lst rs)/\LnAt H rs ls/\ls.length<=63 /\
 (Hs hs->Ls hs ls->∀ (oh ol d:Addr) (ad:Int->Addr) H',H oh=none->H ol=none->H d=none->(∀ x∈hs,H (ad x)=none)->Ext p H H'->WebAt a H' p hs ls dx oh ol d ad->Q .non H') /\
 (¬(Hs hs/\Ls hs ls)->∀ H',Same H H'->E (.ref 44) none H')
theorem zea(T:Txt w K mg a):FnOk P w K mg base (CX1 P w) 4 620 (dK K 620) ["self", "hands", "lines"] (zdK a):=by
 have c_are_hands:=cal P base T 21 rfl (zac T);have c_are_lines:=cal P base T 23 rfl (zaa T);have c_near_by_hand:=cal P base T 24 rfl (zcb T);refine(T.fn 56 rfl).ok1 (scp 56 rfl) (fun vs H Q E h=>?_) (fun cdv A outer s H vs Q E hr h=>?_)
 ·obtain⟨p,dx,h,l,rs,hs,ls,rfl,_⟩:=h
  rfl
 ·obtain⟨p,dx,h,l,rs,hs,ls,rfl,hp,hh,hl,hrs,l1000,k,kx⟩:=h
  refine zR (zd (zv (zX (zH (zG c_are_hands hr.m (zh (zj 1) zb))))
    (ze (wO hr.hd (T.xc 0 rfl) (T.gg 16 rfl) (zy zi zb)))
    zo)
   (zd (zv (zX (zH (zG c_are_lines hr.m (zh (zj 2) (zh (zj 1) zb)))))
    (ze (wO hr.hd (T.xc 0 rfl) (T.gg 16 rfl) (zy zi zb)))
    zo)
   (zd (yn (zj 0) (zF xY (by rfl) (T.n 6 rfl) wA (zh (zj 1) zb)) rfl)
   (zd (yn (zj 0) (zq Sco.call_sortX (by rfl) (T.n 9 rfl) Ym (zh (zj 2) zb)) rfl)
   (ze (yn (zj 0) (zG c_near_by_hand hr.m (zh (zj 1) (zh (zj 2) zb))) rfl)))))) ?_
  refine⟨_,rfl,h,hs,rfl,hh,fun b hb=>⟨_,rfl,?_⟩⟩;cases b with
  |false=>exact zZ rfl ⟨by show 1<=1000;decide,kx (fun z=>by have:=hb.mpr z.1;cases this) H (sR H)⟩
  |true =>
  have W:=hb.mp rfl;refine iZ rfl ?_;refine⟨_,rfl,_,rfl,l,h,rs,hs,ls,rfl,hl,hrs,hh,W,by omega,fun b2 H1 hb2 s1=>⟨_,rfl,?_⟩⟩;cases b2 with
  |false=>exact zZ rfl ⟨by show 1<=1000;decide,kx (fun z=>by have:=hb2.mpr z.2;cases this) H1 s1⟩
  |true =>
  have L:=hb2.mp rfl;refine iZ rfl ?_;have k:=k W L;have l66:=L.le;have np:∀ {b:Addr}{xs:List V},H b=some (.lst xs)->b≠p:=fun e z=>by rw[z,hp] at e;cases e
  refine⟨_,rfl,h,_,rfl,.inl (sO (s1 _ _ hh)),fun oh hoh=>?_⟩;have ohp:oh≠p:=fun z=>by rw[z,s1 _ _ hp] at hoh;cases hoh
  refine⟨_,rfl,p,672,dx,_,rfl,(upd_ne ohp.symm).trans (s1 _ _ hp),(T.cl 7 rfl),(T.na 7 0 rfl rfl),(by show 0<1000;decide),?_⟩;have x3:=((Ext.same (l:=p) s1).trans (Ext.new (l:=p) (o:=.lst (hs.map V.int)) hoh)).trans (Ext.at (l:=p) (o:=.ins 672 dx [("own_hands",.ref oh)]));obtain⟨ps,e1,e2,e3⟩:=(hrs.ext hp x3).ps (L.bd W);have l67:ps.length<=63:=by
   have:=congrArg List.length e2;rw[length_map] at this;omega
  refine⟨_,rfl,l,ps,rfl,by rw[e1];exact sO (x3 _ _ hl (np hl)),l67,e3,fun ol qs hol pm up=>?_⟩;have hq3:=zbI e3 pm up;rw[e2] at hq3;generalize qs.map (fun p=>V.ref p.1)=zs at hq3 ⊢;have olp:ol≠p:=fun z=>by rw[z,upd_same] at hol;cases hol
  refine⟨_,rfl,p,672,dx,_,rfl,(upd_ne olp.symm).trans upd_same,(T.cl 7 rfl),(T.na 7 1 rfl rfl),(by show 1<1000;decide),?_⟩;have x35:=(Ext.new (l:=p) (o:=.lst zs) hol).trans (Ext.at (l:=p) (o:=.ins 672 dx [("own_hands",.ref oh),("own_lines",.ref ol)]));have x5:=x3.trans x35;refine⟨_,rfl,_,rfl,h,l,rs,hs,ls,rfl,x5 _ _ hh (np hh),x5 _ _ hl (np hl),hrs.ext hp x5,W,L,fun d ad H6 s6 hd had N=>?_⟩;have hp6:=s6 _ _ (upd_same (a:=p));refine⟨_,rfl,p,672,dx,_,rfl,hp6,(T.cl 7 rfl),(T.na 7 2 rfl rfl),(by show 2<1000;decide),?_⟩;have nfr:∀ b,(upd (upd (upd (upd H1 oh (.lst (hs.map V.int))) p (.ins 672 dx [("own_hands",.ref oh)])) ol (.lst zs)) p (.ins 672 dx [("own_hands",.ref oh),("own_lines",.ref ol)])) b=none->H b=none:=fun b e=>x5.free (fun z=>by rw[z,upd_same] at e;cases e) e;refine k oh ol d ad _ (s1.free hoh) (x3.free olp hol) (nfr d hd) (fun x hx=>nfr _ (had x hx)) ((x5.trans (Ext.same s6)).trans Ext.at) ⟨upd_same,?_,N.ext hp6 Ext.at,zs,?_,?_⟩
  ·rw[upd_ne ohp]
   exact s6 _ _ (x35 _ _ ((upd_ne ohp).trans upd_same) ohp)
  ·rw[upd_ne olp]
   exact s6 _ _ ((upd_ne olp).trans upd_same)
  ·exact((hq3.ext upd_same x35).same s6).ext hp6 Ext.at
noncomputable def adB(ls:LP)(x y:Int):Bool:=decide ((x,y)∈ls)||decide ((y,x)∈ls)
theorem zc0{ls:LP}{x y:Int}:decide (y∈nbs ls x)=adB ls x y:=by
 unfold adB;rw[Bool.eq_iff_iff,or_eq_true,decide_eq_true_eq,decide_eq_true_eq,decide_eq_true_eq];exact zcq
theorem zdu{H:Hp}{d:Addr}{ad:Int->Addr}{us:LI}{x:Int}(e:H d=some (.dK (tab ad us)))(h:x∉us):DGet H d (V.int x) none:=by
 have:xK (tab ad us) (Sum.inl x:Key)=none:=by
  have h1:=uL (kvs:=tab ad us) (k:=(Sum.inl x:Key)) (by
   rw[Xm];intro z;obtain⟨y,hy,e⟩:=mem_map.mp z;injection e with e;rw[e] at hy;exact h hy)
  cases hv:xK (tab ad us) (Sum.inl x:Key) with
  |none=>rfl
  |some v=>rw[hv] at h1;cases h1
 rw[<- this];exact DGet.k (k:=.inl x) e
def zfp(a:Ad):Sp:=fun vs H Q _=>∃ (p:Addr) (x:Int) (hs:LI) (ls:LP) (dx oh ol d:Addr) (ad:Int->Addr),vs=[.ref p,.int x]/\WebAt a H p hs ls dx oh ol d ad/\Q (.bl (decide (x∈hs))) H
theorem VI(T:Txt w K mg a):FnOk P w K mg base CX0 2 641 (dK K 641) ["self", "hand"] (zfp a):=by
 have c_is_whole:=cal P base T 0 rfl (u9 T);refine(T.fn 59 rfl).ok (scp 59 rfl) (fun vs H Q E h=>?_) (fun cdv A outer s H vs Q E hr h=>?_)
 ·obtain⟨p,x,hs,ls,dx,oh,ol,d,ad,rfl,_⟩:=h
  rfl
 ·obtain⟨p,x,hs,ls,dx,oh,ol,d,ad,rfl,W,k⟩:=h
  have hu:=vY hr;refine zR (ze (zm (yp (zG c_is_whole hr.m (zh (zj 1) zb)) (yo (UJ (Xh hu (zj 1) (zI (zj 0) rfl))))))) ?_;refine⟨_,rfl,x,rfl,_,rfl,vc ?_⟩;by_cases hx:x∈hs
  ·rw[decide_eq_true hx] at k
   exact⟨_,rfl,_,rfl,p,_,dx,_,_,rfl,W.p,(T.cl 7 rfl),(T.na 7 2 rfl rfl),rfl,d,some (V.ref (ad x)),rfl,uQ W.nr.d hx,k⟩
  ·rw[decide_eq_false hx] at k
   exact⟨_,rfl,_,rfl,p,_,dx,_,_,rfl,W.p,(T.cl 7 rfl),(T.na 7 2 rfl rfl),rfl,d,none,rfl,zdu W.nr.d hx,k⟩
def Xr(a:Ad):Sp:=fun vs H Q _=>∃ (p:Addr) (hs:LI) (ls:LP) (dx oh ol d:Addr) (ad:Int->Addr),vs=[.ref p]/\WebAt a H p hs ls dx oh ol d ad/\∀ q,H q=none->Q (.ref q) (upd H q (.lst (hs.map V.int)))
theorem ur{p:Addr}{hs:LI}{ls:LP}{dx oh ol d:Addr}{ad:Int->Addr}{H:Hp}{Q:VK}{E:XK}(W:WebAt a H p hs ls dx oh ol d ad)(k:∀ q,H q=none->Q (.ref q) (upd H q (.lst (hs.map V.int)))):Xr a [.ref p] H Q E:=⟨p,hs,ls,dx,oh,ol,d,ad,rfl,W,k⟩
theorem ZW(T:Txt w K mg a):FnOk P w K mg base CX0 1 627 (dK K 627) ["self"] (Xr a):=by
 refine(T.fn 57 rfl).ok (scp 57 rfl) (fun vs H Q E h=>?_) (fun cdv A outer s H vs Q E hr h=>?_)
 ·obtain⟨p,hs,ls,dx,oh,ol,d,ad,rfl,_⟩:=h
  rfl
 ·obtain⟨p,hs,ls,dx,oh,ol,d,ad,rfl,W,k⟩:=h
  refine zR (ze (zm (zF xY (by rfl) (T.n 6 rfl) wA (zn (zI (zj 0) rfl) zb)))) ?_;exact⟨_,rfl,p,_,dx,_,_,rfl,W.p,(T.cl 7 rfl),(T.na 7 0 rfl rfl),rfl,oh,_,rfl,.inl (sO W.oh),k⟩
theorem merge_app:∀ {kvs acc:List (Key×V)},((acc++kvs).map (·.1)).Nodup->mergeK acc kvs=acc++kvs
 |[],acc,_=>by simp[mergeK]
 |kv::kvs,acc,h=>by
  have hn:kv.1∉acc.map (·.1):=by
   rw[map_append,nodup_append] at h;intro z;exact h.2.2 _ z _ (by simp) rfl
  show mergeK (putK acc kv.1 kv.2) kvs=_;rw[putK_new hn,merge_app (by simpa using h)];simp
theorem vf{kvs:List (Key×V)}(h:(kvs.map (·.1)).Nodup):mergeK [] kvs=kvs:=by
 have:=merge_app (kvs:=kvs) (acc:=[]) (by simpa using h)
 simpa using this
theorem V9{us:LI}(h:us.Nodup):(us.map (Sum.inl:Int->Key)).Nodup:=by
 rw[List.nodup_iff_pairwise_ne,pairwise_map];exact(List.nodup_iff_pairwise_ne.mp h).imp fun {a b} n z=>n (by injection z)
theorem LnAt.snoc{H:Hp}{rs:List V}{ls:LP}{q:Addr}{p:Int×Int}(h:LnAt H rs ls)(hq:H q=some (.tup [.int p.1,.int p.2])):LnAt H (rs++[.ref q]) (ls++[p]):=by
 refine⟨by simp[h.1],fun i r p' h1 h2=>?_⟩;have l:=h.1;by_cases hi:i<rs.length
 ·rw[List.getElem?_append_left hi] at h1
  rw[List.getElem?_append_left (by omega)] at h2;exact h.2 i r p' h1 h2
 ·rw[List.getElem?_append_right (by omega)] at h1
  rw[List.getElem?_append_right (by omega),<- l] at h2;obtain⟨n,hn⟩:∃ n,n=i-rs.length:=⟨_,rfl⟩;rw[<- hn] at h1 h2;cases n with
  |zero=>cases h1;cases h2;exact⟨q,rfl,hq⟩
  |succ n=>simp at h1
theorem LnAt.updL{H:Hp}{rs zs:List V}{ls:LP}{p:Addr}{o:HO}(hp:H p=some (.lst zs))(h:LnAt H rs ls):LnAt (L2.upd H p o) rs ls:=⟨h.1,fun n r pr e1 e2=>by
 obtain⟨q,e,t⟩:=h.2 n r pr e1 e2;exact⟨q,e,by rw[upd_ne (Z5 t hp (by intro z;cases z))];exact t⟩⟩
theorem at_last{xs:List V}{v:V}:atI (xs++[v]) (-1)=some v:=by
 unfold atI ixN;rw[if_neg (by decide),if_pos (by simp;omega)];simp;have:((-1:Int)+((xs.length:Int)+1)).toNat=xs.length:=by omega
 rw[this];simp
def tabV(f:Int->V)(us:LI):List (Key×V):=us.map fun h=>(Sum.inl h,f h)
theorem vt{f:Int->V}{us:LI}:(tabV f us).map (·.1)=us.map Sum.inl:=by
 unfold tabV;rw[map_map];rfl
theorem tabV_len{f:Int->V}{us:LI}:(tabV f us).length=us.length:=by
 unfold tabV;rw[length_map]
theorem YB{f:Int->V}{x:Int}:∀ {us:LI},x∈us->xK (tabV f us) (Sum.inl x:Key)=some (f x)
 |u::us,h=>by
  unfold tabV xK;rw[map_cons,List.find?_cons];by_cases e:u=x
  ·subst e;simp
  ·have:¬ ((Sum.inl u:Key)=Sum.inl x):=fun z=>e (by injection z)
   simp only[decide_eq_false this];have:=YB (f:=f) ((mem_cons.mp h).resolve_left fun z=>e z.symm);unfold tabV xK at this;exact this
theorem UO{f:Int->V}{us:LI}{x:Int}(h:x∉us):xK (tabV f us) (Sum.inl x:Key)=none:=by
 have z:=uL (kvs:=tabV f us) (k:=(Sum.inl x:Key)) (by rw[vt,Ua];exact h);cases hv:xK (tabV f us) (Sum.inl x:Key) with
 |none=>rfl
 |some v=>rw[hv] at z;cases z
theorem WD{x:Int}{v y:V}{H H':Hp}(h:yI (Sum.inl x,v) y H H'):∃ p,H p=none/\y=.ref p/\H'=upd H p (.tup [.int x,v]):=h
def Fl(v:V):Prop:=(∃ i,v=.int i)\/v=.non
def CpV(H:Hp)(n:Nat)(v:V)(Q:V->Hp->Prop):Prop :=
 (1<=n/\Fl v/\Q v H) \/
 (2<=n/\∃ (t:Addr) (i j:Int),v=.ref t/\H t=some (.tup [.int i,.int j])/\∀ (t':Addr) (H':Hp),H t'=none->H' t'=some (.tup [.int i,.int j])->Same H H'->Q (.ref t') H') \/
 (2<=n/\∃ (d:Addr) (f:Int->V) (us:LI),v=.ref d/\H d=some (.dK (tabV f us))/\us.Nodup/\us.length<=12/\(∀ x∈us,Fl (f x))/\∀ (d':Addr) (H':Hp),H d'=none->H' d'=some (.dK (tabV f us))->Same H H'->Q (.ref d') H') \/
 (3<=n/\∃ (l:Addr) (rs:List V) (ls:LP),v=.ref l/\H l=some (.lst rs)/\LnAt H rs ls/\ls.length<=200/\∀ (l':Addr) (rs':List V) (H':Hp),H l'=none->H' l'=some (.lst rs')->LnAt H' rs' ls->Same H H'->Q (.ref l') H')
def zc8(n:Nat):Sp:=fun vs H Q _=>∃ v,vs=[v]/\CpV H n v Q
theorem xT(T:Txt w K mg a):∀ n,FnOk P w K mg base CX0 (n+2) 101 (dK K 101) ["value"] (zc8 n)
 |0=>⟨fun vs H Q E h=>by
   obtain⟨v,rfl,_⟩:=h;rfl,fun A outer s H args us vs Q E _ _ _ _ h=>by
   obtain⟨v,_,h⟩:=h;rcases h with⟨h,_⟩ | ⟨h,_⟩ | ⟨h,_⟩ | ⟨h,_⟩<;>omega⟩
 |n+1=>by
  have c_copied:Callee P w K mg base "copied" 101 (dK K 101) ["value"] (n+2) (zc8 n):=⟨xT T n,(T.g 1 rfl),(T.fn 1 rfl).kp,(T.bi 1 rfl)⟩;refine(T.fn 1 rfl).ok (scp 1 rfl) (fun vs H Q E h=>?_) (fun cdv A outer s H vs Q E hr h=>?_)
  ·obtain⟨v,rfl,_⟩:=h
   rfl
  ·obtain⟨v,rfl,h⟩:=h
   refine zR (zd (zv (zH (zq zK (by rfl) (T.n 5 rfl) zu (zh (zj 0) (zh (yz (T.n 6 rfl) wA) zb))))
    (ze (zm (yF rfl (N':=["each"]) (t:=1) (caps:=[]) ⟨rfl,rfl,rfl⟩ (yE (zj 0)) (fun _=>(zE (i:=0) (show(["each"]:List Str).Nodup by decide +kernel) rfl (Or.inl rfl))) (fun _=>y8) (fun _=>(zG c_copied hr.m (zh (zj 0) zb))))))
    zo)
   (zd (zv (zH (zq zK (by rfl) (T.n 5 rfl) zu (zh (zj 0) (zh (yz (T.n 13 rfl) wc) zb))))
    (ze (zm (zF xJ (by rfl) (T.n 13 rfl) wc (zn (yF rfl (N':=["each"]) (t:=1) (caps:=[]) ⟨rfl,rfl,rfl⟩ (uH (zj 0)) (fun _=>(zE (i:=0) (show(["each"]:List Str).Nodup by decide +kernel) rfl (Or.inl rfl))) (fun _=>y8) (fun _=>(zG c_copied hr.m (zh (zj 0) zb)))) zb))))
    zo)
   (zd (zv (zH (zq zK (by rfl) (T.n 5 rfl) zu (zh (zj 0) (zh (yz (T.n 7 rfl) wX) zb))))
    (ze (zm (zF (wb rfl) (by rfl) (T.n 7 rfl) wX (zn (WL (yF rfl (N':=["key", "each"]) (t:=2) (caps:=[]) ⟨rfl,rfl,rfl⟩ (wo (zj 0)) (fun _=>(x8 rfl (yh (zE (i:=0) (show(["key", "each"]:List Str).Nodup by decide +kernel) rfl (Or.inl rfl)) (yh (zE (i:=1) (show(["key", "each"]:List Str).Nodup by decide +kernel) rfl (Or.inl rfl)) xw)))) (fun _=>y8) (fun _=>(yC (zh (zj 0) (yj (zG c_copied hr.m (zh (zj 1) zb)) zb)))))) zb))))
    zo)
   (ze (zm (zj 0)))))) ?_
   rcases h with⟨_,hv,k⟩ | ⟨h2,t,i,j,rfl,ht,k⟩ | ⟨h2,d,f,us,rfl,hd,nd,l12,hf,k⟩ | ⟨h3,l,rs,ls,rfl,hl,L,l66,k⟩
   ·rcases hv with⟨i,rfl⟩ | rfl
    ·refine wk rfl rfl (.int i) (T.k 8 rfl) (iZ rfl ?_)
     refine wk rfl rfl (.int i) (T.k 9 rfl) (iZ rfl ?_);refine wk rfl rfl (.int i) (T.k 10 rfl) (iZ rfl ?_);exact⟨_,rfl,k⟩
    ·refine wk rfl rfl (.non) (T.k 11 rfl) (iZ rfl ?_)
     refine wk rfl rfl (.non) (T.k 12 rfl) (iZ rfl ?_);refine wk rfl rfl (.non) (T.k 13 rfl) (iZ rfl ?_);exact⟨_,rfl,k⟩
   ·refine wk rfl rfl (.tup ht) (T.k 4 rfl) (iZ rfl ?_)
    refine wk rfl rfl (.tup ht) (T.k 3 rfl) (vc ?_);refine⟨_,rfl,t,rfl,⟨_,sP ht⟩,fun D hD _=>?_⟩;refine X3 (K:=K) (a:=t) (xs:=[V.int i,V.int j]) (fun m zs τ H'=>∃ (o:Option V),τ=[o]/\zs=[V.int i,V.int j].take m/\H'=upd H D (.lst zs)) ?_ ?_ ?_ ?_
    ·exact⟨none,rfl,rfl,rfl⟩
    ·rintro m zs τ H' ⟨o,_,_,rfl⟩
     exact sP (by rw[upd_ne (nZ ht hD)];exact ht)
    ·rintro m v zs τ H' hi ⟨o,rfl,rfl,rfl⟩
     have hv:∃ y,v=V.int y:=by
      match m,hi with
      |0,hi=>exact⟨i,by cases hi;rfl⟩
      |1,hi=>exact⟨j,by cases hi;rfl⟩
      |m+2,hi=>simp at hi
     obtain⟨y,rfl⟩:=hv;have hml:m<2:=(List.getElem?_eq_some_iff.mp hi).1;refine YZ ?_;refine⟨_,rfl,_,rfl,.inl ⟨by omega,.inl ⟨y,rfl⟩,?_⟩⟩;refine⟨upd_same,by rw[length_take];exact ye (by omega),some (.int y),rfl,?_,?_⟩
     ·rw[take_add_one,hi];rfl
     ·rw[yH]
    ·rintro zs τ H' ⟨o,rfl,rfl,rfl⟩
     refine⟨D,_,rfl,.inl ⟨sO upd_same,fun t' ht'=>?_⟩⟩;exact k t' _ ((sW hD).free ht') upd_same ((sW hD).trans (sW ht'))
   ·refine wk rfl rfl (.dK hd) (T.k 5 rfl) (iZ rfl ?_)
    refine wk rfl rfl (.dK hd) (T.k 6 rfl) (iZ rfl ?_);refine wk rfl rfl (.dK hd) (T.k 7 rfl) (vc ?_);refine⟨_,rfl,d,_,rfl,hd,fun od S D hD _=>?_⟩;have hDd:D≠d:=fun z=>by rw[z,upd_same] at hD;cases hD
    generalize hG1:upd H d (HO.frz od (HO.dK (tabV f us)))=G1 at *;have hq1:G1 d=some (.frz od (.dK (tabV f us))):=by rw[<- hG1];exact upd_same
    have x1:Ext d H G1:=by rw[<- hG1];exact Ext.at
    refine Ut (yl:=yI) (d:=d) (od:=od) (kvs:=tabV f us) (fun i zs τ G'=>∃ (o1 o2:Option V) (qs:List Addr),τ=[o1,o2]/\zs=qs.map V.ref/\qs.length=i/\(∀ (j:Nat) (p:Addr) (x:Int),qs[j]?=some p->us[j]?=some x->G' p=some (.tup [.int x,f x]))/\G' D=some (.lst zs)/\Same G1 G') ?_ ?_ ?_ ?_
    ·exact⟨none,none,[],rfl,rfl,rfl,fun j q x h=>by simp at h,upd_same,sW hD⟩
    ·rintro i zs τ G' ⟨o1,o2,qs,_,_,_,_,_,sm⟩
     exact sm _ _ hq1
    ·rintro i kv v zs τ G' G'' hkv ⟨o1,o2,qs,rfl,rfl,lq,hqs,hD',sm⟩ hy
     obtain⟨x,hx,rfl⟩:∃ x,us[i]?=some x/\kv=(Sum.inl x,f x):=by
      unfold tabV at hkv;rw[List.getElem?_map] at hkv;obtain⟨x,h1,h2⟩:=map_eq_some_iff.mp hkv;exact⟨x,h1,h2.symm⟩
     obtain⟨p0,hp0,rfl,rfl⟩:=WD hy;have hil:i<us.length:=(List.getElem?_eq_some_iff.mp hx).1;have n1:=sW (o:=HO.tup [V.int x,f x]) hp0;refine⟨p0,_,rfl,sP upd_same,rfl,_,_,rfl,_,_,rfl,rfl,zdd ?_⟩;refine⟨_,rfl,_,rfl,_,rfl,.inl ⟨by omega,hf x (mem_of_getElem? hx),(by show 2<=sizeLine;decide),fun pt hpt=>?_⟩⟩;have n2:=sW (o:=HO.tup [V.int x,f x]) hpt;have n12:=n1.trans n2;have npt:pt≠D:=fun z=>by rw[z] at hpt;have:=n1 _ _ hD';rw[hpt] at this;cases this
     have hDF:=n12 _ _ hD';refine⟨hDF,by rw[length_map,lq];exact ye (by omega),some (.int x),some (f x),qs++[pt],rfl,by simp,by simp[lq],fun j p y hj hy'=>?_,upd_same,?_⟩
     ·by_cases hji:j<i
      ·rw[List.getElem?_append_left (by omega)] at hj
       have h1:=n12 _ _ (hqs j p y hj hy');rw[upd_ne (fun z=>by rw[z,hDF] at h1;cases h1)];exact h1
      ·rw[List.getElem?_append_right (by omega)] at hj
       have:j=i:=by
        have:=(List.getElem?_eq_some_iff.mp hj).1;simp at this;omega
       subst this;rw[lq,sub_self] at hj;cases hj;rw[hx] at hy';cases hy';rw[upd_ne npt];exact upd_same
     ·exact Same.updF (sm.trans n12) hD
    ·rintro zs τ G2 ⟨o1,o2,qs,rfl,rfl,lq,hqs,hD2,sm⟩
     refine .inr ⟨d,od,tabV f us,S,sm _ _ hq1,?_⟩;rw[tabV_len] at lq;have sG3:Same H (upd G2 d (HO.dK (tabV f us))):=fun b o e=>by
      by_cases z:b=d
      ·rw[z,hd] at e;cases e;rw[z];exact upd_same
      ·rw[upd_ne z];exact sm _ _ (x1 _ _ e z)
     have hD3:(upd G2 d (HO.dK (tabV f us))) D=some (.lst (qs.map V.ref)):=by rw[upd_ne hDd];exact hD2
     have hq3:∀ (j:Nat) (p:Addr) (x:Int),qs[j]?=some p->us[j]?=some x->(upd G2 d (HO.dK (tabV f us))) p=some (.tup [.int x,f x]):=fun j p x h1 h2=>by
      have h3:=hqs j p x h1 h2;rw[upd_ne (fun z=>by rw[z,sm _ _ hq1] at h3;cases h3)];exact h3
     generalize upd G2 d (HO.dK (tabV f us))=G3 at *;refine⟨D,qs,tabV f us,rfl,hD3,by rw[tabV_len];exact lq,by rw[tabV_len];omega,fun i q kv h1 h2=>?_,fun d' hd'=>?_⟩
     ·unfold tabV at h2
      rw[List.getElem?_map] at h2;obtain⟨x,h3,h4⟩:=map_eq_some_iff.mp h2;subst h4;exact hq3 i q x h1 h3
     rw[vf (by rw[vt];exact V9 nd)];exact k d' _ (sG3.free hd') upd_same (sG3.trans (sW hd'))
   ·refine wk rfl rfl (.lst hl) (T.k 2 rfl) (vc ?_)
    refine⟨_,rfl,l,rfl,⟨_,sO hl⟩,fun D hD _=>?_⟩;have lr:=L.1;refine v6 (K:=K) (a:=l) (xs:=rs) (fun m zs τ H'=>∃ (o:Option V),τ=[o]/\zs.length=m/\LnAt H' zs (ls.take m)/\H' D=some (.lst zs)/\Same H H') ?_ ?_ ?_ ?_
    ·exact⟨none,rfl,rfl,⟨rfl,fun i r p h=>by simp at h⟩,upd_same,sW hD⟩
    ·rintro m zs τ H' ⟨o,_,_,_,_,sm⟩
     exact sO (sm _ _ hl)
    ·rintro m v zs τ H' hi ⟨o,rfl,lz,Lz,hD',sm⟩
     obtain⟨p,q,hp,rfl,hq⟩:=L.get hi;have hml:m<rs.length:=(List.getElem?_eq_some_iff.mp hi).1;refine YZ ?_;refine⟨_,rfl,_,rfl,.inr (.inl ⟨by omega,q,p.1,p.2,rfl,sm _ _ hq,fun t' H2 ht' h2 s2=>?_⟩)⟩;have hD2:=s2 _ _ hD';refine⟨hD2,by rw[lz];exact ye (by omega),some (.ref q),rfl,by simp[lz],?_,upd_same,Same.updF (sm.trans s2) hD⟩;rw[take_add_one,hp];exact LnAt.updL hD2 ((Lz.same s2).snoc h2)
    ·rintro zs τ H' ⟨o,rfl,lz,Lz,hD',sm⟩
     rw[take_of_length_le (by omega)] at Lz;exact k D zs H' hD hD' Lz sm
inductive En (pf:Int->Option Int):Int->LI->Prop
 |z {x:Int}(h:pf x=none):En pf x [x]
 |s {x y:Int}{l:LI}(h:pf x=some y) (t:En pf y l):En pf x (x::l)
variable {pf:Int->Option Int}
theorem En.fn{x:Int}{l:LI}(h:En pf x l):∀ {l':LI},En pf x l'->l=l':=by
 induction h with
 |z h =>
  intro l' h';cases h' with
  |z _=>rfl
  |s h2 _=>rw[h] at h2;cases h2
 |s h t ih =>
  intro l' h';cases h' with
  |z h2=>rw[h] at h2;cases h2
  |s h2 t2 =>
   rw[h] at h2;cases h2;rw[ih t2]
theorem En.hd{x:Int}{l:LI}(h:En pf x l):∃ t,l=x::t:=by
 cases h with
 |z _=>exact⟨_,rfl⟩
 |s _ _=>exact⟨_,rfl⟩
theorem En.suf:∀ {ys:LI}{x v:Int}{zs:LI},En pf x (ys++v::zs)->En pf v (v::zs)
 |[],x,v,zs,h=>by
  obtain⟨t,e⟩:=h.hd;injection e with e1 e2;have h':En pf x (v::zs):=h;rw[<- e1] at h';exact h'
 |y::ys,x,v,zs,h=>by
  have h':En pf x (y::(ys++v::zs)):=h;generalize hl:y::(ys++v::zs)=l at h';cases h' with
  |z _ =>
   injection hl with _ hl;simp at hl
  |s h2 t =>
   injection hl with _ hl;rw[<- hl] at t;exact En.suf t
theorem En.nd{x:Int}{l:LI}(h:En pf x l):l.Nodup:=by
 induction h with
 |z _=>simp
 | @s x y l h t ih =>
  rw[nodup_cons];refine⟨fun hx=>?_,ih⟩;obtain⟨ys,zs,e⟩:=List.append_of_mem hx;rw[e] at t;have h1:=t.suf;have h2:=h1.fn (.s h t);have:=congrArg List.length h2;simp at this;omega
def Pre(pf:Int->Option Int)(x:Int)(ys:LI)(z:Int):Prop:=∀ l,En pf x l↔∃ l',En pf z l'/\l=ys++l'
theorem Pre.z{x:Int}:Pre pf x [] x:=fun l=>⟨fun h=>⟨l,h,rfl⟩,fun⟨l',h,e⟩=>by rw[e];exact h⟩
theorem Pre.s{x z y:Int}{ys:LI}(p:Pre pf x ys z)(h:pf z=some y):Pre pf x (ys++[z]) y:=fun l=>by
 rw[p l]
 constructor
 ·rintro⟨l',h1,e⟩
  cases h1 with
  |z h2=>rw[h] at h2;cases h2
  |s h2 t =>
   rw[h] at h2;cases h2;exact⟨_,t,by rw[e];simp⟩
 ·rintro⟨l',h1,e⟩
  exact⟨z::l',.s h h1,by rw[e];simp⟩
theorem Pre.end_{x z:Int}{ys:LI}(p:Pre pf x ys z)(h:pf z=none):En pf x (ys++[z]):=(p _).mpr ⟨[z],.z h,rfl⟩
theorem Pre.ring{x z y:Int}{ys:LI}(p:Pre pf x ys z)(h:pf z=some y)(hy:y∈ys++[z]):¬∃ l,En pf x l:=fun⟨l,hl⟩=>by
 obtain⟨l',h1,e⟩:=((p.s h) l).mp hl;obtain⟨t,e2⟩:=h1.hd;have nd:=hl.nd;rw[e,e2,nodup_append] at nd;exact nd.2.2 y hy y mem_cons_self rfl
noncomputable def paO(pf:Int->Option Int)(x:Int):LI:=by
 classical
 exact if h:∃ l,En pf x l then Classical.choose h else[x]
theorem uw{x:Int}{l:LI}(h:En pf x l):paO pf x=l:=by
 unfold paO;rw[dif_pos ⟨l,h⟩];exact(Classical.choose_spec (⟨l,h⟩:∃ l,En pf x l)).fn h
noncomputable def opV:Option Int->V
 |none=>.non
 |some y=>.int y
theorem VE(o:Option Int):Fl (opV o):=by
 cases o with
 |none=>exact .inr rfl
 |some y=>exact .inl ⟨y,rfl⟩
def UpP(us:LI)(pf:Int->Option Int)(pa:Int->LI):Prop:=∃ sf:Int->Nat,∀ x∈us,(pf x=none/\pa x=[x])\/∃ y,pf x=some y/\y∈us/\pa x=x::pa y/\sf y<sf x
def ldr(pa:Int->LI)(x:Int):Int:=(pa x).getLastD x
theorem zgA{us:LI}{pf:Int->Option Int}{pa:Int->LI}{sf:Int->Nat}(U:∀ x∈us,(pf x=none/\pa x=[x])\/∃ y,pf x=some y/\y∈us/\pa x=x::pa y/\sf y<sf x):∀ (n:Nat){x:Int},sf x<=n->x∈us->(∃ ys,pa x=ys++[ldr pa x])/\pf (ldr pa x)=none/\ldr pa x∈us/\(pa x).Nodup/\(∀ y∈pa x,y∈us/\sf y<=sf x):=by
 intro n
 induction n with
 |zero =>
  intro x hn hx;rcases U x hx with⟨h1,h2⟩ | ⟨y,_,_,_,h⟩
  ·have e:ldr pa x=x:=by unfold ldr;rw[h2];rfl
   rw[e,h2];exact⟨⟨[],rfl⟩,h1,hx,by simp,fun y hy=>by rw[mem_singleton.mp hy];exact⟨hx,Nat.le_refl _⟩⟩
  ·omega
 |succ n ih =>
  intro x hn hx;rcases U x hx with⟨h1,h2⟩ | ⟨y,h1,h2,h3,h4⟩
  ·have e:ldr pa x=x:=by unfold ldr;rw[h2];rfl
   rw[e,h2];exact⟨⟨[],rfl⟩,h1,hx,by simp,fun y hy=>by rw[mem_singleton.mp hy];exact⟨hx,Nat.le_refl _⟩⟩
  ·obtain⟨⟨ys,i1⟩,i2,i3,i4,i5⟩:=ih (x:=y) (by omega) h2
   have e:ldr pa x=ldr pa y:=by
    have:(pa x).getLastD x=ldr pa y:=by
     rw[h3,i1,<- List.cons_append,List.getLastD_eq_getLast?,List.getLast?_append];rfl
    exact this
   rw[e,h3];refine⟨⟨x::ys,by rw[List.cons_append,<- i1]⟩,i2,i3,nodup_cons.mpr ⟨fun z=>?_,i4⟩,fun u hu=>?_⟩
   ·have:=(i5 x z).2
    omega
   ·rcases mem_cons.mp hu with z | z
    ·rw[z];exact⟨hx,Nat.le_refl _⟩
    ·have:=i5 u z
     exact⟨this.1,by omega⟩
structure WayAt (a:Ad) (H:Hp) (p:Addr) (pf:Int->Option Int) (us:LI) (ls:LP) (dx dp ob:Addr):Prop where
 p:H p=some (.ins 181 dx [("own_parents",.ref dp),("own_bridges",.ref ob)])
 dp:H dp=some (.dK (tabV (fun x=>opV (pf x)) us))
 ob:∃ rs,H ob=some (.lst rs)/\LnAt H rs ls
 nd:us.Nodup
 l12:us.length<=12
 l66:ls.length<=200
theorem WayAt.same{a:Ad}{H H':Hp}{p dx dp ob:Addr}{pf:Int->Option Int}{us:LI}{ls:LP}(w:WayAt a H p pf us ls dx dp ob)(s:Same H H'):WayAt a H' p pf us ls dx dp ob:=⟨s _ _ w.p,s _ _ w.dp,by obtain⟨rs,e1,e2⟩:=w.ob;exact⟨rs,s _ _ e1,e2.same s⟩,w.nd,w.l12,w.l66⟩
structure WayR (a:Ad) (H:Hp) (p:Addr) (pf:Int->Option Int) (us:LI) (dx dp ob:Addr):Prop where
 p:H p=some (.ins 181 dx [("own_parents",.ref dp),("own_bridges",.ref ob)])
 dp:Rd H dp (.dK (tabV (fun x=>opV (pf x)) us))
 l12:us.length<=12
theorem WayAt.r{a:Ad}{H:Hp}{p dx dp ob:Addr}{pf:Int->Option Int}{us:LI}{ls:LP}(w:WayAt a H p pf us ls dx dp ob):WayR a H p pf us dx dp ob:=⟨w.p,.inl w.dp,w.l12⟩
theorem zbT{H H':Hp}{d:Addr}{u:HO}(h:Rd H d u)(s:Same H H'):Rd H' d u:=h.elim (fun e=>.inl (s _ _ e)) fun⟨o,e⟩=>.inr ⟨o,s _ _ e⟩
theorem WayR.same{a:Ad}{H H':Hp}{p dx dp ob:Addr}{pf:Int->Option Int}{us:LI}(w:WayR a H p pf us dx dp ob)(s:Same H H'):WayR a H' p pf us dx dp ob:=⟨s _ _ w.p,zbT w.dp s,w.l12⟩
theorem ZC{H:Hp}{d:Addr}{f:Int->V}{us:LI}{x:Int}(e:Rd H d (.dK (tabV f us)))(h:x∈us):DGet H d (V.int x) (some (f x)):=.inl ⟨_,.inl x,e,rfl,(YB h).symm⟩
def zdL(a:Ad):Sp:=fun vs H Q _=>∃ (p dx d l:Addr) (pf:Int->Option Int) (us:LI) (rs:List V) (ls:LP),vs=[.ref p,.ref d,.ref l]/\H p=some (.ins 181 dx [])/\H d=some (.dK (tabV (fun x=>opV (pf x)) us))/\us.Nodup/\us.length<=12/\H l=some (.lst rs)/\LnAt H rs ls/\ls.length<=200 /\
 ∀ (dp ob:Addr) (H':Hp),H dp=none->H ob=none->Ext p H H'->WayAt a H' p pf us ls dx dp ob->Q .non H'
theorem zeb(T:Txt w K mg a):FnOk P w K mg base CX0 6 115 (dK K 115) ["self", "parents", "bridges"] (zdL a):=by
 have c_copied:Callee P w K mg base "copied" 101 (dK K 101) ["value"] (3+2) (zc8 3):=⟨xT T 3,(T.g 1 rfl),(T.fn 1 rfl).kp,(T.bi 1 rfl)⟩;refine(T.fn 39 rfl).ok (scp 39 rfl) (fun vs H Q E h=>?_) (fun cdv A outer s H vs Q E hr h=>?_)
 ·obtain⟨p,dx,d,l,pf,us,rs,ls,rfl,_⟩:=h
  rfl
 ·obtain⟨p,dx,d,l,pf,us,rs,ls,rfl,hp,hd,nd,l12,hl,L,l66,k⟩:=h
  refine zR (zd (yn (zj 0) (zG c_copied hr.m (zh (zj 1) zb)) rfl)
   (ze (yn (zj 0) (zG c_copied hr.m (zh (zj 2) zb)) rfl))) ?_
  refine⟨_,rfl,_,rfl,.inr (.inr (.inl ⟨by decide,d,_,us,rfl,hd,nd,l12,fun x _=>VE _,fun dp H1 hdp h1 s1=>?_⟩))⟩;have ndp:dp≠p:=fun z=>by rw[z,hp] at hdp;cases hdp
  refine⟨_,rfl,p,181,dx,_,rfl,s1 _ _ hp,(T.cl 0 rfl),(T.na 0 0 rfl rfl),(by show 0<1000;decide),?_⟩;have x1:=(Ext.same (l:=p) s1).trans (Ext.at (l:=p) (o:=.ins 181 dx [("own_parents",.ref dp)]));have nlp:l≠p:=fun z=>by rw[z,hp] at hl;cases hl
  refine⟨_,rfl,_,rfl,.inr (.inr (.inr ⟨by decide,l,rs,ls,rfl,x1 _ _ hl nlp,L.ext hp x1,l66,fun ob rs' H2 hob h2 L2 s2=>?_⟩))⟩;refine⟨_,rfl,p,181,dx,_,rfl,s2 _ _ upd_same,(T.cl 0 rfl),(T.na 0 1 rfl rfl),(by show 1<1000;decide),?_⟩;have nob:ob≠p:=fun z=>by rw[z,upd_same] at hob;cases hob
  have fob:H ob=none:=by
   cases h:H ob with
   |none=>rfl
   |some o=>exact nomatch ((x1 _ _ h nob).symm.trans hob:some o=none)
  refine k dp ob _ hdp fob ((x1.trans (Ext.same s2)).trans Ext.at) ⟨upd_same,?_,⟨rs',?_,L2.ext (s2 _ _ upd_same) Ext.at⟩,nd,l12,l66⟩
  ·rw[upd_ne ndp]
   exact s2 _ _ ((upd_ne ndp).trans h1)
  ·rw[upd_ne nob]
   exact h2
def zgr(a:Ad):Sp:=fun vs H Q _=>∃ (p dx dp ob:Addr) (pf:Int->Option Int) (us:LI) (ls:LP),vs=[.ref p]/\WayAt a H p pf us ls dx dp ob/\∀ (d:Addr) (H':Hp),H d=none->H' d=some (.dK (tabV (fun x=>opV (pf x)) us))->Same H H'->Q (.ref d) H'
theorem zdP{p dx dp ob:Addr}{pf:Int->Option Int}{us:LI}{ls:LP}{H:Hp}{Q:VK}{E:XK}(W:WayAt a H p pf us ls dx dp ob)(k:∀ (d:Addr) (H':Hp),H d=none->H' d=some (.dK (tabV (fun x=>opV (pf x)) us))->Same H H'->Q (.ref d) H'):zgr a [.ref p] H Q E:=⟨p,dx,dp,ob,pf,us,ls,rfl,W,k⟩
theorem zfU(T:Txt w K mg a):FnOk P w K mg base CX0 6 129 (dK K 129) ["self"] (zgr a):=by
 have c_copied:Callee P w K mg base "copied" 101 (dK K 101) ["value"] (3+2) (zc8 3):=⟨xT T 3,(T.g 1 rfl),(T.fn 1 rfl).kp,(T.bi 1 rfl)⟩;refine(T.fn 41 rfl).ok (scp 41 rfl) (fun vs H Q E h=>?_) (fun cdv A outer s H vs Q E hr h=>?_)
 ·obtain⟨p,dx,dp,ob,pf,us,ls,rfl,_⟩:=h
  rfl
 ·obtain⟨p,dx,dp,ob,pf,us,ls,rfl,W,k⟩:=h
  refine zR (ze (zm (zG c_copied hr.m (zn (zI (zj 0) rfl) zb)))) ?_;exact⟨_,rfl,p,_,dx,_,_,rfl,W.p,(T.cl 0 rfl),(T.na 0 0 rfl rfl),rfl,_,rfl,.inr (.inr (.inl ⟨by decide,dp,_,us,rfl,W.dp,W.nd,W.l12,fun x _=>VE _,k⟩))⟩
def zgs(a:Ad):Sp:=fun vs H Q _=>∃ (p dx dp ob:Addr) (pf:Int->Option Int) (us:LI) (ls:LP),vs=[.ref p]/\WayAt a H p pf us ls dx dp ob/\∀ (l:Addr) (rs:List V) (H':Hp),H l=none->H' l=some (.lst rs)->LnAt H' rs ls->Same H H'->Q (.ref l) H'
theorem za6{p dx dp ob:Addr}{pf:Int->Option Int}{us:LI}{ls:LP}{H:Hp}{Q:VK}{E:XK}(W:WayAt a H p pf us ls dx dp ob)(k:∀ (l:Addr) (rs:List V) (H':Hp),H l=none->H' l=some (.lst rs)->LnAt H' rs ls->Same H H'->Q (.ref l) H'):zgs a [.ref p] H Q E:=⟨p,dx,dp,ob,pf,us,ls,rfl,W,k⟩
theorem zeg(T:Txt w K mg a):FnOk P w K mg base CX0 6 136 (dK K 136) ["self"] (zgs a):=by
 have c_copied:Callee P w K mg base "copied" 101 (dK K 101) ["value"] (3+2) (zc8 3):=⟨xT T 3,(T.g 1 rfl),(T.fn 1 rfl).kp,(T.bi 1 rfl)⟩;refine(T.fn 42 rfl).ok (scp 42 rfl) (fun vs H Q E h=>?_) (fun cdv A outer s H vs Q E hr h=>?_)
 ·obtain⟨p,dx,dp,ob,pf,us,ls,rfl,_⟩:=h
  rfl
 ·obtain⟨p,dx,dp,ob,pf,us,ls,rfl,W,k⟩:=h
  refine zR (ze (zm (zG c_copied hr.m (zn (zI (zj 0) rfl) zb)))) ?_;obtain⟨rs,e1,e2⟩:=W.ob;exact⟨_,rfl,p,_,dx,_,_,rfl,W.p,(T.cl 0 rfl),(T.na 0 1 rfl rfl),rfl,_,rfl,.inr (.inr (.inr ⟨by decide,ob,rs,ls,rfl,e1,e2,W.l66,k⟩))⟩
def Cl(us:LI)(pf:Int->Option Int):Prop:=∀ x∈us,∀ y,pf x=some y->y∈us
def zgU(a:Ad):Sp:=fun vs H Q _=>∃ (p dx dp ob:Addr) (pf:Int->Option Int) (us:LI) (x:Int),vs=[.ref p,.int x]/\WayR a H p pf us dx dp ob/\Cl us pf/\x∈us /\
 ∀ (l:Addr) (ys:LI) (z:Int),H l=none->z∈us->((pf z=none/\En pf x (ys++[z]))\/(pf z≠none/\¬∃ l,En pf x l))->Q (.ref l) (upd H l (.lst ((ys++[z]).map V.int)))
theorem zfJ(T:Txt w K mg a):FnOk P w K mg base CX0 1 143 (dK K 143) ["self", "hand"] (zgU a):=by
 refine(T.fn 43 rfl).ok (scp 43 rfl) (fun vs H Q E h=>?_) (fun cdv A outer s H vs Q E hr h=>?_)
 ·obtain⟨p,dx,dp,ob,pf,us,x,rfl,_⟩:=h
  rfl
 ·obtain⟨p,dx,dp,ob,pf,us,x,rfl,W,C,hx,k⟩:=h
  have hu:=vY hr;refine zR (zd (zr (i:=2) (scp 43 rfl).nd rfl (Or.inl rfl) (zt (zh (zj 1) zb)))
   (zd (zr (i:=3) (scp 43 rfl).nd rfl (Or.inl rfl) (uo hu (zI (zj 0) rfl) (zj 1) ⟨rfl,rfl,rfl,rfl⟩))
   (zd (X8 PassesOwn.never (uc (yB (zp wu (zj 3) zJ (zB _)) (yw (zp xS (zj 3) (zj 2) (by with_unfolding_all rfl)))))
    (zd (xa (zY F.plainAttrs_list F.slot_list_append F.type_list_append xB (zj 2) (zh (zj 3) zb)))
    (ze (zr (i:=3) (scp 43 rfl).nd rfl (Or.inl rfl) (uo hu (zI (zj 0) rfl) (zj 3) ⟨rfl,rfl,rfl,rfl⟩)))))
   (ze (zm (zj 2)))))) ?_
  refine⟨_,rfl,(by show 1<=sizeLine;decide),fun l hl=>?_⟩;have sm:∀ o,Same H (upd H l o):=fun o=>sW hl;refine⟨_,rfl,p,_,dx,_,_,rfl,(W.same (sm _)).p,(T.cl 0 rfl),(T.na 0 0 rfl rfl),rfl,dp,rfl,.inl ⟨_,(W.same (sm _)).dp⟩,_,rfl,some (opV (pf x)),ZC (W.same (sm _)).dp hx,?_⟩;refine⟨fun m σ H'=>∃ (ys:LI) (z:Int),m+(ys++[z]).length=us.length/\σ=[some (.ref p),some (.int x),some (.ref l),some (opV (pf z))]/\H'=upd H l (.lst ((ys++[z]).map V.int))/\z∈us/\Pre pf x ys z/\(ys++[z]).Nodup/\∀ y∈ys,y∈us,⟨us.length-1,[],x,by have:=length_pos_of_mem hx;simp;omega,rfl,rfl,hx,Pre.z,(by simp),(fun y hy=>(nomatch hy))⟩,?_⟩;rintro m σ H' ⟨ys,z,hm,rfl,rfl,hz,hp,nd,hsub⟩;have hlen:(ys++[z]).length<=12:=le_trans (by omega) W.l12;cases h1:pf z with
  |none =>
   refine⟨_,rfl,rfl,_,rfl,iZ rfl ?_⟩;refine⟨_,rfl,?_⟩;exact k l ys z hl hz (.inl ⟨h1,hp.end_ h1⟩)
  |some y =>
   refine⟨_,rfl,rfl,_,rfl,vc ?_⟩;have h2:=C z hz y h1;by_cases hny:y∈ys++[z]
   ·refine⟨_,rfl,_,rfl,l,_,rfl,.inl (sO upd_same),rfl,xX _,_,rfl,iZ (by show(!inV (.int y) _)=false;rw[xW,decide_eq_true hny];rfl) ?_⟩
    refine⟨_,rfl,?_⟩;exact k l ys z hl hz (.inr ⟨by rw[h1];simp,hp.ring h1 hny⟩)
   ·refine⟨_,rfl,_,rfl,l,_,rfl,.inl (sO upd_same),rfl,xX _,_,rfl,zZ (by show(!inV (.int y) _)=true;rw[xW,decide_eq_false hny];rfl) ?_⟩
    refine⟨_,fun σ' H' h=>h,?_⟩;refine⟨_,rfl,.inl ⟨rfl,_,sO upd_same⟩,_,rfl,l,_,_,rfl,rfl,upd_same,(by rw[length_map];exact ye (by omega)),?_⟩;rw[yH];refine⟨_,rfl,p,_,dx,_,_,rfl,(W.same (sm _)).p,(T.cl 0 rfl),(T.na 0 0 rfl rfl),rfl,dp,rfl,.inl ⟨_,(W.same (sm _)).dp⟩,_,rfl,some (opV (pf y)),ZC (W.same (sm _)).dp h2,?_⟩;have nd2:(ys++[z]++[y]).Nodup:=by
     rw[nodup_append];exact⟨nd,by simp,fun u hu v hv e=>hny (by rw[mem_singleton.mp hv] at e;rw[<- e];exact hu)⟩
    have hs2:∀ u∈ys++[z],u∈us:=fun u hu=>(mem_append.mp hu).elim (hsub u) fun q=>by rw[mem_singleton.mp q];exact hz
    have hn2:=zco nd2 fun u hu=>(mem_append.mp hu).elim (hs2 u) fun q=>by rw[mem_singleton.mp q];exact h2
    have e2:(ys++[z]++[y]).length=(ys++[z]).length+1:=by simp
    refine⟨m-1,by omega,ys++[z],y,by omega,rfl,?_,h2,hp.s h1,nd2,hs2⟩;rw[map_append (l₂:=[y])];rfl
def zfo(a:Ad):Sp:=fun vs H Q _=>∃ (p dx dp ob:Addr) (pf:Int->Option Int) (us:LI) (x:Int),vs=[.ref p,.int x]/\WayR a H p pf us dx dp ob/\Cl us pf/\x∈us/\∀ (ys:LI) (z:Int) (H':Hp),Same H H'->z∈us->((pf z=none/\En pf x (ys++[z]))\/(pf z≠none/\¬∃ l,En pf x l))->Q (.int z) H'
theorem zbf(T:Txt w K mg a):FnOk P w K mg base CX0 2 150 (dK K 150) ["self", "hand"] (zfo a):=by
 refine(T.fn 44 rfl).ok (scp 44 rfl) (fun vs H Q E h=>?_) (fun cdv A outer s H vs Q E hr h=>?_)
 ·obtain⟨p,dx,dp,ob,pf,us,x,rfl,_⟩:=h
  rfl
 ·obtain⟨p,dx,dp,ob,pf,us,x,rfl,W,C,hx,k⟩:=h
  refine zR (ze (zm (zw zC (yi (zj 0) (zh (zj 1) zb)) (WK WV zg) (fun _ _=>rfl)))) ?_;refine mtV rfl W.p rfl (T.cl 0 rfl) (T.mt 43 rfl) (zfJ (P:=P) (w:=w) T) hr.m (T.bi 43 rfl) ⟨_,rfl,p,dx,dp,ob,pf,us,x,rfl,W,C,hx,fun l ys z hl hz hor=>?_⟩;refine⟨_,rfl,l,_,-1,_,rfl,rfl,sO upd_same,?_,k ys z _ (sW hl) hz hor⟩;rw[map_append];exact at_last
theorem UpP.cl{us:LI}{pf:Int->Option Int}{pa:Int->LI}(U:UpP us pf pa):Cl us pf:=fun x hx y h=>by
 obtain⟨sf,U⟩:=U;rcases U x hx with⟨h1,_⟩ | ⟨y',h1,h2,_⟩
 ·rw[h] at h1;cases h1
 ·rw[h] at h1;cases h1;exact h2
theorem UpP.en{us:LI}{pf:Int->Option Int}{pa:Int->LI}(U:UpP us pf pa){x:Int}(hx:x∈us):En pf x (pa x):=by
 obtain⟨sf,U⟩:=U;have go:∀ (n:Nat){x:Int},sf x<=n->x∈us->En pf x (pa x):=by
  intro n
  induction n with
  |zero =>
   intro x hn hx;rcases U x hx with⟨h1,h2⟩ | ⟨y,_,_,_,h⟩
   ·rw[h2];exact .z h1
   ·omega
  |succ n ih =>
   intro x hn hx;rcases U x hx with⟨h1,h2⟩ | ⟨y,h1,h2,h3,h4⟩
   ·rw[h2];exact .z h1
   ·rw[h3];exact .s h1 (ih (by omega) h2)
 exact go _ (Nat.le_refl _) hx
theorem UpP.of{us:LI}{pf:Int->Option Int}(C:Cl us pf)(h:∀ x∈us,∃ l,En pf x l):UpP us pf (paO pf):=⟨fun x=>(paO pf x).length,fun x hx=>by
 obtain⟨l,hl⟩:=h x hx;cases hl with
 |z h1=>exact .inl ⟨h1,uw (.z h1)⟩
 | @s _ y l h1 t=>exact .inr ⟨y,h1,C x hx y h1,by rw[uw (.s h1 t),uw t],by show(paO pf y).length<(paO pf x).length;rw[uw (.s h1 t),uw t];simp⟩⟩
def zgh(a:Ad):Sp:=fun vs H Q _=>∃ (p dx dp ob:Addr) (pf:Int->Option Int) (pa:Int->LI) (us:LI) (x:Int),vs=[.ref p,.int x]/\WayR a H p pf us dx dp ob/\UpP us pf pa/\x∈us/\∀ (H':Hp),Same H H'->Q (.int (ldr pa x)) H'
theorem za3{p dx dp ob:Addr}{pf:Int->Option Int}{pa:Int->LI}{us:LI}{x:Int}{H:Hp}{Q:VK}{E:XK}(W:WayR a H p pf us dx dp ob)(U:UpP us pf pa)(hx:x∈us)(k:∀ (H':Hp),Same H H'->Q (.int (ldr pa x)) H'):zgh a [.ref p,.int x] H Q E:=⟨p,dx,dp,ob,pf,pa,us,x,rfl,W,U,hx,k⟩
theorem zab(T:Txt w K mg a):FnOk P w K mg base CX0 2 150 (dK K 150) ["self", "hand"] (zgh a):=(zbf T).imp fun vs H Q E h=>by
 obtain⟨p,dx,dp,ob,pf,pa,us,x,rfl,W,U,hx,k⟩:=h;refine⟨p,dx,dp,ob,pf,us,x,rfl,W,U.cl,hx,fun ys z H' s hz hor=>?_⟩;rcases hor with⟨_,h⟩ | ⟨_,h⟩
 ·have e:ldr pa x=z:=by
   unfold ldr;rw[(U.en hx).fn h,List.getLastD_eq_getLast?,List.getLast?_append];simp
  rw[<- e];exact k _ s
 ·exact absurd ⟨_,U.en hx⟩ h
open L2.Sco (PT PsAt)
noncomputable def jk(lf:Int->Int)(p:Int×Int):Int×Int:=(min (lf p.1) (lf p.2),max (lf p.1) (lf p.2))
def jst(lf:Int->Int)(acc:List ((Int×Int)×(Int×Int)))(p:Int×Int):List ((Int×Int)×(Int×Int)) :=
 if lf p.1=lf p.2 then acc else if jk lf p∈acc.map (·.1) then acc else acc++[(jk lf p,p)]
def jn(lf:Int->Int)(ls:LP):List ((Int×Int)×(Int×Int)):=ls.foldl (jst lf) []
theorem YX{lf:Int->Int}{ls:LP}{p:Int×Int}:jn lf (ls++[p])=jst lf (jn lf ls) p:=by
 unfold jn;rw[List.foldl_append];rfl
theorem zcy{lf:Int->Int}{acc:List ((Int×Int)×(Int×Int))}{p:Int×Int}:(jst lf acc p).length<=acc.length+1:=by
 unfold jst
 split
 ·omega
 ·split
  ·omega
  ·simp
theorem zex{lf:Int->Int}{ls:LP}:(jn lf ls).length<=ls.length:=by
 suffices ∀ (acc:List ((Int×Int)×(Int×Int))),(ls.foldl (jst lf) acc).length<=acc.length+ls.length by
  have:=this [];unfold jn
  simpa using this
 induction ls with
 |nil=>intro acc;simp
 |cons p ls ih =>
  intro acc;have h1:=ih (jst lf acc p);have h2:=zcy (lf:=lf) (acc:=acc) (p:=p);rw[List.foldl_cons,length_cons];omega
theorem Wa{x y:Int}{ms:LI}(pm:ms.Perm [x,y])(sd:ms.Pairwise (· <= ·)):ms=[min x y,max x y]:=by
 have hl:=pm.length_eq
 match ms,hl with
 |[u,v],_ =>
  have h1:u<=v:=(pairwise_cons.mp sd).1 v (by simp);have hu:u=x\/u=y:=by simpa using pm.mem_iff.mp (show u∈[u,v] by simp)
  have hx:x=u\/x=v:=by simpa using pm.mem_iff.mpr (show x∈[x,y] by simp)
  have hy:y=u\/y=v:=by simpa using pm.mem_iff.mpr (show y∈[x,y] by simp)
  have hv:v=x\/v=y:=by simpa using pm.mem_iff.mp (show v∈[u,v] by simp)
  have e1:u=min x y:=by omega
  have e2:v=max x y:=by omega
  rw[e1,e2]
def kvJ(js:List ((Int×Int)×PT)):List (List Key×V):=js.map fun j=>([Sum.inl j.1.1,Sum.inl j.1.2],V.ref j.2.1)
def tlJ(js:List ((Int×Int)×PT)):List ((Int×Int)×(Int×Int)):=js.map fun j=>(j.1,j.2.2)
theorem VW{js:List ((Int×Int)×PT)}{k:Int×Int}:(xK (kvJ js) ([Sum.inl k.1,Sum.inl k.2]:List Key)).isSome=decide (k∈js.map (·.1)):=by
 rw[wC];apply decide_eq_decide.mpr;unfold kvJ;rw[map_map]
 constructor
 ·intro h
  obtain⟨j,hj,e⟩:=mem_map.mp h;refine mem_map.mpr ⟨j,hj,?_⟩;have e:([Sum.inl j.1.1,Sum.inl j.1.2]:List Key)=[Sum.inl k.1,Sum.inl k.2]:=e;injection e with e1 e2;injection e2 with e2 _;injection e1 with e1;injection e2 with e2;exact Prod.ext e1 e2
 ·intro h
  obtain⟨j,hj,e⟩:=mem_map.mp h;exact mem_map.mpr ⟨j,hj,by rw[<- e];rfl⟩
def zgn(a:Ad):Sp:=fun vs H Q _=>∃ (p dx dp ob l:Addr) (pf:Int->Option Int) (pa:Int->LI) (us:LI) (bs ls:LP) (rs:List V),vs=[.ref p,.ref l]/\WayAt a H p pf us bs dx dp ob/\UpP us pf pa/\H l=some (.lst rs)/\LnAt H rs ls/\Bd ls/\ls.length<=66/\(∀ q∈ls,q.1∈us/\q.2∈us) /\
 ∀ (d:Addr) (js:List ((Int×Int)×PT)) (H':Hp),H d=none->H' d=some (.dT (kvJ js))->tlJ js=jn (ldr pa) ls->PsAt H' (js.map (·.2))->Same H H'->Q (.ref d) H'
theorem zfQ(T:Txt w K mg a):FnOk P w K mg base CX0 3 227 (dK K 227) ["way", "lines"] (zgn a):=by
 refine(T.fn 7 rfl).ok (scp 7 rfl) (fun vs H Q E h=>?_) (fun cdv A outer s H vs Q E hr h=>?_)
 ·obtain⟨p,dx,dp,ob,l,pf,pa,us,bs,ls,rs,rfl,_⟩:=h
  rfl
 ·obtain⟨p,dx,dp,ob,l,pf,pa,us,bs,ls,rs,rfl,W,U,hl,L,B,l66,hin,k⟩:=h
  have hu:=vY hr;generalize hlf:ldr pa=lf at *;refine zR (zd (zr (i:=2) (scp 7 rfl).nd rfl (Or.inl rfl) um)
   (zd (yt PassesOwn.never rfl (yE (zj 1)) (x8 rfl (yh (zE (i:=3) (scp 7 rfl).nd rfl (Or.inl rfl)) (yh (zE (i:=4) (scp 7 rfl).nd rfl (Or.inl rfl)) xw)))
    (zd (zr (i:=5) (scp 7 rfl).nd rfl (Or.inl rfl) (zF xJ (by rfl) (T.n 13 rfl) wc (yj (zq Ww (by rfl) (T.n 9 rfl) Ym (zn (zt (yj (yi (zj 0) (zh (zj 3) zb)) (yj (yi (zj 0) (zh (zj 4) zb)) zb))) zb)) zb)))
    (ze (zv (zp wv (zw yY (zj 5) zg (fun _ _=>rfl)) (zw yY (zj 5) zg (fun _ _=>rfl)) (zB _))
     (ze (xa (WR hu (zj 2) (zj 5) (yC (zh (zj 3) (zh (zj 4) zb))) ⟨rfl,rfl,rfl,rfl⟩)))
     zo))))
   (ze (zm (zj 2))))) ?_
  refine fun d hd=>?_;have lr:=L.1;refine⟨_,rfl,l,rfl,⟨_,sO (sW hd _ _ hl)⟩,?_⟩;refine for_list (xs:=rs) (fun i σ H'=>∃ (js:List ((Int×Int)×PT)) (o3 o4 o5:Option V),σ=[some (.ref p),some (.ref l),some (.ref d),o3,o4,o5]/\H' d=some (.dT (kvJ js))/\tlJ js=jn lf (ls.take i)/\PsAt H' (js.map (·.2))/\Same H H') ?_ ?_ ?_ ?_
  ·exact⟨[],none,none,none,rfl,upd_same,rfl,(fun p hp=>(nomatch hp)),sW hd⟩
  ·rintro i σ H' hi ⟨js,o3,o4,o5,_,_,_,_,sm⟩
   exact sO (sm _ _ hl)
  ·rintro i v σ H1 hi ⟨js,o3,o4,o5,rfl,hd1,ej,ps,sm⟩
   obtain⟨⟨x,y⟩,q,hp,rfl,hq⟩:=L.get hi;have hpm:=mem_of_getElem? hp;obtain⟨hx,hy⟩:=hin _ hpm;have hbd:=B _ hpm;dsimp only at hx hy hbd hq;have ljs:js.length<=66:=by
    have h1:=congrArg List.length ej;unfold tlJ at h1;rw[length_map] at h1;have h2:=zex (lf:=lf) (ls:=ls.take i);rw[length_take] at h2;omega
   refine⟨q,_,rfl,sP (sm _ _ hq),rfl,_,_,rfl,_,_,rfl,rfl,?_⟩;refine mtV rfl (sm _ _ W.p) rfl (T.cl 0 rfl) (T.mt 44 rfl) (zab (P:=P) (w:=w) T) hr.m (T.bi 44 rfl) (ag1 rfl (za3 ((W.same sm).r) U hx (fun H2 s2=>?_)));rw[hlf];have sm2:=sm.trans s2;refine mtV rfl (sm2 _ _ W.p) rfl (T.cl 0 rfl) (T.mt 44 rfl) (zab (P:=P) (w:=w) T) hr.m (T.bi 44 rfl) (ag1 rfl (za3 ((W.same sm2).r) U hy (fun H3 s3=>?_)));rw[hlf];have sm3:=sm2.trans s3;refine⟨(by show 2<=sizeLine;decide),fun pl hpl=>?_⟩;have s4:=sW (o:=HO.lst [V.int (lf x),V.int (lf y)]) hpl;refine⟨pl,[lf x,lf y],rfl,sO upd_same,(by show 2<64;decide),fun pm ms hpm' pmm sd=>?_⟩;rw[Wa pmm sd];have s5:=s4.trans (sW (o:=HO.lst ([min (lf x) (lf y),max (lf x) (lf y)].map V.int)) hpm');refine⟨pm,_,rfl,.inl ⟨sO upd_same,fun pt hpt=>?_⟩⟩;have s6:=s5.trans (sW (o:=HO.tup ([min (lf x) (lf y),max (lf x) (lf y)].map V.int)) hpt);have ht6:=upd_same (H:=(upd (upd H3 pl (HO.lst [V.int (lf x),V.int (lf y)])) pm (HO.lst ([min (lf x) (lf y),max (lf x) (lf y)].map V.int)))) (a:=pt) (o:=HO.tup ([min (lf x) (lf y),max (lf x) (lf y)].map V.int));generalize upd (upd (upd H3 pl (HO.lst [V.int (lf x),V.int (lf y)])) pm (HO.lst ([min (lf x) (lf y),max (lf x) (lf y)].map V.int))) pt (HO.tup ([min (lf x) (lf y),max (lf x) (lf y)].map V.int))=H6 at *;have t6:=(s2.trans s3).trans s6;have sm6:=sm.trans t6;refine⟨_,rfl,pt,_,0,_,rfl,rfl,sP ht6,rfl,_,rfl,pt,_,1,_,rfl,rfl,sP ht6,rfl,rfl,_,rfl,?_⟩;have etk:ls.take (i+1)=ls.take i++[(x,y)]:=by rw[take_add_one,hp];rfl
   by_cases c:lf x=lf y
   ·refine iZ (by rw[c];simp) ?_
    refine⟨js,_,_,_,rfl,t6 _ _ hd1,?_,ps.same t6,sm6⟩;rw[etk,YX];unfold jst;rw[if_pos c];exact ej
   ·refine zZ (by simp;omega) ?_
    refine⟨_,rfl,d,rfl,.inr ⟨_,.inl (t6 _ _ hd1)⟩,_,rfl,_,rfl,_,rfl,(by show 2<=sizeLine;decide),fun pr hpr=>?_⟩;have s7:=sW (o:=HO.tup [V.int x,V.int y]) hpr;have t7:=t6.trans s7;have hd7:=t7 _ _ hd1;have npd:pr≠d:=fun z=>by rw[z,t6 _ _ hd1] at hpr;cases hpr
    have key:(xK (kvJ js) ([Sum.inl (min (lf x) (lf y)),Sum.inl (max (lf x) (lf y))]:List Key)).isSome=decide (jk lf (x,y)∈js.map (·.1)):=VW (js:=js) (k:=jk lf (x,y));have emp:(tlJ js).map (·.1)=js.map (·.1):=by unfold tlJ;rw[map_map];rfl
    refine .inr ⟨kvJ js,[Sum.inl (min (lf x) (lf y)),Sum.inl (max (lf x) (lf y))],pt,hd7,rfl,s7 _ _ ht6,by unfold kvJ;rw[length_map];exact ye (by omega),fun u hu'=>?_,fun hn=>?_⟩
    ·rw[hu'] at key
     have hk:jk lf (x,y)∈js.map (·.1):=of_decide_eq_true key.symm;refine⟨js,_,_,_,rfl,hd7,?_,ps.same t7,sm.trans t7⟩;rw[etk,YX,<- ej];unfold jst;rw[if_neg c,if_pos (by rw[emp];exact hk)]
    ·rw[hn] at key
     have hk:jk lf (x,y)∉js.map (·.1):=of_decide_eq_false key.symm;refine⟨js++[(jk lf (x,y),(pr,x,y))],_,_,_,rfl,?_,?_,?_,Same.updF (sm.trans t7) hd⟩
     ·rw[upd_same]
      rw[L2.putK_new _ hn];unfold kvJ;rw[map_append];rfl
     ·rw[etk,YX,<- ej]
      unfold jst;rw[if_neg c,if_neg (by rw[emp];exact hk)];unfold tlJ;rw[map_append];rfl
     ·have hnd:∀ b xs,(upd H6 pr (HO.tup [V.int x,V.int y])) b=some (.tup xs)->b≠d:=fun b xs e z=>by rw[z,hd7] at e;cases e
      rw[map_append];intro q' hq';rcases mem_append.mp hq' with z | z
      ·have h1:=ps.same t7 q' z
       exact⟨by rw[upd_ne (hnd _ _ h1.1)];exact h1.1,h1.2⟩
      ·rw[mem_singleton.mp z]
       exact⟨by rw[upd_ne npd];exact upd_same,hbd⟩
  ·rintro σ H1 ⟨js,o3,o4,o5,rfl,hd1,ej,ps,sm⟩
   rw[take_of_length_le (by omega)] at ej;exact⟨_,rfl,k d js H1 hd hd1 ej ps sm⟩
inductive WhV:V->Bool->Prop where
 |int (i:Int):WhV (.int i) true
 |non:WhV .non false
 |str (x:Str):WhV (.str x) false
def Xo:Sp:=fun vs H Q _=>∃ v b,vs=[v]/\WhV v b/\Q (.bl b) H
theorem VF(T:Txt w K mg a):FnOk P w K mg base CX0 1 96 (dK K 96) ["value"] Xo:=by
 refine(T.fn 0 rfl).ok (scp 0 rfl) (fun vs H Q E h=>?_) (fun cdv A outer s H vs Q E hr h=>?_)
 ·obtain⟨v,b,rfl,_⟩:=h
  rfl
 ·obtain⟨v,b,rfl,hv,k⟩:=h
  refine zR (ze (zm (yp (zq zK (by rfl) (T.n 5 rfl) zu (zh (zj 0) (zh (yz (T.n 1 rfl) uG) zb))) (yo (uK (zq zK (by rfl) (T.n 5 rfl) zu (zh (zj 0) (zh (yz (T.n 12 rfl) Zu) zb)))))))) ?_;cases hv with
  |int i =>
   refine⟨_,rfl,_,_,_,_,_,rfl,rfl,.int i,(T.k 0 rfl),_,rfl,vc ?_⟩;exact⟨_,rfl,_,_,_,_,_,rfl,rfl,.int i,(T.k 1 rfl),_,rfl,k⟩
  |non=>exact⟨_,rfl,_,_,_,_,_,rfl,rfl,.non,(T.k 14 rfl),_,rfl,iZ rfl k⟩
  |str x=>exact⟨_,rfl,_,_,_,_,_,rfl,rfl,.str x,(T.k 15 rfl),_,rfl,iZ rfl k⟩
def poV(us:LI)(pf:Int->Option Int):V->V
 |.int x=>if x∈us then opV (pf x) else .non
 |_=>.non
def zgV(a:Ad):Sp:=fun vs H Q _=>∃ (p dx dp ob:Addr) (pf:Int->Option Int) (us:LI) (ls:LP) (v:V) (b:Bool),vs=[.ref p,v]/\WayAt a H p pf us ls dx dp ob/\WhV v b/\∀ H',Same H H'->Q (poV us pf v) H'
theorem zfK(T:Txt w K mg a):FnOk P w K mg base CX0 6 122 (dK K 122) ["self", "hand"] (zgV a):=by
 have c_is_whole:=cal P base T 0 rfl (VF T);have c_copied:Callee P w K mg base "copied" 101 (dK K 101) ["value"] (3+2) (zc8 3):=⟨xT T 3,(T.g 1 rfl),(T.fn 1 rfl).kp,(T.bi 1 rfl)⟩;refine(T.fn 40 rfl).ok (scp 40 rfl) (fun vs H Q E h=>?_) (fun cdv A outer s H vs Q E hr h=>?_)
 ·obtain⟨p,dx,dp,ob,pf,us,ls,v,b,rfl,_⟩:=h
  rfl
 ·obtain⟨p,dx,dp,ob,pf,us,ls,v,b,rfl,W,hv,k⟩:=h
  refine zR (zd (Zy (yt PassesOwn.never rfl (wo (zI (zj 0) rfl)) (x8 rfl (yh (zE (i:=2) (scp 40 rfl).nd rfl (Or.inl rfl)) (yh (zE (i:=3) (scp 40 rfl).nd rfl (Or.inl rfl)) xw)))
    (ze (zv (uc (yB (zp yX (zG c_is_whole hr.m (zh (zj 2) zb)) (zG c_is_whole hr.m (zh (zj 1) zb)) (zB _)) (yw (zp yX (zj 2) (zj 1) (zB _)))))
     (ze (zm (zG c_copied hr.m (zh (zj 3) zb))))
     zo))))
   (ze (zm zJ))) ?_
  refine⟨_,rfl,p,_,dx,_,_,rfl,W.p,(T.cl 0 rfl),(T.na 0 0 rfl rfl),rfl,dp,_,rfl,W.dp,fun od S=>?_⟩;have hz1:=upd_same (H:=H) (a:=dp) (o:=HO.frz od (HO.dK (tabV (fun x=>opV (pf x)) us)));have x1:Ext dp H (upd H dp (HO.frz od (HO.dK (tabV (fun x=>opV (pf x)) us)))):=Ext.at;generalize upd H dp (HO.frz od (HO.dK (tabV (fun x=>opV (pf x)) us)))=H1 at *;have back:∀ {G:Hp},Same H1 G->Same H (upd G dp (HO.dK (tabV (fun x=>opV (pf x)) us))):=fun {G} sm b o e=>by
   by_cases z:b=dp
   ·rw[z,W.dp] at e;cases e;rw[z];exact upd_same
   ·rw[upd_ne z];exact sm _ _ (x1 _ _ e z)
  refine XV (yl:=yI) (d:=dp) (od:=od) (kvs:=tabV (fun x=>opV (pf x)) us) (fun i σ H'=>∃ (o2 o3:Option V),σ=[some (.ref p),some v,o2,o3]/\Same H1 H'/\∀ x,v=.int x->x∉us.take i) ?_ ?_ ?_ ?_
  ·exact⟨none,none,rfl,fun _ _ h=>h,fun x _=>by simp⟩
  ·rintro i σ H' ⟨o2,o3,_,sm,_⟩
   exact sm _ _ hz1
  ·rintro i kv u σ G G' hkv ⟨o2,o3,rfl,sm,hni⟩ hy
   obtain⟨x,hx,rfl⟩:∃ x,us[i]?=some x/\kv=(Sum.inl x,opV (pf x)):=by
    unfold tabV at hkv;rw[List.getElem?_map] at hkv;obtain⟨x,h1,h2⟩:=map_eq_some_iff.mp hkv;exact⟨x,h1,h2.symm⟩
   obtain⟨p0,hp0,rfl,rfl⟩:=WD hy;have etk:us.take (i+1)=us.take i++[x]:=by rw[take_add_one,hx];rfl
   have hxu:=mem_of_getElem? hx;have n1:=sW (o:=HO.tup [V.int x,opV (pf x)]) hp0;have sm2:=sm.trans n1;refine⟨p0,_,rfl,sP upd_same,rfl,_,_,rfl,_,_,rfl,rfl,?_⟩;generalize upd G p0 (HO.tup [V.int x,opV (pf x)])=G2 at *;refine⟨_,rfl,_,true,rfl,.int x,_,rfl,v,b,rfl,hv,rfl,_,rfl,?_⟩;cases hv with
   |non=>exact iZ (by rfl) ⟨_,_,rfl,sm2,fun y hy=>(nomatch hy)⟩
   |str s=>exact iZ (by rfl) ⟨_,_,rfl,sm2,fun y hy=>(nomatch hy)⟩
   |int j =>
    refine zZ (by rfl) ?_;refine⟨_,rfl,_,rfl,rfl,_,rfl,?_⟩;by_cases c:x=j
    ·subst c
     refine zZ (by simp) ?_;refine⟨_,rfl,_,rfl,.inl ⟨by decide,VE _,?_⟩⟩;refine .inr ⟨dp,od,_,S,sm2 _ _ hz1,?_⟩;have e:poV us pf (.int x)=opV (pf x):=if_pos hxu;have:=k _ (back sm2);rw[e] at this;exact this
    ·refine iZ (by simp[c]) ⟨_,_,rfl,sm2,fun y hy=>?_⟩
     cases hy;rw[etk];exact fun z=>(mem_append.mp z).elim (hni j rfl) fun e=>c (mem_singleton.mp e).symm
  ·rintro σ H' ⟨o2,o3,rfl,sm,hni⟩
   rw[tabV_len,take_length] at hni;refine .inr ⟨dp,od,_,S,sm _ _ hz1,?_⟩;have e:poV us pf v=.non:=by
    cases hv with
    |int i=>exact if_neg (hni i rfl)
    |non=>rfl
    |str x=>rfl
   have:=k _ (back sm);rw[e] at this;exact this
open L2.Sco (PT PsAt)
structure WbP (a:Ad) (H:Hp) (p:Addr) (hs:LI) (ls:LP):Prop where
 wh:Hs hs
 wl:Ls hs ls
 at_:∃ dx oh ol d ad,WebAt a H p hs ls dx oh ol d ad
theorem WbP.same{H H':Hp}{p:Addr}{hs:LI}{ls:LP}(h:WbP a H p hs ls)(s:Same H H'):WbP a H' p hs ls:=⟨h.wh,h.wl,let ⟨dx,oh,ol,d,ad,W⟩:=h.at_;⟨dx,oh,ol,d,ad,W.same s⟩⟩
def zdO(a:Ad):Sp:=fun vs H Q _=>∃ (p:Addr) (hs:LI) (ls:LP) (dx oh ol d:Addr) (ad:Int->Addr),vs=[.ref p]/\WebAt a H p hs ls dx oh ol d ad/\∀ q zs,H q=none->LnAt H zs (srt ls)->Q (.ref q) (upd H q (.lst zs))
theorem zbJ{p:Addr}{hs:LI}{ls:LP}{dx oh ol d:Addr}{ad:Int->Addr}{H:Hp}{Q:VK}{E:XK}(W:WebAt a H p hs ls dx oh ol d ad)(k:∀ q zs,H q=none->LnAt H zs (srt ls)->Q (.ref q) (upd H q (.lst zs))):zdO a [.ref p] H Q E:=⟨p,hs,ls,dx,oh,ol,d,ad,rfl,W,k⟩
theorem zee(T:Txt w K mg a):FnOk P w K mg base CX0 1 634 (dK K 634) ["self"] (zdO a):=by
 refine(T.fn 58 rfl).ok (scp 58 rfl) (fun vs H Q E h=>?_) (fun cdv A outer s H vs Q E hr h=>?_)
 ·obtain⟨p,hs,ls,dx,oh,ol,d,ad,rfl,_⟩:=h
  rfl
 ·obtain⟨p,hs,ls,dx,oh,ol,d,ad,rfl,W,k⟩:=h
  refine zR (ze (zm (zF xY (by rfl) (T.n 6 rfl) wA (zn (zI (zj 0) rfl) zb)))) ?_;obtain⟨zs,h1,h2⟩:=W.ol;exact⟨_,rfl,p,_,dx,_,_,rfl,W.p,(T.cl 7 rfl),(T.na 7 1 rfl rfl),rfl,ol,_,rfl,.inl (sO h1),fun q hq=>k q zs hq h2⟩
theorem Yq{hs:LI}{ls:LP}{x y:Int}(L:Ls hs ls)(h:adB ls x y=true):y∈hs:=by
 unfold adB at h;rw[or_eq_true,decide_eq_true_eq,decide_eq_true_eq] at h;rcases h with h | h
 ·exact(L.ok _ h).2.1
 ·exact(L.ok _ h).1
theorem X6{ls:LP}{x y:Int}:adB ls x y=adB ls y x:=by
 unfold adB;rw[Bool.or_comm]
def zgW(a:Ad):Sp:=fun vs H Q _=>∃ (p:Addr) (x y:Int) (hs:LI) (ls:LP) (dx oh ol d:Addr) (ad:Int->Addr),vs=[.ref p,.int x,.int y]/\WebAt a H p hs ls dx oh ol d ad/\Ls hs ls/\Q (.bl (adB ls x y)) H
theorem zef(T:Txt w K mg a):FnOk P w K mg base CX0 3 648 (dK K 648) ["self", "one", "other"] (zgW a):=by
 refine(T.fn 60 rfl).ok (scp 60 rfl) (fun vs H Q E h=>?_) (fun cdv A outer s H vs Q E hr h=>?_)
 ·obtain⟨p,x,y,hs,ls,dx,oh,ol,d,ad,rfl,_⟩:=h
  rfl
 ·obtain⟨p,x,y,hs,ls,dx,oh,ol,d,ad,rfl,W,wl,k⟩:=h
  have hu:=vY hr;have no:adB ls x y=false->Q (.bl false) H:=fun e=>by rw[e] at k;exact k
  refine zR (ze (zm (yp (yi (zj 0) (zh (zj 1) zb)) (yp (yi (zj 0) (zh (zj 2) zb)) (yo (zO yv (zj 2) (yq hu (zI (zj 0) rfl) (zj 1) (fun _ _=>rfl)) (by with_unfolding_all rfl))))))) ?_;refine mtV rfl W.p rfl (T.cl 7 rfl) (T.mt 59 rfl) (VI (P:=P) (w:=w) T) hr.m (T.bi 59 rfl) ⟨_,rfl,p,x,hs,ls,dx,oh,ol,d,ad,rfl,W,_,rfl,?_⟩;by_cases hx:x∈hs
  case neg =>
   refine iZ (decide_eq_false hx) ?_;refine no ?_;cases e:adB ls x y with
   |false=>rfl
   |true=>rw[X6] at e;exact absurd (Yq wl e) hx
  refine zZ (decide_eq_true hx) ?_;refine mtV rfl W.p rfl (T.cl 7 rfl) (T.mt 59 rfl) (VI (P:=P) (w:=w) T) hr.m (T.bi 59 rfl) ⟨_,rfl,p,y,hs,ls,dx,oh,ol,d,ad,rfl,W,_,rfl,?_⟩;by_cases hy:y∈hs
  case neg =>
   refine iZ (decide_eq_false hy) ?_;refine no ?_;cases e:adB ls x y with
   |false=>rfl
   |true=>exact absurd (Yq wl e) hy
  refine zZ (decide_eq_true hy) ?_;refine⟨_,rfl,_,rfl,p,_,dx,_,_,rfl,W.p,(T.cl 7 rfl),(T.na 7 2 rfl rfl),rfl,_,rfl,d,V.ref (ad x),rfl,uQ W.nr.d hx,ad x,_,rfl,.inl (sO (W.nr.nb x hx)),rfl,xX _,?_⟩;have e:inV (.int y) ((nbs ls x).map V.int)=adB ls x y:=by rw[xW,zc0]
  rw[e];exact k
structure PrO (hs us:LI) (ls:LP) (pf:Int->Option Int):Prop where
 len:us.length=hs.length
 sub:∀ x∈us,x∈hs
 ad:∀ x∈us,∀ y,pf x=some y->adB ls x y=true
theorem PrO.m{hs us:LI}{ls:LP}{pf:Int->Option Int}(P:PrO hs us ls pf)(nd:us.Nodup):∀ x,x∈us↔x∈hs:=fun x=>⟨P.sub x,fun hx=>Classical.byContradiction fun z=>by
 have h1:=zco (as:=x::us) (bs:=hs) (nodup_cons.mpr ⟨z,nd⟩) fun y hy=>by
  rcases mem_cons.mp hy with e | e
  ·rw[e];exact hx
  ·exact P.sub y e
 rw[length_cons,P.len] at h1;omega⟩
theorem PrO.cl{hs us:LI}{ls:LP}{pf:Int->Option Int}(P:PrO hs us ls pf)(nd:us.Nodup)(wl:Ls hs ls):Cl us pf:=fun x hx y hy=>(P.m nd y).mpr (Yq wl (P.ad x hx y hy))
theorem WebAt.frz{H G:Hp}{p dx oh ol d d0:Addr}{hs us:LI}{ls:LP}{ad:Int->Addr}{pf:Int->Option Int}(W:WebAt a H p hs ls dx oh ol d0 ad)(hd:H d=some (.dK (tabV (fun x=>opV (pf x)) us)))(wh:Hs hs)(x:Ext d H G):WebAt a G p hs ls dx oh ol d0 ad:=by
 have nt:∀ {b:Addr}{o:HO},H b=some o->(∀ kvs,o≠.dK kvs)->G b=some o:=fun {b o} e n=>x b o e fun z=>by rw[z,hd] at e;injection e with e;exact n _ e.symm
 have n0:d0≠d:=fun z=>by
  have e:=W.nr.d;rw[z,hd] at e;injection e with e;injection e with e;have l1:=wh.l1;cases hs with
  |nil=>simp at l1
  |cons h hs =>
   cases us with
   |nil=>cases e
   |cons u us =>
    unfold tabV tab at e;rw[map_cons,map_cons] at e;injection e with e _;injection e with _ e;have e:opV (pf u)=V.ref (ad h):=e;cases hp:pf u with
    |none=>rw[hp] at e;cases e
    |some y=>rw[hp] at e;cases e
 obtain⟨zs,o1,o2⟩:=W.ol;exact⟨nt W.p (fun _ z=>by cases z),nt W.oh (fun _ z=>by cases z),⟨x _ _ W.nr.d n0,fun h hm=>nt (W.nr.nb h hm) (fun _ z=>by cases z)⟩,zs,nt o1 (fun _ z=>by cases z),o2.1,fun i r q h1 h2=>by
  obtain⟨t,e1,e2⟩:=o2.2 i r q h1 h2;exact⟨t,e1,nt e2 (fun _ z=>by cases z)⟩⟩
def zgq(a:Ad):Sp:=fun vs H Q _=>∃ (p d:Addr) (hs us:LI) (ls:LP) (pf:Int->Option Int),vs=[.ref p,.ref d]/\WbP a H p hs ls/\H d=some (.dK (tabV (fun x=>opV (pf x)) us))/\us.Nodup/\∀ (b:Bool) (H':Hp),(b=true↔PrO hs us ls pf)->Same H H'->Q (.bl b) H'
theorem zfT(T:Txt w K mg a):FnOk P w K mg base CX0 4 192 (dK K 192) ["web", "parents"] (zgq a):=by
 refine(T.fn 2 rfl).ok (scp 2 rfl) (fun vs H Q E h=>?_) (fun cdv A outer s H vs Q E hr h=>?_)
 ·obtain⟨p,d,hs,us,ls,pf,rfl,_⟩:=h
  rfl
 ·obtain⟨p,d,hs,us,ls,pf,rfl,WP,hd,nd,k⟩:=h
  obtain⟨wdx,oh,ol,d0,ad,W⟩:=WP.at_;refine zR (zd (zv (uc (yP (zX (zH (zq zK (by rfl) (T.n 5 rfl) zu (zh (zj 1) (zh (yz (T.n 7 rfl) wX) zb))))) (yR (zp wv (zq UA (by rfl) (T.n 0 rfl) yf (zh (zj 1) zb)) (zq zx (by rfl) (T.n 0 rfl) yf (yj (zT (zj 0)) zb)) (zB _)))))
    (ze (zm zM))
    zo)
   (zd (Zy (yt PassesOwn.never rfl (wo (zj 1)) (x8 rfl (yh (zE (i:=2) (scp 2 rfl).nd rfl (Or.inl rfl)) (yh (zE (i:=3) (scp 2 rfl).nd rfl (Or.inl rfl)) xw)))
    (zd (zv (zX (zH (yi (zj 0) (zh (zj 2) zb))))
     (ze (zm zM))
     zo)
    (ze (zv (uc (yB (zp wu (zj 3) zJ (zB _)) (yw (zX (zH (yi (zj 0) (zh (zj 2) (zh (zj 3) zb))))))))
     (ze (zm zM))
     zo)))))
   (ze (zm zM)))) ?_
  refine⟨_,rfl,_,_,_,_,_,rfl,rfl,.dK hd,(T.k 7 rfl),_,rfl,iZ rfl ?_⟩;refine⟨_,rfl,d,_,rfl,hd,?_⟩;refine mtV rfl W.p rfl (T.cl 7 rfl) (T.mt 57 rfl) (ZW (P:=P) (w:=w) T) hr.m (T.bi 57 rfl) (ag0 (ur W (fun l hl=>?_)));have s1:=sW (o:=HO.lst (hs.map V.int)) hl;have hl1:=upd_same (H:=H) (a:=l) (o:=HO.lst (hs.map V.int));generalize upd H l (HO.lst (hs.map V.int))=H1 at *;refine⟨l,_,rfl,.inl (sO hl1),rfl,_,rfl,?_⟩;by_cases hlen:us.length=hs.length
  case neg =>
   refine zZ ?_ (k false _ ⟨fun z=>(nomatch z),fun h=>absurd h.len hlen⟩ s1);have e:decide (V.int ((tabV (fun x=>opV (pf x)) us).length:Int)=V.int ((hs.map V.int).length:Int))=false:=decide_eq_false fun z=>hlen (by
    injection z with z;rw[tabV_len,length_map] at z;omega)
   rw[e];rfl
  refine iZ (by rw[tabV_len,length_map,hlen];simp) ?_;refine⟨_,rfl,d,_,rfl,s1 _ _ hd,fun od S=>?_⟩;have hd1:=s1 _ _ hd;have hz1:=upd_same (H:=H1) (a:=d) (o:=HO.frz od (HO.dK (tabV (fun x=>opV (pf x)) us)));have x1:Ext d H1 (upd H1 d (HO.frz od (HO.dK (tabV (fun x=>opV (pf x)) us)))):=Ext.at;have W1:=(W.same s1).frz hd1 WP.wh x1;generalize upd H1 d (HO.frz od (HO.dK (tabV (fun x=>opV (pf x)) us)))=G1 at *;have back:∀ {G:Hp},Same G1 G->Same H (upd G d (HO.dK (tabV (fun x=>opV (pf x)) us))):=fun {G} sm b o e=>by
   by_cases z:b=d
   ·rw[z,hd] at e;cases e;rw[z];exact upd_same
   ·rw[upd_ne z];exact sm _ _ (x1 _ _ (s1 _ _ e) z)
  refine XV (yl:=yI) (d:=d) (od:=od) (kvs:=tabV (fun x=>opV (pf x)) us) (fun i σ H'=>∃ (o2 o3:Option V),σ=[some (.ref p),some (.ref d),o2,o3]/\Same G1 H'/\∀ x∈us.take i,x∈hs/\∀ y,pf x=some y->adB ls x y=true) ?_ ?_ ?_ ?_
  ·exact⟨none,none,rfl,fun _ _ h=>h,fun x hx=>by simp at hx⟩
  ·rintro i σ H' ⟨o2,o3,_,sm,_⟩
   exact sm _ _ hz1
  ·rintro i kv u σ G G' hkv ⟨o2,o3,rfl,sm,gd⟩ hy
   obtain⟨x,hx,rfl⟩:∃ x,us[i]?=some x/\kv=(Sum.inl x,opV (pf x)):=by
    unfold tabV at hkv;rw[List.getElem?_map] at hkv;obtain⟨x,h1,h2⟩:=map_eq_some_iff.mp hkv;exact⟨x,h1,h2.symm⟩
   obtain⟨p0,hp0,rfl,rfl⟩:=WD hy;have hxu:=mem_of_getElem? hx;have etk:us.take (i+1)=us.take i++[x]:=by rw[take_add_one,hx];rfl
   have gd2:(x∈hs/\∀ y,pf x=some y->adB ls x y=true)->∀ u∈us.take (i+1),u∈hs/\∀ y,pf u=some y->adB ls u y=true:=fun h u hu=>by
    rw[etk] at hu;rcases mem_append.mp hu with e | e
    ·exact gd u e
    ·rw[mem_singleton.mp e];exact h
   have n1:=sW (o:=HO.tup [V.int x,opV (pf x)]) hp0;refine⟨p0,_,rfl,sP upd_same,rfl,_,_,rfl,_,_,rfl,rfl,?_⟩;have sm2:=sm.trans n1;generalize upd G p0 (HO.tup [V.int x,opV (pf x)])=G2 at *;have W2:=W1.same sm2;refine mtV rfl W2.p rfl (T.cl 7 rfl) (T.mt 59 rfl) (VI (P:=P) (w:=w) T) hr.m (T.bi 59 rfl) ⟨_,rfl,p,x,hs,ls,wdx,oh,ol,d0,ad,rfl,W2,_,rfl,?_⟩;by_cases hxh:x∈hs
   case neg=>exact zZ (by rw[decide_eq_false hxh];rfl) (.inr ⟨d,od,_,S,sm2 _ _ hz1,k false _ ⟨fun z=>(nomatch z),fun h=>absurd (h.sub x hxu) hxh⟩ (back sm2)⟩)
   refine iZ (by rw[decide_eq_true hxh];rfl) ?_;cases hpx:pf x with
   |none=>exact⟨_,rfl,rfl,_,rfl,iZ rfl ⟨_,_,rfl,sm2,gd2 ⟨hxh,fun y h=>by rw[hpx] at h;cases h⟩⟩⟩
   |some y =>
    refine⟨_,rfl,rfl,_,rfl,vc ?_⟩;refine mtV rfl W2.p rfl (T.cl 7 rfl) (T.mt 60 rfl) (zef (P:=P) (w:=w) T) hr.m (T.bi 60 rfl) ⟨_,rfl,_,rfl,p,x,y,hs,ls,wdx,oh,ol,d0,ad,rfl,W2,WP.wl,_,rfl,?_⟩;cases hb:adB ls x y with
    |true=>exact iZ rfl ⟨_,_,rfl,sm2,gd2 ⟨hxh,fun y' h=>by rw[hpx] at h;cases h;exact hb⟩⟩
    |false =>
     refine vc ?_;refine .inr ⟨d,od,_,S,sm2 _ _ hz1,k false _ ⟨fun z=>(nomatch z),fun h=>?_⟩ (back sm2)⟩;rw[h.ad x hxu y hpx] at hb;cases hb
  ·rintro σ H' ⟨o2,o3,rfl,sm,gd⟩
   rw[tabV_len,take_length] at gd;exact .inr ⟨d,od,_,S,sm _ _ hz1,k true _ ⟨fun _=>⟨hlen,fun x hx=>(gd x hx).1,fun x hx=>(gd x hx).2⟩,fun _=>rfl⟩ (back sm)⟩
open L2.Sco (PT PsAt)
def zgo(a:Ad):Sp:=fun vs H Q _=>∃ (p q dx dp ob:Addr) (hs us:LI) (ls bs:LP) (pf:Int->Option Int),vs=[.ref p,.ref q]/\WbP a H p hs ls/\WayAt a H q pf us bs dx dp ob/\(∀ x,x∈us↔x∈hs)/\Cl us pf/\∀ (b:Bool) (H':Hp),(b=true↔∀ x∈us,∃ l,En pf x l)->Same H H'->Q (.bl b) H'
theorem zfR(T:Txt w K mg a):FnOk P w K mg base CX0 7 199 (dK K 199) ["web", "way"] (zgo a):=by
 refine(T.fn 3 rfl).ok (scp 3 rfl) (fun vs H Q E h=>?_) (fun cdv A outer s H vs Q E hr h=>?_)
 ·obtain⟨p,q,dx,dp,ob,hs,us,ls,bs,pf,rfl,_⟩:=h
  rfl
 ·obtain⟨p,q,dx,dp,ob,hs,us,ls,bs,pf,rfl,WP,Y,hm,C,k⟩:=h
  obtain⟨wdx,oh,ol,d0,ad,W⟩:=WP.at_;refine zR (zd (yt PassesOwn.never rfl (yE (zT (zj 0))) (zE (i:=2) (scp 3 rfl).nd rfl (Or.inl rfl))
    (ze (zv (zp wu (yi (zj 1) (yj (yi (zj 1) (zh (zj 2) zb)) zb)) zJ (zB _))
     (ze (zm zM))
     zo)))
   (ze (zm zM))) ?_
  refine mtV rfl W.p rfl (T.cl 7 rfl) (T.mt 57 rfl) (ZW (P:=P) (w:=w) T) hr.m (T.bi 57 rfl) (ag0 (ur W (fun l hl=>?_)));have s1:=sW (o:=HO.lst (hs.map V.int)) hl;have hl1:=upd_same (H:=H) (a:=l) (o:=HO.lst (hs.map V.int));generalize upd H l (HO.lst (hs.map V.int))=H1 at *;refine⟨l,rfl,⟨_,sO hl1⟩,?_⟩;refine for_list (xs:=hs.map V.int) (fun i σ H'=>∃ (o2:Option V),σ=[some (.ref p),some (.ref q),o2]/\Same H1 H'/\∀ x∈hs.take i,∃ l,En pf x l) ?_ ?_ ?_ ?_
  ·exact⟨none,rfl,fun _ _ h=>h,fun x hx=>by simp at hx⟩
  ·rintro i σ H' hi ⟨o2,_,sm,_⟩
   exact sO (sm _ _ hl1)
  ·rintro i v σ G hi ⟨o2,rfl,sm,gd⟩
   rw[List.getElem?_map] at hi;obtain⟨x,hx,rfl⟩:=map_eq_some_iff.mp hi;have hxu:=(hm x).mpr (mem_of_getElem? hx);have etk:hs.take (i+1)=hs.take i++[x]:=by rw[take_add_one,hx];rfl
   have Y1:=(Y.same s1).same sm;refine mtV rfl Y1.p rfl (T.cl 0 rfl) (T.mt 40 rfl) (zfK (P:=P) (w:=w) T) hr.m (T.bi 40 rfl) (mtV rfl Y1.p rfl (T.cl 0 rfl) (T.mt 44 rfl) (zbf (P:=P) (w:=w) T) hr.m (T.bi 44 rfl) ⟨_,rfl,q,dx,dp,ob,pf,us,x,rfl,Y1.r,C,hxu,fun ys z G2 s2 hz hor=>?_⟩);refine⟨q,dx,dp,ob,pf,us,bs,.int z,true,rfl,Y1.same s2,.int _,fun G3 s3=>?_⟩;have e:poV us pf (.int z)=opV (pf z):=if_pos hz;rw[e];rcases hor with⟨h1,h2⟩ | ⟨h1,h2⟩
   ·rw[h1]
    refine⟨rfl,_,rfl,iZ rfl ⟨_,rfl,sm.trans (s2.trans s3),fun u hu=>?_⟩⟩;rw[etk] at hu;rcases mem_append.mp hu with e | e
    ·exact gd u e
    ·rw[mem_singleton.mp e];exact⟨_,h2⟩
   ·cases hpz:pf z with
    |none=>exact absurd hpz h1
    |some y =>
     refine⟨rfl,_,rfl,vc ?_⟩;exact k false _ ⟨fun z=>(nomatch z),fun h=>absurd (h x hxu) h2⟩ (s1.trans (sm.trans (s2.trans s3)))
  ·rintro σ G ⟨o2,rfl,sm,gd⟩
   rw[length_map,take_length] at gd;exact k true _ ⟨fun _ x hx=>gd x ((hm x).mp hx),fun _=>rfl⟩ (s1.trans sm)
def zgj(a:Ad):Sp:=fun vs H Q _=>∃ (p q t dx dp ob:Addr) (hs us:LI) (ls bs:LP) (pf:Int->Option Int) (pa:Int->LI) (x y:Int),vs=[.ref p,.ref q,.ref t]/\WbP a H p hs ls/\WayAt a H q pf us bs dx dp ob/\(∀ x,x∈us↔x∈hs)/\UpP us pf pa/\H t=some (.tup [.int x,.int y])/\∀ (b:Bool) (H':Hp),(b=true↔adB ls x y=true/\x<=y/\ldr pa x≠ldr pa y)->Same H H'->Q (.bl b) H'
theorem zfP(T:Txt w K mg a):FnOk P w K mg base CX0 4 206 (dK K 206) ["web", "way", "bridge"] (zgj a):=by
 refine(T.fn 4 rfl).ok (scp 4 rfl) (fun vs H Q E h=>?_) (fun cdv A outer s H vs Q E hr h=>?_)
 ·obtain⟨p,q,t,dx,dp,ob,hs,us,ls,bs,pf,pa,x,y,rfl,_⟩:=h
  rfl
 ·obtain⟨p,q,t,dx,dp,ob,hs,us,ls,bs,pf,pa,x,y,rfl,WP,Y,hm,U,ht,k⟩:=h
  obtain⟨wdx,oh,ol,d0,ad,W⟩:=WP.at_;refine zR (zd (zv (uc (yP (zX (zH (zq zK (by rfl) (T.n 5 rfl) zu (zh (zj 2) (zh (yz (T.n 13 rfl) wc) zb))))) (yR (zp wv (zq zx (by rfl) (T.n 0 rfl) yf (zh (zj 2) zb)) zg (zB _)))))
    (ze (zm zM))
    zo)
   (zd (zv (uc (yP (zX (zH (yi (zj 0) (zn (zw yY (zj 2) zg (fun _ _=>rfl)) (zn (zw yY (zj 2) zg (fun _ _=>rfl)) zb))))) (yR (zp u8 (zw yY (zj 2) zg (fun _ _=>rfl)) (zw yY (zj 2) zg (fun _ _=>rfl)) (zB _)))))
    (ze (zm zM))
    zo)
   (ze (zm (zO wv (yi (zj 1) (zn (zw yY (zj 2) zg (fun _ _=>rfl)) zb)) (yi (zj 1) (zn (zw yY (zj 2) zg (fun _ _=>rfl)) zb)) (zB _)))))) ?_
  refine⟨_,rfl,_,_,_,_,_,rfl,rfl,.tup ht,(T.k 3 rfl),_,rfl,iZ rfl ?_⟩;refine⟨_,rfl,t,_,rfl,.inr (sP ht),rfl,_,rfl,iZ rfl ?_⟩;refine mtV rfl W.p rfl (T.cl 7 rfl) (T.mt 60 rfl) (zef (P:=P) (w:=w) T) hr.m (T.bi 60 rfl) ⟨_,rfl,t,_,0,_,rfl,rfl,sP ht,rfl,_,rfl,t,_,1,_,rfl,rfl,sP ht,rfl,p,x,y,hs,ls,wdx,oh,ol,d0,ad,rfl,W,WP.wl,_,rfl,?_⟩;cases hadj:adB ls x y with
  |false=>exact zZ rfl (k false _ ⟨fun z=>(nomatch z),fun h=>by rw[hadj] at h;exact nomatch h.1⟩ (fun _ _ h=>h))
  |true =>
  have hy:=(hm y).mpr (Yq WP.wl hadj);have hx:=(hm x).mpr (Yq WP.wl (by rw[X6];exact hadj));refine iZ rfl ?_;by_cases c:x>y
  ·refine⟨_,rfl,t,_,0,_,rfl,rfl,sP ht,rfl,_,rfl,t,_,1,_,rfl,rfl,sP ht,rfl,_,_,rfl,rfl,_,rfl,zZ (by simp;omega) ?_⟩
   exact k false _ ⟨fun z=>(nomatch z),fun h=>by have:=h.2.1;omega⟩ (fun _ _ h=>h)
  refine⟨_,rfl,t,_,0,_,rfl,rfl,sP ht,rfl,_,rfl,t,_,1,_,rfl,rfl,sP ht,rfl,_,_,rfl,rfl,_,rfl,iZ (by simp;omega) ?_⟩;refine mtV rfl Y.p rfl (T.cl 0 rfl) (T.mt 44 rfl) (zab (P:=P) (w:=w) T) hr.m (T.bi 44 rfl) ⟨_,rfl,t,_,0,_,rfl,rfl,sP ht,rfl,q,dx,dp,ob,pf,pa,us,x,rfl,Y.r,U,hx,fun G2 s2=>?_⟩;refine mtV rfl (s2 _ _ Y.p) rfl (T.cl 0 rfl) (T.mt 44 rfl) (zab (P:=P) (w:=w) T) hr.m (T.bi 44 rfl) ⟨_,rfl,t,_,1,_,rfl,rfl,sP (s2 _ _ ht),rfl,q,dx,dp,ob,pf,pa,us,y,rfl,(Y.same s2).r,U,hy,fun G3 s3=>?_⟩;refine⟨rfl,?_⟩;refine k _ _ ?_ (s2.trans s3)
  constructor
  ·intro z
   exact⟨hadj,by omega,fun e=>by rw[e] at z;simp at z⟩
  ·rintro⟨_,_,z⟩
   have e:decide (V.int (ldr pa x)=V.int (ldr pa y))=false:=decide_eq_false fun e=>z (by injection e);rw[e];rfl
def GdB(ls:LP)(lf:Int->Int)(bs:LP):Prop:=(∀ b∈bs,adB ls b.1 b.2=true/\b.1<=b.2/\lf b.1≠lf b.2)/\bs.Nodup
def zgp(a:Ad):Sp:=fun vs H Q _=>∃ (p q l dx dp ob:Addr) (hs us:LI) (ls bs:LP) (rs:List V) (pf:Int->Option Int) (pa:Int->LI),vs=[.ref p,.ref q,.ref l]/\WbP a H p hs ls/\WayAt a H q pf us bs dx dp ob/\(∀ x,x∈us↔x∈hs)/\UpP us pf pa/\H l=some (.lst rs)/\LnAt H rs bs/\∀ (b:Bool) (H':Hp),(b=true↔GdB ls (ldr pa) bs)->Same H H'->Q (.bl b) H'
theorem zfS(T:Txt w K mg a):FnOk P w K mg base CX0 5 213 (dK K 213) ["web", "way", "bridges"] (zgp a):=by
 have c_is_bridge:=cal P base T 4 rfl (zfP T);refine(T.fn 5 rfl).ok (scp 5 rfl) (fun vs H Q E h=>?_) (fun cdv A outer s H vs Q E hr h=>?_)
 ·obtain⟨p,q,l,dx,dp,ob,hs,us,ls,bs,rs,pf,pa,rfl,_⟩:=h
  rfl
 ·obtain⟨p,q,l,dx,dp,ob,hs,us,ls,bs,rs,pf,pa,rfl,WP,Y,hm,U,hl,hrs,k⟩:=h
  have l66:=Y.l66;have hu:=vY hr;refine zR (zd (zv (zX (zH (zq zK (by rfl) (T.n 5 rfl) zu (zh (zj 2) (zh (yz (T.n 6 rfl) wA) zb)))))
    (ze (zm zM))
    zo)
   (zd (zr (i:=3) (scp 5 rfl).nd rfl (Or.inl rfl) um)
   (zd (yt PassesOwn.never rfl (yE (zj 2)) (zE (i:=4) (scp 5 rfl).nd rfl (Or.inl rfl))
    (zd (zv (uc (yP (zX (zH (zG c_is_bridge hr.m (zh (zj 0) (zh (zj 1) (zh (zj 4) zb)))))) (yR (Xf (Xh hu (zj 4) (zj 3))))))
     (ze (zm zM))
     zo)
    (ze (WI hu (zj 3) (zj 4) zM rfl))))
   (ze (zm zM))))) ?_
  refine⟨_,rfl,_,_,_,_,_,rfl,rfl,.lst hl,(T.k 2 rfl),_,rfl,iZ rfl ?_⟩;refine fun d hd=>?_;refine⟨_,rfl,l,rfl,⟨_,sO (sW hd _ _ hl)⟩,?_⟩;refine for_list (K:=K) (a:=l) (xs:=rs) (fun i σ H'=>∃ (kvs:List (List Key×V)) (o:Option V),σ=[some (.ref p),some (.ref q),some (.ref l),some (.ref d),o]/\H' d=some (.dT kvs)/\kvs.map (·.1)=(bs.take i).map XQ/\Same H H'/\GdB ls (ldr pa) (bs.take i)) ?_ ?_ ?_ ?_
  ·exact⟨[],none,rfl,upd_same,by simp,sW hd,by simp[GdB]⟩
  ·rintro i σ H' _ ⟨kvs,o,_,_,_,sm,_⟩
   exact sO (sm _ _ hl)
  ·rintro i x σ H' hi ⟨kvs,o,rfl,hd',hk,sm,gd⟩
   obtain⟨b,t,hp,rfl,ht⟩:=(hrs.same sm).get hi;have hbm:b∈bs:=mem_of_getElem? hp;have etk:bs.take (i+1)=bs.take i++[b]:=by rw[take_add_one,hp];rfl
   refine⟨_,rfl,_,rfl,_,rfl,p,q,t,dx,dp,ob,hs,us,ls,bs,pf,pa,b.1,b.2,rfl,WP.same sm,Y.same sm,hm,U,ht,fun bb H2 hbb s2=>⟨_,rfl,?_⟩⟩;cases hbc:bb with
   |false =>
    refine vc ?_;refine k false _ ⟨fun z=>(nomatch z),fun h=>?_⟩ (sm.trans s2);have:=hbb.mpr (h.1 b hbm);rw[hbc] at this;cases this
   |true =>
   refine iZ rfl ?_;have hd2:=s2 _ _ hd';have ht2:=s2 _ _ ht;by_cases hin:b∈bs.take i
   ·have hs':(xK kvs (XQ b)).isSome=true:=by
     rw[<- xD];have h1:XQ b∈kvs.map (·.1):=by rw[hk];exact List.mem_map_of_mem hin
     obtain⟨kv,h2,h3⟩:=mem_map.mp h1;exact List.any_eq_true.mpr ⟨kv,h2,decide_eq_true h3⟩
    refine⟨_,rfl,_,rfl,d,_,rfl,DGet.t (k:=XQ b) hd2 ht2,_,rfl,zZ hs' ?_⟩;exact k false _ ⟨fun z=>(nomatch z),fun h=>absurd hin (Zf h.2 hp)⟩ (sm.trans s2)
   have hnew:XQ b∉kvs.map (·.1):=by
    rw[hk];intro z;obtain⟨p',m',e'⟩:=mem_map.mp z;rw[XO e'] at m';exact hin m'
   have hz:kvs.length<=1000:=by
    have:=congrArg List.length hk;rw[length_map,length_map,length_take] at this;omega
   refine⟨_,rfl,_,rfl,d,_,rfl,DGet.t (k:=XQ b) hd2 ht2,_,rfl,iZ ?_ ?_⟩
   ·exact uL hnew
   ·refine⟨_,rfl,_,rfl,d,_,rfl,DPut.t (k:=XQ b) hd2 ht2 (ye hz),?_⟩
    refine⟨_,_,rfl,upd_same,?_,(sm.trans s2).updF hd,?_⟩
    ·rw[putK_new hnew,map_append,hk,etk,map_append]
     rfl
    ·rw[etk]
     refine⟨fun c hc=>?_,?_⟩
     ·rcases mem_append.mp hc with e | e
      ·exact gd.1 c e
      ·rw[mem_singleton.mp e];exact hbb.mp hbc
     ·rw[nodup_append]
      exact⟨gd.2,by simp,fun u hu v hv e=>hin (by rw[mem_singleton.mp hv] at e;rw[<- e];exact hu)⟩
  ·rintro σ H' ⟨kvs,o,_,_,_,sm,gd⟩
   rw[hrs.1,take_length] at gd;exact k true H' ⟨fun _=>gd,fun _=>rfl⟩ sm
structure GrB (hs us:LI) (ls:LP) (pf:Int->Option Int) (bs:LP):Prop where
 pr:PrO hs us ls pf
 en:∀ x∈us,∃ l,En pf x l
 gd:GdB ls (ldr (paO pf)) bs
def zgi(a:Ad):Sp:=fun vs H Q _=>∃ (p q dx dp ob:Addr) (hs us:LI) (ls bs:LP) (pf:Int->Option Int),vs=[.ref p,.ref q]/\WbP a H p hs ls/\WayAt a H q pf us bs dx dp ob/\∀ (b:Bool) (H':Hp),(b=true↔GrB hs us ls pf bs)->Same H H'->Q (.bl b) H'
theorem zfO(T:Txt w K mg a):FnOk P w K mg base CX0 8 220 (dK K 220) ["web", "way"] (zgi a):=by
 have c_are_parents:=cal P base T 2 rfl (zfT T);have c_come_to_leaders:=cal P base T 3 rfl (zfR T);have c_are_bridges:=cal P base T 5 rfl (zfS T);refine(T.fn 6 rfl).ok (scp 6 rfl) (fun vs H Q E h=>?_) (fun cdv A outer s H vs Q E hr h=>?_)
 ·obtain⟨p,q,dx,dp,ob,hs,us,ls,bs,pf,rfl,_⟩:=h
  rfl
 ·obtain⟨p,q,dx,dp,ob,hs,us,ls,bs,pf,rfl,WP,Y,k⟩:=h
  refine zR (zd (zv (uc (yP (zX (zH (zq zK (by rfl) (T.n 5 rfl) zu (zh (zj 1) (zh (yG (T.gc 0 rfl)) zb))))) (yR (zX (zH (zG c_are_parents hr.m (zh (zj 0) (yj (zT (zj 1)) zb))))))))
    (ze (zm zM))
    zo)
   (ze (zm (yp (zG c_come_to_leaders hr.m (zh (zj 0) (zh (zj 1) zb))) (yo (zG c_are_bridges hr.m (zh (zj 0) (zh (zj 1) (yj (zT (zj 1)) zb))))))))) ?_
  refine⟨_,rfl,_,_,_,_,_,rfl,rfl,(T.ty 0 rfl) H q dx _ Y.p,(T.k 16 rfl),_,rfl,iZ rfl ?_⟩;refine⟨_,rfl,mtV rfl Y.p rfl (T.cl 0 rfl) (T.mt 41 rfl) (zfU (P:=P) (w:=w) T) hr.m (T.bi 41 rfl) (ag0 (zdP Y (fun d H1 hd hd1 s1=>?_)))⟩;refine⟨p,d,hs,us,ls,pf,rfl,WP.same s1,hd1,Y.nd,fun b1 H2 hb1 s2=>⟨_,rfl,?_⟩⟩;have s02:=s1.trans s2;cases hc1:b1 with
  |false=>exact vc (k false _ ⟨fun z=>(nomatch z),fun h=>by have:=hb1.mpr h.pr;rw[hc1] at this;cases this⟩ s02)
  |true =>
  have pr:=hb1.mp hc1;have hm:=pr.m Y.nd;have C:=pr.cl Y.nd WP.wl;refine iZ rfl ?_;refine⟨_,rfl,_,rfl,p,q,dx,dp,ob,hs,us,ls,bs,pf,rfl,WP.same s02,Y.same s02,hm,C,fun b2 H3 hb2 s3=>⟨_,rfl,?_⟩⟩;have s03:=s02.trans s3;cases hc2:b2 with
  |false=>exact iZ rfl (k false _ ⟨fun z=>(nomatch z),fun h=>by have:=hb2.mpr h.en;rw[hc2] at this;cases this⟩ s03)
  |true =>
  refine vc ?_;have en:=hb2.mp hc2;refine⟨_,rfl,_,rfl,mtV rfl (s03 _ _ Y.p) rfl (T.cl 0 rfl) (T.mt 42 rfl) (zeg (P:=P) (w:=w) T) hr.m (T.bi 42 rfl) (ag0 (za6 (Y.same s03) (fun l rs H4 hl hl4 L4 s4=>?_)))⟩;have s04:=s03.trans s4;exact⟨p,q,l,dx,dp,ob,hs,us,ls,bs,rs,pf,paO pf,rfl,WP.same s04,Y.same s04,hm,UpP.of C en,hl4,L4,fun b3 H5 hb3 s5=>k _ _ (hb3.trans ⟨fun h=>⟨pr,en,h⟩,fun h=>h.gd⟩) (s04.trans s5)⟩
theorem V3{lf:Int->Int}:∀ {ls:LP}{acc:List ((Int×Int)×(Int×Int))}{k:Int×Int},k∈(ls.foldl (jst lf) acc).map (·.1)↔k∈acc.map (·.1)\/∃ p∈ls,lf p.1≠lf p.2/\jk lf p=k
 |[],acc,k=>by simp
 |p::ls,acc,k=>by
  rw[List.foldl_cons,V3 (ls:=ls)];have hst:k∈(jst lf acc p).map (·.1)↔k∈acc.map (·.1)\/(lf p.1≠lf p.2/\jk lf p=k):=by
   unfold jst;by_cases c:lf p.1=lf p.2
   ·rw[if_pos c]
    simp[c]
   ·rw[if_neg c]
    by_cases c2:jk lf p∈acc.map (·.1)
    ·rw[if_pos c2]
     constructor
     ·exact .inl
     ·rintro(h | ⟨_,h⟩)
      ·exact h
      ·rw[<- h];exact c2
    ·rw[if_neg c2,map_append,mem_append]
     constructor
     ·rintro(h | h)
      ·exact .inl h
      ·exact .inr ⟨c,(mem_singleton.mp h).symm⟩
     ·rintro(h | ⟨_,h⟩)
      ·exact .inl h
      ·exact .inr (by rw[<- h];simp)
  rw[hst]
  constructor
  ·rintro((h | h) | ⟨q,hq,h⟩)
   ·exact .inl h
   ·exact .inr ⟨p,mem_cons_self,h⟩
   ·exact .inr ⟨q,mem_cons_of_mem _ hq,h⟩
  ·rintro(h | ⟨q,hq,h⟩)
   ·exact .inl (.inl h)
   ·rcases mem_cons.mp hq with e | e
    ·rw[e] at h;exact .inl (.inr h)
    ·exact .inr ⟨q,e,h⟩
structure GG (hs us:LI) (ls:LP) (pf:Int->Option Int) (bs:LP):Prop where
 g:GrB hs us ls pf bs
 cov:∀ p∈ls,ldr (paO pf) p.1≠ldr (paO pf) p.2->∃ b∈bs,jk (ldr (paO pf)) b=jk (ldr (paO pf)) p
theorem zbk:∀ {as bs:LP},as.Nodup->(∀ x∈as,x∈bs)->as.length<=bs.length
 |[],_,_,_=>zero_le _
 |a::as,bs,hn,hs=>by
  rw[nodup_cons] at hn;have ha:=hs a mem_cons_self;have ih:=zbk (as:=as) (bs:=bs.erase a) hn.2 fun x hx=>by
   have ne:x≠a:=fun z=>hn.1 (by rw[<- z];exact hx);exact(List.mem_erase_of_ne ne).mpr (hs x (mem_cons_of_mem _ hx))
  rw[List.length_erase_of_mem ha] at ih;have:=length_pos_of_mem ha;rw[length_cons];omega
theorem zhq{hs:LI}{ls:LP}{b:Int×Int}(wl:Ls hs ls)(h1:adB ls b.1 b.2=true)(h2:b.1<=b.2):b∈ls:=by
 unfold adB at h1;rw[or_eq_true,decide_eq_true_eq,decide_eq_true_eq] at h1;rcases h1 with h1 | h1
 ·exact h1
 ·have:=(wl.ok _ h1).2.2
  dsimp only at this;omega
def zgg(a:Ad):Sp:=fun vs H Q _=>∃ (p q dx dp ob:Addr) (hs us:LI) (ls bs:LP) (pf:Int->Option Int),vs=[.ref p,.ref q]/\WbP a H p hs ls/\WayAt a H q pf us bs dx dp ob/\∀ (b:Bool) (H':Hp),(b=true↔GG hs us ls pf bs)->Same H H'->Q (.bl b) H'
theorem zfM(T:Txt w K mg a):FnOk P w K mg base CX0 9 234 (dK K 234) ["web", "way"] (zgg a):=by
 have c_is_grounded:=cal P base T 6 rfl (zfO T);have c_first_joins:=cal P base T 7 rfl (zfQ T);refine(T.fn 8 rfl).ok (scp 8 rfl) (fun vs H Q E h=>?_) (fun cdv A outer s H vs Q E hr h=>?_)
 ·obtain⟨p,q,dx,dp,ob,hs,us,ls,bs,pf,rfl,_⟩:=h
  rfl
 ·obtain⟨p,q,dx,dp,ob,hs,us,ls,bs,pf,rfl,WP,Y,k⟩:=h
  have hu:=vY hr;refine zR (zd (zv (zX (zH (zG c_is_grounded hr.m (zh (zj 0) (zh (zj 1) zb)))))
    (ze (zm zM))
    zo)
   (zd (zr (i:=2) (scp 8 rfl).nd rfl (Or.inl rfl) (zG c_first_joins hr.m (zh (zj 1) (yj (zT (zj 1)) zb))))
   (zd (yt PassesOwn.never rfl (Yw (zG c_first_joins hr.m (zh (zj 1) (yj (zT (zj 0)) zb)))) (zE (i:=3) (scp 8 rfl).nd rfl (Or.inl rfl))
    (ze (zv (Xf (Yx hu (zj 3) (zj 2)))
     (ze (zm zM))
     zo)))
   (ze (zm zM))))) ?_
  refine⟨_,rfl,_,rfl,p,q,dx,dp,ob,hs,us,ls,bs,pf,rfl,WP,Y,fun b1 H1 hb1 s1=>⟨_,rfl,?_⟩⟩;cases hc1:b1 with
  |false=>exact vc (k false _ ⟨fun z=>(nomatch z),fun h=>by have:=hb1.mpr h.g;rw[hc1] at this;cases this⟩ s1)
  |true =>
  refine iZ rfl ?_;have g:=hb1.mp hc1;have hm:=g.pr.m Y.nd;have C:=g.pr.cl Y.nd WP.wl;have U:=UpP.of C g.en;have inl:∀ b∈bs,b∈ls:=fun b hb=>zhq WP.wl (g.gd.1 b hb).1 (g.gd.1 b hb).2.1;have l66:bs.length<=66:=le_trans (zbk g.gd.2 inl) WP.wl.le;have Y1:=Y.same s1;refine⟨_,rfl,mtV rfl Y1.p rfl (T.cl 0 rfl) (T.mt 42 rfl) (zeg (P:=P) (w:=w) T) hr.m (T.bi 42 rfl) (ag0 (za6 Y1 (fun l rs H2 hl hl2 L2' s2=>?_)))⟩;have Y2:=Y1.same s2;have Bb:Bd bs:=fun b hb=>(WP.wl.bd WP.wh) b (inl b hb);have bin:∀ b∈bs,b.1∈us/\b.2∈us:=fun b hb=>⟨(hm _).mpr (WP.wl.ok b (inl b hb)).1,(hm _).mpr (WP.wl.ok b (inl b hb)).2.1⟩;refine⟨q,dx,dp,ob,l,pf,paO pf,us,bs,bs,rs,rfl,Y2,U,hl2,L2',Bb,l66,bin,fun jd js H3 hjd hj3 ej ps3 s3=>?_⟩;have s03:=s1.trans (s2.trans s3);have Y3:=Y2.same s3;obtain⟨wdx,oh,ol,d0,ad,W⟩:=(WP.same s03).at_;refine⟨_,rfl,mtV rfl W.p rfl (T.cl 7 rfl) (T.mt 58 rfl) (zee (P:=P) (w:=w) T) hr.m (T.bi 58 rfl) (ag0 (zbJ W (fun lq zs hlq Lz=>?_)))⟩;have s4:=sW (o:=HO.lst zs) hlq;have hsm:∀ {x:Int×Int},x∈srt ls↔x∈ls:=fun {x}=>(uS ls).mem_iff;have hsl:(srt ls).length=ls.length:=(uS ls).length_eq;refine⟨q,dx,dp,ob,lq,pf,paO pf,us,bs,srt ls,zs,rfl,Y3.same s4,U,upd_same,Lz.same s4,fun x hx=>(WP.wl.bd WP.wh) x (hsm.mp hx),by rw[hsl];exact WP.wl.le,fun x hx=>⟨(hm _).mpr (WP.wl.ok x (hsm.mp hx)).1,(hm _).mpr (WP.wl.ok x (hsm.mp hx)).2.1⟩,fun kd ks H5 hkd hk5 ek ps5 s5=>?_⟩;have s05:=s03.trans (s4.trans s5);have hj5:=s5 _ _ (s4 _ _ hj3);have nkj:jd≠kd:=fun z=>by rw[<- z,s4 _ _ hj3] at hkd;cases hkd
  have fkd:H kd=none:=(s03.trans s4).free hkd;have jK:∀ {k:Int×Int},k∈js.map (·.1)↔∃ b∈bs,jk (ldr (paO pf)) b=k:=fun {k}=>by
   have h1:js.map (·.1)=(jn (ldr (paO pf)) bs).map (·.1):=by
    rw[<- ej];unfold tlJ;rw[map_map];rfl
   rw[h1];unfold jn;rw[V3]
   constructor
   ·rintro(h | ⟨b,hb,_,e⟩)
    ·cases h
    ·exact⟨b,hb,e⟩
   ·rintro⟨b,hb,e⟩
    exact .inr ⟨b,hb,(g.gd.1 b hb).2.2,e⟩
  have kK:∀ {k:Int×Int},k∈ks.map (·.1)↔∃ p∈ls,ldr (paO pf) p.1≠ldr (paO pf) p.2/\jk (ldr (paO pf)) p=k:=fun {k}=>by
   have h1:ks.map (·.1)=(jn (ldr (paO pf)) (srt ls)).map (·.1):=by
    rw[<- ek];unfold tlJ;rw[map_map];rfl
   rw[h1];unfold jn;rw[V3]
   constructor
   ·rintro(h | ⟨b,hb,e⟩)
    ·cases h
    ·exact⟨b,hsm.mp hb,e⟩
   ·rintro⟨b,hb,e⟩
    exact .inr ⟨b,hsm.mpr hb,e⟩
  refine⟨kd,kvJ ks,rfl,hk5,fun od=>?_⟩;have hz6:=upd_same (H:=H5) (a:=kd) (o:=HO.frz od (HO.dT (kvJ ks)));have hj6:(upd H5 kd (HO.frz od (HO.dT (kvJ ks)))) jd=some (.dT (kvJ js)):=(upd_ne nkj).trans hj5;have s06:Same H (upd H5 kd (HO.frz od (HO.dT (kvJ ks)))):=Same.updF s05 fkd;generalize upd H5 kd (HO.frz od (HO.dT (kvJ ks)))=H6 at *;refine for_keysT (d:=kd) (od:=od) (kvs:=kvJ ks) (fun i σ H'=>∃ (o3:Option V),σ=[some (.ref p),some (.ref q),some (.ref jd),o3]/\H'=H6/\∀ j∈ks.take i,j.1∈js.map (·.1)) ?_ ?_ ?_ ?_
  ·exact⟨none,rfl,rfl,fun j hj=>by simp at hj⟩
  ·rintro i σ H' ⟨o3,_,rfl,_⟩
   exact hz6
  ·rintro i kv b σ H' hkv hb ⟨o3,rfl,rfl,gd⟩
   unfold kvJ at hkv;rw[List.getElem?_map] at hkv;obtain⟨jx,hjx,e⟩:=map_eq_some_iff.mp hkv;subst e;have etk:ks.take (i+1)=ks.take i++[jx]:=by rw[take_add_one,hjx];rfl
   have key:=VW (js:=js) (k:=jx.1);by_cases hin:jx.1∈js.map (·.1)
   ·rw[decide_eq_true hin] at key
    refine⟨_,rfl,_,rfl,jd,_,rfl,DGet.t (k:=[Sum.inl jx.1.1,Sum.inl jx.1.2]) hj6 hb,_,rfl,iZ (by rw[key];rfl) ⟨_,rfl,rfl,fun j hj=>?_⟩⟩;rw[etk] at hj;rcases mem_append.mp hj with e | e
    ·exact gd j e
    ·rw[mem_singleton.mp e];exact hin
   ·rw[decide_eq_false hin] at key
    refine⟨_,rfl,_,rfl,jd,_,rfl,DGet.t (k:=[Sum.inl jx.1.1,Sum.inl jx.1.2]) hj6 hb,_,rfl,zZ (by rw[key];rfl) ?_⟩;refine k false _ ⟨fun z=>(nomatch z),fun h=>?_⟩ s06;obtain⟨pp,hpp,h2,h3⟩:=kK.mp (mem_map.mpr ⟨jx,mem_of_getElem? hjx,rfl⟩);obtain⟨bb,hbb,h4⟩:=h.cov pp hpp h2;exact absurd (jK.mpr ⟨bb,hbb,h4.trans h3⟩) hin
  ·rintro σ H' ⟨o3,rfl,rfl,gd⟩
   have hlk:(kvJ ks).length=ks.length:=by unfold kvJ;rw[length_map]
   rw[hlk,take_length] at gd;refine k true _ ⟨fun _=>⟨g,fun pp hpp h2=>?_⟩,fun _=>rfl⟩ s06;obtain⟨jx,h1,h3⟩:=mem_map.mp (kK.mpr ⟨pp,hpp,h2,rfl⟩);have h4:=gd jx h1;rw[h3] at h4;exact jK.mp h4
def zge(a:Ad):Sp:=fun vs H Q E=>∃ (p q dx dp ob:Addr) (hs us:LI) (ls bs:LP) (pf:Int->Option Int),vs=[.ref p,.ref q]/\WbP a H p hs ls/\WayAt a H q pf us bs dx dp ob/\(GG hs us ls pf bs->∀ (H':Hp),Same H H'->Q .non H')/\(¬GG hs us ls pf bs->∀ (H':Hp),Same H H'->E (.ref 87) none H')
theorem zfH(T:Txt w K mg a):FnOk P w K mg base (CX1 P w) 10 241 (dK K 241) ["web", "way"] (zge a):=by
 have c_lets:=cal P base T 8 rfl (zfM T);refine(T.fn 9 rfl).ok1 (scp 9 rfl) (fun vs H Q E h=>?_) (fun cdv A outer s H vs Q E hr h=>?_)
 ·obtain⟨p,q,dx,dp,ob,hs,us,ls,bs,pf,rfl,_⟩:=h
  rfl
 ·obtain⟨p,q,dx,dp,ob,hs,us,ls,bs,pf,rfl,WP,Y,k,kx⟩:=h
  refine zR (ze (zv (zX (zH (zG c_lets hr.m (zh (zj 0) (zh (zj 1) zb)))))
    (ze (wO hr.hd (T.xc 2 rfl) (T.gg 18 rfl) (zy zi zb)))
    zo)) ?_
  refine⟨_,rfl,_,rfl,p,q,dx,dp,ob,hs,us,ls,bs,pf,rfl,WP,Y,fun b H1 hb s1=>⟨_,rfl,?_⟩⟩;cases hc:b with
  |true=>exact iZ rfl (k (hb.mp hc) _ s1)
  |false=>exact vc ⟨by show 1<=1000;decide,kx (fun z=>by rw[hb.mpr z] at hc;cases hc) _ s1⟩
theorem al{H H':Hp}{p:Addr}{o:HO}(e:L2.upd H p o=H')(hp:H p=none):H' p=some o/\Same H H':=by
 subst e;exact⟨upd_same,sW hp⟩
def ub(w:Str):Option Int:=if ua w=true then if Txt.startswith w "-" = true then none else if w.length<=20 then some (zcm w) else none else none
def numsS:List Str->Option (LI)
 |[]=>some []
 |w::ws=>(ub w).bind fun n=>(numsS ws).map fun l=>n::l
theorem uz{w:Str}:∀ {ws:List Str}{ns:LI}{n:Int},numsS ws=some ns->ub w=some n->numsS (ws++[w])=some (ns++[n])
 |[],ns,n,h1,h2=>by
  cases h1;show(ub w).bind _=_;rw[h2];rfl
 |u::ws,ns,n,h1,h2=>by
  unfold numsS at h1;cases hu:ub u with
  |none=>rw[hu] at h1;cases h1
  |some i =>
   rw[hu] at h1;cases hs:numsS ws with
   |none=>rw[hs] at h1;cases h1
   |some l =>
    rw[hs] at h1;cases h1;show(ub u).bind _=_;rw[hu];show(numsS (ws++[w])).map _=_;rw[uz hs h2];rfl
theorem xA{w:Str}(h:ub w=none):∀ {ws:List Str},w∈ws->numsS ws=none
 |u::ws,hm=>by
  show(ub u).bind _=none;rcases mem_cons.mp hm with e | e
  ·rw[<- e,h];rfl
  ·rw[xA h e]
   cases ub u<;>rfl
theorem zcl{ws:List Str}:∀ {ns:LI},numsS ws=some ns->ns.length=ws.length:=by
 induction ws with
 |nil=>intro ns h;cases h;rfl
 |cons w ws ih =>
  intro ns h;unfold numsS at h;cases hu:ub w with
  |none=>rw[hu] at h;cases h
  |some i =>
   rw[hu] at h;cases hs:numsS ws with
   |none=>rw[hs] at h;cases h
   |some l =>
    rw[hs] at h;cases h;rw[length_cons,length_cons,ih hs]
def za0:Sp:=fun vs H Q _=>∃ (l:Addr) (ws:List Str),vs=[.ref l]/\H l=some (.lst (ws.map V.str))/\(∀ w∈ws,Asc w)/\ws.length<=1000 /\
 (∀ ns,numsS ws=some ns->∀ (q:Addr) (H':Hp),H q=none->H' q=some (.lst (ns.map V.int))->Same H H'->Q (.ref q) H')/\(numsS ws=none->∀ H',Same H H'->Q .non H')
theorem zca(T:Txt w K mg a):FnOk P w K mg base CX0 2 686 (dK K 686) ["words"] za0:=by
 have c_is_number_word:=cal P base T 16 rfl (XF T);refine(T.fn 25 rfl).ok (scp 25 rfl) (fun vs H Q E h=>?_) (fun cdv A outer s H vs Q E hr h=>?_)
 ·obtain⟨l,ws,rfl,_⟩:=h
  rfl
 ·obtain⟨l,ws,rfl,hl,ha,h1000,k,kn⟩:=h
  refine zR (zd (zr (i:=1) (scp 25 rfl).nd rfl (Or.inl rfl) (zt zb))
   (zd (yt PassesOwn.never rfl (yE (zj 0)) (zE (i:=2) (scp 25 rfl).nd rfl (Or.inl rfl))
    (zd (zv (uc (yP (zX (zH (zG c_is_number_word hr.m (zh (zj 2) zb)))) (yP (zH (zY F.plainAttrs_str F.slot_str_startswith F.type_str_startswith xE (zj 2) (zy zi zb))) (yR (zp u8 (zq xZ (by rfl) (T.n 0 rfl) yf (zh (zj 2) zb)) (yd (v:=.int 20) rfl (T.gg 14 rfl) ⟨_,rfl⟩) (zB _))))))
     (ze (zm zJ))
     zo)
    (ze (xa (zY F.plainAttrs_list F.slot_list_append F.type_list_append xB (zj 1) (yj (zF Yl (by rfl) (T.n 1 rfl) uG (zh (zj 2) zb)) zb))))))
   (ze (zm (zj 1))))) ?_
  refine⟨(by show 0<=sizeLine;decide),fun p hp=>?_⟩;have s1:=sW (o:=HO.lst []) hp;have hl1:=s1 _ _ hl;refine⟨_,rfl,l,rfl,⟨_,sO hl1⟩,?_⟩;refine for_list (K:=K) (a:=l) (xs:=ws.map V.str) (fun i σ G=>∃ (ns:LI) (o:Option V),σ=[some (.ref l),some (.ref p),o]/\numsS (ws.take i)=some ns/\G p=some (.lst (ns.map V.int))/\Same H G) ?_ ?_ ?_ ?_
  ·exact⟨[],none,rfl,rfl,upd_same,s1⟩
  ·rintro i σ G _ ⟨ns,o,_,_,_,sm⟩
   exact sO (sm _ _ hl)
  ·rintro i v σ G hi ⟨ns,o,rfl,hn,gp,sm⟩
   rw[List.getElem?_map] at hi;obtain⟨x,hx,rfl⟩:=map_eq_some_iff.mp hi;have hxm:=mem_of_getElem? hx;have hA:=ha x hxm;have etk:ws.take (i+1)=ws.take i++[x]:=by rw[take_add_one,hx];rfl
   have no:ub x=none->∀ G,Same H G->Q .non G:=fun e G s=>kn (xA e hxm) G s;refine⟨_,rfl,x,rfl,hA,_,rfl,?_⟩;by_cases c1:ua x=true
   case neg=>exact zZ (by rw[not_eq_true] at c1;rw[c1];rfl) (no (by unfold ub;rw[if_neg c1]) G sm)
   refine iZ (by rw[c1];rfl) ?_;refine⟨_,rfl,rfl,_,_,rfl,rfl,_,rfl,?_⟩;by_cases c2:Txt.startswith x "-" = true
   ·exact zZ c2 (no (by unfold ub;rw[if_pos c1,if_pos c2]) G sm)
   refine iZ (by rw[not_eq_true] at c2;exact c2) ?_;refine⟨_,rfl,x,rfl,hA.2,_,_,rfl,rfl,_,rfl,?_⟩;by_cases c3:x.length<=20
   case neg=>exact zZ (decide_eq_true (by omega)) (no (by unfold ub;rw[if_pos c1,if_neg c2,if_neg c3]) G sm)
   refine iZ (decide_eq_false (by omega)) ?_;have hr:=Z2 c1;rw[ut (by omega)] at hr;have hin:ns.length<=1000:=by
    have:=zcl hn;rw[length_take] at this;omega
   refine⟨_,rfl,.inl ⟨rfl,_,sO gp⟩,_,rfl,x,_,rfl,hr,by omega,p,_,_,rfl,rfl,gp,by rw[length_map];exact ye hin,?_⟩;refine⟨ns++[zcm x],_,rfl,?_,by rw[upd_same,map_append];rfl,sm.updF hp⟩;rw[etk];exact uz hn (by unfold ub;rw[if_pos c1,if_neg c2,if_pos c3])
  ·rintro σ G ⟨ns,o,rfl,hn,gp,sm⟩
   rw[length_map,take_length] at hn;exact⟨_,rfl,k ns hn p G hp gp sm⟩
inductive Vl where
 |hs (ns:LI)
 |pr (x y:Int)
 |ex (e:Ex)
 |rd (n:Int)
noncomputable def kindsL:List Str:=["hands", "line", "parent", "bridge", "start", "send", "when", "reckon", "rounds"]
noncomputable def pairsL:List Str:=["line", "parent", "bridge"]
def wf(kind row:Str):Option Vl :=
 if inV (.str kind) (kindsL.map V.str)=true then
  if kind = "hands" then match numsS ((Txt.split row " ").drop 1) with | some (n::ns)=>some (.hs (n::ns)) | _=>none
  else if inV (.str kind) (pairsL.map V.str)=true then match numsS ((Txt.split row " ").drop 1) with | some [x,y]=>some (.pr x y) | _=>none
  else if kind = "rounds" then match numsS ((Txt.split row " ").drop 1) with | some [n]=>if n<=40 then some (.rd n) else none | _=>none
  else(zbQ kind row).map .ex
 else none
def VlAt(a:Ad)(H:Hp)(v:V):Vl->Prop
 |.hs ns=>∃ q,v=.ref q/\H q=some (.lst (ns.map V.int))
 |.pr x y=>∃ q,v=.ref q/\H q=some (.tup [.int x,.int y])
 |.ex e=>Made a H e v
 |.rd n=>v=.int n
theorem VlAt.same{a:Ad}{H H':Hp}{v:V}(s:Same H H'):∀ {l:Vl},VlAt a H v l->VlAt a H' v l
 |.hs _,⟨q,e,h⟩=>⟨q,e,s _ _ h⟩
 |.pr _ _,⟨q,e,h⟩=>⟨q,e,s _ _ h⟩
 |.ex _,h=>Made.same s h
 |.rd _,h=>h
def VlF(H:Hp)(v:V):Vl->Prop
 |.hs _=>∃ q,v=.ref q/\H q=none
 |_=>True
def za4(a:Ad):Sp:=fun vs H Q _=>∃ (kind row:Str),vs=[.str kind,.str row]/\Fit row /\
 (∀ l,wf kind row=some l->∀ v H',VlAt a H' v l->VlF H v l->Same H H'->Q v H')/\(wf kind row=none->∀ H',Same H H'->Q .non H')
theorem zcd(T:Txt w K mg a):FnOk P w K mg base CX0 6 693 (dK K 693) ["kind", "row"] (za4 a):=by
 have c_read_numbers:=cal P base T 25 rfl (zca T);have c_read_row:=cal P base T 20 rfl (zed T);refine(T.fn 26 rfl).ok (scp 26 rfl) (fun vs H Q E h=>?_) (fun cdv A outer s H vs Q E hr h=>?_)
 ·obtain⟨kind,row,rfl,_⟩:=h
  rfl
 ·obtain⟨kind,row,rfl,hf,k,kn⟩:=h
  have hf':=hf;obtain⟨hl,ha,hc⟩:=hf;have hp:=xm row " ";have e2:sizeLine=16777216:=rfl;refine zR (zd (zv (zp xS (zj 0) (yd (v:=.ref 677) rfl (T.gg 11 rfl) rfl) (by with_unfolding_all rfl))
    (ze (zm zJ))
    zo)
   (zd (zr (i:=2) (scp 26 rfl).nd rfl (Or.inl rfl) (zG c_read_numbers hr.m (zn (zA zQ (zY F.plainAttrs_str F.slot_str_split F.type_str_split xF (zj 1) (zy zi zb)) (w_po_some zg) zD) zb)))
   (zd (zv (zp yX (zj 0) zi (zB _))
    (ze (zm (yQ (X7 (zj 2) (fun _=>rfl)) (zj 2) zJ)))
    zo)
   (zd (zv (zp yv (zj 0) (yd (v:=.ref 679) rfl (T.gg 13 rfl) rfl) (by with_unfolding_all rfl))
    (ze (zm (yQ (uc (yB (zp wu (zj 2) zJ (zB _)) (yw (zp yX (zq zx (by rfl) (T.n 0 rfl) yf (zh (zj 2) zb)) zg (zB _))))) (zF xJ (by rfl) (T.n 13 rfl) wc (zh (zj 2) zb)) zJ)))
    zo)
   (zd (zv (zp yX (zj 0) zi (zB _))
    (ze (zm (yQ (uc (yB (zp wu (zj 2) zJ (zB _)) (yB (zp yX (zq zx (by rfl) (T.n 0 rfl) yf (zh (zj 2) zb)) zg (zB _)) (yw (zp zb7 (zw zC (zj 2) zg (fun _ _=>rfl)) (yd (v:=.int 40) rfl (T.gg 15 rfl) ⟨_,rfl⟩) (zB _)))))) (zw zC (zj 2) zg (fun _ _=>rfl)) zJ)))
    zo)
   (ze (zm (zG c_read_row hr.m (zh (zj 1) (zh (zj 0) zb)))))))))) ?_
  refine⟨_,rfl,_,_,rfl,.inr ((T.gs 5 rfl) H),rfl,flat_strs kindsL,_,rfl,?_⟩;unfold wf at k kn;by_cases h1:inV (.str kind) (kindsL.map V.str)=true
  case neg =>
   rw[if_neg h1] at kn;exact zZ (by rw[not_eq_true] at h1;show(!inV (.str kind) (kindsL.map V.str))=true;rw[h1];rfl) (kn rfl H (sR H))
  rw[if_pos h1] at k kn;refine iZ (by show(!inV (.str kind) (kindsL.map V.str))=false;rw[h1];rfl) ?_;refine⟨_,rfl,rfl,_,_,rfl,rfl,(by decide +kernel),(by omega),(by omega),(by omega),fun p hp=>?_⟩;generalize hs:Txt.split row " " = ws at *;generalize hE:L2.upd H p _=H1;obtain⟨g1,s1⟩:=al hE hp;clear hE;refine⟨_,rfl,p,_,rfl,sO g1,fun p2 hp2=>?_⟩;have ed:uj (ws.map V.str) (some 1) none=(ws.drop 1).map V.str:=by
   cases ws with
   |nil=>rfl
   |cons f ws=>rw[map_cons,ze7];rfl
  rw[ed];generalize hE:L2.upd H1 p2 _=H2;obtain⟨g2,s2⟩:=al hE hp2;clear hE;have s02:=s1.trans s2;have hd1:(ws.drop 1).length<=1000:=by rw[length_drop];omega
  refine⟨p2,ws.drop 1,rfl,g2,fun w hw=>ha w (mem_of_mem_drop hw),hd1,fun ns hns q H3 nq g3 s3=>?_,fun hns H3 s3=>?_⟩
  ·have s03:=s02.trans s3
   rw[hns] at k kn;refine⟨_,rfl,rfl,_,rfl,?_⟩;rw[yk];by_cases h2:kind = "hands"
   ·refine zZ (decide_eq_true h2) ?_
    simp only[if_pos h2] at k kn;cases ns with
    |nil=>exact⟨_,rfl,_,.inl ⟨_,sO g3,rfl⟩,iZ (by rfl) (kn rfl H3 s03)⟩
    |cons n ns=>exact⟨_,rfl,_,.inl ⟨_,sO g3,rfl⟩,zZ (by simp) ⟨_,rfl,k _ rfl _ H3 ⟨q,rfl,g3⟩ ⟨q,rfl,s02.free nq⟩ s03⟩⟩
   refine iZ (decide_eq_false h2) ?_;simp only[if_neg h2] at k kn;refine⟨_,rfl,_,_,rfl,.inr ((T.gs 7 rfl) H3),rfl,flat_strs pairsL,_,rfl,?_⟩;by_cases h3:inV (.str kind) (pairsL.map V.str)=true
   ·refine zZ h3 ?_
    simp only[if_pos h3] at k kn;refine⟨_,rfl,rfl,_,rfl,vc ?_⟩;refine⟨_,rfl,q,_,rfl,.inl (sO g3),rfl,_,rfl,?_⟩
    match ns,g3,k,kn with
    |[x,y],g3,k,kn =>
     refine zZ rfl ⟨_,rfl,q,_,rfl,.inl ⟨sO g3,fun t ht=>?_⟩⟩;exact k _ rfl _ _ ⟨t,rfl,upd_same⟩ trivial (s03.trans (sW ht))
    |[],g3,k,kn=>exact iZ rfl (kn rfl H3 s03)
    |[_],g3,k,kn=>exact iZ rfl (kn rfl H3 s03)
    |_::_::_::r,g3,k,kn=>exact iZ (decide_eq_false fun z=>by injection z with z;simp only[length_map,length_cons] at z;omega) (kn rfl H3 s03)
   refine iZ (by rw[not_eq_true] at h3;exact h3) ?_;simp only[if_neg h3] at k kn;refine⟨_,rfl,rfl,_,rfl,?_⟩;rw[yk];by_cases h4:kind = "rounds"
   ·refine zZ (decide_eq_true h4) ?_
    simp only[if_pos h4] at k kn;refine⟨_,rfl,rfl,_,rfl,vc ?_⟩;refine⟨_,rfl,q,_,rfl,.inl (sO g3),rfl,_,rfl,?_⟩
    match ns,g3,k,kn with
    |[n],g3,k,kn =>
     refine zZ rfl ?_;refine⟨_,rfl,q,_,0,_,rfl,rfl,sO g3,zN (j:=0) rfl,_,_,rfl,rfl,_,rfl,?_⟩;by_cases h5:n<=40
     ·refine zZ (decide_eq_true h5) ?_
      simp only[if_pos h5] at k;exact⟨_,rfl,q,_,0,_,rfl,rfl,sO g3,zN (j:=0) rfl,k _ rfl _ H3 rfl trivial s03⟩
     ·refine iZ (decide_eq_false h5) ?_
      simp only[if_neg h5] at kn;exact kn trivial H3 s03
    |[],g3,k,kn=>exact iZ rfl (kn rfl H3 s03)
    |_::_::r,g3,k,kn=>exact iZ (decide_eq_false fun z=>by injection z with z;simp only[length_map,length_cons] at z;omega) (kn rfl H3 s03)
   refine iZ (decide_eq_false h4) ?_;simp only[if_neg h4] at k kn;refine⟨_,rfl,_,rfl,row,kind,rfl,hf',fun e he r H4 m s4=>k (.ex e) (by rw[he];rfl) r H4 m trivial (s03.trans s4),fun he H4 s4=>kn (by rw[he];rfl) H4 (s03.trans s4)⟩
  ·have s03:=s02.trans s3
   rw[hns] at k kn;refine⟨_,rfl,rfl,_,rfl,?_⟩;rw[yk];by_cases h2:kind = "hands"
   ·refine zZ (decide_eq_true h2) ?_
    simp only[if_pos h2] at k kn;exact⟨_,rfl,false,rfl,iZ rfl (kn trivial H3 s03)⟩
   refine iZ (decide_eq_false h2) ?_;simp only[if_neg h2] at k kn;refine⟨_,rfl,_,_,rfl,.inr ((T.gs 7 rfl) H3),rfl,flat_strs pairsL,_,rfl,?_⟩;by_cases h3:inV (.str kind) (pairsL.map V.str)=true
   ·refine zZ h3 ?_
    simp only[if_pos h3] at k kn;exact⟨_,rfl,rfl,_,rfl,iZ rfl (kn trivial H3 s03)⟩
   refine iZ (by rw[not_eq_true] at h3;exact h3) ?_;simp only[if_neg h3] at k kn;refine⟨_,rfl,rfl,_,rfl,?_⟩;rw[yk];by_cases h4:kind = "rounds"
   ·refine zZ (decide_eq_true h4) ?_
    simp only[if_pos h4] at k kn;exact⟨_,rfl,rfl,_,rfl,iZ rfl (kn trivial H3 s03)⟩
   refine iZ (decide_eq_false h4) ?_;simp only[if_neg h4] at k kn;refine⟨_,rfl,_,rfl,row,kind,rfl,hf',fun e he r H4 m s4=>k (.ex e) (by rw[he];rfl) r H4 m trivial (s03.trans s4),fun he H4 s4=>kn (by rw[he];rfl) H4 (s03.trans s4)⟩
end
end K04
namespace HT
open PySem PySem.Spec PyProof.Rows
open PySem.SeqAt
open PySem.AutoSeq1 (wpAny_loadPart')
open PySem.MeetsSeq PySem.MeetsSeq2 PySem.MeetsSeq3
theorem tuple_indexAt(l:Addr)(items:Array Value)(n:Nat)(dd:Option Addr)(sl:Array (Option Value))(x:Value)(e:Value->Bool)(j:Nat)(hj:j<items.size)
  (hit:e items[j]=true) (hno:∀ m (hm:m<items.size),m<j->e items[m]=false) :
  Meets (Builtin.«tuple.index» ⟨[.ref l,x],[]⟩)
   (fun A R s=>s.heap.get? l=some { cls:=.type "tuple",dict:=dd,data:=.seq items n,slots:=sl }/\(∀ y,y∈items->EqAt A.in1 s y x (e y))/\R (.ok (.ret (.int j s.toks))) { s with toks:=s.toks+1 }) :=
 .of_wp fun prog w A R s h=>by
 obtain⟨hp,g,d,tk,os⟩:=s;obtain⟨hl,he,h⟩:=h;have f2:=AutoSeq1.sub_tuple_tuple;unfold Builtin.«tuple.index»;simp only[Std.Legacy.Range.forIn_eq_forIn_range']
 wp_walk using wpAny_loadPart' hl,wpAny_forIn_list _ (fun rest q s'=>s'=⟨hp,g,d,tk,os⟩/\q=(none,())/\∃ i,rest=List.range' i (items.size-i)/\i<=j) _
 case turn =>
  rintro x1 rest q s' ⟨rfl,rfl,i,hr,hi⟩;have hlt:i<items.size:=by omega
  obtain⟨rfl,hrest⟩:x1=i/\rest=List.range' (i+1) (items.size-(i+1)):=by
   have e:items.size-i=(items.size-(i+1))+1:=by omega
   rw[e,List.range'_succ] at hr;injection hr with h1 h2;exact⟨h1,h2⟩
  rw[Array.getElem?_eq_getElem hlt];refine wpAny_bind (he _ (Array.getElem_mem hlt) prog w _ _ ?_);by_cases c:x1=j
  ·subst c
   rw[hit]
   wp_walk
   exact⟨_,rfl,h⟩
  ·rw[hno x1 hlt (by omega)]
   wp_walk
   exact⟨rfl,rfl,x1+1,hrest,by omega⟩
 case fin =>
  rintro q s' ⟨rfl,rfl,i,hr,hi⟩;have e:items.size-i=(items.size-(i+1))+1:=by omega
  rw[e,List.range'_succ] at hr;cases hr
 case h=>exact⟨rfl,rfl,0,by simp[Std.Legacy.Range.size],zero_le _⟩
end HT
namespace L2
open PySem PySem.Spec PyProof.Rows
section
variable {X:Cx}
theorem Z6:MtR X "tuple.index" (fun x vs H Q=>∃ (a:Addr) (z:Str) (ws:List Str) (j:Nat),x=.ref a/\vs=[.str z]/\SqT X.K H a (ws.map V.str)/\ws[j]?=some z/\(∀ m,m<j->ws[m]?≠some z)/\Q (.int (j:Int)) H):=by
 intro pins s σ H x vs v us Q I rx rv h;obtain⟨a,z,ws,j,rfl,rfl,ha,hj,hno,q⟩:=h;cases rx;obtain⟨u,rfl,ru⟩:=rv.one;obtain⟨t,rfl⟩:=ru;obtain⟨its,r1,p1,_⟩:=I.tuple ha;obtain⟨⟨cls,dd,data,sl⟩,ho,hc,n,hd⟩:=id p1;simp only at hc hd;subst hc hd;have hlen:ws.length=its.length:=by have:=r1.length;rwa [length_map] at this
 have at_:∀ {m:Nat}(hm:m<its.length),∃ y t',its[m]=.str y t'/\ws[m]?=some y:=fun {m} hm=>by
  have hw:ws[m]?=some (ws[m]'(by omega)):=List.getElem?_eq_getElem _;obtain⟨u1,e1,q1⟩:=r1.get (i:=m) (x:=V.str (ws[m]'(by omega))) (by rw[List.getElem?_map,hw];rfl);obtain⟨t',rfl⟩:=q1;rw[List.getElem?_eq_getElem hm] at e1;injection e1 with e1;exact⟨_,t',e1,hw⟩
 have hjl:j<its.length:=by rw[<- hlen];exact(List.getElem?_eq_some_iff.mp hj).1
 refine call_meets PySem.F.slot_tuple_index ⟨_,ho,rfl⟩ PySem.F.entry_tuple_index (PySem.F.args_tuple_index_2 _ _) (HT.tuple_indexAt a _ n _ _ (.str z t) (fun v=>match v with | .str y _=>y == z | _=>false) j (by simpa using hjl) ?_ fun m hm hlt=>?_) ⟨ho,fun y hy=>?_,?_⟩
 ·obtain⟨y,t',e1,e2⟩:=at_ hjl
  rw[hj] at e2;cases e2;simp only[List.getElem_toArray,e1];exact beq_self_eq_true _
 ·have hm2:m<its.length:=by simpa using hm
  obtain⟨y,t',e1,e2⟩:=at_ hm2;simp only[List.getElem_toArray,e1];refine beq_eq_false_iff_ne.mpr fun c=>hno m hlt ?_;rw[e2,c]
 ·obtain⟨m,hm,rfl⟩:=getElem_of_mem (List.mem_toArray.mp hy)
  obtain⟨y,t',e1,e2⟩:=at_ hm;rw[e1];exact SeqAt.EqAt.str_str _ _ _ _
 ·exact⟨.int _,H,I.tok _,⟨s.toks,rfl⟩,q⟩
end
end L2
namespace K04
open PySem L2
def mfS(kind:Str)(l:Vl)(ka:Str)(la:Vl):Bool:=if kind=ka then(match l,la with | .pr x y,.pr x' y'=>if kind = "parent" then decide (x'<x) else HT.lexLt [x',y'] [x,y] | _,_=>false) else decide (kindsL.idxOf ka<kindsL.idxOf kind)
def Kd(kind:Str)(l:Vl):Prop:=inV (.str kind) (pairsL.map V.str)=true↔∃ x y,l=.pr x y
theorem zbt{ws:List Str}{x:Str}(h:x∈ws):ws[ws.idxOf x]?=some x/\∀ m,m<ws.idxOf x->ws[m]?≠some x:=by
 induction ws with
 |nil=>cases h
 |cons w ws ih =>
  rw[List.idxOf_cons];by_cases c:w=x
  ·have:(w == x)=true:=by rw[c];exact beq_self_eq_true _
   rw[this];exact⟨by rw[c];rfl,fun m hm=>absurd hm (Nat.not_lt_zero _)⟩
  ·have hb:(w == x)=false:=beq_eq_false_iff_ne.mpr c
   rw[hb];have hm:x∈ws:=by
    rcases mem_cons.mp h with e | e
    ·exact absurd e.symm c
    ·exact e
   obtain⟨h1,h2⟩:=ih hm;refine⟨h1,fun m hm=>?_⟩;cases m with
   |zero=>intro z;injection z with z;exact c z
   |succ m=>exact h2 m (by exact Nat.lt_of_succ_lt_succ hm)
section
variable {P:Program}{w:World}{K:W.Frag}{mg:Str->Option Value}{base:Heap}{a:Ad}
def zfn(a:Ad):Sp:=fun vs H Q _=>∃ (kind ka:Str) (v va:V) (l la:Vl),vs=[.str kind,v,.str ka,va]/\kind∈kindsL/\ka∈kindsL/\VlAt a H v l/\VlAt a H va la/\Kd kind l/\Kd ka la/\Q (.bl (mfS kind l ka la)) H
theorem zfL(T:Txt w K mg a):FnOk P w K mg base CX0 2 700 (dK K 700) ["kind", "value", "kind_ahead", "value_ahead"] (zfn a):=by
 refine(T.fn 27 rfl).ok (scp 27 rfl) (fun vs H Q E h=>?_) (fun cdv A outer s H vs Q E hr h=>?_)
 ·obtain⟨kind,ka,v,va,l,la,rfl,_⟩:=h
  rfl
 ·obtain⟨kind,ka,v,va,l,la,rfl,h1,h2,hv,hva,hk,hka,k⟩:=h
  have hu:=vY hr;refine zR (zd (zv (zp wv (zj 0) (zj 2) (zB _))
    (ze (zm (zO YJ (zY F.plainAttrs_tuple F.slot_tuple_index F.type_tuple_index Z6 (yd (v:=.ref 677) rfl (T.gg 11 rfl) rfl) (zh (zj 2) zb)) (zY F.plainAttrs_tuple F.slot_tuple_index F.type_tuple_index Z6 (yd (v:=.ref 677) rfl (T.gg 11 rfl) rfl) (zh (zj 0) zb)) (zB _))))
    zo)
   (zd (zv (zp yX (zj 0) zi (zB _))
    (ze (zm (zO YJ (zw yY (zj 3) zg (fun _ _=>rfl)) (zw yY (zj 1) zg (fun _ _=>rfl)) (zB _))))
    zo)
   (ze (zm (yp (zO yv (zj 0) (yd (v:=.ref 679) rfl (T.gg 13 rfl) rfl) (by with_unfolding_all rfl)) (yo (zO (zd6 (Nat.lt_of_succ_lt hu)) (zj 3) (zj 1) (zB _)))))))) ?_
  refine⟨_,rfl,_,rfl,rfl,_,rfl,?_⟩;rw[yk];unfold mfS at k;by_cases c:kind=ka
  case neg =>
   rw[if_neg c] at k;refine zZ (by rw[decide_eq_false c];rfl) ?_;obtain⟨i1,i2⟩:=zbt h2;obtain⟨i3,i4⟩:=zbt h1;refine⟨(T.tt 5 rfl) H,_,rfl,_,ka,kindsL,_,rfl,rfl,(T.gs 5 rfl) H,i1,i2,(T.tt 5 rfl) H,_,rfl,_,kind,kindsL,_,rfl,rfl,(T.gs 5 rfl) H,i3,i4,_,_,rfl,rfl,?_⟩;rw[<- (decide_eq_decide.mpr Int.ofNat_lt:decide (((kindsL.idxOf ka:Nat):Int)<((kindsL.idxOf kind:Nat):Int))=decide (kindsL.idxOf ka<kindsL.idxOf kind))] at k;exact k
  subst c;rw[if_pos rfl] at k;refine iZ (by rw[decide_eq_true rfl];rfl) ?_;refine⟨_,rfl,rfl,_,rfl,?_⟩;rw[yk];by_cases c2:kind = "parent"
  ·refine zZ (decide_eq_true c2) ?_
   obtain⟨x,y,rfl⟩:=hk.mp (by rw[c2];rfl);obtain⟨x',y',rfl⟩:=hka.mp (by rw[c2];rfl);obtain⟨q,rfl,hq⟩:=hv;obtain⟨q',rfl,hq'⟩:=hva;simp only[if_pos c2] at k;exact⟨_,rfl,q',_,0,_,rfl,rfl,sP hq',rfl,_,rfl,q,_,0,_,rfl,rfl,sP hq,rfl,_,_,rfl,rfl,k⟩
  refine iZ (decide_eq_false c2) ?_;refine⟨_,rfl,_,_,rfl,.inr ((T.gs 7 rfl) H),rfl,flat_strs pairsL,_,rfl,?_⟩;by_cases c3:inV (.str kind) (pairsL.map V.str)=true
  ·refine zZ c3 ?_
   obtain⟨x,y,rfl⟩:=hk.mp c3;obtain⟨x',y',rfl⟩:=hka.mp c3;obtain⟨q,rfl,hq⟩:=hv;obtain⟨q',rfl,hq'⟩:=hva;simp only[if_neg c2] at k;exact⟨_,rfl,_,rfl,q',q,[x',y'],[x,y],rfl,rfl,sP hq',sP hq,k⟩
  ·refine iZ (by rw[not_eq_true] at c3;exact c3) ?_
   have nl:∀ x y,l≠.pr x y:=fun x y e=>c3 (hk.mpr ⟨x,y,e⟩);cases l with
   |pr x y=>exact absurd rfl (nl x y)
   |hs _=>exact k
   |ex _=>exact k
   |rd _=>exact k
theorem Zm{x:Str}:∀ {ws:List Str},inV (.str x) (ws.map V.str)=true->x∈ws
 |w::ws,h=>by
  unfold inV at h;rw[map_cons,any_cons,or_eq_true] at h;rcases h with h | h
  ·have h:(w == x)=true:=h
   rw[eq_of_beq h];exact mem_cons_self
  ·exact mem_cons_of_mem _ (Zm (ws:=ws) h)
theorem zau{kind row:Str}{l:Vl}(h:wf kind row=some l):kind∈kindsL/\Kd kind l:=by
 unfold wf at h;by_cases h1:inV (.str kind) (kindsL.map V.str)=true
 case neg=>rw[if_neg h1] at h;cases h
 rw[if_pos h1] at h;refine⟨Zm h1,?_⟩;by_cases h2:kind = "hands"
 ·rw[if_pos h2] at h
  subst h2
  split at h
  ·cases h
   exact⟨fun z=>absurd z (by decide +kernel),fun⟨x,y,e⟩=>nomatch e⟩
  ·cases h
 rw[if_neg h2] at h;by_cases h3:inV (.str kind) (pairsL.map V.str)=true
 ·rw[if_pos h3] at h
  split at h
  ·cases h
   exact⟨fun _=>⟨_,_,rfl⟩,fun _=>h3⟩
  ·cases h
 rw[if_neg h3] at h;refine⟨fun z=>absurd z h3,fun⟨x,y,e⟩=>?_⟩;subst e;by_cases h4:kind = "rounds"
 ·rw[if_pos h4] at h
  split at h
  ·split at h
   ·cases h
   ·cases h
  ·cases h
 ·rw[if_neg h4] at h
  cases hg:zbQ kind row with
  |none=>rw[hg] at h;cases h
  |some e=>rw[hg] at h;cases h
noncomputable def xu(row:Str):Str:=(Txt.split row " ").headD ""
def stepRw(acc:List (Str×Vl))(row:Str):Option (List (Str×Vl)):=(wf (xu row) row).bind fun l=>match acc.getLast? with
 |some k=>if mfS (xu row) l k.1 k.2=true then some (acc++[(xu row,l)]) else none
 |none=>some (acc++[(xu row,l)])
def yW:List Str->Nat->List (Str×Vl)->Sum Nat (List (Str×Vl))
 |[],_,acc=>.inr acc
 |r::rs,i,acc=>match stepRw acc r with
  |some acc'=>yW rs (i+1) acc'
  |none=>.inl i
noncomputable def neededL:List Str:=["hands", "start", "send", "when", "reckon", "rounds"]
def ofK(k:Str)(acc:List (Str×Vl)):List Vl:=(acc.filter fun p=>p.1=k).map (·.2)
theorem Made.ne{a:Ad}{H:Hp}{D:Addr}{zs:List V}(hD:H D=some (.lst zs)){e:Ex}{v:V}(h:Made a H e v):v≠.ref D:=by
 intro z;subst z;cases e with
 |num _=>obtain⟨p,_,e,g⟩:=h;injection e with e;rw[<- e,hD] at g;cases g
 |name _=>obtain⟨p,_,e,g⟩:=h;injection e with e;rw[<- e,hD] at g;cases g
 |two _ _ _=>obtain⟨p,_,_,_,e,g,_⟩:=h;injection e with e;rw[<- e,hD] at g;cases g
 |mod _ _=>obtain⟨p,_,_,e,g,_⟩:=h;injection e with e;rw[<- e,hD] at g;cases g
 |less _ _ _ _=>obtain⟨p,_,_,_,_,_,e,g,_⟩:=h;injection e with e;rw[<- e,hD] at g;cases g
theorem VlAt.updL{a:Ad}{H:Hp}{D:Addr}{zs:List V}{o:HO}{v:V}(hD:H D=some (.lst zs))(hn:v≠.ref D){l:Vl}(h:VlAt a H v l):VlAt a (L2.upd H D o) v l:=by
 cases l with
 |hs ns =>
  obtain⟨q,e,g⟩:=h;exact⟨q,e,by rw[upd_ne (fun z=>hn (by rw[e,z]))];exact g⟩
 |pr x y =>
  obtain⟨q,e,g⟩:=h;exact⟨q,e,by rw[upd_ne (Z5 g hD (by intro z;cases z))];exact g⟩
 |ex e=>exact Made.updL hD h
 |rd n=>exact h
theorem VlAt.ne{a:Ad}{H H1:Hp}{D:Addr}{zs:List V}{v:V}(s:Same H H1)(hD:H D=some (.lst zs)){l:Vl}(h:VlAt a H1 v l)(f:VlF H v l):v≠.ref D:=by
 intro z;subst z;cases l with
 |hs ns=>obtain⟨q,e,g⟩:=f;injection e with e;rw[<- e,hD] at g;cases g
 |pr x y=>obtain⟨q,e,g⟩:=h;injection e with e;rw[<- e,s _ _ hD] at g;cases g
 |ex e=>exact Made.ne (s _ _ hD) h rfl
 |rd n=>cases h
theorem VlAt.some{a:Ad}{H:Hp}{v:V}{l:Vl}(h:VlAt a H v l):decide (v=.non)=false:=by
 cases l with
 |hs ns=>obtain⟨q,rfl,g⟩:=h;rfl
 |pr x y=>obtain⟨q,rfl,g⟩:=h;rfl
 |ex e=>exact Made.no h
 |rd n=>cases h;rfl
def VlL(a:Ad)(H:Hp):List V->List Vl->Prop
 |[],[]=>True
 |v::vs,l::ls=>VlAt a H v l/\VlL a H vs ls
 |_,_=>False
theorem VlL.same{a:Ad}{H H':Hp}(s:Same H H'):∀ {vs:List V}{ls:List Vl},VlL a H vs ls->VlL a H' vs ls
 |[],[],_=>trivial
 |_::_,_::_,⟨h,t⟩=>⟨h.same s,t.same s⟩
theorem VlL.updL{a:Ad}{H:Hp}{D:Addr}{zs:List V}{o:HO}(hD:H D=some (.lst zs)):∀ {vs:List V}{ls:List Vl},(∀ v∈vs,v≠.ref D)->VlL a H vs ls->VlL a (L2.upd H D o) vs ls
 |[],[],_,_=>trivial
 |v::vs,_::_,n,⟨h,t⟩=>⟨h.updL hD (n v mem_cons_self),VlL.updL hD (fun u hu=>n u (mem_cons_of_mem _ hu)) t⟩
theorem VlL.snoc{a:Ad}{H:Hp}{v:V}{l:Vl}(h:VlAt a H v l):∀ {vs:List V}{ls:List Vl},VlL a H vs ls->VlL a H (vs++[v]) (ls++[l])
 |[],[],_=>⟨h,trivial⟩
 |_::_,_::_,⟨h1,t⟩=>⟨h1,VlL.snoc h t⟩
theorem VlL.len{a:Ad}{H:Hp}:∀ {vs:List V}{ls:List Vl},VlL a H vs ls->vs.length=ls.length
 |[],[],_=>rfl
 |_::_,_::_,⟨_,t⟩=>by rw[length_cons,length_cons,t.len]
theorem VlL.last{a:Ad}{H:Hp}{l:Vl}:∀ {vs:List V}{ls:List Vl},VlL a H vs (ls++[l])->∃ vs' v,vs=vs'++[v]/\VlAt a H v l
 |[],[],h=>False.elim h
 |[],_::_,h=>False.elim h
 |[v],[],⟨h,_⟩=>⟨[],v,rfl,h⟩
 |_::_::_,[],⟨_,h⟩=>False.elim h
 |v::vs,_::ls,⟨_,t⟩=>by
  obtain⟨vs',u,e,h⟩:=VlL.last (vs:=vs) (ls:=ls) t;exact⟨v::vs',u,by rw[e];rfl,h⟩
def W4(ad:Str->Addr)(ks:List Str):List (Key×V):=ks.map fun k=>(Sum.inr k,V.ref (ad k))
theorem W0{ad:Str->Addr}{ks:List Str}:(W4 ad ks).map (·.1)=ks.map Sum.inr:=by
 unfold W4;rw[map_map];rfl
theorem W3{ad:Str->Addr}{x:Str}:∀ {ks:List Str},x∈ks->xK (W4 ad ks) (Sum.inr x:Key)=some (V.ref (ad x))
 |u::us,h=>by
  show xK ((Sum.inr u,V.ref (ad u))::W4 ad us) _=_;by_cases e:u=x
  ·subst e;rw[wD rfl]
  ·rw[wE (fun z=>e (by injection z)),W3]
   rcases mem_cons.mp h with z | z
   ·exact absurd z.symm e
   ·exact z
structure Fd (a:Ad) (H:Hp) (q:Addr) (ad:Str->Addr) (acc:List (Str×Vl)):Prop where
 d:H q=some (.dK (W4 ad kindsL))
 inj:∀ k∈kindsL,∀ k'∈kindsL,ad k=ad k'->k=k'
 ls:∀ k∈kindsL,∃ vs,H (ad k)=some (.lst vs)/\VlL a H vs (ofK k acc)/\∀ v∈vs,∀ k'∈kindsL,v≠.ref (ad k')
theorem Fd.same{a:Ad}{H H':Hp}{q:Addr}{ad:Str->Addr}{acc:List (Str×Vl)}(s:Same H H')(F:Fd a H q ad acc):Fd a H' q ad acc:=⟨s _ _ F.d,F.inj,fun k hk=>by
 obtain⟨vs,h1,h2,h3⟩:=F.ls k hk;exact⟨vs,s _ _ h1,h2.same s,h3⟩⟩
theorem Fd.get{a:Ad}{H:Hp}{q:Addr}{ad:Str->Addr}{acc:List (Str×Vl)}(F:Fd a H q ad acc){k:Str}(hk:k∈kindsL):DGet H q (V.str k) (some (V.ref (ad k))):=by
 have:=DGet.k (k:=Sum.inr k) F.d;rw[W3 hk] at this;exact this
theorem Zd{k k':Str}{l:Vl}{acc:List (Str×Vl)}:ofK k (acc++[(k',l)])=if k'=k then ofK k acc++[l] else ofK k acc:=by
 unfold ofK;rw[filter_append,map_append];by_cases c:k'=k
 ·rw[if_pos c]
  simp[c]
 ·rw[if_neg c]
  simp[c]
theorem zcj{k:Str}{acc:List (Str×Vl)}:(ofK k acc).length<=acc.length:=by
 unfold ofK;rw[length_map];exact List.length_filter_le _ _
theorem Fd.put{a:Ad}{H:Hp}{q:Addr}{ad:Str->Addr}{acc:List (Str×Vl)}{k:Str}{v:V}{l:Vl}{vs:List V}(F:Fd a H q ad acc)(hk:k∈kindsL)(hv:H (ad k)=some (.lst vs))(h:VlAt a H v l)(hn:∀ k'∈kindsL,v≠.ref (ad k')) :
  Fd a (L2.upd H (ad k) (.lst (vs++[v]))) q ad (acc++[(k,l)]):=by
 refine⟨by rw[upd_ne (Z5 F.d hv (by intro z;cases z))];exact F.d,F.inj,fun k' hk'=>?_⟩;obtain⟨us,g1,g2,g3⟩:=F.ls k' hk';rw[Zd];by_cases c:k=k'
 ·subst c
  rw[g1] at hv;injection hv with hv;injection hv with hv;subst hv;rw[if_pos rfl];refine⟨_,upd_same,(g2.updL g1 fun u hu=>g3 u hu _ hk).snoc (h.updL g1 (hn _ hk)),fun u hu=>?_⟩;rcases mem_append.mp hu with hu | hu
  ·exact g3 u hu
  ·rw[mem_singleton.mp hu]
   exact hn
 ·rw[if_neg c]
  exact⟨us,by rw[upd_ne fun z=>c (F.inj k hk k' hk' z.symm)];exact g1,g2.updL hv fun u hu=>g3 u hu _ hk,g3⟩
noncomputable def zfy(ad:Str->Addr)(y:Str)(p:Addr):Str->Addr:=fun x=>if x=y then p else ad x
theorem uZ{ad:Str->Addr}{x y:Str}{p:Addr}(e:x=y):zfy ad y p x=p:=if_pos e
theorem wU{ad:Str->Addr}{x y:Str}{p:Addr}(e:¬ x=y):zfy ad y p x=ad x:=if_neg e
theorem zat:kindsL.Nodup:=by decide +kernel
theorem Z4:∀ k∈neededL,k∈kindsL:=by decide +kernel
theorem Wi{rows:List Str}{i:Nat}{acc:List (Str×Vl)}{row:Str}(h:rows[i]?=some row):yW (rows.drop i) i acc=match stepRw acc row with
  |some acc'=>yW (rows.drop (i+1)) (i+1) acc'
  |none=>.inl i:=by
 obtain⟨hi,e⟩:=List.getElem?_eq_some_iff.mp h;rw[List.drop_eq_getElem_cons hi,e];rfl
theorem zaf{acc:List (Str×Vl)}{k:Str×Vl}(h:acc.getLast?=some k):∃ ls,ofK k.1 acc=ls++[k.2]:=by
 obtain⟨r,hr⟩:∃ r,acc=r++[k]:=by
  cases acc with
  |nil=>cases h
  |cons x xs =>
   rw[List.getLast?_eq_some_getLast (cons_ne_nil _ _)] at h;injection h with h;exact⟨(x::xs).dropLast,by rw[<- h];exact(List.dropLast_concat_getLast _).symm⟩
 exact⟨ofK k.1 r,by rw[hr,show[k]=[(k.1,k.2)] from rfl,Zd,if_pos rfl]⟩
noncomputable def Yc(acc:List (Str×Vl)):V:=match acc.getLast? with
 |some k=>.str k.1
 |none=>.non
theorem mfA{K:W.Frag}{a:Ad}{σ:St}{H:Hp}{Q:VK}{q:Addr}{ad:Str->Addr}{acc:List (Str×Vl)}{kind ka:Str}{v va:V}{l la:Vl}{us:List V}(h1:σ[1]?=some (some (.ref q)))(h2:σ[2]?=some (some (.str ka)))(h5:σ[5]?=some (some (.str kind)))(h6:σ[6]?=some (some v))(F:Fd a H q ad acc)(hka:ka∈kindsL)(u1:H (ad ka)=some (.lst (us++[va])))(hk:kind∈kindsL)(hv:VlAt a H v l)(hva:VlAt a H va la)(hkl:Kd kind l)(hkk:Kd ka la)(h:Q (.bl (mfS kind l ka la)) H) :
  w8 (zfn a) [] E0 (yr (yV 5) (yr (yV 6) (yr (yV 2) (yr (tOp (za8 K) (We (yV 1) (yV 2)) (tUn (rU fun i=>.int (-i)) (tC (.int 1)))) wN)))) σ H Q :=
 ⟨_,h5,_,h6,_,h2,_,h1,_,h2,q,V.ref (ad ka),rfl,F.get hka,_,rfl,ad ka,_,-1,va,rfl,rfl,sO u1,at_last,kind,ka,v,va,l,la,rfl,hk,hka,hv,hva,hkl,hkk,h⟩
theorem apA{K:W.Frag}{a:Ad}{σ:St}{H:Hp}{D:Ends}{q:Addr}{ad:Str->Addr}{acc:List (Str×Vl)}{kind:Str}{v:V}{vs:List V}(h1:σ[1]?=some (some (.ref q)))(h5:σ[5]?=some (some (.str kind)))(h6:σ[6]?=some (some v))(F:Fd a H q ad acc)(hk:kind∈kindsL)(v1:H (ad kind)=some (.lst vs))(hz:vs.length<sizeLine)(h:D.nx σ (upd H (ad kind) (.lst (vs++[v])))):UR (tBM K "list" Vq (We (yV 1) (yV 5)) (yr (yV 6) wN)) D σ H :=
 ⟨_,h1,_,h5,q,V.ref (ad kind),rfl,F.get hk,.inl ⟨rfl,_,sO v1⟩,_,h6,_,_,_,rfl,rfl,v1,hz,h⟩
def zgf(a:Ad):Sp:=fun vs H Q E=>∃ (p:Addr) (rows:List Str),vs=[.ref p]/\H p=some (.lst (rows.map V.str))/\rows.length<=1000/\(∀ r∈rows,Fit r) /\
 (∀ i,yW rows 0 []=.inl i->∀ d H',Same H H'->H d=none->H' d=some (.xd [("row",.int i)])->E (.ref 75) (some d) H') /\
 (∀ acc,yW rows 0 []=.inr acc->((∃ k∈neededL,ofK k acc=[])->∀ d H',Same H H'->H d=none->H' d=some (.xd [("row",.int rows.length)])->E (.ref 75) (some d) H') /\
  ((∀ k∈neededL,ofK k acc≠[])->∀ q ad H',Same H H'->Fd a H' q ad acc->Q (.ref q) H'))
theorem zfI(T:Txt w K mg a):FnOk P w K mg base (CX1 P w) 8 705 (dK K 705) ["rows"] (zgf a):=by
 have c_read_kind:=cal P base T 26 rfl (zcd T);have c_may_follow:=cal P base T 27 rfl (zfL T);have xi_NoText:XInit P w K mg base "NoText" 75 72 (dK K 72) ["self", "row"] 1 "row" := ⟨ZV T,(T.xn 0 rfl),(T.xf 0 rfl),(T.xk 0 rfl),(T.gg 20 rfl),(T.bi 61 rfl)⟩;refine(T.fn 28 rfl).ok1 (scp 28 rfl) (fun vs H Q E h=>?_) (fun cdv A outer s H vs Q E hr h=>?_)
 ·obtain⟨p,rows,rfl,_⟩:=h
  rfl
 ·obtain⟨p,rows,rfl,hp,hl,hf,k1,k2⟩:=h
  have hu:=vY hr;have e2:sizeLine=16777216:=rfl;refine zR (zd (zr (i:=1) (scp 28 rfl).nd rfl (Or.inl rfl) (zF (wb rfl) (by rfl) (T.n 7 rfl) wX (zn (yF rfl (N':=["kind"]) (t:=1) (caps:=[]) ⟨rfl,rfl,rfl⟩ (uH (yd (v:=.ref 677) rfl (T.gg 11 rfl) rfl)) (fun _=>(zE (i:=0) (show(["kind"]:List Str).Nodup by decide +kernel) rfl (Or.inl rfl))) (fun _=>y8) (fun _=>(yC (zh (zj 0) (zn (zt zb) zb))))) zb)))
   (zd (zr (i:=2) (scp 28 rfl).nd rfl (Or.inl rfl) zJ)
   (zd (yt PassesOwn.leaving rfl (WJ rfl (T.n 14 rfl) (zh (zj 0) zb)) (x8 rfl (yh (zE (i:=3) (scp 28 rfl).nd rfl (Or.inl rfl)) (yh (zE (i:=4) (scp 28 rfl).nd rfl (Or.inl rfl)) xw)))
    (zd (zr (i:=5) (scp 28 rfl).nd rfl (Or.inl rfl) (zw zC (zY F.plainAttrs_str F.slot_str_split F.type_str_split xF (zj 4) (zy zi zb)) zg (fun _ _=>rfl)))
    (zd (zr (i:=6) (scp 28 rfl).nd rfl (Or.inl rfl) (zG c_read_kind hr.m (zh (zj 5) (zh (zj 4) zb))))
    (zd (zv (zp VD (zj 6) zJ (zB _))
     (ze (xC xi_NoText hr.hd hr.m (zh (zj 3) zb)))
     zo)
    (zd (zv (uc (yB (zp wu (zj 2) zJ (zB _)) (yw (zX (zH (zG c_may_follow hr.m (zh (zj 5) (zh (zj 6) (zh (zj 2) (zn (zw zC (yq hu (zj 1) (zj 2) (fun _ _=>rfl)) (WK WV zg) (fun _ _=>rfl)) zb))))))))))
     (ze (xC xi_NoText hr.hd hr.m (zh (zj 3) zb)))
     zo)
    (zd (xa (zY F.plainAttrs_list F.slot_list_append F.type_list_append xB (yq hu (zj 1) (zj 5) (fun _ _=>rfl)) (zh (zj 6) zb)))
    (ze (zr (i:=2) (scp 28 rfl).nd rfl (Or.inl rfl) (zj 5)))))))))
   (zd (yt PassesOwn.leaving rfl (uH (yd (v:=.ref 678) rfl (T.gg 12 rfl) rfl)) (zE (i:=5) (scp 28 rfl).nd rfl (Or.inl rfl))
    (ze (zv (zp (zbe zd8 zd9) (yq hu (zj 1) (zj 5) (fun _ _=>rfl)) (zt zb) (zB _))
     (ze (xC xi_NoText hr.hd hr.m (yj (zq zx (by rfl) (T.n 0 rfl) yf (zh (zj 0) zb)) zb)))
     zo)))
   (ze (zm (zj 1))))))) ?_
  refine⟨_,rfl,⟨_,(T.gs 5 rfl) H⟩,fun D hD _=>?_⟩;refine X3 (K:=K) (a:=677) (xs:=kindsL.map V.str) (fun i zs τ H'=>∃ (o:Option V) (ad:Str->Addr) (qs:List Addr),τ=[o]/\zs=qs.map V.ref/\qs.length=i/\i<=9/\H' D=some (.lst zs)/\Same H H' /\
   (∀ (j:Nat) q k,qs[j]?=some q->kindsL[j]?=some k->H' q=some (.tup [.str k,.ref (ad k)]))/\(∀ k∈kindsL.take i,H' (ad k)=some (.lst [])/\H (ad k)=none/\ad k≠D)/\(∀ k∈kindsL.take i,∀ k'∈kindsL.take i,ad k=ad k'->k=k')) ?_ ?_ ?_ ?_
  ·exact⟨none,fun _=>0,[],rfl,rfl,rfl,by omega,upd_same,sW hD,fun j q k h=>(by simp at h),fun k h=>(by simp at h),fun k h=>(by simp at h)⟩
  ·rintro i zs τ H' _
   exact(T.gs 5 rfl) H'
  ·rintro i x zs τ H' hi ⟨o,ad,qs,rfl,rfl,rfl,h9,hD',sm,hq,hat,hinj⟩
   rw[List.getElem?_map] at hi;obtain⟨y,hy,rfl⟩:=map_eq_some_iff.mp hi;have hnew:y∉kindsL.take qs.length:=Zf zat hy;refine YZ ?_;refine⟨_,rfl,(by show 0<=sizeLine;decide),fun p1 hp1=>?_⟩;refine⟨(by show 2<=sizeLine;decide),fun t ht=>?_⟩;have hp0:=sm.free hp1;have n1:p1≠D:=fun z=>by rw[z,hD'] at hp1;cases hp1
   have ntp:t≠p1:=fun z=>by rw[z,upd_same] at ht;cases ht
   have ht':H' t=none:=by rw[upd_ne ntp] at ht;exact ht
   have nt:t≠D:=fun z=>by rw[z,hD'] at ht';cases ht'
   have sH:Same H' (upd (upd H' p1 (.lst [])) t (.tup [.str y,.ref p1])):=(sW hp1).trans (sW ht);have hD2:=sH _ _ hD';have et:kindsL.take (qs.length+1)=kindsL.take qs.length++[y]:=by rw[take_add_one,hy];rfl
   have hne:∀ k∈kindsL.take qs.length,ad k≠p1:=fun k hk z=>by
    have:=(hat k hk).1;rw[z,hp1] at this;cases this
   have hql:qs.length<kindsL.length:=(List.getElem?_eq_some_iff.mp hy).1;have hql:qs.length<9:=hql;refine⟨hD2,by rw[length_map];omega,some (.str y),zfy ad y p1,qs++[t],rfl,by rw[map_append];rfl,by rw[length_append];rfl,by omega,upd_same,(sm.trans sH).updF hD,fun j q k hj hk=>?_,fun k hk=>?_,fun k hk k' hk' e=>?_⟩
   ·by_cases hjl:j<qs.length
    ·rw[List.getElem?_append_left hjl] at hj
     have hkm:k∈kindsL.take qs.length:=mem_of_getElem? (i:=j) (by rw[List.getElem?_take_of_lt hjl];exact hk);have g:=hq j q k hj hk;rw[wU (fun z=>hnew (by rw[<- z];exact hkm)),upd_ne (Z5 g hD' (by intro z;cases z))];exact sH _ _ g
    ·rw[List.getElem?_append_right (by omega)] at hj
     have e0:j-qs.length=0:=by
      by_cases z:j-qs.length=0
      ·exact z
      ·rw[List.getElem?_eq_none (by simp;omega)] at hj;cases hj
     have ej:j=qs.length:=by omega
     rw[e0] at hj;cases hj;rw[ej,hy] at hk;cases hk;rw[uZ rfl,upd_ne nt,upd_same]
   ·rw[et,mem_append,mem_singleton] at hk
    by_cases e:k=y
    ·rw[uZ e]
     refine⟨?_,hp0,n1⟩;rw[upd_ne n1,upd_ne (fun z=>ntp z.symm),upd_same]
    ·rw[wU e]
     have hk:=hk.resolve_right e;obtain⟨g1,g2,g3⟩:=hat k hk;exact⟨by rw[upd_ne g3];exact sH _ _ g1,g2,g3⟩
   ·rw[et,mem_append,mem_singleton] at hk hk'
    by_cases e1:k=y
    ·by_cases e2:k'=y
     ·rw[e1,e2]
     ·rw[uZ e1,wU e2] at e
      exact absurd e.symm (hne k' (hk'.resolve_right e2))
    ·by_cases e2:k'=y
     ·rw[wU e1,uZ e2] at e
      exact absurd e (hne k (hk.resolve_right e1))
     ·rw[wU e1,wU e2] at e
      exact hinj k (hk.resolve_right e1) k' (hk'.resolve_right e2) e
  ·rintro zs τ H1 ⟨o,ad,qs,rfl,rfl,hql,_,hD1,sm,hq,hat,hinj⟩
   rw[length_map] at hql hat hinj;rw[take_length] at hat hinj;refine⟨D,qs,W4 ad kindsL,rfl,hD1,by rw[hql];unfold W4;rw[length_map],(by unfold W4;rw[length_map];decide),fun i q kv h1 h2=>?_,fun pf hpf=>?_⟩
   ·unfold W4 at h2
    rw[List.getElem?_map] at h2;obtain⟨k,hk,rfl⟩:=map_eq_some_iff.mp h2;exact hq i q k h1 hk
   rw[vf (by rw[W0];decide +kernel)];have sf:Same H (upd H1 pf (.dK (W4 ad kindsL))):=sm.trans (sW hpf);have F0:Fd a (upd H1 pf (.dK (W4 ad kindsL))) pf ad []:=⟨upd_same,hinj,fun k hk=>⟨[],sW hpf _ _ (hat k hk).1,trivial,fun v hv=>(by simp at hv)⟩⟩;have hfr:∀ k∈kindsL,H (ad k)=none:=fun k hk=>(hat k hk).2.1;clear hq hat hinj hD1 hql;generalize hE:L2.upd H1 pf _=H2 at *;clear hE hpf sm H1;refine⟨_,rfl,.l,p,_,rfl,sO (sf _ _ hp),?_⟩;refine zaD (K:=K) (k:=.l) (a:=p) (xs:=rows.map V.str) (fun i σ H'=>∃ o3 o4 o5 o6 acc,σ=[some (.ref p),some (.ref pf),some (Yc acc),o3,o4,o5,o6]/\Same H H'/\Fd a H' pf ad acc/\i<=rows.length/\yW (rows.drop i) i acc=yW rows 0 []/\acc.length=i/\∀ x∈acc,x.1∈kindsL/\Kd x.1 x.2) ?_ ?_ ?_ ?_
   ·exact⟨none,none,none,none,[],rfl,sf,F0,by omega,rfl,rfl,fun x hx=>(by simp at hx)⟩
   ·rintro i σ H' _ ⟨_,_,_,_,acc,_,s',_⟩
    exact sO (s' _ _ hp)
   ·rintro i x' σ H' q hx ⟨o3,o4,o5,o6,acc,rfl,s',F,hi,hS,hal,hkd⟩ hq
    rw[List.getElem?_map] at hx;obtain⟨row,hrow,rfl⟩:=map_eq_some_iff.mp hx;have hil:i<rows.length:=(List.getElem?_eq_some_iff.mp hrow).1;rw[Wi hrow] at hS;have hfr':=hf row (mem_of_getElem? hrow);obtain⟨f1,f2,f3⟩:=hfr';have hpl:=xm row " ";generalize hE:L2.upd H' q _=H3;obtain⟨g3,s3⟩:=al hE hq;clear hE;refine⟨q,[.int i,.str row],rfl,sP g3,rfl,_,_,rfl,_,_,rfl,rfl,?_⟩;refine⟨_,rfl,rfl,_,_,rfl,rfl,(by decide +kernel),(by omega),(by omega),(by omega),fun p4 hp4=>?_⟩;generalize hE:L2.upd H3 p4 _=H4;obtain⟨g4,s4⟩:=al hE hp4;clear hE;have hk0:atI ((Txt.split row " ").map V.str) 0=some (.str (xu row)):=by
     unfold xu;cases e:Txt.split row " " with
     |nil=>exact absurd e (ve row " ")
     |cons x xs=>exact zN (j:=0) rfl
    refine⟨p4,_,0,_,rfl,rfl,sO g4,hk0,?_⟩;have s04:=s'.trans (s3.trans s4);have bad:∀ H1,Same H4 H1->stepRw acc row=none->∀ d,H1 d=none->E (.ref 75) (some d) (upd H1 d (.xd [("row",.int i)])):=fun H1 sr e d hd =>
     k1 i (by rw[<- hS,e]) d _ ((s04.trans sr).updF ((s04.trans sr).free hd)) ((s04.trans sr).free hd) upd_same
    refine⟨_,rfl,_,rfl,xu row,row,rfl,⟨f1,f2,f3⟩,fun l hl v H5 hv hvf s5=>?_,fun hl H5 s5=>?_⟩
    rotate_left
    ·refine⟨_,rfl,rfl,_,rfl,zZ rfl ?_⟩
     exact⟨_,rfl,_,rfl,bad H5 s5 (by unfold stepRw;rw[hl];rfl)⟩
    refine⟨_,rfl,rfl,_,rfl,iZ hv.some ?_⟩;obtain⟨hk,hkl⟩:=zau hl;have F5:=F.same (s3.trans (s4.trans s5));have s05:=s04.trans s5;have hvn:∀ k'∈kindsL,v≠.ref (ad k'):=fun k' hk'=>by
     obtain⟨us,u1,_⟩:=F.ls k' hk';exact hv.ne s5 (s4 _ _ (s3 _ _ u1)) hvf
    obtain⟨vs,v1,v2,_⟩:=F5.ls _ hk;have v3:=v2.len;have v4:=zcj (k:=xu row) (acc:=acc);have fin:stepRw acc row=some (acc++[(xu row,l)])->∃ o3 o4 o5 o6 acc',([some (.ref p),some (.ref pf),some (.str (xu row)),some (.int i),some (.str row),some (.str (xu row)),some v]:St)=[some (.ref p),some (.ref pf),some (Yc acc'),o3,o4,o5,o6]/\Same H (upd H5 (ad (xu row)) (.lst (vs++[v])))/\Fd a (upd H5 (ad (xu row)) (.lst (vs++[v]))) pf ad acc'/\i+1<=rows.length/\yW (rows.drop (i+1)) (i+1) acc'=yW rows 0 []/\acc'.length=i+1/\∀ x∈acc',x.1∈kindsL/\Kd x.1 x.2:=fun e=>by
     rw[e] at hS;refine⟨some (.int i),some (.str row),some (.str (xu row)),some v,acc++[(xu row,l)],?_,s05.updF (hfr _ hk),F5.put hk v1 hv hvn,hil,hS,by rw[length_append,hal];rfl,fun x hx=>?_⟩
     ·unfold Yc
      rw[List.getLast?_concat]
     ·rcases mem_append.mp hx with hx | hx
      ·exact hkd x hx
      ·rw[mem_singleton.mp hx]
       exact⟨hk,hkl⟩
    cases hlast:acc.getLast? with
    |none =>
     have hst:stepRw acc row=some (acc++[(xu row,l)]):=by
      unfold stepRw;rw[hl,hlast];rfl
     have hh:Yc acc=.non:=by unfold Yc;rw[hlast]
     rw[hh];refine⟨_,rfl,rfl,_,rfl,iZ rfl ?_⟩;refine iZ rfl ?_;refine apA rfl rfl rfl F5 hk v1 (ye (by omega)) ?_;exact⟨_,rfl,fin hst⟩
    |some ka =>
     have hst:stepRw acc row=if mfS (xu row) l ka.1 ka.2=true then some (acc++[(xu row,l)]) else none:=by
      unfold stepRw;rw[hl,hlast];rfl
     have hh:Yc acc=.str ka.1:=by unfold Yc;rw[hlast]
     obtain⟨hka,hkk⟩:=hkd ka (List.mem_of_getLast? hlast);obtain⟨us,u1,u2,_⟩:=F5.ls _ hka;obtain⟨ls,hls⟩:=zaf hlast;rw[hls] at u2;obtain⟨us',va,rfl,hva⟩:=u2.last;rw[hh];refine⟨_,rfl,rfl,_,rfl,zZ rfl ?_⟩;refine mfA rfl rfl rfl rfl F5 hka u1 hk hv hva hkl hkk ?_;cases hm:mfS (xu row) l ka.1 ka.2 with
     |true =>
      rw[hm,if_pos rfl] at hst;refine⟨_,rfl,iZ rfl ?_⟩;refine apA rfl rfl rfl F5 hk v1 (ye (by omega)) ?_;exact⟨_,rfl,fin hst⟩
     |false =>
      rw[hm,if_neg Bool.false_ne_true] at hst;refine⟨_,rfl,zZ rfl ?_⟩;exact⟨_,rfl,_,rfl,bad H5 s5 hst⟩
   ·rintro σ H' ⟨o3,o4,o5,o6,acc,rfl,s',F,_,hS,hal,hkd⟩
    rw[length_map,List.drop_length] at hS;have hS:yW rows 0 []=.inr acc:=hS.symm;obtain⟨k3,k4⟩:=k2 acc hS;refine⟨_,rfl,⟨_,(T.gs 6 rfl) _⟩,?_⟩;refine zcK (K:=K) (a:=678) (xs:=neededL.map V.str) (fun i σ H''=>∃ o5,σ=[some (.ref p),some (.ref pf),some (Yc acc),o3,o4,o5,o6]/\Same H' H''/\∀ k∈neededL.take i,ofK k acc≠[]) ?_ ?_ ?_ ?_
    ·exact⟨_,rfl,sR _,fun k hk=>(by simp at hk)⟩
    ·rintro i σ H'' _ _
     exact(T.gs 6 rfl) H''
    ·rintro i x σ H'' hi ⟨o5,rfl,s2,hn⟩
     rw[List.getElem?_map] at hi;obtain⟨y,hy,rfl⟩:=map_eq_some_iff.mp hi;have hyn:=mem_of_getElem? hy;have hyk:=Z4 y hyn;have F2:=F.same s2;obtain⟨vs,v1,v2,_⟩:=F2.ls _ hyk;have v3:=v2.len;refine⟨_,rfl,_,rfl,pf,_,rfl,F2.get hyk,(by show 0<=sizeLine;decide),fun p1 hp1=>?_⟩;generalize hE:L2.upd H'' p1 _=H3;obtain⟨g3,s3⟩:=al hE hp1;clear hE;have s03:=s'.trans (s2.trans s3);cases vs with
     |nil =>
      refine .inl ⟨ad y,p1,[],[],fun _=>true,0,rfl,rfl,.inl ⟨sO (s3 _ _ v1),sO g3⟩,rfl,by have:=hr.units;exact lt_of_le_of_lt (Nat.add_le_add_left (by decide) _) this,fun j x y h=>(by simp at h),?_⟩;refine⟨_,rfl,zZ rfl ?_⟩;refine⟨_,rfl,p,_,rfl,.inl (sO (s03 _ _ hp)),_,rfl,fun d hd=>?_⟩;rw[length_map];refine k3 ⟨y,hyn,?_⟩ d _ (s03.updF (s03.free hd)) (s03.free hd) upd_same;exact List.eq_nil_of_length_eq_zero v3.symm
     |cons v vs =>
      refine .inr ⟨ad y,p1,v::vs,[],rfl,rfl,sO (s3 _ _ v1),sO g3,(by simp),hr.units0,?_⟩;refine⟨_,rfl,iZ rfl ?_⟩;refine⟨_,rfl,s2.trans s3,fun k hk=>?_⟩;rw[take_add_one,hy,mem_append] at hk;rcases hk with hk | hk
      ·exact hn k hk
      ·rw[mem_singleton.mp hk]
       intro z;rw[z] at v3;cases v3
    ·rintro σ H'' ⟨o5,rfl,s2,hn⟩
     rw[length_map,take_length] at hn;exact⟨_,rfl,k4 hn pf ad H'' (s'.trans s2) (F.same s2)⟩
noncomputable def muK:LI->LP->List Int
 |us,[]=>us
 |us,p::ps=>muK (if p.1∈us then us else us++[p.1]) ps
noncomputable def mfK:(Int->Option Int)->LP->Int->Option Int
 |f,[]=>f
 |f,p::ps=>mfK (fun y=>if y=p.1 then some p.2 else f y) ps
def kvP(ps:LP):List (Key×V):=ps.map fun p=>(Sum.inl p.1,V.int p.2)
theorem U0{f:Int->Option Int}{us:LI}{x y:Int}:putK (tabV (fun z=>opV (f z)) us) (Sum.inl x:Key) (.int y)=tabV (fun z=>opV (if z=x then some y else f z)) (if x∈us then us else us++[x]):=by
 by_cases c:x∈us
 ·rw[if_pos c]
  unfold putK;rw[if_pos (by rw[xD,YB c];rfl)];unfold tabV;rw[map_map];refine List.map_congr_left fun z hz=>?_;show(if (Sum.inl z:Key)=Sum.inl x then(Sum.inl z,V.int y) else(Sum.inl z,opV (f z)))=(Sum.inl z,opV (if z=x then some y else f z));by_cases e:z=x
  ·rw[if_pos (by rw[e]),if_pos e]
   rfl
  ·rw[if_neg (fun q=>e (by injection q)),if_neg e]
 ·rw[if_neg c,L2.putK_new _ (UO c)]
  unfold tabV;rw[map_append]
  congr 1
  ·refine List.map_congr_left fun z hz=>?_
   show _=(Sum.inl z,opV (if z=x then some y else f z));rw[if_neg (fun e:z=x=>c (by rw[<- e];exact hz))]
  ·show _=[(Sum.inl x,opV (if x=x then some y else f x))]
   rw[if_pos rfl];rfl
theorem uA:∀ {ps:LP}{f:Int->Option Int}{us:LI},mergeK (tabV (fun z=>opV (f z)) us) (kvP ps)=tabV (fun z=>opV (mfK f ps z)) (muK us ps)
 |[],_,_=>rfl
 |p::ps,f,us=>by
  show mergeK (putK (tabV (fun z=>opV (f z)) us) (Sum.inl p.1) (.int p.2)) (kvP ps)=_;rw[U0,uA];rfl
theorem zbl:∀ {ps:LP}{us:LI},us.Nodup->(muK us ps).Nodup
 |[],_,h=>h
 |p::ps,us,h=>by
  refine zbl (ps:=ps) ?_;by_cases c:p.1∈us
  ·rw[if_pos c];exact h
  ·rw[if_neg c]
   exact nodup_append.mpr ⟨h,nodup_cons.mpr ⟨by simp,List.nodup_nil⟩,fun x hx y hy e=>c (by rw[<- mem_singleton.mp hy,<- e];exact hx)⟩
theorem zaq{ps:LP}:(kvP ps).map (·.1)=(ps.map (·.1)).map Sum.inl:=by
 unfold kvP;rw[map_map,map_map];rfl
structure Sg where
 ns:List Int
 ls:List (Int×Int)
 ps:List (Int×Int)
 bs:List (Int×Int)
 e1:Ex
 e2:Ex
 e3:Ex
 e4:Ex
 n:Int
def prL(ps:LP):List Vl:=ps.map fun p=>.pr p.1 p.2
structure AccIs (acc:List (Str×Vl)) (S:Sg):Prop where
 hd:ofK "hands" acc=[.hs S.ns]
 ln:ofK "line" acc=prL S.ls
 pr:ofK "parent" acc=prL S.ps
 br:ofK "bridge" acc=prL S.bs
 e1:ofK "start" acc=[.ex S.e1]
 e2:ofK "send" acc=[.ex S.e2]
 e3:ofK "when" acc=[.ex S.e3]
 e4:ofK "reckon" acc=[.ex S.e4]
 rd:ofK "rounds" acc=[.rd S.n]
theorem VlL.prs{a:Ad}{H:Hp}:∀ {vs:List V}{ps:LP},VlL a H vs (prL ps)->LnAt H vs ps
 |[],[],_=>⟨rfl,fun i r p h=>by simp at h⟩
 |v::vs,p::ps,⟨⟨q,e,g⟩,t⟩=>by
  obtain⟨h1,h2⟩:=VlL.prs (vs:=vs) (ps:=ps) t;refine⟨by rw[length_cons,length_cons,h1],fun i r p' e1 e2=>?_⟩;cases i with
  |zero=>cases e1;cases e2;exact⟨q,e,g⟩
  |succ i=>exact h2 i r p' e1 e2
theorem VlL.refs{a:Ad}{H:Hp}:∀ {vs:List V}{ps:LP},VlL a H vs (prL ps)->∃ qs:List Addr,vs=qs.map V.ref/\qs.length=(kvP ps).length/\∀ (i:Nat) (q:Addr) (kv:Key×V),qs[i]?=some q->(kvP ps)[i]?=some kv->H q=some (.tup [kV kv.1,kv.2])
 |[],[],_=>⟨[],rfl,rfl,fun i q kv h=>by simp at h⟩
 |v::vs,p::ps,⟨⟨q,e,g⟩,t⟩=>by
  obtain⟨qs,h1,h2,h3⟩:=VlL.refs (vs:=vs) (ps:=ps) t;refine⟨q::qs,by rw[e,h1];rfl,by show qs.length+1=(kvP ps).length+1;rw[h2],fun i q' kv e1 e2=>?_⟩;cases i with
  |zero=>cases e1;cases e2;exact g
  |succ i=>exact h3 i q' kv e1 e2
theorem Fd.one{a:Ad}{H:Hp}{q:Addr}{ad:Str->Addr}{acc:List (Str×Vl)}(F:Fd a H q ad acc){k:Str}{l:Vl}(hk:k∈kindsL)(h:ofK k acc=[l]):∃ v,H (ad k)=some (.lst [v])/\VlAt a H v l:=by
 obtain⟨vs,h1,h2,_⟩:=F.ls k hk;rw[h] at h2
 match vs,h1,h2 with
 |[v],h1,h2=>exact⟨v,h1,h2.1⟩
 |[],_,h2=>exact False.elim h2
 |_::_::_,_,h2=>exact False.elim h2.2
theorem Fd.prs{a:Ad}{H:Hp}{q:Addr}{ad:Str->Addr}{acc:List (Str×Vl)}(F:Fd a H q ad acc){k:Str}{ps:LP}(hk:k∈kindsL)(h:ofK k acc=prL ps):∃ vs,H (ad k)=some (.lst vs)/\VlL a H vs (prL ps):=by
 obtain⟨vs,h1,h2,_⟩:=F.ls k hk;rw[h] at h2;exact⟨vs,h1,h2⟩
theorem fd0{K:W.Frag}{a:Ad}{σ:St}{H:Hp}{Q:VK}{q:Addr}{ad:Str->Addr}{acc:List (Str×Vl)}{k:Str}{v:V}{vs:List V}(hv:σ[1]?=some (some (.ref q)))(F:Fd a H q ad acc)(hk:k∈kindsL)(hl:H (ad k)=some (.lst (v::vs)))(h:Q v H):tOp (za8 K) (We (yV 1) (tC (.str k))) (tC (.int 0)) σ H Q:=⟨_,hv,q,V.ref (ad k),rfl,F.get hk,_,_,0,_,rfl,rfl,sO hl,zN (j:=0) rfl,h⟩
theorem fdA{a:Ad}{σ:St}{H:Hp}{Q:VK}{q:Addr}{ad:Str->Addr}{acc:List (Str×Vl)}{k:Str}(hv:σ[1]?=some (some (.ref q)))(F:Fd a H q ad acc)(hk:k∈kindsL)(h:Q (.ref (ad k)) H):We (yV 1) (tC (.str k)) σ H Q:=⟨_,hv,q,V.ref (ad k),rfl,F.get hk,h⟩
abbrev Sg.us(S:Sg):LI:=muK S.ns S.ps
abbrev Sg.pf(S:Sg):Int->Option Int:=mfK (fun _=>none) S.ps
def zgG(S:Sg):Prop:=(S.ps.map (·.1)).Nodup/\S.ps.length<=500/\S.us.length<=12/\S.bs.length<=200
def zfm(a:Ad):Sp:=fun vs H Q E=>∃ (x:Str) (rows:List Str),vs=[.str x]/\Txt.split x "\n" = rows/\x.length<=400000/\rows.length<=1000/\(∀ r∈rows,Fit r) /\
 (∀ i,yW rows 0 []=.inl i->∀ d H',Same H H'->H d=none->H' d=some (.xd [("row",.int i)])->E (.ref 75) (some d) H') /\
 (∀ acc,yW rows 0 []=.inr acc->((∃ k∈neededL,ofK k acc=[])->∀ d H',Same H H'->H d=none->H' d=some (.xd [("row",.int rows.length)])->E (.ref 75) (some d) H') /\
  ((∀ k∈neededL,ofK k acc≠[])->∃ S:Sg,AccIs acc S/\S.ls.length<=63/\(¬(Hs S.ns/\Ls S.ns S.ls)->∀ H',Same H H'->E (.ref 44) none H') /\
   (Hs S.ns->Ls S.ns S.ls->(¬GoodE S.e1 S.e2 S.e3 S.e4->∀ H',Same H H'->E (.ref 56) none H') /\
    (GoodE S.e1 S.e2 S.e3 S.e4->zgG S/\(¬GG S.ns S.us S.ls S.pf S.bs->∀ H',Same H H'->E (.ref 87) none H') /\
     (GG S.ns S.us S.ls S.pf S.bs->∀ v H',Same H H'->Q v H')))))
def zdM(K:W.Frag)(a:Ad):Sp:=fun vs H _ E=>∃ (v:V) (t:Value),vs=[v]/\TyOf K H v t/\PySem.W.kitOne K t (.type "str")=some false/\∀ d H',Same H H'->H d=none->H' d=some (.xd [("row",.int 0)])->E (.ref 75) (some d) H'
def Vb(K:W.Frag)(a:Ad):Sp:=fun vs H Q E=>zfm a vs H Q E\/zdM K a vs H Q E
theorem zec(T:Txt w K mg a):FnOk P w K mg base (CX1 P w) 24 710 (dK K 710) ["text"] (Vb K a):=by
 have cx_read_rows:Callee1 P w K mg base "read_rows" 705 (dK K 705) ["rows"] 8 (zgf a):=⟨zfI T,(T.g 28 rfl),(T.fn 28 rfl).kp,(T.bi 28 rfl)⟩;have cx_refuse_unlet:Callee1 P w K mg base "refuse_unlet" 241 (dK K 241) ["web", "way"] 10 (zge a):=⟨zfH T,(T.g 9 rfl),(T.fn 9 rfl).kp,(T.bi 9 rfl)⟩;have mx_Web:Maker1 P w K mg base "Web" 672 620 (dK K 620) ["self", "hands", "lines"] 4 (zdK a):=⟨zea T,(T.gc 7 rfl),(T.mm 7 rfl),(T.bi 56 rfl)⟩;have mx_Program:Maker1 P w K mg base "Program" 539 515 (dK K 515) ["self", "start", "send", "when", "renew"] 22 (Vc K a):=⟨U7 T,(T.gc 6 rfl),(T.mm 6 rfl),(T.bi 55 rfl)⟩;have m_Way:Maker P w K mg base "Way" 181 115 (dK K 115) ["self", "parents", "bridges"] 6 (zdL a):=⟨zeb T,(T.gc 0 rfl),(T.mm 0 rfl),(T.bi 39 rfl)⟩;have xi_NoText:XInit P w K mg base "NoText" 75 72 (dK K 72) ["self", "row"] 1 "row" := ⟨ZV T,(T.xn 0 rfl),(T.xf 0 rfl),(T.xk 0 rfl),(T.gg 20 rfl),(T.bi 61 rfl)⟩;refine(T.fn 29 rfl).ok1 (scp 29 rfl) (fun vs H Q E h=>?_) (fun cdv A outer s H vs Q E hr h=>?_)
 ·rcases h with⟨x,rows,rfl,_⟩ | ⟨v,t,rfl,_⟩<;>rfl
 ·have hu:=vY hr
  refine zR (zd (zv (zX (zH (zq zK (by rfl) (T.n 5 rfl) zu (zh (zj 0) (zh (yz (T.n 10 rfl) xL) zb)))))
    (ze (xC xi_NoText hr.hd hr.m (zy zg zb)))
    zo)
   (zd (zr (i:=1) (scp 29 rfl).nd rfl (Or.inl rfl) (WS cx_read_rows hr.m (yj (zY F.plainAttrs_str F.slot_str_split F.type_str_split xF (zj 0) (zy zi zb)) zb)))
   (zd (zr (i:=2) (scp 29 rfl).nd rfl (Or.inl rfl) (zw zC (yq hu (zj 1) zi (fun _ _=>rfl)) zg (fun _ _=>rfl)))
   (zd (zr (i:=3) (scp 29 rfl).nd rfl (Or.inl rfl) (WN mx_Web hr.m (zh (zj 2) (zn (yq hu (zj 1) zi (fun _ _=>rfl)) zb))))
   (zd (zr (i:=4) (scp 29 rfl).nd rfl (Or.inl rfl) (WN mx_Program hr.m (zn (zw zC (yq hu (zj 1) zi (fun _ _=>rfl)) zg (fun _ _=>rfl)) (zn (zw zC (yq hu (zj 1) zi (fun _ _=>rfl)) zg (fun _ _=>rfl)) (zn (zw zC (yq hu (zj 1) zi (fun _ _=>rfl)) zg (fun _ _=>rfl)) (zn (zw zC (yq hu (zj 1) zi (fun _ _=>rfl)) zg (fun _ _=>rfl)) zb))))))
   (zd (zr (i:=5) (scp 29 rfl).nd rfl (Or.inl rfl) (zF (wb rfl) (by rfl) (T.n 7 rfl) wX (zn (yF rfl (N':=["hand"]) (t:=1) (caps:=[]) ⟨rfl,rfl,rfl⟩ (yE (zj 2)) (fun _=>(zE (i:=0) (show(["hand"]:List Str).Nodup by decide +kernel) rfl (Or.inl rfl))) (fun _=>y8) (fun _=>(yC (zh (zj 0) (zy zJ zb))))) zb)))
   (zd (xa (WQ (zj 5) (zF (wb rfl) (by rfl) (T.n 7 rfl) wX (zn (yq hu (zj 1) zi (fun _ _=>rfl)) zb)) ⟨rfl,rfl,rfl,rfl⟩))
   (zd (zr (i:=6) (scp 29 rfl).nd rfl (Or.inl rfl) (ul m_Way hr.m (zh (zj 5) (zn (yq hu (zj 1) zi (fun _ _=>rfl)) zb))))
   (zd (xa (WS cx_refuse_unlet hr.m (zh (zj 3) (zh (zj 6) zb))))
   (ze (zm (yC (zh (zj 3) (zh (zj 6) (zh (zj 4) (zn (zw zC (yq hu (zj 1) zi (fun _ _=>rfl)) zg (fun _ _=>rfl)) zb)))))))))))))))) ?_
  rcases h with⟨x,rows,rfl,hs,hl,hrl,hfit,k1,k2⟩ | ⟨v,t,rfl,ht,hk,k⟩
  rotate_left
  ·refine⟨_,rfl,_,_,_,_,_,rfl,rfl,ht,hk,_,rfl,zZ rfl ?_⟩
   exact⟨_,rfl,fun d hd=>k d _ (sW hd) hd upd_same⟩
  have hpl:=xm x "\n";have e2':sizeLine=16777216:=rfl;refine⟨_,rfl,_,_,_,_,_,rfl,rfl,TyOf.str _,(T.k 33 rfl),_,rfl,iZ rfl ?_⟩;refine⟨_,rfl,rfl,_,_,rfl,rfl,(by decide +kernel),(by omega),(by rw[hs];omega),(by omega),fun p0 hp0=>?_⟩;rw[hs];generalize hE:L2.upd H p0 _=H0;obtain⟨g0,s0⟩:=al hE hp0;clear hE;refine⟨p0,rows,rfl,g0,hrl,hfit,fun i hi d H1 s1 hd gd=>k1 i hi d H1 (s0.trans s1) (s0.free hd) gd,fun acc hacc=>?_⟩;obtain⟨k3,k4⟩:=k2 acc hacc;refine⟨fun hk d H1 s1 hd gd=>k3 hk d H1 (s0.trans s1) (s0.free hd) gd,fun hk q ad H1 s1 F=>?_⟩;obtain⟨S,I,l1000,kw,kr⟩:=k4 hk;have s01:=s0.trans s1;obtain⟨vh,h1,q1,rfl,g1⟩:=F.one (k := "hands") (by decide +kernel) I.hd;obtain⟨vl,h2,g2⟩:=F.prs (k := "line") (by decide +kernel) I.ln;obtain⟨vp,h3,g3⟩:=F.prs (k := "parent") (by decide +kernel) I.pr;obtain⟨vb,h4,g4⟩:=F.prs (k := "bridge") (by decide +kernel) I.br;obtain⟨v1,h5,g5⟩:=F.one (k := "start") (by decide +kernel) I.e1;obtain⟨v2,h6,g6⟩:=F.one (k := "send") (by decide +kernel) I.e2;obtain⟨v3,h7,g7⟩:=F.one (k := "when") (by decide +kernel) I.e3;obtain⟨v4,h8,g8⟩:=F.one (k := "reckon") (by decide +kernel) I.e4;obtain⟨v5,h9,rfl⟩:=F.one (k := "rounds") (by decide +kernel) I.rd;refine fd0 rfl F (by decide +kernel) h1 ?_;refine⟨_,rfl,fdA rfl F (by decide +kernel) fun x1 dx1 nx1 ndx1 _=>?_⟩;have m1:Same H1 (upd (upd H1 dx1 (.own x1)) x1 (.ins 672 dx1 [])):=(sW ndx1).updF nx1;refine⟨x1,dx1,q1,ad "line",vl,S.ns,S.ls,rfl,upd_same,m1 _ _ g1,m1 _ _ h2,g2.prs.same m1,l1000,fun wh wl oh ol d ad' H2 _ _ _ _ ext W2=>⟨rfl,?_⟩,fun hn H2 s2=>kw hn H2 (s01.trans (m1.trans s2))⟩;have s2:Same H1 H2:=fun b o e=>ext b o (m1 b o e) (nZ e nx1);obtain⟨kp,kg⟩:=kr wh wl;have F2:=F.same s2;refine fd0 rfl F2 (by decide +kernel) (s2 _ _ h5) ?_;refine fd0 rfl F2 (by decide +kernel) (s2 _ _ h6) ?_;refine fd0 rfl F2 (by decide +kernel) (s2 _ _ h7) ?_;refine fd0 rfl F2 (by decide +kernel) (s2 _ _ h8) fun x2 dx2 nx2 ndx2 _=>?_;have m2:Same H2 (upd (upd H2 dx2 (.own x2)) x2 (.ins 539 dx2 [])):=(sW ndx2).updF nx2;have n2:=s2.trans m2;refine⟨x2,dx2,v1,v2,v3,v4,S.e1.gx,S.e2.gx,S.e3.gx,S.e4.gx,rfl,upd_same,⟨(Made.same n2 g5).gx T,(Made.same n2 g6).gx T,(Made.same n2 g7).gx T,(Made.same n2 g8).gx T⟩,fun hG H3 s3=>⟨rfl,?_⟩,fun hG H3 s3=>kp (fun z=>hG (good_gx.mpr z)) H3 (s01.trans (n2.trans s3))⟩;have hG:=good_gx.mp hG;obtain⟨⟨o1,o2,o3,o4⟩,kb,ke⟩:=kg hG;have s23:Same H2 (L2.upd H3 x2 (.ins 539 dx2 [("start",v1),("send",v2),("when",v3),("renew",v4)])):=(m2.trans s3).updF nx2;generalize hE:L2.upd H3 x2 _=H4 at s23;clear hE s3 H3 n2 m2;have s14:=s2.trans s23;have F4:=F2.same s23;have WP:WbP a H4 x1 S.ns S.ls:=⟨wh,wl,dx1,oh,ol,d,ad',W2.same s23⟩;have l12:=wh.l12;refine⟨_,rfl,q1,rfl,⟨_,sO (s14 _ _ g1)⟩,fun D hD _=>?_⟩;refine v6 (K:=K) (a:=q1) (xs:=S.ns.map V.int) (fun i zs τ H'=>∃ (o:Option V) (qs:List Addr),τ=[o]/\zs=qs.map V.ref/\qs.length=i/\i<=S.ns.length/\H' D=some (.lst zs)/\Same H4 H' /\
   ∀ (j:Nat) qq y,qs[j]?=some qq->S.ns[j]?=some y->H' qq=some (.tup [.int y,.non])) ?_ ?_ ?_ ?_
  ·exact⟨none,[],rfl,rfl,rfl,by omega,upd_same,sW hD,fun j q k h=>(by simp at h)⟩
  ·rintro i zs τ H' ⟨_,_,_,_,_,_,_,s',_⟩
   exact sO (s' _ _ (s14 _ _ g1))
  ·rintro i x zs τ H' hi ⟨o,qs,rfl,rfl,rfl,_,hD',sm,hq⟩
   rw[List.getElem?_map] at hi;obtain⟨y,hy,rfl⟩:=map_eq_some_iff.mp hi;have hql:qs.length<S.ns.length:=(List.getElem?_eq_some_iff.mp hy).1;refine YZ ?_;refine⟨_,rfl,(by show 2<=sizeLine;decide),fun t ht=>?_⟩;have nt:t≠D:=fun z=>by rw[z,hD'] at ht;cases ht
   have sH:=sW (o:=HO.tup [V.int y,.non]) ht;refine⟨sH _ _ hD',by rw[length_map];omega,_,qs++[t],rfl,by rw[map_append];rfl,by rw[length_append];rfl,hql,upd_same,(sm.trans sH).updF hD,fun j qq k hj hk=>?_⟩;by_cases hjl:j<qs.length
   ·rw[List.getElem?_append_left hjl] at hj
    have g:=hq j qq k hj hk;rw[upd_ne (Z5 g hD' (by intro z;cases z))];exact sH _ _ g
   ·rw[List.getElem?_append_right (by omega)] at hj
    have e0:j-qs.length=0:=by
     by_cases z:j-qs.length=0
     ·exact z
     ·rw[List.getElem?_eq_none (by simp;omega)] at hj;cases hj
    have ej:j=qs.length:=by omega
    rw[e0] at hj;cases hj;rw[ej,hy] at hk;cases hk;rw[upd_ne nt,upd_same]
  ·rintro zs τ H5 ⟨o,qs,rfl,rfl,hql,_,hD5,s45,hq⟩
   rw[length_map] at hql;refine⟨D,qs,tabV (fun _=>opV none) S.ns,rfl,hD5,by rw[hql,tabV_len],by rw[tabV_len];omega,fun i qq kv e1 e2=>?_,fun pf hpf=>?_⟩
   ·unfold tabV at e2
    rw[List.getElem?_map] at e2;obtain⟨k,hk,rfl⟩:=map_eq_some_iff.mp e2;exact hq i qq k e1 hk
   rw[vf (by rw[vt];exact V9 (uM wh.up))];generalize hE:L2.upd H5 pf _=H6;obtain⟨g6',s56⟩:=al hE hpf;clear hE;have s46:=s45.trans s56;have s16:=s14.trans s46;obtain⟨qs2,rfl,r1,r2⟩:=(g3.same s16).refs;refine⟨_,rfl,pf,rfl,.inl ⟨_,.inl g6'⟩,_,rfl,q,V.ref (ad "parent"),rfl,(F4.same s46).get (by decide +kernel),?_⟩;refine⟨ad "parent",qs2,kvP S.ps,rfl,s16 _ _ h3,r1,by unfold kvP;rw[length_map];omega,r2,fun pg hpg=>?_⟩;rw[vf (by rw[zaq];exact V9 o1)];generalize hE:L2.upd H6 pg _=H7;obtain⟨g7',s67⟩:=al hE hpg;clear hE;have n7:pf≠pg:=fun z=>by rw[<- z,g6'] at hpg;cases hpg
   refine⟨pg,_,_,rfl,n7,s67 _ _ g6',g7',by rw[tabV_len];unfold kvP;rw[length_map];omega,?_⟩;rw[uA];have s58:Same H5 (upd H7 pf (.dK (tabV (fun z=>opV (mfK (fun _=>none) S.ps z)) (muK S.ns S.ps)))):=(s56.trans s67).updF hpf;generalize hE:L2.upd H7 pf _=H8 at s58;have g8':H8 pf=some (.dK (tabV (fun z=>opV (mfK (fun _=>none) S.ps z)) (muK S.ns S.ps))):=by rw[<- hE];exact upd_same
   clear hE;have s48:=s45.trans s58;have s18:=s14.trans s48;refine⟨_,rfl,fdA rfl (F4.same s48) (by decide +kernel) fun x3 dx3 nx3 ndx3 _=>?_⟩;have m3:Same H8 (upd (upd H8 dx3 (.own x3)) x3 (.ins 181 dx3 [])):=(sW ndx3).updF nx3;refine⟨x3,dx3,pf,ad "bridge",S.pf,S.us,vb,S.bs,rfl,upd_same,m3 _ _ g8',zbl (uM wh.up),o3,m3 _ _ (s18 _ _ h4),g4.prs.same (s18.trans m3),o4,fun dp ob H9 _ _ ext9 W9=>⟨rfl,?_⟩⟩;have s89:Same H8 H9:=fun b o e=>ext9 b o (m3 b o e) (nZ e nx3);have s49:=s48.trans s89;have s09:=s01.trans (s14.trans s49);refine⟨_,rfl,_,rfl,x1,x3,dx3,dp,ob,S.ns,S.us,S.ls,S.bs,S.pf,rfl,WP.same s49,W9,fun hg H10 s10=>?_,fun hg H10 s10=>kb hg H10 (s09.trans s10)⟩;refine⟨_,rfl,_,rfl,_,rfl,_,rfl,q,V.ref (ad "rounds"),rfl,(F4.same (s49.trans s10)).get (by decide +kernel),_,_,0,_,rfl,rfl,sO (s14.trans (s49.trans s10) _ _ h9),zN (j:=0) rfl,(by show 4<=sizeLine;decide),fun t ht=>?_⟩;exact ke hg _ _ (s09.trans (s10.trans (sW ht)))
end
noncomputable def exB:Ex->Ex->Bool
 |.num i,.num j=>decide (i=j)
 |.name x,.name y=>decide (x=y)
 |.two w e f,.two w' e' f'=>decide (w=w')&&(exB e e'&&exB f f')
 |.mod e n,.mod e' n'=>exB e e'&&decide (n=n')
 |.less e f g h,.less e' f' g' h'=>exB e e'&&(exB f f'&&(exB g g'&&exB h h'))
 |_,_=>false
theorem zbv{a:Ex}:∀ {b:Ex},exB a b=true↔a=b:=by
 induction a with
 |num i=>intro b;cases b<;>simp[exB]
 |name x=>intro b;cases b<;>simp[exB]
 |two w e f he hf=>intro b;cases b<;>simp[exB,he,hf]
 |mod e n he=>intro b;cases b<;>simp[exB,he]
 |less e f g h he hf hg hh=>intro b;cases b<;>simp[exB,he,hf,hg,hh]
instance:DecidableEq Ex:=fun a b=>decidable_of_iff (exB a b=true) zbv
def vlB:Vl->Vl->Bool
 |.hs ns,.hs ms=>decide (ns=ms)
 |.pr x y,.pr x' y'=>decide (x=x')&&decide (y=y')
 |.ex e,.ex f=>exB e f
 |.rd n,.rd m=>decide (n=m)
 |_,_=>false
theorem zdp{a b:Vl}:vlB a b=true↔a=b:=by
 cases a<;>cases b<;>simp[vlB,zbv]
instance:DecidableEq Vl:=fun a b=>decidable_of_iff (vlB a b=true) zdp
noncomputable def zc9(i:Int):Str:=toString i
def zbR(k:Str)(p:Int×Int):Str:=k++zc9 p.1 ++ " " ++ zc9 p.2
def zc4(n:Nat):List Str:=(List.range n).map fun(i:Nat)=>zbR "line " (i,i+1)
def ze1(m:Nat):Str:=Txt.join " " ((List.range m).map fun(i:Nat)=>zc9 i)
def u7(n:Nat)(c:Int):LP:=((List.range n).filter fun(i:Nat)=>decide (¬(i:Int)=c)).map fun(i:Nat)=>((i:Int)+1,(i:Int))
def Wj(m:Nat)(c:Int):List Str:=["hands " ++ ze1 m]++zc4 (m-1)++(u7 (m-1) c).map (zbR "parent ")++[zbR "bridge " (c,c+1), "start me", "send add worth to", "when 1"]++[("reckon sum" : Str)]
def rdT(r:Int):Str := "rounds " ++ zc9 r
def zV(m:Nat)(c r:Int):List Str:=Wj m c++[rdT r]
def rgI(m:Nat):LI:=(List.range m).map fun(i:Nat)=>(i:Int)
def lsB(m:Nat):LP:=(List.range (m-1)).map fun(i:Nat)=>((i:Int),(i:Int)+1)
def accB(m:Nat)(c:Int):List (Str×Vl):=(("hands" : Str),Vl.hs (rgI m))::((lsB m).map fun p=>(("line" : Str),Vl.pr p.1 p.2))++((u7 (m-1) c).map fun p=>(("parent" : Str),Vl.pr p.1 p.2)) ++
 [(("bridge" : Str),Vl.pr c (c+1)),("start",.ex (.name "me")),("send",.ex (.two "add" (.name "worth") (.name "to"))),("when",.ex (.num 1)),("reckon",.ex (.name "sum"))]
def yU(m:Nat)(c r:Int):List (Str×Vl):=accB m c++[(("rounds" : Str),Vl.rd r)]
noncomputable def mcs:List (Nat×Int):=[(3,0),(3,1),(4,0),(4,1),(4,2),(5,0),(5,1),(5,2),(5,3),(6,0),(6,1),(6,2),(6,3),(6,4),(7,0),(7,1),(7,2),(7,3),(7,4),(7,5)]
def Ul:List Str->List (Str×Vl)->Bool
 |[],[]=>true
 |r::rs,a::as=>decide (xu r=a.1)&&decide (wf (xu r) r=some a.2)&&Ul rs as
 |_,_=>false
theorem zeO:∀ p∈mcs,Ul (Wj p.1 p.2) (accB p.1 p.2)=true:=by decide +kernel
theorem zeN:∀ r:Nat,r<=40->Ul [rdT r] [(("rounds" : Str),Vl.rd r)]=true:=by decide +kernel
def fo(a b:Str×Vl):Bool:=mfS b.1 b.2 a.1 a.2
def pwB(A:List (Str×Vl)):Bool:=(List.range A.length).all fun i=>(List.range A.length).all fun j=>match A[i]?,A[j]? with
 |some a,some b=>fo a b == decide (i<j)
 |_,_=>false
theorem zg8:∀ p∈mcs,pwB (yU p.1 p.2 0)=true:=by decide +kernel
inductive Ech:List Str->List (Str×Vl)->Prop
 |nil:Ech [] []
 |cons {r:Str}{rs:List Str}{p:Str×Vl}{A:List (Str×Vl)}(h1:xu r=p.1) (h2:wf (xu r) r=some p.2) (t:Ech rs A):Ech (r::rs) (p::A)
theorem Y0:∀ {rs:List Str}{A:List (Str×Vl)},Ul rs A=true->Ech rs A
 |[],[],_=>.nil
 |r::rs,a::as,h=>by
  unfold Ul at h;rw[and_eq_true,and_eq_true,decide_eq_true_eq,decide_eq_true_eq] at h;exact .cons h.1.1 h.1.2 (Y0 h.2)
 |[],_::_,h=>by cases h
 |_::_,[],h=>by cases h
theorem Ech.app{rs rs':List Str}{A A':List (Str×Vl)}(h:Ech rs A)(h':Ech rs' A'):Ech (rs++rs') (A++A'):=by
 induction h with
 |nil=>exact h'
 |cons h1 h2 _ ih=>exact .cons h1 h2 ih
theorem Ech.len{rs:List Str}{A:List (Str×Vl)}(h:Ech rs A):rs.length=A.length:=by
 induction h with
 |nil=>rfl
 |cons h1 h2 _ ih=>rw[length_cons,length_cons,ih]
theorem Ech.take{rs:List Str}{A:List (Str×Vl)}(h:Ech rs A):∀ n,Ech (rs.take n) (A.take n):=by
 induction h with
 |nil=>intro n;rw[List.take_nil,List.take_nil];exact .nil
 |cons h1 h2 _ ih =>
  intro n;cases n with
  |zero=>exact .nil
  |succ n=>exact .cons h1 h2 (ih n)
theorem Ech.drop{rs:List Str}{A:List (Str×Vl)}(h:Ech rs A):∀ n,Ech (rs.drop n) (A.drop n):=by
 induction h with
 |nil=>intro n;rw[List.drop_nil,List.drop_nil];exact .nil
 |cons h1 h2 t ih =>
  intro n;cases n with
  |zero=>exact .cons h1 h2 t
  |succ n=>exact ih n
theorem Ech.one{rs:List Str}{A:List (Str×Vl)}(h:Ech rs A){i:Nat}{r:Str}{p:Str×Vl}(hr:rs[i]?=some r)(hp:A[i]?=some p):Ech [r] [p]:=by
 have h1:=(h.drop i).take 1;obtain⟨l1,e1⟩:=List.getElem?_eq_some_iff.mp hr;obtain⟨l2,e2⟩:=List.getElem?_eq_some_iff.mp hp;rw[List.drop_eq_getElem_cons l1,List.drop_eq_getElem_cons l2,e1,e2] at h1;exact h1
def Srt(A:List (Str×Vl)):Prop:=A.Pairwise fun a b=>fo a b=true
theorem zaF{r:Str}{p:Str×Vl}{acc:List (Str×Vl)}(h1:xu r=p.1)(h2:wf (xu r) r=some p.2)(h:∀ q∈acc,fo q p=true):stepRw acc r=some (acc++[p]):=by
 unfold stepRw;rw[h2];show(match acc.getLast? with | some k=>if mfS (xu r) p.2 k.1 k.2=true then some (acc++[(xu r,p.2)]) else none | none=>some (acc++[(xu r,p.2)]))=_;rw[h1];cases e:acc.getLast? with
 |none=>rfl
 |some k=>exact if_pos (h k (List.mem_of_getLast? e))
theorem Zq{more:List Str}{rs:List Str}{A:List (Str×Vl)}(h:Ech rs A):∀ {acc:List (Str×Vl)}{i:Nat},Srt (acc++A)->yW (rs++more) i acc=yW more (i+rs.length) (acc++A):=by
 induction h with
 |nil=>intro acc i _;rw[append_nil];rfl
 | @cons r rs p A h1 h2 t ih =>
  intro acc i hs;show(match stepRw acc r with | some acc'=>yW (rs++more) (i+1) acc' | none=>.inl i)=_;have hs':=hs;unfold Srt at hs';rw[pairwise_append] at hs';rw[zaF h1 h2 fun q hq=>hs'.2.2 q hq p mem_cons_self];show yW (rs++more) (i+1) (acc++[p])=_;have e:acc++p::A=(acc++[p])++A:=by simp
  rw[e] at hs ⊢;rw[ih hs,length_cons,Nat.add_assoc,Nat.add_comm 1]
theorem UX{rs more:List Str}{x:Str}{A:List (Str×Vl)}(h:Ech rs A)(hs:Srt A)(hx:wf (xu x) x=none):yW (rs++x::more) 0 []=.inl rs.length:=by
 rw[Zq h (acc:=[]) (by rw[nil_append];exact hs),Nat.zero_add];show(match stepRw ([]++A) x with | some acc'=>yW more (rs.length+1) acc' | none=>.inl rs.length)=_;unfold stepRw;rw[hx];rfl
theorem uW{rs more:List Str}{x:Str}{A:List (Str×Vl)}{p q:Str×Vl}(h:Ech rs A)(hs:Srt A)(hl:A.getLast?=some q)(hx:Ech [x] [p])(hn:fo q p=false):yW (rs++x::more) 0 []=.inl rs.length:=by
 rw[Zq h (acc:=[]) (by rw[nil_append];exact hs),Nat.zero_add];show(match stepRw ([]++A) x with | some acc'=>yW more (rs.length+1) acc' | none=>.inl rs.length)=_;cases hx with
 |cons h1 h2 _ =>
  unfold stepRw;rw[h2,nil_append,hl];show(match (if mfS (xu x) p.2 q.1 q.2=true then some (A++[(xu x,p.2)]) else none) with | some acc'=>yW more (rs.length+1) acc' | none=>.inl rs.length)=_;rw[h1,if_neg (by unfold fo at hn;rw[hn];exact Bool.false_ne_true)]
theorem Xw{rs:List Str}{A:List (Str×Vl)}(h:Ech rs A)(hs:Srt A):yW rs 0 []=.inr A:=by
 have:=Zq (more:=[]) h (acc:=[]) (i:=0) (by rw[nil_append];exact hs);rw[append_nil,nil_append] at this;exact this
theorem zel{k ka:Str}{l:Vl}{r:Int}:mfS k l ka (.rd r)=mfS k l ka (.rd 0):=by
 unfold mfS;cases l<;>rfl
theorem mfS_dr{k ka:Str}{l:Vl}{r:Int}:mfS k (.rd r) ka l=mfS k (.rd 0) ka l:=by
 unfold mfS;cases l<;>rfl
theorem zby{m:Nat}{c r:Int}{i:Nat}{p:Str×Vl}(h:(yU m c r)[i]?=some p):∃ p0,(yU m c 0)[i]?=some p0/\p0.1=p.1/\(∀ q,fo q p=fo q p0)/\∀ q,fo p q=fo p0 q:=by
 unfold yU at h ⊢;by_cases hi:i<(accB m c).length
 ·rw[List.getElem?_append_left hi] at h ⊢
  exact⟨p,h,rfl,fun _=>rfl,fun _=>rfl⟩
 ·rw[List.getElem?_append_right (by omega)] at h ⊢
  generalize i-(accB m c).length=j at *;cases j with
  |zero =>
   cases h;exact⟨_,rfl,rfl,fun q=>mfS_dr,fun q=>zel⟩
  |succ j=>cases h
theorem fo_at{p:Nat×Int}{r:Int}(hp:p∈mcs){i j:Nat}{x y:Str×Vl}(hx:(yU p.1 p.2 r)[i]?=some x)(hy:(yU p.1 p.2 r)[j]?=some y):fo x y=decide (i<j):=by
 obtain⟨x0,hx0,_,_,fx⟩:=zby hx;obtain⟨y0,hy0,_,fy,_⟩:=zby hy;have h:=zg8 p hp;unfold pwB at h;rw[all_eq_true] at h;have h1:=h i (mem_range.mpr (List.getElem?_eq_some_iff.mp hx0).1);rw[all_eq_true] at h1;have h2:=h1 j (mem_range.mpr (List.getElem?_eq_some_iff.mp hy0).1);rw[hx0,hy0] at h2;have h2:(fo x0 y0 == decide (i<j))=true:=h2;rw[fx,fy];exact eq_of_beq h2
theorem wR{p:Nat×Int}{r:Int}(hp:p∈mcs):Srt (yU p.1 p.2 r):=by
 unfold Srt;rw[List.pairwise_iff_getElem];intro i j hi hj hij;rw[fo_at hp (List.getElem?_eq_getElem hi) (List.getElem?_eq_getElem hj)];exact decide_eq_true hij
theorem xI{p:Nat×Int}{r:Nat}(hp:p∈mcs)(hr:r<=40):Ech (zV p.1 p.2 r) (yU p.1 p.2 r):=(Y0 (zeO p hp)).app (Y0 (zeN r hr))
end K04
namespace K04
open PySem L2 PySem.NumText PySem.W.KIN
theorem XY{c:Nat}:∀ {us vs:List (List Nat)},us≠[]->vs≠[]->wZ c (us++vs)=wZ c us++c::wZ c vs
 |[u],v::vs,_,_=>rfl
 |u::u'::us,v::vs,_,h=>by
  show u++c::wZ c (u'::us++v::vs)=(u++c::wZ c (u'::us))++c::wZ c (v::vs);rw[XY (us:=u'::us) (by simp) h];simp
def Wd(w:Str):Prop:=(∀ c∈w.cps.toList,33<=c/\c<127)/\w.length<=70
def wdB(w:Str):Bool:=w.cps.toList.all (fun c=>decide (33<=c/\c<127))&&decide (w.length<=70)
theorem zbz{w:Str}(h:wdB w=true):Wd w:=by
 unfold wdB at h;rw[and_eq_true,all_eq_true] at h;exact⟨fun c hc=>of_decide_eq_true (h.1 c hc),of_decide_eq_true h.2⟩
theorem zaQ{ws:List Str}(h:ws.all wdB=true):∀ w∈ws,Wd w:=fun w hw=>zbz (all_eq_true.mp h w hw)
theorem zek:Wd "" := zbz (by decide +kernel)
end K04
namespace L2
open PySem
theorem zaK{x:Str}{g:TG}{tc:TT}{te:TE}{Q:VK}{D:Addr}{τ0:St}{H0:Hp}(Pv:Nat->List V->St->Hp->Prop)(h0:Pv 0 [] τ0 H0)
  (hs:∀ i c zs τ H,x.cps.toList[i]?=some c->Pv i zs τ H->g (.str ⟨#[c]⟩) τ H fun τ2 H4=>tc τ2 H4 fun b H5 =>
   if b=true then te τ2 H5 fun y H6=>H6 D=some (.lst zs)/\zs.length<sizeLine/\Pv (i+1) (zs++[y]) τ2 (upd H6 D (.lst (zs++[y]))) else Pv (i+1) zs τ2 H5)
  (hd:∀ zs τ H,Pv x.cps.toList.length zs τ H->Q (.ref D) H):Yr (Its x) g tc te Q D τ0 H0 :=
 v7 x.cps.toList.length Pv h0 (fun zs τ H p=>⟨by rw[length_toList];exact Nat.le_refl _,hd zs τ H p⟩) fun i zs τ H hi p=>⟨by rw[length_toList] at hi;exact hi,fun v H3 ⟨e,c,hc,ev⟩=>by
  subst e ev;exact hs i c zs τ _ (by rw[<- hc,Array.getElem?_toList]) p⟩
end L2
namespace K04
open PySem L2 PySem.NumText PySem.W.KIN
theorem US(x:Str)(k:Nat):(Txt.slice x none (some (k:Int))).cps.toList=x.cps.toList.take k:=by
 by_cases h:k<=x.length
 ·have e:=eq_of_beq (PyProof.Rows.slice_closes_toL (x:=x) (j:=(k:Int)) (by omega) (by omega))
  rw[e];show((x.cps.toList.drop 0).take _)=_;rw[drop_zero]
  congr 1
 ·rw[PyProof.Rows.slice_to_beyond (by omega)]
  have e:=eq_of_beq (PyProof.Rows.slice_closes_toL (x:=x) (j:=(x.length:Int)) (by omega) (by omega));rw[e];show((x.cps.toList.drop 0).take _)=_;rw[drop_zero,take_of_length_le (by rw[v8];omega),take_of_length_le (by rw[v8];omega)]
theorem UT(x:Str)(k:Nat):(Txt.slice x (some (k:Int)) none).cps.toList=x.cps.toList.drop k:=by
 by_cases h:k<=x.length
 ·have e:=eq_of_beq (PyProof.Rows.slice_closes_fromL (x:=x) (i:=(k:Int)) (b:=x.length) (by omega) (by omega) rfl)
  rw[e];show((x.cps.toList.drop _).take _)=_;rw[show((k:Int)).toNat=k by omega];exact take_of_length_le (by rw[length_drop,v8];omega)
 ·rw[PyProof.Rows.slice_from_beyond (by omega),List.drop_of_length_le (by rw[v8];omega)]
theorem Uj{c:Nat}{x:List Nat}{r:List (List Nat)}(h:r≠[]):wZ c (x::r)=x++c::wZ c r:=by
 cases r with
 |nil=>exact absurd rfl h
 |cons y r=>rfl
noncomputable def Zv:List Nat->List (List Nat)
 |[]=>[[]]
 |c::s=>if c=32 then[]::Zv s else match Zv s with
  |[]=>[[c]]
  |p::ps=>(c::p)::ps
theorem cutB_ne:∀ s,Zv s≠[]
 |[]=>by simp[Zv]
 |c::s=>by
  unfold Zv
  split
  ·simp
  ·split<;>simp
theorem wM:∀ s,wZ 32 (Zv s)=s
 |[]=>rfl
 |c::s=>by
  unfold Zv
  split
  ·rename_i h
   rw[Uj (cutB_ne s),wM s,h];rfl
  ·have ih:=wM s
   split
   ·rename_i e
    exact absurd e (cutB_ne s)
   ·rename_i p ps e
    rw[e] at ih;cases ps with
    |nil=>rw[<- ih];rfl
    |cons y r=>rw[<- ih];rfl
theorem Zr:∀ s,∀ p∈Zv s,32∉p
 |[],p,hp=>by rw[mem_singleton.mp hp];simp
 |c::s,p,hp=>by
  unfold Zv at hp
  split at hp
  ·rcases mem_cons.mp hp with rfl | hp
   ·simp
   ·exact Zr s p hp
  ·rename_i hc
   split at hp
   ·rename_i e
    exact absurd e (cutB_ne s)
   ·rename_i q ps e
    have ih:=Zr s;rw[e] at ih;rcases mem_cons.mp hp with rfl | hp
    ·intro z
     rcases mem_cons.mp z with z | z
     ·exact hc z.symm
     ·exact ih q (by simp) z
    ·exact ih p (by simp[hp])
theorem X2:∀ s,(Zv s).length=s.count 32+1
 |[]=>rfl
 |c::s=>by
  unfold Zv;have ih:=X2 s
  split
  ·rename_i h
   rw[length_cons,ih,h,List.count_cons_self]
  ·rename_i h
   rw[List.count_cons_of_ne (by omega)]
   split
   ·rename_i e
    exact absurd e (cutB_ne s)
   ·rename_i q ps e
    rw[e] at ih;simp at ih ⊢;exact ih
theorem Ub{w:List Nat}:∀ {ws:List (List Nat)},w∈ws->w <:+: wZ 32 ws
 |[x],h=>by rw[mem_singleton.mp h];exact List.infix_rfl
 |x::y::r,h=>by
  rcases mem_cons.mp h with rfl | h
  ·exact⟨[],32::wZ 32 (y::r),rfl⟩
  ·have:=Ub h
   exact this.trans ⟨x++[32],[],by simp[wZ]⟩
def ofL(s:List Nat):Str:=⟨s.toArray⟩
theorem vz(x:Str):Txt.split x " " = (Zv x.cps.toList).map ofL:=by
 have e:x=Txt.join " " ((Zv x.cps.toList).map ofL):=by
  apply wP;rw[zcY,map_map];have:(fun(w:Str)=>w.cps.toList)∘ofL=id:=by funext s;simp[ofL]
  rw[this,List.map_id,wM]
 conv=>lhs;rw[e]
 rw[yT];refine wS ?_ fun w hw=>?_
 ·intro z
  exact cutB_ne _ (List.map_eq_nil_iff.mp z)
 ·obtain⟨s,hs,rfl⟩:=mem_map.mp hw
  simpa[ofL] using Zr _ s hs
theorem ZF{x w:Str}(h:w∈Txt.split x " "):w.cps.toList <:+: x.cps.toList/\32∉w.cps.toList:=by
 rw[vz] at h;obtain⟨s,hs,rfl⟩:=mem_map.mp h;have h1:=Ub hs;rw[wM] at h1;exact⟨by simpa[ofL] using h1,by simpa[ofL] using Zr _ s hs⟩
end K04
namespace K04
open PySem L2
structure Row (row:Str):Prop where
 fit:Fit row
 nf:10∉row.cps.toList
 len:row.length<=10000
theorem zeX{w:Str}(h:Wd w):Asc w:=⟨Xb fun c hc=>by have:=h.1 c hc;omega,le_trans h.2 (by decide)⟩
theorem vx{ws:List Str}(ne:ws≠[])(h:∀ w∈ws,Wd w):Txt.split (Txt.join " " ws) " " = ws:=by
 rw[yT];exact wS ne fun w hw z=>by have:=(h w hw).1 _ z;omega
theorem vG{ws:List Str}(ne:ws≠[])(h:∀ w∈ws,Wd w)(hn:ws.length<=100):Row (Txt.join " " ws):=by
 have hs:=vx ne h;have hl:(Txt.join " " ws).length<=10000:=by
  rw[yT];have:=Zj (c:=32) (B:=70) (fun w hw=>(h w hw).2);omega
 refine⟨⟨by omega,fun w hw=>?_,?_⟩,?_,hl⟩
 ·rw[hs] at hw
  exact zeX (h w hw)
 ·rw[hs]
  omega
 ·rw[yT]
  intro z;rcases mem_join z with z | ⟨w,hw,z⟩
  ·cases z
  ·have:=(h w hw).1 _ z
   omega
structure TextOk (x:Str) (rows:List Str):Prop where
 sp:Txt.split x "\n" = rows
 len:x.length<=400000
 cnt:rows.length<=1000
 fit:∀ r∈rows,Fit r
theorem YA{rows:List Str}(h:∀ r∈rows,Row r)(hn:rows.length<=30):JoinOk "\n" rows=true:=by
 rw[vj];unfold JoinOk;rw[StrLaws.joinTotal,not_eq_true'];have h2:=Xn (B:=10000) fun w hw=>(h w hw).len;have e:(⟨#[10]⟩:Str).length=1:=rfl;rw[e];unfold Builtin.Str.tooLong;have e2:sizeLine=16777216:=rfl;rw[decide_eq_false_iff_not,e2,Nat.mul_one];omega
theorem vq{rows:List Str}(ne:rows≠[])(h:∀ r∈rows,Row r)(hn:rows.length<=30):TextOk (Txt.join "\n" rows) rows:=by
 refine⟨?_,?_,by omega,fun r hr=>(h r hr).fit⟩
 ·rw[vj]
  exact wS ne fun w hw=>(h w hw).nf
 ·rw[vj]
  have:=Zj (c:=10) (B:=10000) (fun w hw=>(h w hw).len);omega
def VY(ws:List Str):Option Vl:=match ws with
 |[]=>none
 |k::us =>
  if inV (.str k) (kindsL.map V.str)=true then
   if k = "hands" then match numsS us with | some (n::ns)=>some (.hs (n::ns)) | _=>none
   else if inV (.str k) (pairsL.map V.str)=true then match numsS us with | some [x,y]=>some (.pr x y) | _=>none
   else if k = "rounds" then match numsS us with | some [n]=>if n<=40 then some (.rd n) else none | _=>none
   else(uY us).map .ex
  else none
theorem XN{x k:Str}{us:List Str}(h:Txt.split x " " = k::us):xu x=k/\wf (xu x) x=VY (k::us):=by
 have e:xu x=k:=by unfold xu;rw[h];rfl
 refine⟨e,?_⟩;rw[e];have e2:zbQ k x=uY us:=by unfold zbQ;rw[h];exact if_pos rfl
 unfold wf VY;rw[h,e2];rfl
def Y9(ws:List Str):Bool:=decide (VY ws=none)&&ws.all wdB&&decide (ws≠[])&&decide (ws.length<=100)
structure BadR (y:Str):Prop where
 row:Row y
 no:wf (xu y) y=none
theorem zaO{ws:List Str}(h:Y9 ws=true):BadR (Txt.join " " ws)/\JoinOk " " ws=true:=by
 unfold Y9 at h;rw[and_eq_true,and_eq_true,and_eq_true,decide_eq_true_eq,decide_eq_true_eq,decide_eq_true_eq] at h;obtain⟨⟨⟨h1,h2⟩,h3⟩,h4⟩:=h;have hw:=zaQ h2;have hs:=vx h3 hw;refine⟨⟨vG h3 hw h4,?_⟩,?_⟩
 ·cases ws with
  |nil=>exact absurd rfl h3
  |cons k us =>
   rw[(XN hs).2];exact h1
 ·rw[yT]
  exact zcz (B:=70) (fun w hm=>(hw w hm).2) (by omega)
noncomputable def odd93:List Str:=["05", "-1",Txt.mul "1" 21, "1.0", "x", "", "+1", "1_0", "Me", "0x1"]
noncomputable abbrev progWs:List Str:=["start", "send", "when", "reckon"]
def vL(f o:Str):Str:=if inV (.str f) (progWs.map V.str)=true/\inV (.str o) ((["-1",Txt.mul "1" 21]:List Str).map V.str)=true then "-01" else o
def vA(f:Str)(us:List Str):List (List Str):=[("lines" : Str)::us,us,Txt.upper f::us, "" :: f::us,f::us++[("" : Str)],[f],[""], "mend" :: us] ++
 (if inV (.str f) (pairsL.map V.str)=true then[f::us++[("1" : Str)],(f::us).take 2] else[])++(if inV (.str f) (progWs.map V.str)=true then[f::us++[("1" : Str)],f :: "add" :: us] else[]) ++
 (if f = "rounds" then([["rounds", "41"],["rounds", "1", "2"],["rounds", "100"]]:List (List Str)) else[])
noncomputable def vB(f:Str)(us:List Str)(j:Nat):List Str:=(f::us).take j++[("" : Str)]++(f::us).drop j
noncomputable def vC(f:Str)(us:List Str)(j:Nat)(o:Str):List Str:=(f::us).take j++[o]++(f::us).drop (j+1)
def zbN(f:Str)(us:List Str):Bool:=(vA f us).all Y9&&(List.range (us.length+1)).all fun j=>j == 0||(Y9 (vB f us j)&&odd93.all fun o=>Y9 (vC f us j (vL f o)))
def rdW(r:Str):Bool:=match Txt.split r " " with
 |f::us=>decide (us≠[])&&(f::us).all wdB&&decide (us.length<=10)&&decide (Txt.join " " (f::us)=r)&&zbN f us&&wdB (Txt.upper f)
 |[]=>false
def rowsD:List Str:=((List.range 5).map fun i => "hands " ++ ze1 (i+3))++zc4 6++((List.range 6).map fun(i:Nat)=>zbR "parent " ((i:Int)+1,(i:Int)))++((List.range 6).map fun(i:Nat)=>zbR "bridge " ((i:Int),(i:Int)+1))++[("start me" : Str), "send add worth to", "when 1", "reckon sum"]
theorem zfk:∀ p∈mcs,(Wj p.1 p.2).all (fun r=>decide (r∈rowsD))=true:=by decide +kernel
theorem zgT:rowsD.all rdW=true:=by decide +kernel
theorem zgS:(List.range 41).all (fun(r:Nat)=>rdW (rdT r))=true:=by decide +kernel
theorem zdU{p:Nat×Int}{r:Nat}(hp:p∈mcs)(hr:r<=40){x:Str}(hx:x∈zV p.1 p.2 r):rdW x=true:=by
 unfold zV at hx;rcases mem_append.mp hx with hx | hx
 ·exact all_eq_true.mp zgT x (of_decide_eq_true (all_eq_true.mp (zfk p hp) x hx))
 ·rw[mem_singleton.mp hx]
  exact all_eq_true.mp zgS r (mem_range.mpr (by omega))
structure RdW (x f:Str) (us:List Str):Prop where
 sp:Txt.split x " " = f::us
 ne:us≠[]
 wd:∀ w∈f::us,Wd w
 len:us.length<=10
 jn:Txt.join " " (f::us)=x
 A:∀ ws∈vA f us,Y9 ws=true
 B:∀ j,1<=j->j<=us.length->Y9 (vB f us j)=true
 C:∀ j,1<=j->j<=us.length->∀ o∈odd93,Y9 (vC f us j (vL f o))=true
 up:Wd (Txt.upper f)
theorem Xx{x:Str}(h:rdW x=true):∃ f us,RdW x f us:=by
 unfold rdW at h;cases e:Txt.split x " " with
 |nil=>rw[e] at h;cases h
 |cons f us =>
  rw[e] at h;have h:(decide (us≠[])&&(f::us).all wdB&&decide (us.length<=10)&&decide (Txt.join " " (f::us)=x)&&zbN f us&&wdB (Txt.upper f))=true:=h;rw[and_eq_true,and_eq_true,and_eq_true,and_eq_true,and_eq_true,decide_eq_true_eq,decide_eq_true_eq,decide_eq_true_eq] at h;obtain⟨⟨⟨⟨⟨h1,h2⟩,h3⟩,h4⟩,h5⟩,h6⟩:=h;unfold zbN at h5;rw[and_eq_true,all_eq_true,all_eq_true] at h5;have key:∀ j,1<=j->j<=us.length->Y9 (vB f us j)=true/\∀ o∈odd93,Y9 (vC f us j (vL f o))=true:=fun j j1 j2=>by
   have:=h5.2 j (mem_range.mpr (by omega));rw[or_eq_true,and_eq_true,all_eq_true] at this;rcases this with z | z
   ·have:=eq_of_beq z;omega
   ·exact z
  exact⟨f,us,e,h1,zaQ h2,h3,h4,h5.1,fun j a b=>(key j a b).1,fun j a b=>(key j a b).2,zbz h6⟩
theorem RdW.row{x f:Str}{us:List Str}(h:RdW x f us):Row x:=by
 have:=vG (cons_ne_nil f us) h.wd (by rw[length_cons];have:=h.len;omega);rw[h.jn] at this;exact this
def NT(rows:List Str)(i:Nat):Prop:=yW rows 0 []=.inl i\/∃ acc,yW rows 0 []=.inr acc/\(∃ k∈neededL,ofK k acc=[])/\i=rows.length
section
variable {p:Nat×Int}{r:Nat}(hp:p∈mcs) (hr:r<=40)
include hp hr
theorem zbh{at_:Nat}{x:Str}{more:List Str}(h:at_<=(zV p.1 p.2 r).length)(hx:wf (xu x) x=none):NT ((zV p.1 p.2 r).take at_++x::more) at_:=by
 have E:=(xI hp hr).take at_;have:=UX (more:=more) E ((wR (r:=r) hp).sublist (take_sublist _ _)) hx;rw[length_take,min_eq_left h] at this;exact .inl this
theorem uF{i:Nat}{x:Str}(hx:(zV p.1 p.2 r)[i]?=some x):∃ q,(yU p.1 p.2 r)[i]?=some q/\Ech [x] [q]:=by
 have E:=xI hp hr;have hl:=(List.getElem?_eq_some_iff.mp hx).1;rw[E.len] at hl;exact⟨_,List.getElem?_eq_getElem hl,E.one hx (List.getElem?_eq_getElem hl)⟩
theorem VV{i:Nat}{q:Str×Vl}(h:(yU p.1 p.2 r)[i]?=some q):((yU p.1 p.2 r).take (i+1)).getLast?=some q:=by
 rw[take_add_one,h];exact List.getLast?_concat
theorem zhf{i:Nat}{x:Str}{more:List Str}(hx:(zV p.1 p.2 r)[i]?=some x):NT ((zV p.1 p.2 r).take (i+1)++x::more) (i+1):=by
 obtain⟨q,hq,e⟩:=uF hp hr hx;have:=uW (more:=more) ((xI hp hr).take (i+1)) ((wR (r:=r) hp).sublist (take_sublist _ _)) (VV hp hr hq) e (by rw[fo_at hp hq hq];exact decide_eq_false (by omega));rw[length_take,min_eq_left (List.getElem?_eq_some_iff.mp hx).1] at this;exact .inl this
theorem zhe{i:Nat}{x:Str}(hx:(zV p.1 p.2 r)[i]?=some x):NT (zV p.1 p.2 r++[x]) (zV p.1 p.2 r).length:=by
 obtain⟨q,hq,e⟩:=uF hp hr hx;have hl:(yU p.1 p.2 r)[(accB p.1 p.2).length]?=some (("rounds" : Str),Vl.rd r):=by
  unfold yU;rw[List.getElem?_append_right (Nat.le_refl _),sub_self];rfl
 have hi:=(List.getElem?_eq_some_iff.mp hq).1;have:i<=(accB p.1 p.2).length:=by
  unfold yU at hi;rw[length_append] at hi;exact Nat.le_of_lt_succ hi
 exact .inl (uW (more:=[]) (xI hp hr) (wR hp) (by unfold yU;exact List.getLast?_concat) e (by rw[fo_at hp hl hq];exact decide_eq_false (by omega)))
theorem zhc{i:Nat}{x y:Str}{more:List Str}(hx:(zV p.1 p.2 r)[i]?=some x)(hy:(zV p.1 p.2 r)[i+1]?=some y):NT ((zV p.1 p.2 r).take i++y::x::more) (i+1):=by
 obtain⟨q,hq,e⟩:=uF hp hr hx;obtain⟨q',hq',e'⟩:=uF hp hr hy;have E:=((xI hp hr).take i).app e';have S:Srt ((yU p.1 p.2 r).take i++[q']):=by
  unfold Srt;rw[pairwise_append];refine⟨(wR (r:=r) hp).sublist (take_sublist _ _),List.pairwise_singleton _ _,fun u hu v hv=>?_⟩;rw[mem_singleton.mp hv];obtain⟨j,hj,ej⟩:=getElem_of_mem hu;rw[length_take] at hj;have hu':(yU p.1 p.2 r)[j]?=some u:=by
   rw[<- ej,List.getElem_take];exact List.getElem?_eq_getElem _
  rw[fo_at hp hu' hq'];exact decide_eq_true (by omega)
 have:=uW (more:=more) E S List.getLast?_concat e (by rw[fo_at hp hq' hq];exact decide_eq_false (by omega));rw[length_append,length_take,min_eq_left (le_of_lt (List.getElem?_eq_some_iff.mp hx).1)] at this;refine .inl ?_;rw[append_assoc] at this;exact this
end
def ww(m:Nat)(c:Int):List Str:=(yU m c 0).map (·.1)
theorem Zh{m:Nat}{c r:Int}:(yU m c r).map (·.1)=ww m c:=by
 unfold ww yU;rw[map_append,map_append];rfl
theorem zav:∀ p∈mcs,(List.range (ww p.1 p.2).length).all (fun i=>match (ww p.1 p.2)[i]? with
  |some k=>inV (.str k) (pairsL.map V.str)||(decide (k∈neededL)&&decide (k∉(ww p.1 p.2).take i++(ww p.1 p.2).drop (i+1)))
  |none=>false)=true:=by decide +kernel
theorem zci{k:Str}{A:List (Str×Vl)}(h:k∉A.map (·.1)):ofK k A=[]:=by
 unfold ofK;rw[List.filter_eq_nil_iff.mpr fun q hq z=>h (by rw[<- of_decide_eq_true z];exact List.mem_map_of_mem hq)];rfl
theorem zhd{p:Nat×Int}{r:Nat}(hp:p∈mcs)(hr:r<=40){i:Nat}{x:Str}(hx:(zV p.1 p.2 r)[i]?=some x)(hn:inV (.str (xu x)) (pairsL.map V.str)=false):NT ((zV p.1 p.2 r).take i++(zV p.1 p.2 r).drop (i+1)) ((zV p.1 p.2 r).length-1):=by
 obtain⟨q,hq,e⟩:=uF hp hr hx;have E:=((xI hp hr).take i).app ((xI hp hr).drop (i+1));have hi:=(List.getElem?_eq_some_iff.mp hx).1;have S:Srt ((yU p.1 p.2 r).take i++(yU p.1 p.2 r).drop (i+1)):=by
  refine(wR (r:=r) hp).sublist ?_;have:=List.Sublist.append (List.Sublist.refl ((yU p.1 p.2 r).take i)) (List.drop_sublist 1 ((yU p.1 p.2 r).drop i));rw[List.take_append_drop,List.drop_drop] at this;exact this
 refine .inr ⟨_,Xw E S,?_,?_⟩
 ·have kq:(ww p.1 p.2)[i]?=some q.1:=by rw[<- Zh (r:=(r:Int)),List.getElem?_map,hq];rfl
  have:=all_eq_true.mp (zav p hp) i (mem_range.mpr (List.getElem?_eq_some_iff.mp kq).1);rw[kq] at this;have this:(inV (.str q.1) (pairsL.map V.str)||(decide (q.1∈neededL)&&decide (q.1∉(ww p.1 p.2).take i++(ww p.1 p.2).drop (i+1))))=true:=this;have hk:xu x=q.1:=by cases e with | cons h1 h2 _=>exact h1
  rw[<- hk,hn,Bool.false_or,and_eq_true,decide_eq_true_eq,decide_eq_true_eq] at this;refine⟨xu x,this.1,zci ?_⟩;rw[map_append,map_take,map_drop,Zh];exact this.2
 ·rw[length_append,length_take,length_drop]
  omega
theorem zck{k:Str}{A B:List (Str×Vl)}:ofK k (A++B)=ofK k A++ofK k B:=by
 unfold ofK;rw[filter_append,map_append]
instance (hs:LI):Decidable (Hs hs):=decidable_of_iff (1<=hs.length/\hs.length<=12/\hs.Pairwise (· < ·)/\(∀ h∈hs,0<=h)/\∀ h∈hs,h<=99) ⟨fun⟨a,b,c,d,e⟩=>⟨a,b,c,d,e⟩,fun h=>⟨h.l1,h.l12,h.up,h.lo,h.hi⟩⟩
instance (hs:LI) (ls:LP):Decidable (Ls hs ls):=decidable_of_iff (ls.Nodup/\(∀ p∈ls,p.1∈hs/\p.2∈hs/\p.1<p.2)/\ls.length<=66) ⟨fun⟨a,b,c⟩=>⟨a,b,c⟩,fun h=>⟨h.nd,h.ok,h.le⟩⟩
noncomputable def okD(ns:List Str):(e:Ex)->Decidable (e.ok ns)
 |.num i=>inferInstanceAs (Decidable (_/\_))
 |.name x=>inferInstanceAs (Decidable (x∈ns))
 |.two w e f=>by
  have:=okD ns e;have:=okD ns f;exact inferInstanceAs (Decidable (zdc w/\e.ok ns/\f.ok ns))
 |.mod e n=>by
  have:=okD ns e;exact inferInstanceAs (Decidable ((1<=n/\n<=1000000000)/\e.ok ns))
 |.less e f g h=>by
  have:=okD ns e;have:=okD ns f;have:=okD ns g;have:=okD ns h;exact inferInstanceAs (Decidable (e.ok ns/\f.ok ns/\g.ok ns/\h.ok ns))
instance (ns:List Str) (e:Ex):Decidable (e.ok ns):=okD ns e
instance (e1 e2 e3 e4:Ex):Decidable (GoodE e1 e2 e3 e4):=inferInstanceAs (Decidable (_/\_))
noncomputable def wkP(pf:Int->Option Int):Nat->Int->Option (LI)
 |0,_=>none
 |n+1,x=>match pf x with
  |none=>some [x]
  |some y=>(wkP pf n y).map (x :: ·)
theorem WE{pf:Int->Option Int}:∀ {n:Nat}{x:Int}{l:LI},wkP pf n x=some l->En pf x l
 |n+1,x,l,h=>by
  unfold wkP at h;cases e:pf x with
  |none=>rw[e] at h;cases h;exact .z e
  |some y =>
   rw[e] at h;obtain⟨l',h',rfl⟩:=map_eq_some_iff.mp h;exact .s e (WE h')
def lfB(pf:Int->Option Int)(x:Int):Int:=match wkP pf 12 x with
 |some l=>l.getLastD x
 |none=>x
theorem XG:∀ {ps:LP}{f:Int->Option Int}{x:Int},x∉ps.map (·.1)->mfK f ps x=f x
 |[],_,_,_=>rfl
 |p::ps,f,x,h=>by
  rw[map_cons,mem_cons,not_or] at h;show mfK (fun y=>if y=p.1 then some p.2 else f y) ps x=_;rw[XG h.2,if_neg h.1]
theorem zdh{ps:LP}(h:∀ x∈ps.map (·.1),(wkP (mfK (fun _=>none) ps) 12 x).isSome=true)(x:Int):∃ l,wkP (mfK (fun _=>none) ps) 12 x=some l:=by
 by_cases c:x∈ps.map (·.1)
 ·exact isSome_iff_exists.mp (h x c)
 ·refine⟨[x],?_⟩
  unfold wkP;rw[XG c]
theorem zct{pf:Int->Option Int}(h:∀ x,∃ l,wkP pf 12 x=some l):ldr (paO pf)=lfB pf:=by
 funext x
 obtain⟨l,hl⟩:=h x;unfold ldr lfB;rw[uw (WE hl),hl]
def prD(hs us:LI)(ls:LP)(pf:Int->Option Int):Bool:=decide (us.length=hs.length)&&decide (∀ x∈us,x∈hs)&&us.all fun x=>match pf x with
 |some y=>adB ls x y
 |none=>true
theorem zb1{hs us:LI}{ls:LP}{pf:Int->Option Int}:PrO hs us ls pf↔prD hs us ls pf=true:=by
 unfold prD;rw[and_eq_true,and_eq_true,decide_eq_true_eq,decide_eq_true_eq,all_eq_true]
 constructor
 ·rintro⟨h1,h2,h3⟩
  refine⟨⟨h1,h2⟩,fun x hx=>?_⟩;cases e:pf x with
  |none=>rfl
  |some y=>exact h3 x hx y e
 ·rintro⟨⟨h1,h2⟩,h3⟩
  refine⟨h1,h2,fun x hx y e=>?_⟩;have:=h3 x hx;rw[e] at this;exact this
def ggD(hs us:LI)(ls:LP)(pf:Int->Option Int)(bs:LP):Bool:=prD hs us ls pf&&decide ((∀ b∈bs,adB ls b.1 b.2=true/\b.1<=b.2/\lfB pf b.1≠lfB pf b.2)/\bs.Nodup)&&decide (∀ p∈ls,lfB pf p.1≠lfB pf p.2->∃ b∈bs,jk (lfB pf) b=jk (lfB pf) p)
theorem zcG{hs us:LI}{ls:LP}{pf:Int->Option Int}{bs:LP}(h:∀ x,∃ l,wkP pf 12 x=some l):GG hs us ls pf bs↔ggD hs us ls pf bs=true:=by
 unfold ggD;rw[and_eq_true,and_eq_true,decide_eq_true_eq,decide_eq_true_eq,<- zb1,<- zct h]
 constructor
 ·rintro⟨⟨g1,_,g3⟩,g4⟩
  exact⟨⟨g1,g3⟩,g4⟩
 ·rintro⟨⟨g1,g3⟩,g4⟩
  refine⟨⟨g1,fun x _=>?_,g3⟩,g4⟩;obtain⟨l,hl⟩:=h x;exact⟨l,WE hl⟩
def zgX(m:Nat)(c r:Int):Sg:=⟨rgI m,lsB m,u7 (m-1) c,[(c,c+1)],.name "me",.two "add" (.name "worth") (.name "to"),.num 1,.name "sum",r⟩
theorem zhb:∀ p∈mcs,ofK "hands" (accB p.1 p.2)=[.hs (rgI p.1)]/\ofK "line" (accB p.1 p.2)=prL (lsB p.1)/\ofK "parent" (accB p.1 p.2)=prL (u7 (p.1-1) p.2)/\ofK "bridge" (accB p.1 p.2)=prL [(p.2,p.2+1)] /\
 ofK "start" (accB p.1 p.2)=[.ex (.name "me")]/\ofK "send" (accB p.1 p.2)=[.ex (.two "add" (.name "worth") (.name "to"))]/\ofK "when" (accB p.1 p.2)=[.ex (.num 1)]/\ofK "reckon" (accB p.1 p.2)=[.ex (.name "sum")]/\ofK "rounds" (accB p.1 p.2)=[]:=by decide +kernel
theorem zch{k k':Str}{l:Vl}:ofK k [(k',l)]=if k'=k then[l] else[]:=by
 have:=Zd (k:=k) (k':=k') (l:=l) (acc:=[]);rw[nil_append] at this;rw[this];rfl
theorem zeY{p:Nat×Int}{r:Int}(hp:p∈mcs):AccIs (yU p.1 p.2 r) (zgX p.1 p.2 r):=by
 obtain⟨a1,a2,a3,a4,a5,a6,a7,a8,a9⟩:=zhb p hp
 constructor
 all_goals
  unfold yU;rw[zck,zch]
 ·rw[a1,if_neg (by decide +kernel)];rfl
 ·rw[a2,if_neg (by decide +kernel),append_nil];rfl
 ·rw[a3,if_neg (by decide +kernel),append_nil];rfl
 ·rw[a4,if_neg (by decide +kernel),append_nil];rfl
 ·rw[a5,if_neg (by decide +kernel)];rfl
 ·rw[a6,if_neg (by decide +kernel)];rfl
 ·rw[a7,if_neg (by decide +kernel)];rfl
 ·rw[a8,if_neg (by decide +kernel)];rfl
 ·rw[a9,if_pos rfl];rfl
theorem AccIs.need{acc:List (Str×Vl)}{S:Sg}(I:AccIs acc S):∀ k∈neededL,ofK k acc≠[]:=by
 intro k hk;unfold neededL at hk;simp only[mem_cons,not_mem_nil,or_false] at hk;rcases hk with rfl | rfl | rfl | rfl | rfl | rfl
 ·rw[I.hd];exact cons_ne_nil _ _
 ·rw[I.e1];exact cons_ne_nil _ _
 ·rw[I.e2];exact cons_ne_nil _ _
 ·rw[I.e3];exact cons_ne_nil _ _
 ·rw[I.e4];exact cons_ne_nil _ _
 ·rw[I.rd];exact cons_ne_nil _ _
theorem zdi:∀ p∈mcs,Hs (rgI p.1)/\Ls (rgI p.1) (lsB p.1)/\(lsB p.1).length<=63:=by decide +kernel
theorem zbY:GoodE (.name "me") (.two "add" (.name "worth") (.name "to")) (.num 1) (.name "sum"):=by decide +kernel
theorem zdj:∀ p∈mcs,∀ x∈(u7 (p.1-1) p.2).map (·.1),(wkP (mfK (fun _=>none) (u7 (p.1-1) p.2)) 12 x).isSome=true:=by decide +kernel
theorem zdm:∀ p∈mcs,ggD (rgI p.1) (muK (rgI p.1) (u7 (p.1-1) p.2)) (lsB p.1) (mfK (fun _=>none) (u7 (p.1-1) p.2)) [(p.2,p.2+1)]=true:=by decide +kernel
theorem zdk:∀ p∈mcs,((u7 (p.1-1) p.2).map (·.1)).Nodup/\(u7 (p.1-1) p.2).length<=500/\(muK (rgI p.1) (u7 (p.1-1) p.2)).length<=12/\[(p.2,p.2+1)].length<=200:=by decide +kernel
theorem zdl{p:Nat×Int}(hp:p∈mcs):GG (rgI p.1) (muK (rgI p.1) (u7 (p.1-1) p.2)) (lsB p.1) (mfK (fun _=>none) (u7 (p.1-1) p.2)) [(p.2,p.2+1)]:=(zcG (zdh (zdj p hp))).mpr (zdm p hp)
def ze9(rows:List Str):Prop:=∃ acc S,yW rows 0 []=.inr acc/\AccIs acc S/\S.ls.length<=63/\Hs S.ns/\Ls S.ns S.ls/\GoodE S.e1 S.e2 S.e3 S.e4/\zgG S/\GG S.ns S.us S.ls S.pf S.bs
theorem zcE{p:Nat×Int}{r:Nat}(hp:p∈mcs)(hr:r<=40):ze9 (zV p.1 p.2 r):=by
 obtain⟨h1,h2,h3⟩:=zdi p hp;exact⟨_,_,Xw (xI hp hr) (wR hp),zeY hp,h3,h1,h2,zbY,zdk p hp,zdl hp⟩
theorem zeo:∀ p∈mcs,9<=(Wj p.1 p.2).length/\(Wj p.1 p.2).length<=18:=by decide +kernel
theorem xv:∀ i:Nat,i<101->(zc9 i).length<=10/\((i:Int)).natAbs.log2<1920:=by decide +kernel
section
variable {P:Program}{w:World}{K:W.Frag}{mg:Str->Option Value}{base:Heap}{a:Ad}
def zbL(K:W.Frag):Sp:=fun vs H Q _=>(∃ x rows i,vs=[.str x]/\TextOk x rows/\NT rows i/\∀ H',Same H H'->Q (.int i) H')\/(∃ x rows,vs=[.str x]/\TextOk x rows/\ze9 rows/\∀ H',Same H H'->Q .non H') \/
 ∃ (v:V) (t:Value),vs=[v]/\TyOf K H v t/\PySem.W.kitOne K t (.type "str")=some false/\∀ H',Same H H'->Q (.int 0) H'
theorem zdR{vs:List V}{H:Hp}{Q Q2:VK}{E1 E:XK}(h:zbL K vs H Q E1)(hx:∀ (i:Nat) d H',Same H H'->H' d=some (.xd [("row",.int i)])->(∀ H'',Same H H''->Q (.int i) H'')->E (.ref 75) (some d) H')(hq:∀ v H',Same H H'->(∀ H'',Same H H''->Q .non H'')->Q2 v H'):Vb K a vs H Q2 E:=by
 rcases h with⟨x,rows,i,rfl,⟨t1,t2,t3,t4⟩,nt,k⟩ | ⟨x,rows,rfl,⟨t1,t2,t3,t4⟩,⟨acc0,S,hS,I,l63,wh,wl,hG,ok,gg⟩,k⟩ | ⟨v,t,rfl,ht,hk,k⟩
 ·refine .inl ⟨x,rows,rfl,t1,t2,t3,t4,fun j hj d H' sm _ hd=>?_,fun acc hacc=>⟨fun hk d H' sm _ hd=>?_,fun hk=>?_⟩⟩
  ·rcases nt with e | ⟨acc,e,_⟩
   ·rw[e] at hj
    cases hj;exact hx _ d H' sm hd k
   ·rw[e] at hj
    cases hj
  ·rcases nt with e | ⟨acc,e,_,e2⟩
   ·rw[e] at hacc
    cases hacc
   ·subst e2
    exact hx _ d H' sm hd k
  ·rcases nt with e | ⟨acc,e,⟨q,hq,hn⟩,_⟩
   ·rw[e] at hacc
    cases hacc
   ·rw[e] at hacc
    cases hacc;exact absurd hn (hk q hq)
 ·refine .inl ⟨x,rows,rfl,t1,t2,t3,t4,fun j hj=>?_,fun acc hacc=>?_⟩
  ·rw[hS] at hj
   cases hj
  ·rw[hS] at hacc
   cases hacc;refine⟨fun⟨q,hq,hn⟩=>absurd hn (I.need q hq),fun _=>⟨S,I,l63,fun hn=>absurd ⟨wh,wl⟩ hn,fun _ _=>⟨fun hn=>absurd hG hn,fun _=>⟨ok,fun hn=>absurd gg hn,fun _ v H' sm=>hq v H' sm k⟩⟩⟩⟩
 ·exact .inr ⟨v,t,rfl,ht,hk,fun d H' sm _ hd=>hx 0 d H' sm hd k⟩
theorem zhh(T:Txt w K mg a):PySem.W.kitAny K (.ref 75) [.ref 44,.ref 56,.ref 87]=some false:=by
 unfold PySem.W.kitAny;rw[(T.k 38 rfl)];show PySem.W.kitAny K (.ref 75) [.ref 56,.ref 87]=some false;unfold PySem.W.kitAny;rw[(T.k 39 rfl)];show PySem.W.kitAny K (.ref 75) [.ref 87]=some false;unfold PySem.W.kitAny;rw[(T.k 40 rfl)];rfl
theorem zfN(T:Txt w K mg a):FnOk P w K mg base CX0 25 755 (dK K 755) ["_law_text"] (zbL K):=by
 have cx_read_setting:Callee1 P w K mg base "read_setting" 710 (dK K 710) ["text"] 24 (Vb K a):=⟨zec T,(T.g 29 rfl),(T.fn 29 rfl).kp,(T.bi 29 rfl)⟩;refine(T.fn 36 rfl).ok (scp 36 rfl) (fun vs H Q E h=>?_) (fun cdv A outer s H vs Q E hr h=>?_)
 ·rcases h with⟨x,rows,i,rfl,_⟩ | ⟨x,rows,rfl,_⟩ | ⟨v,t,rfl,_⟩<;>rfl
 ·refine zR (zd (zr (i:=1) (scp 36 rfl).nd rfl (Or.inl rfl) zJ)
   (y9 (WG (i:=2) rfl rfl (scp 36 rfl).nd rfl rfl (Or.inr ⟨_,(T.xn 0 rfl)⟩) (T.gg 20 rfl) (WF (zdn cx_read_setting hr.m (zh (zj 0) zb))) (fun _=>(zd (zr (i:=1) (scp 36 rfl).nd rfl (Or.inl rfl) (WO (K:=K) rfl (zj 2) rfl))
    (ze (zv (uc (yP (zH (zq (UB (K:=K) rfl) (by rfl) (T.n 5 rfl) zu (zh (zj 2) (zaR (yC (zh (yG (T.gg 16 rfl)) (zh (yG (T.gg 17 rfl)) (zh (yG (T.gg 18 rfl)) zb)))) zb)))) (yP (zX (zH (zq (UD (K:=K) rfl) (by rfl) (T.n 5 rfl) zu (zh (zj 2) (zh (yG (T.gg 19 rfl)) zb))))) (yR (zH (zq (UC (K:=K) rfl) (by rfl) (T.n 5 rfl) zu (zh (zj 1) (zh (yz (T.n 12 rfl) Zu) zb))))))))
     (ze (zr (i:=1) (scp 36 rfl).nd rfl (Or.inl rfl) zi))
     zo)))))
   (ze (zm (zj 1))))) ?_
  obtain⟨v0,rfl⟩:∃ v0,vs=[v0]:=by
   rcases h with⟨x,rows,i,rfl,_⟩ | ⟨x,rows,rfl,_⟩ | ⟨v,t,rfl,_⟩
   ·exact⟨_,rfl⟩
   ·exact⟨_,rfl⟩
   ·exact⟨_,rfl⟩
  refine⟨fun σ' H'=>∃ v,σ'=[some v0,some v,none]/\Q v H',?_,?_⟩
  ·refine⟨_,rfl,ag0 (zdR h (fun i d H' sm hd k=>?_) (fun v H' sm k=>⟨_,rfl,k H' sm⟩))⟩
   refine⟨75,rfl,.inl ⟨rfl,fun ax hax=>?_⟩⟩;have nd:d≠ax:=nZ hd hax;have sx:=sW (o:=HO.ext (ObX ax 75 (some d))) hax;refine⟨_,rfl,ax,_,d,_,_,rfl,upd_same,(upd_ne nd).trans hd,(T.xg 0 rfl),rfl,?_⟩;refine⟨_,rfl,(by show 3<=sizeLine;decide),fun p hp=>?_⟩;have sp:=sW (o:=HO.tup [V.ref 44,V.ref 56,V.ref 87]) hp;refine⟨ax,_,p,_,_,[.ref 44,.ref 56,.ref 87],false,rfl,sp _ _ upd_same,upd_same,rfl,(T.xi 0 rfl),zhh T,_,rfl,iZ rfl ?_⟩;refine⟨_,rfl,ax,_,_,_,_,_,rfl,rfl,sp _ _ upd_same,(T.xi 0 rfl),(T.k 41 rfl),_,rfl,iZ rfl ?_⟩;refine⟨_,rfl,_,_,_,_,_,rfl,rfl,TyOf.int _,(T.k 1 rfl),_,rfl,iZ rfl ?_⟩;exact⟨_,rfl,k _ (sm.trans (sx.trans sp))⟩
  ·rintro σ' H' ⟨v,rfl,q⟩
   exact⟨_,rfl,q⟩
theorem cut_to{xs:List V}(k:Nat):uj xs none (some (k:Int))=xs.take k:=by
 have h1:HT.sIx xs.length xs.length (some (k:Int))=min k xs.length:=by
  unfold HT.sIx;simp;omega
 have h2:HT.sIx xs.length 0 none=0:=rfl;unfold uj;rw[h1,h2];simp
theorem zb2{xs:List V}{d:Int}(h0:0<=d)(h1:d<xs.length):∃ v,atI xs d=some v/\v∈xs:=by
 obtain⟨n,rfl⟩:∃ n:Nat,d=n:=⟨d.toNat,by omega⟩;have hn:n<xs.length:=by omega
 exact⟨xs[n],zN (by simp[hn]),getElem_mem hn⟩
theorem zfC{ws:List Str}{d:Int}(h0:0<=d)(h1:d<ws.length):∃ x∈ws,atI (ws.map V.str) d=some (.str x):=by
 obtain⟨v,e,hv⟩:=zb2 (xs:=ws.map V.str) h0 (by rw[length_map];exact h1);obtain⟨x,hx,rfl⟩:=mem_map.mp hv;exact⟨x,hx,e⟩
theorem zfD{ns:LI}{d:Int}(h0:0<=d)(h1:d<ns.length):∃ x∈ns,atI (ns.map V.int) d=some (.int x):=by
 obtain⟨v,e,hv⟩:=zb2 (xs:=ns.map V.int) h0 (by rw[length_map];exact h1);obtain⟨x,hx,rfl⟩:=mem_map.mp hv;exact⟨x,hx,e⟩
def GvX(σ:St)(H0:Hp)(te:TE)(x:Str):Prop:=∀ H,Same H0 H->∀ Q:VK,(∀ H',Same H H'->Q (.str x) H')->te σ H Q
def GvS(σ:St)(H0:Hp)(t:TA)(ws:List Str):Prop:=∀ H,Same H0 H->∀ Q:List V->Hp->Prop,(∀ H',Same H H'->Q (ws.map V.str) H')->t σ H Q
def GvO(σ:St)(H0:Hp)(t:TO)(l:Option Int):Prop:=∀ H,Same H0 H->∀ Q:Option Int->Hp->Prop,(∀ H',Same H H'->Q l H')->t σ H Q
def GvW(σ:St)(H0:Hp)(te:TE)(ws:List Str):Prop:=∀ H,Same H0 H->∀ Q:VK,(∀ p H',Same H H'->H' p=some (.lst (ws.map V.str))->Q (.ref p) H')->te σ H Q
def PR(H:Hp):List V->List (List Str)->Prop
 |[],[]=>True
 |r::rs,ws::wss=>(∃ p,r=.ref p/\H p=some (.lst (ws.map V.str)))/\PR H rs wss
 |_,_=>False
theorem PR.same{H H':Hp}(s:Same H H'):∀ {rs:List V}{wss:List (List Str)},PR H rs wss->PR H' rs wss
 |[],[],_=>trivial
 |_::_,_::_,⟨⟨p,e,h⟩,t⟩=>⟨⟨p,e,s _ _ h⟩,PR.same s t⟩
theorem PR.app{H:Hp}:∀ {rs rs':List V}{wss wss':List (List Str)},PR H rs wss->PR H rs' wss'->PR H (rs++rs') (wss++wss')
 |[],_,[],_,_,h=>h
 |_::_,_,_::_,_,⟨h,t⟩,h'=>⟨h,PR.app t h'⟩
theorem PR.mem{H:Hp}{r:V}:∀ {rs:List V}{wss:List (List Str)},PR H rs wss->r∈rs->∃ p ws,r=.ref p/\ws∈wss/\H p=some (.lst (ws.map V.str))
 |r'::rs,ws::wss,⟨⟨p,e,h⟩,t⟩,hm=>by
  rcases mem_cons.mp hm with rfl | hm
  ·exact⟨p,ws,e,mem_cons_self ..,h⟩
  ·obtain⟨p',ws',e',hw,h'⟩:=PR.mem t hm
   exact⟨p',ws',e',mem_cons_of_mem _ hw,h'⟩
theorem PR.len{H:Hp}:∀ {rs:List V}{wss:List (List Str)},PR H rs wss->rs.length=wss.length
 |[],[],_=>rfl
 |_::_,_::_,⟨_,t⟩=>by rw[length_cons,length_cons,PR.len t]
def GvL(σ:St)(H0:Hp)(t:TA)(wss:List (List Str)):Prop:=∀ H,Same H0 H->∀ Q:List V->Hp->Prop,(∀ rs H',Same H H'->PR H' rs wss->Q rs H')->t σ H Q
section
variable {σ:St}{H0:Hp}{ta tb te tx:TE}{t:TA}{lo hi:TO}{us vs ws:List Str}{wss:List (List Str)}{x:Str}{i:Nat}{k:Int}{l u:Option Int}{K:W.Frag}
theorem Zn:GvX σ H0 (tC (.str x)) x:=fun H _ Q k=>k H (sR H)
theorem yL:GvS σ H0 wN []:=fun H _ Q k=>k H (sR H)
theorem ya(h:GvX σ H0 tx x)(r:GvS σ H0 t ws):GvS σ H0 (yr tx t) (x::ws):=fun H s Q k=>h H s _ fun H1 s1=>r H1 (s.trans s1) _ fun H2 s2=>k H2 (s1.trans s2)
theorem yK(h:GvS σ H0 t ws)(hz:ws.length<=1000):GvW σ H0 (UQ t) ws:=fun H s Q k=>h H s _ fun H1 s1=>⟨by rw[length_map];exact le_trans hz (by decide),fun p hp=>k p _ (s1.trans (sW hp)) upd_same⟩
theorem gw_var{p:Addr}(hs:σ[i]?=some (some (.ref p)))(hp:H0 p=some (.lst (ws.map V.str))):GvW σ H0 (yV i) ws:=fun H s Q k=>⟨_,hs,k p H (sR H) (s _ _ hp)⟩
theorem yx(ha:GvW σ H0 ta us)(hb:GvW σ H0 tb vs)(hz:us.length+vs.length<=1000):GvW σ H0 (tOp WB ta tb) (us++vs):=fun H s Q k=>ha H s _ fun p H1 s1 hp=>hb H1 (s.trans s1) _ fun q H2 s2 hq =>
 ⟨p,q,_,_,rfl,rfl,s2 _ _ hp,hq,by rw[length_map,length_map];exact le_trans hz (by decide),fun r hr=>k r _ (s1.trans (s2.trans (sW hr))) (by rw[upd_same,map_append])⟩
theorem y6:GvO σ H0 xN none:=fun H _ Q k=>k H (sR H)
theorem zbu:GvO σ H0 (vv (tC (.int k))) (some k):=fun H _ Q q=>⟨_,rfl,q H (sR H)⟩
theorem wY(hs:σ[i]?=some (some (.int k))):GvO σ H0 (vv (yV i)) (some k):=fun H _ Q q=>⟨_,hs,_,rfl,q H (sR H)⟩
theorem wx{j:Int}(hs:σ[i]?=some (some (.int k))):GvO σ H0 (vv (tOp (rI0 fun i j=>.int (i+j)) (yV i) (tC (.int j)))) (some (k+j)):=fun H _ Q q=>⟨_,hs,_,_,rfl,rfl,_,rfl,q H (sR H)⟩
theorem yZ(h:GvW σ H0 te us)(hl:GvO σ H0 lo l)(hu:GvO σ H0 hi u)(e:uj (us.map V.str) l u=ws.map V.str):GvW σ H0 (tSl (za7 K) te lo hi) ws:=fun H s Q k=>h H s _ fun p H1 s1 hp=>hl H1 (s.trans s1) _ fun H2 s2=>hu H2 (s.trans (s1.trans s2)) _ fun H3 s3 =>
 ⟨p,_,rfl,sO (s3 _ _ (s2 _ _ hp)),fun q hq=>k q _ (s1.trans (s2.trans (s3.trans (sW hq)))) (by rw[upd_same,e])⟩
theorem Yf:GvL σ H0 wN []:=fun H _ Q k=>k [] H (sR H) trivial
theorem zeI(h:GvL σ H0 t wss)(hz:wss.length<=1000):∀ H,Same H0 H->∀ Q:VK,(∀ p rs H',Same H H'->H' p=some (.lst rs)->PR H' rs wss->Q (.ref p) H')->UQ t σ H Q:=fun H s Q k=>h H s _ fun rs H1 s1 pr=>⟨by rw[pr.len];exact le_trans hz (by decide),fun p hp=>k p rs _ (s1.trans (sW hp)) upd_same (pr.same (sW hp))⟩
theorem yy(h:GvW σ H0 te ws)(r:GvL σ H0 t wss):GvL σ H0 (yr te t) (ws::wss):=fun H s Q k=>h H s _ fun p H1 s1 hp=>r H1 (s.trans s1) _ fun rs H2 s2 pr=>k _ H2 (s1.trans s2) ⟨⟨p,rfl,s2 _ _ hp⟩,pr⟩
end
def GvP(σ:St)(H0:Hp)(te:TE)(wss:List (List Str)):Prop:=∀ H,Same H0 H->∀ Q:VK,(∀ p rs H',Same H H'->H' p=some (.lst rs)->PR H' rs wss->Q (.ref p) H')->te σ H Q
section
variable {σ:St}{H0:Hp}{ta tb te tx:TE}{t:TA}{lo hi:TO}{us vs ws:List Str}{wss wss':List (List Str)}{x:Str}{i:Nat}
theorem Ye(h:GvL σ H0 t wss)(hz:wss.length<=1000):GvP σ H0 (UQ t) wss:=zeI h hz
theorem XS{p:Addr}{rs:List V}(hs:σ[i]?=some (some (.ref p)))(hp:H0 p=some (.lst rs))(pr:PR H0 rs wss):GvP σ H0 (yV i) wss:=fun H s Q k=>⟨_,hs,k p rs H (sR H) (s _ _ hp) (pr.same s)⟩
theorem XT(ha:GvP σ H0 ta wss)(hb:GvP σ H0 tb wss')(hz:wss.length+wss'.length<=1000):GvP σ H0 (tOp WB ta tb) (wss++wss'):=fun H s Q k=>ha H s _ fun p rs H1 s1 hp pr=>hb H1 (s.trans s1) _ fun q rs' H2 s2 hq pr' =>
 ⟨p,q,_,_,rfl,rfl,s2 _ _ hp,hq,by rw[pr.len,pr'.len];exact le_trans hz (by decide),fun r hr=>k r _ _ (s1.trans (s2.trans (sW hr))) upd_same (PR.app ((pr.same s2).same (sW hr)) (pr'.same (sW hr)))⟩
theorem zgd{D:Ends}{rest:TS}{H:Hp}(h:GvP σ H te wss)(k:∀ p rs H2,Same H H2->H2 p=some (.lst rs)->PR H2 rs wss->rest D (σ.set i (some (.ref p))) H2):UP (zc7 te (Yg i)) rest D σ H:=h H (sR H) _ k
theorem zgR{D:Ends}{rest:TS}{H:Hp}(h:GvW σ H te ws)(k:∀ p H2,Same H H2->H2 p=some (.lst (ws.map V.str))->rest D (σ.set i (some (.ref p))) H2):UP (zc7 te (Yg i)) rest D σ H:=h H (sR H) _ k
end
def zhx(σ:St)(H0:Hp)(te:TE)(Px:Str->Prop):Prop:=∀ H,Same H0 H->∀ Q:VK,(∀ x H',Px x->Same H H'->Q (.str x) H')->te σ H Q
def zgH(σ:St)(H0:Hp)(te:TE)(Pw:List Str->Prop):Prop:=∀ H,Same H0 H->∀ Q:VK,(∀ p ws H',Pw ws->Same H H'->H p=none->H' p=some (.lst (ws.map V.str))->Q (.ref p) H')->te σ H Q
def GvV(σ:St)(H0:Hp)(te:TE)(v:V):Prop:=∀ H,Same H0 H->∀ Q:VK,(∀ H',Same H H'->Q v H')->te σ H Q
def GvT(σ:St)(H0:Hp)(tt:TT)(c:Bool):Prop:=∀ H,Same H0 H->∀ Q:Bool->Hp->Prop,(∀ H',Same H H'->Q c H')->tt σ H Q
section
variable {σ:St}{H0:Hp}{ta tb te tx:TE}{tt tu:TT}{us vs ws rows:List Str}{x:Str}{i:Nat}{u v:V}{K:W.Frag}{c d:Bool}
theorem YY(h:GvW σ H0 te rows)(j:JoinOk "\n" rows=true):GvX σ H0 (tBM K "str" (UZ K) (tC (.str "\n")) (yr te wN)) (Txt.join "\n" rows):=fun H s Q k =>
 ⟨rfl,h H s _ fun p H1 s1 hp=>⟨_,p,rows,rfl,rfl,sO hp,j,k H1 s1⟩⟩
theorem zeG{y:Str}(ha:GvX σ H0 ta x)(hb:GvX σ H0 tb y)(hz:x.length+y.length<=sizeLine):GvX σ H0 (tOp (fun x y H Q=>∃ i j,x=V.str i/\y=V.str j/\i.length+j.length<=sizeLine/\Q (V.str (i++j)) H) ta tb) (x++y):=fun H s Q k =>
 ha H s _ fun H1 s1=>hb H1 (s.trans s1) _ fun H2 s2=>⟨_,_,rfl,rfl,hz,k H2 (s1.trans s2)⟩
theorem zcB{Px:Str->Prop}(ha:GvW σ H0 ta us)(hx:zhx σ H0 tx Px)(hb:GvW σ H0 tb vs)(hz:us.length+1+vs.length<=1000):zgH σ H0 (tOp WB (tOp WB ta (UQ (yr tx wN))) tb) (fun ws=>∃ y,Px y/\ws=us++[y]++vs):=fun H s Q k =>
 ha H s _ fun p H1 s1 hp=>hx H1 (s.trans s1) _ fun y H2 py s2=>⟨by show 1<=sizeLine;decide,fun q hq=>by
  have n1:=sW (o:=HO.lst [V.str y]) hq;refine⟨p,q,_,_,rfl,rfl,n1 _ _ (s2 _ _ hp),upd_same,by rw[length_map];exact le_trans (show us.length+1<=1000 by omega) (by decide),fun r hr=>?_⟩;have n2:=sW (o:=HO.lst (us.map V.str++[V.str y])) hr;refine hb _ (s.trans (s1.trans (s2.trans (n1.trans n2)))) _ fun q2 H3 s3 hq2=>⟨r,q2,_,_,rfl,rfl,s3 _ _ upd_same,hq2,by rw[length_append,length_map,length_map];exact le_trans (show us.length+1+vs.length<=1000 by omega) (by decide),fun r2 hr2=>?_⟩;have n3:=s1.trans (s2.trans (n1.trans (n2.trans s3)));exact k r2 _ _ ⟨y,py,rfl⟩ (n3.trans (sW hr2)) (n3.free hr2) (by rw[upd_same,map_append,map_append];rfl)⟩
theorem zfl{Pw:List Str->Prop}{D:Ends}{rest:TS}{H:Hp}(h:zgH σ H te Pw)(k:∀ p ws H2,Pw ws->Same H H2->H p=none->H2 p=some (.lst (ws.map V.str))->rest D (σ.set i (some (.ref p))) H2):UP (zc7 te (Yg i)) rest D σ H:=h H (sR H) _ k
theorem zhn:GvV σ H0 (tC v) v:=fun H _ Q k=>k H (sR H)
theorem Ue(hs:σ[i]?=some (some v)):GvV σ H0 (yV i) v:=fun H _ Q k=>⟨_,hs,k H (sR H)⟩
theorem zcC{rows:List Str}{j:Nat}(h:GvX σ H0 te x)(t:TextOk x rows)(hv:NT rows j):GvV σ H0 (w8 (zbL K) [] E0 (yr te wN)) (.int j):=fun H s Q k=>h H s _ fun H1 s1=>.inl ⟨x,rows,j,rfl,t,hv,fun H2 s2=>k H2 (s1.trans s2)⟩
theorem zf0{rows:List Str}(h:GvX σ H0 te x)(t:TextOk x rows)(hv:ze9 rows):GvV σ H0 (w8 (zbL K) [] E0 (yr te wN)) .non:=fun H s Q k=>h H s _ fun H1 s1=>.inr (.inl ⟨x,rows,rfl,t,hv,fun H2 s2=>k H2 (s1.trans s2)⟩)
theorem Uf{j:Nat}(h:GvW σ H0 te rows)(ne:rows≠[])(hr:∀ r∈rows,Row r)(hl:rows.length<=30)(hv:NT rows j):GvV σ H0 (w8 (zbL K) [] E0 (yr (tBM K "str" (UZ K) (tC (.str "\n")) (yr te wN)) wN)) (.int j):=zcC (YY h (YA hr hl)) (vq ne hr hl) hv
theorem gv_lgj(h:GvW σ H0 te rows)(ne:rows≠[])(hr:∀ r∈rows,Row r)(hl:rows.length<=30)(hv:ze9 rows):GvV σ H0 (w8 (zbL K) [] E0 (yr (tBM K "str" (UZ K) (tC (.str "\n")) (yr te wN)) wN)) .non:=zf0 (YY h (YA hr hl)) (vq ne hr hl) hv
theorem Ug(ha:GvV σ H0 ta v)(hb:GvV σ H0 tb v)(hs:zfr v v=true):GvT σ H0 (W5 (tOp rNe ta tb)) false:=fun H s Q k=>ha H s _ fun H1 s1=>hb H1 (s.trans s1) _ fun H2 s2=>⟨hs,_,rfl,by simpa using k H2 (s1.trans s2)⟩
theorem zf1(ha:GvT σ H0 tt false)(hb:GvT σ H0 tu false):GvT σ H0 (tOr tt tu) false:=fun H s Q k=>ha H s _ fun H1 s1=>iZ rfl (hb H1 (s.trans s1) _ fun H2 s2=>k H2 (s1.trans s2))
theorem zbH{D:Ends}{rest t:TS}{H:Hp}(h:GvT σ H tt false)(k:∀ H2,Same H H2->rest D σ H2):UP (zc6 tt t W6) rest D σ H:=h H (sR H) _ fun H2 s2=>iZ rfl (k H2 s2)
theorem zdH{D:Ends}{t:TS}{H:Hp}(h:GvT σ H tt false)(k:∀ H2,Same H H2->D.nx σ H2):zc6 tt t W6 D σ H:=h H (sR H) _ fun H2 s2=>iZ rfl (k H2 s2)
end
theorem wL{x y:Int}:decide (V.int x=V.int y)=decide (x=y):=decide_eq_decide.mpr ⟨fun z=>by injection z,fun z=>by rw[z]⟩
def hdW(m:Nat):List Str:=(List.range m).map fun(i:Nat)=>zc9 i
theorem zeE:∀ m:Nat,m<8->JoinOk " " (hdW m)=true/\(ze1 m).length<=100:=by decide +kernel
theorem Xe{n:Nat}:(zc4 n).length=n:=by unfold zc4;simp
theorem zgt(x y:Str):(x++y).length=x.length+y.length:=by
 show(x.cps++y.cps).size=x.cps.size+y.cps.size;simp
theorem sa2{x y:Str}{m n:Nat}(h:x.length<=m)(g:y.length<=n):(x++y).length<=m+n:=by
 rw[zgt];omega
theorem sz2{x y:Str}{m n:Nat}(h:x.length<=m)(g:y.length<=n)(l:m+n<=sizeLine):x.length+y.length<=sizeLine:=by
 omega
theorem zcr{m c:Nat}(h3:3<=m)(h7:m<=7)(hc:c<m-1):(m,(c:Int))∈mcs:=by
 have h:m=3\/m=4\/m=5\/m=6\/m=7:=by omega
 rcases h with rfl | rfl | rfl | rfl | rfl
 ·have h:c=0\/c=1:=by omega
  rcases h with rfl | rfl<;>decide
 ·have h:c=0\/c=1\/c=2:=by omega
  rcases h with rfl | rfl | rfl<;>decide
 ·have h:c=0\/c=1\/c=2\/c=3:=by omega
  rcases h with rfl | rfl | rfl | rfl<;>decide
 ·have h:c=0\/c=1\/c=2\/c=3\/c=4:=by omega
  rcases h with rfl | rfl | rfl | rfl | rfl<;>decide
 ·have h:c=0\/c=1\/c=2\/c=3\/c=4\/c=5:=by omega
  rcases h with rfl | rfl | rfl | rfl | rfl | rfl<;>decide
def zaY:Sp:=fun vs H Q _=>∃ l:Addr,vs=[.ref l]/\StAt H l/\∀ (q:Addr) (p:Nat×Int) (r:Nat) (H':Hp),p∈mcs->r<=40->H q=none->H' q=some (.lst ((zV p.1 p.2 r).map V.str))->Ext l H H'->Q (.ref q) H'
theorem zb8(T:Txt w K mg a):FnOk P w K mg base CX0 2 729 (dK K 729) ["_law_state"] zaY:=by
 have c__law_digit:=cal P base T 31 rfl (zad T);refine(T.fn 32 rfl).ok (scp 32 rfl) (fun vs H Q E h=>?_) (fun cdv A outer s H vs Q E hr h=>?_)
 ·obtain⟨l,rfl,_⟩:=h
  rfl
 ·obtain⟨l,rfl,st0,k⟩:=h
  have e2:sizeLine=16777216:=rfl;refine zR (zd (zr (i:=1) (scp 32 rfl).nd rfl (Or.inl rfl) (zk yA zg (zG c__law_digit hr.m (zh (zj 0) (zy zg zb)))))
   (zd (zr (i:=2) (scp 32 rfl).nd rfl (Or.inl rfl) (zk wj (zj 1) zg))
   (zd (zr (i:=3) (scp 32 rfl).nd rfl (Or.inl rfl) (zt (zU (zk zW zi (zY F.plainAttrs_str F.slot_str_join F.type_str_join xU zi (zn (yF rfl (N':=["_law_hand"]) (t:=1) (caps:=[]) ⟨rfl,rfl,rfl⟩ (wn rfl (T.n 4 rfl) (zh (zj 1) zb)) (fun _=>(zE (i:=0) (show(["_law_hand"]:List Str).Nodup by decide +kernel) rfl (Or.inl rfl))) (fun _=>y8) (fun _=>(zF yc (by rfl) (T.n 10 rfl) xL (zh (zj 0) zb)))) zb))) zb)))
   (zd (zr (i:=3) (scp 32 rfl).nd rfl (Or.inl rfl) (zk zL (zj 3) (yF rfl (N':=["_law_hand"]) (t:=1) (caps:=[]) ⟨rfl,rfl,rfl⟩ (wn rfl (T.n 4 rfl) (zh (zj 2) zb)) (fun _=>(zE (i:=0) (show(["_law_hand"]:List Str).Nodup by decide +kernel) rfl (Or.inl rfl))) (fun _=>y8) (fun _=>(zk zW (zk zW (zk zW zi (zF yc (by rfl) (T.n 10 rfl) xL (zh (zj 0) zb))) zi) (zF yc (by rfl) (T.n 10 rfl) xL (zU (zk yA (zj 0) zg) zb)))))))
   (zd (zr (i:=4) (scp 32 rfl).nd rfl (Or.inr rfl) (zG c__law_digit hr.m (zh (zj 0) (zh (zj 2) zb))))
   (zd (zr (i:=3) (scp 32 rfl).nd rfl (Or.inl rfl) (zk zL (zj 3) (yF rfl (N':=["_law_hand", "_law_cut"]) (t:=1) (caps:=[4]) ⟨rfl,rfl,rfl⟩ (wn rfl (T.n 4 rfl) (zh (zj 2) zb)) (fun _=>(zE (i:=0) (show(["_law_hand", "_law_cut"]:List Str).Nodup by decide +kernel) rfl (Or.inl rfl))) (fun _=>(Zx (zp wv (zj 0) (zj 1) (zB _)))) (fun _=>(zk zW (zk zW (zk zW zi (zF yc (by rfl) (T.n 10 rfl) xL (zU (zk yA (zj 0) zg) zb))) zi) (zF yc (by rfl) (T.n 10 rfl) xL (zh (zj 0) zb)))))))
   (zd (zr (i:=3) (scp 32 rfl).nd rfl (Or.inl rfl) (zk zL (zj 3) (zt (zU (zk zW (zk zW (zk zW zi (zF yc (by rfl) (T.n 10 rfl) xL (zh (zj 4) zb))) zi) (zF yc (by rfl) (T.n 10 rfl) xL (zU (zk yA (zj 4) zg) zb))) (zy zi (zy zi (zy zi zb)))))))
   (ze (zm (zk zL (zj 3) (zt (zy zi (zU (zk zW zi (zF yc (by rfl) (T.n 10 rfl) xL (yj (zG c__law_digit hr.m (zh (zj 0) (zy zg zb))) zb))) zb))))))))))))) ?_
  refine⟨_,rfl,l,5,rfl,st0,by decide,by decide,fun d0 H1 z0 z1 st1 x1=>?_⟩;obtain⟨n,en⟩:∃ n:Nat,d0=n:=⟨d0.toNat,by omega⟩;subst en;refine⟨_,_,rfl,rfl,?_⟩;refine⟨_,rfl,_,_,rfl,rfl,?_⟩;refine⟨rfl,_,rfl,_,rfl,by omega,by omega,fun D hD _=>?_⟩;refine wW (lo:=0) (n:=(3+(n:Int)).toNat) (fun i zs τ H'=>∃ o,τ=[o]/\i<=7/\zs=(hdW i).map V.str/\H'=upd H1 D (.lst zs)) ?_ ?_ ?_
  ·exact⟨none,rfl,by omega,rfl,rfl⟩
  ·rintro i zs τ H' hi ⟨o,rfl,_,rfl,rfl⟩
   rw[Int.zero_add];obtain⟨nl,ng⟩:=xv i (by omega);refine YZ ?_;refine⟨_,rfl,_,rfl,ng,upd_same,by rw[length_map];unfold hdW;rw[length_map,length_range];omega,_,rfl,by omega,?_,by rw[yH]⟩;unfold hdW;rw[range_succ,map_append,map_append];rfl
  rintro zs τ H' ⟨o,rfl,_,rfl,rfl⟩;obtain⟨m,em⟩:∃ m:Nat,3+n=m:=⟨_,rfl⟩;have em':(3:Int)+(n:Int)=(m:Int):=by omega
  have emt:(3+(n:Int)).toNat=m:=by omega
  rw[emt];obtain⟨j1,j2⟩:=zeE m (by omega);generalize hE:L2.upd H1 D _=H2;obtain⟨g2,s2⟩:=al hE hD;clear hE;refine⟨_,D,_,rfl,rfl,sO g2,j1,_,_,rfl,rfl,sz2 (m:=10) (by decide +kernel) j2 (by decide),by show 1<=sizeLine;decide,fun p1 hp1=>?_⟩;generalize hE:L2.upd H2 p1 _=H3;obtain⟨g3,s3⟩:=al hE hp1;clear hE;have g3:H3 p1=some (.lst (([("hands " ++ ze1 m:Str)]:List Str).map V.str)):=g3;refine⟨_,rfl,_,rfl,_,rfl,by show -(2 ^ 62)<=(3:Int)+n-1;omega,by show(3:Int)+n-1<2 ^ 62;omega,fun D2 hD2 _=>?_⟩;have emt2:(3+(n:Int)-1).toNat=m-1:=by omega
  refine wW (lo:=0) (n:=(3+(n:Int)-1).toNat) (fun i zs τ H'=>∃ o,τ=[o]/\i<=7/\zs=(zc4 i).map V.str/\H'=upd H3 D2 (.lst zs)) ?_ ?_ ?_
  ·exact⟨none,rfl,by omega,rfl,rfl⟩
  ·rintro i zs τ H' hi ⟨o,rfl,_,rfl,rfl⟩
   rw[Int.zero_add];obtain⟨nl,ng⟩:=xv i (by omega);obtain⟨nl2,ng2⟩:=xv (i+1) (by omega);refine YZ ?_;refine⟨_,rfl,_,rfl,ng,_,_,rfl,rfl,sz2 (m:=10) (by decide +kernel) nl (by decide),_,_,rfl,rfl,sz2 (sa2 (m:=10) (by decide +kernel) nl) (n:=10) (by decide +kernel) (by decide),?_⟩;refine⟨_,rfl,_,_,rfl,rfl,_,rfl,ng2,_,_,rfl,rfl,sz2 (sa2 (sa2 (m:=10) (by decide +kernel) nl) (n:=10) (by decide +kernel)) nl2 (by decide),?_⟩;refine⟨upd_same,by rw[length_map,Xe];omega,_,rfl,by omega,?_,by rw[yH]⟩;unfold zc4;rw[range_succ,map_append,map_append];rfl
  rintro zs τ H' ⟨o,rfl,_,rfl,rfl⟩;rw[emt2];generalize hE:L2.upd H3 D2 _=H4;obtain⟨g4,s4⟩:=al hE hD2;clear hE;have wl:=Xe (n:=m-1);refine Uw (s4 _ _ g3) g4 (by rw[length_map,length_map,wl];show 1+_<=_;omega) fun p2 hp2=>?_;rw[<- map_append];generalize hE:L2.upd H4 p2 _=H5;obtain⟨g5,s5⟩:=al hE hp2;clear hE;have s15:=s2.trans (s3.trans (s4.trans s5));have st5:=st1.same s15;have np2:p2≠l:=(st1.same (s2.trans (s3.trans s4))).ne hp2;refine⟨_,rfl,_,rfl,l,_,rfl,st5,by show(0:Int)<3+n-1;omega,?_,fun d1 H6 z2 z3 st6 x6=>?_⟩
  ·have:∀ m:Nat,m<8->((m:Int)).natAbs.log2<9000:=by decide
   have h:=this (m-1) (by omega);rw[show((m-1:Nat):Int)=3+(n:Int)-1 by omega] at h;exact h
  obtain⟨c,ec⟩:∃ c:Nat,d1=c:=⟨d1.toNat,by omega⟩;subst ec;have z3:(c:Int)<3+(n:Int)-1:=z3;have hmc:=zcr (m:=m) (c:=c) (by omega) (by omega) (by omega);have g6:=x6 _ _ g5 np2;refine⟨_,rfl,_,rfl,_,rfl,by show -(2 ^ 62)<=(3:Int)+n-1;omega,by show(3:Int)+n-1<2 ^ 62;omega,fun D3 hD3 _=>?_⟩;refine wW (lo:=0) (n:=(3+(n:Int)-1).toNat) (fun i zs τ H'=>∃ o,τ=[o,some (.int c)]/\i<=7/\zs=((u7 i c).map (zbR "parent ")).map V.str/\H'=upd H6 D3 (.lst zs)) ?_ ?_ ?_
  ·exact⟨none,rfl,by omega,rfl,rfl⟩
  ·rintro i zs τ H' hi ⟨o,rfl,_,rfl,rfl⟩
   rw[Int.zero_add];obtain⟨nl,ng⟩:=xv i (by omega);obtain⟨nl2,ng2⟩:=xv (i+1) (by omega);refine⟨_,rfl,_,rfl,rfl,_,rfl,?_⟩;rw[wL];by_cases hc:(i:Int)=c
   ·refine iZ (by rw[decide_eq_true hc];rfl) ⟨_,rfl,by omega,?_,rfl⟩
    unfold u7;rw[range_succ,filter_append,List.filter_cons_of_neg (by simp[hc])];simp
   ·refine zZ (by rw[decide_eq_false hc];rfl) ?_
    refine⟨_,rfl,_,_,rfl,rfl,_,rfl,ng2,_,_,rfl,rfl,sz2 (m:=10) (by decide +kernel) nl2 (by decide),_,_,rfl,rfl,sz2 (sa2 (m:=10) (by decide +kernel) nl2) (n:=10) (by decide +kernel) (by decide),?_⟩;refine⟨_,rfl,_,rfl,ng,_,_,rfl,rfl,sz2 (sa2 (sa2 (m:=10) (by decide +kernel) nl2) (n:=10) (by decide +kernel)) nl (by decide),?_⟩;refine⟨upd_same,?_,_,rfl,by omega,?_,by rw[yH]⟩
    ·rw[length_map,length_map]
     unfold u7;rw[length_map];have:=List.length_filter_le (fun(i:Nat)=>decide (¬(i:Int)=c)) (List.range i);rw[length_range] at this;omega
    ·unfold u7
     rw[range_succ,filter_append,List.filter_cons_of_pos (by simp[hc])];simp only[map_append];rfl
  rintro zs τ H' ⟨o,rfl,_,rfl,rfl⟩;rw[emt2];generalize hE:L2.upd H6 D3 _=H7;obtain⟨g7,s7⟩:=al hE hD3;clear hE;have pl:(u7 (m-1) c).length<=7:=by
   unfold u7;rw[length_map];have:=List.length_filter_le (fun(i:Nat)=>decide (¬(i:Int)=c)) (List.range (m-1));rw[length_range] at this;omega
  refine Uw (s7 _ _ g6) g7 (by rw[length_map,length_map,length_map,length_append,wl];show 1+_+_<=_;omega) fun p3 hp3=>?_;rw[<- map_append];generalize hE:L2.upd H7 p3 _=H8;obtain⟨g8,s8⟩:=al hE hp3;clear hE;obtain⟨nl,ng⟩:=xv c (by omega);obtain⟨nl2,ng2⟩:=xv (c+1) (by omega);refine⟨_,rfl,_,rfl,_,rfl,ng,_,_,rfl,rfl,sz2 (m:=10) (by decide +kernel) nl (by decide),_,_,rfl,rfl,sz2 (sa2 (m:=10) (by decide +kernel) nl) (n:=10) (by decide +kernel) (by decide),?_⟩;refine⟨_,rfl,_,_,rfl,rfl,_,rfl,ng2,_,_,rfl,rfl,sz2 (sa2 (sa2 (m:=10) (by decide +kernel) nl) (n:=10) (by decide +kernel)) nl2 (by decide),by show 4<=sizeLine;decide,fun p4 hp4=>?_⟩;generalize hE:L2.upd H8 p4 _=H9;obtain⟨g9,s9⟩:=al hE hp4;clear hE;have g9:H9 p4=some (.lst (([zbR "bridge " ((c:Int),(c:Int)+1), "start me", "send add worth to", "when 1"]:List Str).map V.str)):=g9;refine Uw (s9 _ _ g8) g9 (by rw[length_map,length_map,length_append,length_append,length_map,wl];show 1+_+_+4<=_;omega) fun p5 hp5=>?_;rw[<- map_append];generalize hE:L2.upd H9 p5 _=H10;obtain⟨g10,s10⟩:=al hE hp5;clear hE;have s610:=s7.trans (s8.trans (s9.trans s10));have st10:=st6.same s610;have np5:p5≠l:=(st6.same (s7.trans (s8.trans s9))).ne hp5;refine⟨_,rfl,_,rfl,l,41,rfl,st10,by decide,by decide,fun d2 H11 z4 z5 st11 x11=>?_⟩;obtain⟨r,er⟩:∃ r:Nat,d2=r:=⟨d2.toNat,by omega⟩;subst er;obtain⟨nr,nrg⟩:=xv r (by omega);refine⟨_,rfl,nrg,_,_,rfl,rfl,sz2 (m:=10) (by decide +kernel) nr (by decide),by show 2<=sizeLine;decide,fun p6 hp6=>?_⟩;generalize hE:L2.upd H11 p6 _=H12;obtain⟨g12,s12⟩:=al hE hp6;clear hE;have g12:H12 p6=some (.lst (([("reckon sum" : Str),rdT r]:List Str).map V.str)):=g12;refine Uw (s12 _ _ (x11 _ _ g10 np5)) g12 ?_ fun p7 hp7=>?_
  ·rw[length_map,length_map,length_append,length_append,length_append,length_map,wl]
   show 1+_+_+4+2<=_;omega
  rw[<- map_append];have np7:p7≠l:=(st11.same s12).ne hp7;have f7:H p7=none:=x1.free np7 (s15.free (x6.free np7 (s610.free (x11.free np7 (s12.free hp7)))));refine k p7 (m,(c:Int)) r _ hmc (by omega) f7 ?_ ((((((x1.trans (Ext.same s15)).trans x6).trans (Ext.same s610)).trans x11).trans (Ext.same s12)).trans (Ext.new hp7));rw[upd_same];unfold zV Wj;rw[append_assoc _ [("reckon sum" : Str)]];rfl
theorem zds{f:Str}{us ws:List Str}(h:ws∈[("lines" : Str)::us,us,Txt.upper f::us, "" :: f::us,f::us++[("" : Str)],[f],[""], "mend" :: us]):ws∈vA f us:=by
 unfold vA;exact mem_append_left _ (mem_append_left _ (mem_append_left _ h))
theorem zfc{f:Str}{us ws:List Str}(c:inV (.str f) (pairsL.map V.str)=true)(h:ws∈[f::us++[("1" : Str)],(f::us).take 2]):ws∈vA f us:=by
 unfold vA;rw[if_pos c];exact mem_append_left _ (mem_append_left _ (mem_append_right _ h))
theorem zfd{f:Str}{us ws:List Str}(c:inV (.str f) (progWs.map V.str)=true)(h:ws∈[f::us++[("1" : Str)],f :: "add" :: us]):ws∈vA f us:=by
 unfold vA;rw[if_pos c];exact mem_append_left _ (mem_append_right _ h)
theorem zfb{f:Str}{us ws:List Str}(c:f = "rounds")(h:ws∈([["rounds", "41"],["rounds", "1", "2"],["rounds", "100"]]:List (List Str))):ws∈vA f us:=by
 unfold vA;rw[if_pos c];exact mem_append_right _ h
def Va:Sp:=fun vs H Q _=>∃ (x f:Str) (us:List Str) (cell:Int),vs=[.str x,.int cell]/\RdW x f us/\∀ y H',BadR y->Same H H'->Q (.str y) H'
theorem U6(T:Txt w K mg a):FnOk P w K mg base CX0 1 736 (dK K 736) ["_law_row_here", "_law_cell"] Va:=by
 refine(T.fn 33 rfl).ok (scp 33 rfl) (fun vs H Q E h=>?_) (fun cdv A outer s H vs Q E hr h=>?_)
 ·obtain⟨x,f,us,cell,rfl,_⟩:=h
  rfl
 ·obtain⟨x,f,us,cell,rfl,hd,k⟩:=h
  refine zR (zd (zr (i:=2) (scp 33 rfl).nd rfl (Or.inl rfl) (zY F.plainAttrs_str F.slot_str_split F.type_str_split xF (zj 0) (zy zi zb)))
   (zd (zr (i:=3) (scp 33 rfl).nd rfl (Or.inl rfl) (zk yA zg (zk yS (zk yD (zj 1) zg) (zk wj (zq zx (by rfl) (T.n 0 rfl) yf (zh (zj 2) zb)) zg))))
   (zd (zr (i:=4) (scp 33 rfl).nd rfl (Or.inl rfl) (zw zC (zt (zy zi (zy zi (zU (zk VC zi zg) (zy zi (zy zi (zy zi (zy zi (zy zi (zy zi (zy zi zb))))))))))) (zk yS (zk yD (zj 1) zg) zg) (fun _ _=>rfl)))
   (y9 (zv (uc (yB (zp yv (zw zC (zj 2) zg (fun _ _=>rfl)) (zt (zy zi (zy zi (zy zi (zy zi zb))))) (by with_unfolding_all rfl)) (yw (zp yv (zj 4) (zt (zy zi (zU (zk VC zi zg) zb))) (by with_unfolding_all rfl)))))
    (ze (zr (i:=4) (scp 33 rfl).nd rfl (Or.inl rfl) zi))
    zo)
   (zd (zr (i:=5) (scp 33 rfl).nd rfl (Or.inl rfl) (zt (zU (zk zL (zt (zy zi zb)) (zA zQ (zj 2) (w_po_some zg) zD)) (zn (zA zQ (zj 2) (w_po_some zg) zD) (zU (zk zL (zt (yj (UK F.plainAttrs_str F.slot_str_upper F.type_str_upper zak (zw zC (zj 2) zg (fun _ _=>rfl))) zb)) (zA zQ (zj 2) (w_po_some zg) zD)) (zU (zk zL (zt (zy zi zb)) (zj 2)) (zU (zk zL (zj 2) (zt (zy zi zb))) (zn (zA zQ (zj 2) zD (w_po_some zg)) zb))))))))
   (zd (zr (i:=5) (scp 33 rfl).nd rfl (Or.inl rfl) (zk zL (zj 5) (zt (zU (zk zL (zk zL (zA zQ (zj 2) zD (w_po_some (zj 3))) (zt (zy zi zb))) (zA zQ (zj 2) (w_po_some (zj 3)) zD)) (zU (zk zL (zk zL (zA zQ (zj 2) zD (w_po_some (zj 3))) (zt (zh (zj 4) zb))) (zA zQ (zj 2) (w_po_some (zk yA (zj 3) zg)) zD)) (zn (zt (zy zi zb)) (zU (zk zL (zt (zy zi zb)) (zA zQ (zj 2) (w_po_some zg) zD)) zb)))))))
   (y9 (zv (zp yv (zw zC (zj 2) zg (fun _ _=>rfl)) (zt (zy zi (zy zi (zy zi zb)))) (by with_unfolding_all rfl))
    (ze (zr (i:=5) (scp 33 rfl).nd rfl (Or.inl rfl) (zk zL (zj 5) (zt (zU (zk zL (zj 2) (zt (zy zi zb))) (zn (zA zQ (zj 2) zD (w_po_some zg)) zb))))))
    zo)
   (y9 (zv (zp yv (zw zC (zj 2) zg (fun _ _=>rfl)) (zt (zy zi (zy zi (zy zi (zy zi zb))))) (by with_unfolding_all rfl))
    (ze (zr (i:=5) (scp 33 rfl).nd rfl (Or.inl rfl) (zk zL (zj 5) (zt (zU (zk zL (zj 2) (zt (zy zi zb))) (zU (zk zL (zk zL (zA zQ (zj 2) zD (w_po_some zg)) (zt (zy zi zb))) (zA zQ (zj 2) (w_po_some zg) zD)) zb))))))
    zo)
   (y9 (zv (zp yX (zw zC (zj 2) zg (fun _ _=>rfl)) zi (zB _))
    (ze (zr (i:=5) (scp 33 rfl).nd rfl (Or.inl rfl) (zk zL (zj 5) (zt (zn (zt (zy zi (zy zi zb))) (zn (zt (zy zi (zy zi (zy zi zb)))) (zn (zt (zy zi (zy zi zb))) zb)))))))
    zo)
   (ze (zm (zY F.plainAttrs_str F.slot_str_join F.type_str_join xU zi (zn (zw zC (zj 5) (zk yS (zj 1) (zq zx (by rfl) (T.n 0 rfl) yf (zh (zj 5) zb))) (fun _ _=>rfl)) zb))))))))))))) ?_
  have hs:=hd.sp;have hl:=hd.row.len;have hpt:=xm x " ";have e2':sizeLine=16777216:=rfl;have n10:=hd.len;have n1:1<=us.length:=List.length_pos_iff.mpr hd.ne;refine⟨_,rfl,rfl,_,_,rfl,rfl,(by decide +kernel),(by omega),(by rw[hs];simp;omega),(by omega),fun pw hpw=>?_⟩;rw[hs];generalize hE:L2.upd H pw _=H1;obtain⟨hw1,s1⟩:=al hE hpw;clear hE;have lw:((f::us).map V.str).length=us.length+1:=by rw[length_map,length_cons]
  obtain⟨j,hj,ej⟩:∃ j:Nat,j<us.length/\1+cell/32%((((f::us).map V.str).length:Int)-1)=((j+1:Nat):Int):=by
   rw[lw];have h1:=emod_nonneg (cell/32) (show((us.length+1:Nat):Int)-1≠0 by omega);have h2:=emod_lt_of_pos (cell/32) (show 0<((us.length+1:Nat):Int)-1 by omega);exact⟨(cell/32%(((us.length+1:Nat):Int)-1)).toNat,by omega,by omega⟩
  refine⟨_,rfl,_,_,rfl,rfl,⟨by decide,by decide⟩,_,rfl,pw,_,rfl,.inl (sO hw1),_,_,rfl,rfl,_,_,rfl,rfl,(by rw[lw];show(0:Int)<((us.length+1:Nat):Int)-1;omega),_,_,rfl,rfl,?_⟩;have c1:uj ((f::us).map V.str) (some 1) none=us.map V.str:=by rw[map_cons];exact ze7
  have c2:uj ((f::us).map V.str) none (some 1)=([f]:List Str).map V.str:=by rw[show(1:Int)=((1:Nat):Int) from rfl,cut_to];rfl
  have c2':uj ((f::us).map V.str) none (some 2)=((f::us).take 2).map V.str:=by rw[show(2:Int)=((2:Nat):Int) from rfl,cut_to,map_take]
  have c3:uj ((f::us).map V.str) none (some (1+cell/32%((((f::us).map V.str).length:Int)-1)))=((f::us).take (j+1)).map V.str:=by rw[ej,cut_to,map_take]
  have c4:uj ((f::us).map V.str) (some (1+cell/32%((((f::us).map V.str).length:Int)-1))) none=((f::us).drop (j+1)).map V.str:=by rw[ej,vk,map_drop]
  have c5:uj ((f::us).map V.str) (some (1+cell/32%((((f::us).map V.str).length:Int)-1)+1)) none=((f::us).drop (j+2)).map V.str:=by rw[ej,show(((j+1:Nat):Int)+1)=((j+2:Nat):Int) by omega,vk,map_drop]
  have lt:((f::us).take (j+1)).length<=61:=le_trans (List.length_take_le' _ _) (by simp;omega);have ld:∀ m,((f::us).drop m).length<=61:=fun m=>by rw[length_drop,length_cons];omega
  have at0:atI ((f::us).map V.str) 0=some (.str f):=zN (j:=0) rfl;obtain⟨ow,how,eow⟩:=zfC (ws:=odd93) (d:=cell/512%10) (emod_nonneg _ (by decide)) (emod_lt_of_pos _ (by decide));refine⟨_,_,rfl,rfl,by decide,by decide,by decide +kernel,by show 10<=sizeLine;decide,fun po hpo=>?_⟩;generalize hE:L2.upd H1 po _=H2;obtain⟨g2,s2⟩:=al hE hpo;clear hE;have g2:H2 po=some (.lst (odd93.map V.str)):=g2;have hw2:=s2 _ _ hw1;refine⟨_,rfl,_,_,rfl,rfl,⟨by decide,by decide⟩,_,_,rfl,rfl,(show(0:Int)<10 by decide),po,_,_,_,rfl,rfl,sO g2,eow,?_⟩;have e0:(1:Int)+cell/32%((((f::us).map V.str).length:Int)-1)=1+cell/32%((((f::us).map V.str).length:Int)-1):=rfl;generalize hat:(1:Int)+cell/32%((((f::us).map V.str).length:Int)-1)=at_ at c3 c4 c5 ej;refine⟨fun σ' H'=>σ'=[some (.str x),some (.int cell),some (.ref pw),some (.int at_),some (.str (vL f ow)),none]/\Same H2 H',?_,?_⟩
  ·refine⟨_,rfl,pw,_,0,_,rfl,rfl,sO hw2,at0,by show 4<=sizeLine;decide,fun q hq=>?_⟩
   have sq:=sW (o:=HO.lst (progWs.map V.str)) hq;refine⟨q,_,rfl,.inl (sO upd_same),rfl,flat_strs progWs,_,rfl,?_⟩;by_cases y1:inV (.str f) (progWs.map V.str)=true
   ·refine zZ y1 ?_
    refine⟨_,rfl,_,_,rfl,rfl,by decide,by decide,by decide +kernel,by show 2<=sizeLine;decide,fun q2 hq2=>?_⟩;have sq2:=sW (o:=HO.lst ((["-1",Txt.mul "1" 21]:List Str).map V.str)) hq2;refine⟨q2,_,rfl,.inl (sO upd_same),rfl,flat_strs ["-1",Txt.mul "1" 21],_,rfl,?_⟩;by_cases y2:inV (.str ow) ((["-1",Txt.mul "1" 21]:List Str).map V.str)=true
    ·refine zZ y2 ⟨?_,sq.trans sq2⟩
     unfold vL;rw[if_pos ⟨y1,y2⟩,<- hat];rfl
    ·refine iZ (by rw[not_eq_true] at y2;exact y2) ⟨?_,sq.trans sq2⟩
     unfold vL;rw[if_neg fun z=>y2 z.2,<- hat];rfl
   ·refine iZ (by rw[not_eq_true] at y1;exact y1) (iZ rfl ⟨?_,sq⟩)
    unfold vL;rw[if_neg fun z=>y1 z.1,<- hat];rfl
  rintro σ' H3 ⟨rfl,s3⟩;have hw3:=s3 _ _ hw2;have bA:∀ ws,ws∈[("lines" : Str)::us,us,Txt.upper f::us, "" :: f::us,f::us++[("" : Str)],[f],[""], "mend" :: us]->Y9 ws=true:=fun ws h=>hd.A ws (zds h);refine zgd (Ye (yy (ws:=(["lines"]:List Str)++us) (yx (yK (ya Zn yL) (by simp)) (yZ (gw_var rfl hw3) zbu y6 c1) (by simp;omega)) (yy (yZ (gw_var rfl hw3) zbu y6 c1) (yy (ws:=[Txt.upper f]++us) (yx (yK (ya ?up yL) (by simp)) (yZ (gw_var rfl hw3) zbu y6 c1) (by simp;omega)) (yy (ws:=([""]:List Str)++(f::us)) (yx (yK (ya Zn yL) (by simp)) (gw_var rfl hw3) (by simp;omega)) (yy (ws:=(f::us)++([""]:List Str)) (yx (gw_var rfl hw3) (yK (ya Zn yL) (by simp)) (by simp;omega)) (yy (ws:=[f]) (yZ (gw_var rfl hw3) y6 zbu c2) Yf)))))) (by simp)) fun p1 rs1 H4 s4 hp1 pr1=>?_
  case up=>exact fun H' s' Q' k'=>⟨_,rfl,pw,_,0,_,rfl,rfl,sO (s' _ _ hw3),at0,rfl,_,rfl,rfl,le_trans hd.up.2 (by decide),k' H' (sR _)⟩
  have hw4:=s4 _ _ hw3;refine zgd (XT (XS rfl hp1 pr1) (Ye (yy (ws:=vB f us (j+1)) (yx (yx (yZ (gw_var rfl hw4) y6 (wY rfl) c3) (yK (ya Zn yL) (by simp)) (by simp;omega)) (yZ (gw_var rfl hw4) (wY rfl) y6 c4) (by simp;omega)) (yy (ws:=vC f us (j+1) (vL f ow)) (yx (yx (yZ (gw_var rfl hw4) y6 (wY rfl) c3) (yK (ya ?ox yL) (by simp)) (by simp;omega)) (yZ (gw_var rfl hw4) (wx rfl) y6 c5) (by simp;omega)) (yy (ws:=([""]:List Str)) (yK (ya Zn yL) (by simp)) (yy (ws:=(["mend"]:List Str)++us) (yx (yK (ya Zn yL) (by simp)) (yZ (gw_var rfl hw4) zbu y6 c1) (by simp;omega)) Yf)))) (by simp)) (by simp)) fun p2 rs2 H5 s5 hp2 pr2=>?_
  case ox=>exact fun H' s' Q' k'=>⟨_,rfl,k' H' (sR _)⟩
  have hw5:=s5 _ _ hw4;obtain⟨p,rs,wss,H6,hp,pr,hb,l1,l2,sH,ep,eH⟩:∃ p rs wss H6,H6 p=some (.lst rs)/\PR H6 rs wss/\(∀ ws∈wss,Y9 ws=true)/\1<=wss.length/\wss.length<=10/\Same H5 H6/\p=p2/\H6=H5:=by
   refine⟨p2,rs2,_,H5,hp2,pr2,fun ws h=>?_,by simp,by simp,sR _,rfl,rfl⟩;rcases mem_append.mp h with h | h
   ·simp only[mem_cons,not_mem_nil,or_false] at h
    rcases h with h | h | h | h | h | h<;>(rw[h];exact bA _ (by simp))
   ·simp only[mem_cons,not_mem_nil,or_false] at h
    rcases h with h | h | h | h
    ·rw[h];exact hd.B (j+1) (by omega) (by omega)
    ·rw[h];exact hd.C (j+1) (by omega) (by omega) ow how
    ·rw[h];exact bA _ (by simp)
    ·rw[h];exact bA _ (by simp)
  subst ep;rw[<- eH];have hw:=sH _ _ hw5;clear eH;refine⟨fun σ' H'=>∃ p rs wss,σ'=[some (.str x),some (.int cell),some (.ref pw),some (.int at_),some (.str (vL f ow)),some (.ref p)]/\H' p=some (.lst rs)/\PR H' rs wss/\(∀ ws∈wss,Y9 ws=true)/\1<=wss.length/\wss.length<=12/\Same H5 H',?_,?_⟩
  ·refine⟨_,rfl,pw,_,0,_,rfl,rfl,sO hw,at0,by show 3<=sizeLine;decide,fun q hq=>?_⟩
   have sq:=sW (o:=HO.lst (pairsL.map V.str)) hq;refine⟨q,_,rfl,.inl (sO upd_same),rfl,flat_strs pairsL,_,rfl,?_⟩;have hwq:=sq _ _ hw;have hpq:=sq _ _ hp;have prq:=pr.same sq;by_cases y:inV (.str f) (pairsL.map V.str)=true
   ·refine zZ y ?_
    exact XT (XS rfl hpq prq) (Ye (yy (ws:=(f::us)++(["1"]:List Str)) (yx (gw_var rfl hwq) (yK (ya Zn yL) (by simp)) (by simp;omega)) (yy (ws:=(f::us).take 2) (yZ (gw_var rfl hwq) y6 zbu c2') Yf)) (by simp)) (by show _+2<=_;omega) _ (sR _) _ fun p' rs' H' s' hp' pr'=>⟨p',rs',_,rfl,hp',pr',fun ws h=>(mem_append.mp h).elim (hb ws) (fun h=>hd.A ws (zfc y h)),by rw[length_append];omega,by rw[length_append];show _+2<=_;omega,sH.trans (sq.trans s')⟩
   ·exact iZ (by rw[not_eq_true] at y;exact y) ⟨p,rs,wss,rfl,hpq,prq,hb,l1,by omega,sH.trans sq⟩
  clear hp pr hb l1 l2 sH hw;rintro σ' H6 ⟨p,rs,wss,rfl,hp,pr,hb,l1,l2,sH⟩;have hw:=sH _ _ hw5;refine⟨fun σ' H'=>∃ p rs wss,σ'=[some (.str x),some (.int cell),some (.ref pw),some (.int at_),some (.str (vL f ow)),some (.ref p)]/\H' p=some (.lst rs)/\PR H' rs wss/\(∀ ws∈wss,Y9 ws=true)/\1<=wss.length/\wss.length<=14/\Same H5 H',?_,?_⟩
  ·refine⟨_,rfl,pw,_,0,_,rfl,rfl,sO hw,at0,by show 4<=sizeLine;decide,fun q hq=>?_⟩
   have sq:=sW (o:=HO.lst (progWs.map V.str)) hq;refine⟨q,_,rfl,.inl (sO upd_same),rfl,flat_strs progWs,_,rfl,?_⟩;have hwq:=sq _ _ hw;have hpq:=sq _ _ hp;have prq:=pr.same sq;by_cases y:inV (.str f) (progWs.map V.str)=true
   ·refine zZ y ?_
    exact XT (XS rfl hpq prq) (Ye (yy (ws:=(f::us)++(["1"]:List Str)) (yx (gw_var rfl hwq) (yK (ya Zn yL) (by simp)) (by simp;omega)) (yy (ws:=[f]++(["add"]:List Str)++us) (yx (yx (yZ (gw_var rfl hwq) y6 zbu c2) (yK (ya Zn yL) (by simp)) (by simp)) (yZ (gw_var rfl hwq) zbu y6 c1) (by simp;omega)) Yf)) (by simp)) (by show _+2<=_;omega) _ (sR _) _ fun p' rs' H' s' hp' pr'=>⟨p',rs',_,rfl,hp',pr',fun ws h=>(mem_append.mp h).elim (hb ws) (fun h=>hd.A ws (zfd y h)),by rw[length_append];omega,by rw[length_append];show _+2<=_;omega,sH.trans (sq.trans s')⟩
   ·exact iZ (by rw[not_eq_true] at y;exact y) ⟨p,rs,wss,rfl,hpq,prq,hb,l1,by omega,sH.trans sq⟩
  clear hp pr hb l1 l2 sH hw;rintro σ' H6 ⟨p,rs,wss,rfl,hp,pr,hb,l1,l2,sH⟩;have hw:=sH _ _ hw5;refine⟨fun σ' H'=>∃ p rs wss,σ'=[some (.str x),some (.int cell),some (.ref pw),some (.int at_),some (.str (vL f ow)),some (.ref p)]/\H' p=some (.lst rs)/\PR H' rs wss/\(∀ ws∈wss,Y9 ws=true)/\1<=wss.length/\wss.length<=17/\Same H5 H',?_,?_⟩
  ·refine⟨_,rfl,pw,_,0,_,rfl,rfl,sO hw,at0,rfl,_,rfl,?_⟩
   rw[yk];by_cases y:f = "rounds"
   ·refine zZ (decide_eq_true y) ?_
    exact XT (XS rfl hp pr) (Ye (yy (ws:=(["rounds", "41"]:List Str)) (yK (ya Zn (ya Zn yL)) (by simp)) (yy (ws:=(["rounds", "1", "2"]:List Str)) (yK (ya Zn (ya Zn (ya Zn yL))) (by simp)) (yy (ws:=(["rounds", "100"]:List Str)) (yK (ya Zn (ya Zn yL)) (by simp)) Yf))) (by simp)) (by show _+3<=_;omega) _ (sR _) _ fun p' rs' H' s' hp' pr'=>⟨p',rs',_,rfl,hp',pr',fun ws h=>(mem_append.mp h).elim (hb ws) (fun h=>hd.A ws (zfb y h)),by rw[length_append];omega,by rw[length_append];show _+3<=_;omega,sH.trans s'⟩
   ·exact iZ (decide_eq_false y) ⟨p,rs,wss,rfl,hp,pr,hb,l1,by omega,sH⟩
  clear hp pr hb l1 l2 sH hw;rintro σ' H6 ⟨p,rs,wss,rfl,hp,pr,hb,l1,l2,sH⟩;have lr:=pr.len;obtain⟨v,ev,hv⟩:=zb2 (xs:=rs) (d:=cell%(rs.length:Int)) (emod_nonneg _ (by omega)) (emod_lt_of_pos _ (by omega));obtain⟨q,ws,rfl,hws,hq⟩:=pr.mem hv;obtain⟨bd,jo⟩:=zaO (hb ws hws);refine⟨rfl,_,rfl,_,rfl,_,rfl,p,_,rfl,.inl (sO hp),_,_,rfl,rfl,(by show(0:Int)<(rs.length:Int);omega),p,_,_,_,rfl,rfl,sO hp,ev,_,q,ws,rfl,rfl,sO hq,jo,?_⟩;exact k _ _ bd (s1.trans (s2.trans (s3.trans (s4.trans (s5.trans sH)))))
theorem VN{w:Str}(h:20<w.length):ub w=none:=by
 unfold ub;by_cases a:ua w=true
 ·rw[if_pos a]
  by_cases b:Txt.startswith w "-" = true
  ·rw[if_pos b]
  ·rw[if_neg b,if_neg (by omega)]
 ·rw[if_neg a]
theorem VM{w:Str}{n:Int}(h:ub w=some n):w.cps.toList.all Yb=true/\w ≠ "" /\ (w = "0" \/ Txt.startswith w "0" = false):=by
 unfold ub at h;by_cases a:ua w=true
 case neg=>rw[if_neg a] at h;cases h
 rw[if_pos a] at h;by_cases b:Txt.startswith w "-" = true
 case pos=>rw[if_pos b] at h;cases h
 have e:yN w=w:=by unfold yN;rw[if_neg b]
 unfold ua WZ at a;rw[e,and_eq_true,and_eq_true,or_eq_true,decide_eq_true_eq,decide_eq_true_eq,not_eq_true'] at a;exact⟨a.1,a.2.1,a.2.2⟩
theorem vM:∀ {ws:List Str}{ns:LI},numsS ws=some ns->ns.length=ws.length
 |[],ns,h=>by cases h;rfl
 |w::ws,ns,h=>by
  unfold numsS at h;obtain⟨n,_,h⟩:=Option.bind_eq_some_iff.mp h;obtain⟨l,hl,rfl⟩:=map_eq_some_iff.mp h;rw[length_cons,length_cons,vM hl]
def FB(f:Str)(us:List Str):Prop:=(∃ w∈us,ub w=none)\/(inV (.str f) (pairsL.map V.str)=true/\us.length≠2)\/(inV (.str f) (pairsL.map V.str)=false/\¬(f = "hands" /\ us≠[])/\¬(f = "rounds" /\ us.length=1))
theorem zcv:∀ k∈kindsL,k = "hands" \/ inV (.str k) (pairsL.map V.str)=true\/k = "rounds" \/ k∈progWs:=by decide +kernel
theorem FB.no{f:Str}{us:List Str}(h:FB f us)(hf:f∉progWs):VY (f::us)=none:=by
 unfold VY;dsimp only;by_cases h1:inV (.str f) (kindsL.map V.str)=true
 case neg=>exact if_neg h1
 rw[if_pos h1];by_cases h2:f = "hands"
 ·rw[if_pos h2]
  rcases h with⟨w,hw,hn⟩ | ⟨p,_⟩ | ⟨_,p,_⟩
  ·rw[xA hn hw]
  ·rw[h2] at p;exact absurd p (by decide +kernel)
  ·cases us with
   |nil=>rfl
   |cons u us=>exact absurd ⟨h2,cons_ne_nil _ _⟩ p
 rw[if_neg h2];by_cases h3:inV (.str f) (pairsL.map V.str)=true
 ·rw[if_pos h3]
  rcases h with⟨w,hw,hn⟩ | ⟨_,p⟩ | ⟨p,_⟩
  ·rw[xA hn hw]
  ·cases e:numsS us with
   |none=>rfl
   |some ns =>
    have:=vM e
    match ns,this with
    |[],_=>rfl
    |[_],_=>rfl
    |[_,_],this=>exact absurd this.symm p
    |_::_::_::_,_=>rfl
  ·rw[h3] at p;cases p
 rw[if_neg h3];by_cases h4:f = "rounds"
 ·rw[if_pos h4]
  rcases h with⟨w,hw,hn⟩ | ⟨p,_⟩ | ⟨_,_,p⟩
  ·rw[xA hn hw]
  ·rw[p] at h3;exact absurd rfl h3
  ·cases e:numsS us with
   |none=>rfl
   |some ns =>
    have:=vM e
    match ns,this with
    |[],_=>rfl
    |[_],this=>exact absurd ⟨h4,this.symm⟩ p
    |_::_::_,_=>rfl
 ·rcases zcv f (Zm h1) with z | z | z | z
  ·exact absurd z h2
  ·exact absurd z h3
  ·exact absurd z h4
  ·exact absurd z hf
noncomputable def sgL(x:Str)(p c d:Nat):List Nat:=x.cps.toList.take p++[c]++x.cps.toList.drop (p+d)
noncomputable abbrev l4:List (List Nat):=[[115,116,97],[115,101,110],[119,104,101],[114,101,99]]
theorem zcP:∀ f∈progWs,f.cps.toList.take 3∈l4/\3<=f.cps.toList.length:=by decide +kernel
noncomputable abbrev VO:List Str:=["hands", "line", "parent", "bridge", "rounds"]
theorem zcO:∀ f∈VO,f.cps.toList.take 4∈([[104,97,110,100],[108,105,110,101],[112,97,114,101],[98,114,105,100],[114,111,117,110]]:List (List Nat))/\4<=f.cps.toList.length:=by decide +kernel
theorem X1:∀ {s p:List Nat}{ps:List (List Nat)},Zv s=p::ps->p <+: s
 |[],p,ps,h=>by
  unfold Zv at h;cases h;exact List.nil_prefix
 |c::s,p,ps,h=>by
  unfold Zv at h;by_cases e:c=32
  ·rw[if_pos e] at h
   cases h;exact List.nil_prefix
  ·rw[if_neg e] at h
   cases q:Zv s with
   |nil=>exact absurd q (cutB_ne s)
   |cons p' ps' =>
    rw[q] at h;cases h;exact List.cons_prefix_cons.mpr ⟨rfl,X1 q⟩
theorem ZE{x f:Str}{us:List Str}(h:Txt.split x " " = f::us):f.cps.toList <+: x.cps.toList:=by
 rw[vz] at h;cases e:Zv x.cps.toList with
 |nil=>rw[e] at h;cases h
 |cons p ps =>
  rw[e,map_cons] at h;injection h with h1 _;rw[<- h1];exact X1 e
theorem Xk{a b:List Nat}{n:Nat}(h:a <+: b)(hn:n<=a.length):b.take n=a.take n:=by
 obtain⟨r,rfl⟩:=h;rw[List.take_append_of_le_length hn]
theorem zfq{x:Str}{p c d:Nat}(h:x.cps.toList.take 4∈([[104,97,110,100],[108,105,110,101],[112,97,114,101],[98,114,105,100],[114,111,117,110]]:List (List Nat)))(hd:d<=1):(sgL x p c d).take 3∉l4:=by
 unfold sgL
 match hx:x.cps.toList,h with
 |a0::a1::a2::a3::r,h =>
  have h:[a0,a1,a2,a3]∈([[104,97,110,100],[108,105,110,101],[112,97,114,101],[98,114,105,100],[114,111,117,110]]:List (List Nat)):=h;have hd:d=0\/d=1:=by omega
  simp only[mem_cons,not_mem_nil,or_false,List.cons.injEq,and_true] at h
  match p with
  |0 =>
   rcases hd with rfl | rfl
   ·show[c,a0,a1]∉l4
    rcases h with⟨rfl,rfl,rfl,rfl⟩ | ⟨rfl,rfl,rfl,rfl⟩ | ⟨rfl,rfl,rfl,rfl⟩ | ⟨rfl,rfl,rfl,rfl⟩ | ⟨rfl,rfl,rfl,rfl⟩<;>simp
   ·show[c,a1,a2]∉l4
    rcases h with⟨rfl,rfl,rfl,rfl⟩ | ⟨rfl,rfl,rfl,rfl⟩ | ⟨rfl,rfl,rfl,rfl⟩ | ⟨rfl,rfl,rfl,rfl⟩ | ⟨rfl,rfl,rfl,rfl⟩<;>simp
  |1 =>
   rcases hd with rfl | rfl
   ·show[a0,c,a1]∉l4
    rcases h with⟨rfl,rfl,rfl,rfl⟩ | ⟨rfl,rfl,rfl,rfl⟩ | ⟨rfl,rfl,rfl,rfl⟩ | ⟨rfl,rfl,rfl,rfl⟩ | ⟨rfl,rfl,rfl,rfl⟩<;>simp
   ·show[a0,c,a2]∉l4
    rcases h with⟨rfl,rfl,rfl,rfl⟩ | ⟨rfl,rfl,rfl,rfl⟩ | ⟨rfl,rfl,rfl,rfl⟩ | ⟨rfl,rfl,rfl,rfl⟩ | ⟨rfl,rfl,rfl,rfl⟩<;>simp
  |2 =>
   show[a0,a1,c]∉l4;rcases h with⟨rfl,rfl,rfl,rfl⟩ | ⟨rfl,rfl,rfl,rfl⟩ | ⟨rfl,rfl,rfl,rfl⟩ | ⟨rfl,rfl,rfl,rfl⟩ | ⟨rfl,rfl,rfl,rfl⟩<;>simp
  |p+3 =>
   show[a0,a1,a2]∉l4;rcases h with⟨rfl,rfl,rfl,rfl⟩ | ⟨rfl,rfl,rfl,rfl⟩ | ⟨rfl,rfl,rfl,rfl⟩ | ⟨rfl,rfl,rfl,rfl⟩ | ⟨rfl,rfl,rfl,rfl⟩<;>simp
 |[],h=>simp at h
 |[_],h=>simp at h
 |[_,_],h=>simp at h
 |[_,_,_],h=>simp at h
theorem Vn{x y f:Str}{us:List Str}{p c d:Nat}(h:RdW x f us)(hf:f∈VO)(hc:32<=c/\c<127)(hd:d<=1)(hy:y.cps.toList=sgL x p c d):Row y/\∀ k vs,Txt.split y " " = k::vs->FB k vs->wf (xu y) y=none:=by
 have hx:∀ e∈x.cps.toList,32<=e/\e<127:=fun e he=>by
  rw[<- h.jn,yT] at he;rcases mem_join he with z | ⟨w,hw,z⟩
  ·have:e=32:=by simpa using z
   omega
  ·have:=(h.wd w hw).1 e z
   omega
 have hl:x.cps.toList.length<=800:=by
  rw[length_toList,<- h.jn,yT];have:=Zj (c:=32) (B:=70) (ws:=f::us) (fun w hw=>(h.wd w hw).2);have hn:=h.len;rw[length_cons] at this;exact le_trans this (by omega)
 have hy2:∀ e∈y.cps.toList,32<=e/\e<127:=fun e he=>by
  rw[hy] at he;unfold sgL at he;rcases mem_append.mp he with he | he
  ·rcases mem_append.mp he with he | he
   ·exact hx e (mem_of_mem_take he)
   ·rw[mem_singleton.mp he];exact hc
  ·exact hx e (mem_of_mem_drop he)
 have hyl:y.cps.toList.length<=x.cps.toList.length+1:=by
  rw[hy];unfold sgL;rw[length_append,length_append,length_take,length_drop];show min p _+1+_<=_;omega
 have hyl':y.length<=801:=by rw[length_toList] at hyl;exact le_trans hyl (by omega)
 refine⟨⟨⟨by omega,fun w hw=>⟨Xb fun e he=>?_,?_⟩,?_⟩,fun z=>?_,by omega⟩,fun k vs hs fb=>?_⟩
 ·have:=hy2 e ((ZF hw).1.subset he)
  omega
 ·have:=(ZF hw).1.length_le
  rw[length_toList,length_toList] at this;exact le_trans this (le_trans hyl' (by decide))
 ·rw[vz,length_map,X2]
  have:=List.count_le_length (a:=32) (l:=y.cps.toList);rw[length_toList] at this;have e:y.length=y.cps.size:=rfl;omega
 ·have:=hy2 10 z
  omega
 ·obtain⟨e1,e2⟩:=XN hs
  rw[e2];refine fb.no fun hk=>?_;obtain⟨q1,q2⟩:=zcP k hk;have p1:=Xk (ZE hs) q2;rw[hy] at p1;obtain⟨q3,q4⟩:=zcO f hf;have p2:=Xk (ZE h.sp) q4;rw[<- p2] at q3;exact zfq q3 hd (by rw[p1];exact q1)
def signs93:Str := " !\"#$&'()*+,-./0123456789:;<=>?@ABCDEFGHIJKLMNOPQRSTUVWXYZ[\\]^_`abcdefghijklmnopqrstuvwxyz{|}~"
theorem UU:signs93.cps.toList.length=94/\signs93.cps.toList.all (fun c=>decide (32<=c/\c<127))=true:=by decide +kernel
theorem zfE{ns:List Nat}{d:Int}(h0:0<=d)(h1:d<ns.length):∃ c∈ns,atI ns d=some c:=by
 obtain⟨n,rfl⟩:∃ n:Nat,d=n:=⟨d.toNat,by omega⟩;have hn:n<ns.length:=by omega
 exact⟨ns[n],getElem_mem hn,zN (by simp[hn])⟩
theorem Y8(x y:Str):(x++y).cps.toList=x.cps.toList++y.cps.toList:=by
 show(x.cps++y.cps).toList=_;simp
def Xp:Sp:=fun vs H Q _=>∃ (x:Str) (cell:Int),vs=[.str x,.int cell]/\x.length<=10000/\∀ (y:Str) (p c d:Nat),(32<=c/\c<127)->d<=1->y.cps.toList=sgL x p c d->Q (.str y) H
theorem VG(T:Txt w K mg a):FnOk P w K mg base CX0 1 748 (dK K 748) ["_law_row_here", "_law_cell"] Xp:=by
 refine(T.fn 35 rfl).ok (scp 35 rfl) (fun vs H Q E h=>?_) (fun cdv A outer s H vs Q E hr h=>?_)
 ·obtain⟨x,cell,rfl,_⟩:=h
  rfl
 ·obtain⟨x,cell,rfl,hl,k⟩:=h
  have e2':sizeLine=16777216:=rfl;refine zR (zd (zr (i:=2) (scp 35 rfl).nd rfl (Or.inl rfl) zi)
   (zd (zr (i:=3) (scp 35 rfl).nd rfl (Or.inl rfl) (zk yS (zk yD (zj 1) zg) (zk yA (zq xZ (by rfl) (T.n 0 rfl) yf (zh (zj 0) zb)) zg)))
   (zd (zr (i:=4) (scp 35 rfl).nd rfl (Or.inl rfl) (zw zbq (zj 2) (zk yS (zj 1) zg) (fun _ _=>rfl)))
   (ze (zm (zk zW (zk zW (zA Xs (zj 0) zD (w_po_some (zj 3))) (zj 4)) (zA Xs (zj 0) (w_po_some (zk yA (zj 3) (zk yS (zk yD (zj 1) zg) zg))) zD))))))) ?_
  refine⟨_,rfl,_,_,rfl,rfl,⟨by decide,by decide⟩,_,rfl,x,rfl,by omega,_,_,rfl,rfl,_,_,rfl,rfl,(by show(0:Int)<(x.length:Int)+1;omega),?_⟩;obtain⟨p,ep⟩:∃ p:Nat,cell/94%((x.length:Int)+1)=p:=⟨(cell/94%((x.length:Int)+1)).toNat,by have:=emod_nonneg (cell/94) (show(x.length:Int)+1≠0 by omega);omega⟩;obtain⟨s1,s2⟩:=UU;obtain⟨c,hc,ec⟩:=zfE (ns:=signs93.cps.toList) (d:=cell%94) (emod_nonneg _ (by decide)) (by rw[s1];exact emod_lt_of_pos _ (by decide));refine⟨_,rfl,_,rfl,_,_,rfl,rfl,(show(0:Int)<94 by decide),signs93,_,c,rfl,rfl,by decide +kernel,ec,?_⟩;obtain⟨d,ed⟩:∃ d:Nat,cell/9400%2=d:=⟨(cell/9400%2).toNat,by have:=emod_nonneg (cell/9400) (show(2:Int)≠0 by decide);omega⟩;have d1:d<=1:=by have:=emod_lt_of_pos (cell/9400) (show(0:Int)<2 by decide);omega
  have t1:=US x p;have t2:=UT x (p+d);refine⟨_,rfl,_,rfl,_,rfl,x,rfl,by omega,_,rfl,_,_,rfl,rfl,?_,?_⟩
  ·rw[ep]
   have:=congrArg List.length t1;rw[length_toList,length_take,length_toList] at this;have e:(Txt.slice x none (some (p:Int))).length=(Txt.slice x none (some (p:Int))).cps.size:=rfl;have e3:x.length=x.cps.size:=rfl;show(Txt.slice x none (some (p:Int))).length+1<=sizeLine;omega
  ·refine⟨_,rfl,_,rfl,_,rfl,_,_,rfl,rfl,⟨by decide,by decide⟩,_,_,rfl,rfl,(show(0:Int)<2 by decide),_,_,rfl,rfl,_,rfl,x,rfl,by omega,_,_,rfl,rfl,?_,?_⟩
   ·rw[ep,ed,show(p:Int)+(d:Int)=((p+d:Nat):Int) by omega]
    have h1:=congrArg List.length t1;have h2:=congrArg List.length t2;rw[length_toList,length_take,length_toList] at h1;rw[length_toList,length_drop,length_toList] at h2;rw[zgt];have e:(Txt.slice x none (some (p:Int))).length=(Txt.slice x none (some (p:Int))).cps.size:=rfl;have e1:(Txt.slice x (some ((p+d:Nat):Int)) none).length=(Txt.slice x (some ((p+d:Nat):Int)) none).cps.size:=rfl;have e3:x.length=x.cps.size:=rfl;have e4:(⟨#[c]⟩:Str).length=1:=rfl;omega
   ·rw[ep,ed,show(p:Int)+(d:Int)=((p+d:Nat):Int) by omega]
    refine k _ p c d (of_decide_eq_true (all_eq_true.mp s2 c hc)) d1 ?_;rw[Y8,Y8,t1,t2];rfl
def Vh:Sp:=fun vs H Q _=>∃ (y f:Str) (us:List Str),vs=[.str y]/\Row y/\Txt.split y " " = f::us/\∀ (b:Bool) H',(b=false->FB f us)->Same H H'->Q (.bl b) H'
theorem zce(T:Txt w K mg a):FnOk P w K mg base CX0 1 741 (dK K 741) ["_law_row_here"] Vh:=by
 refine(T.fn 34 rfl).ok (scp 34 rfl) (fun vs H Q E h=>?_) (fun cdv A outer s H vs Q E hr h=>?_)
 ·obtain⟨y,f,us,rfl,_⟩:=h
  rfl
 ·obtain⟨y,f,us,rfl,hR,hs,k⟩:=h
  refine zR (zd (zr (i:=1) (scp 34 rfl).nd rfl (Or.inl rfl) (zY F.plainAttrs_str F.slot_str_split F.type_str_split xF (zj 0) (zy zi zb)))
   (zd (yt PassesOwn.never rfl (yE (zA zQ (zj 1) (w_po_some zg) zD)) (zE (i:=2) (scp 34 rfl).nd rfl (Or.inl rfl))
    (zd (zv (uc (yP (zp yX (zj 2) zi (zB _)) (yP (zp u8 (zq xZ (by rfl) (T.n 0 rfl) yf (zh (zj 2) zb)) zg (zB _)) (yR (zp (zbe zd4 zd5) (yF rfl (N':=["_law_sign"]) (t:=1) (caps:=[]) ⟨rfl,rfl,rfl⟩ (Xg (zj 2)) (fun _=>(zE (i:=0) (show(["_law_sign"]:List Str).Nodup by decide +kernel) rfl (Or.inl rfl))) (fun _=>(Zx (zp ZU (zj 0) zi (by with_unfolding_all rfl)))) (fun _=>(zj 0))) (zt zb) (zB _))))))
     (ze (zm zM))
     zo)
    (ze (zv (uc (yB (zp yX (zw zbq (zj 2) zg (fun _ _=>rfl)) zi (zB _)) (yw (zp wv (zj 2) zi (zB _)))))
     (ze (zm zM))
     zo))))
   (zd (zv (zp yv (zw zC (zj 1) zg (fun _ _=>rfl)) (zt (zy zi (zy zi (zy zi zb)))) (by with_unfolding_all rfl))
    (ze (zm (zO yX (zq zx (by rfl) (T.n 0 rfl) yf (zh (zj 1) zb)) zg (zB _))))
    zo)
   (ze (zm (WM (yp (zO yX (zw zC (zj 1) zg (fun _ _=>rfl)) zi (zB _)) (yo (zO u8 (zq zx (by rfl) (T.n 0 rfl) yf (zh (zj 1) zb)) zg (zB _)))) (yo (yp (zO yX (zw zC (zj 1) zg (fun _ _=>rfl)) zi (zB _)) (yo (zO yX (zq zx (by rfl) (T.n 0 rfl) yf (zh (zj 1) zb)) zg (zB _))))))))))) ?_
  have hl:=hR.len;obtain⟨_,hasc,hcnt⟩:=hR.fit;rw[hs] at hcnt hasc;rw[length_cons] at hcnt;have hpt:=xm y " ";have e2':sizeLine=16777216:=rfl;refine⟨_,rfl,rfl,_,_,rfl,rfl,(by decide +kernel),(by omega),(by rw[hs];simp;omega),(by omega),fun pw hpw=>?_⟩;rw[hs];generalize hE:L2.upd H pw _=H1;obtain⟨hw1,s1⟩:=al hE hpw;clear hE;refine⟨_,rfl,_,rfl,pw,_,rfl,sO hw1,fun pu hpu=>?_⟩;rw[show uj ((f::us).map V.str) (some 1) none=us.map V.str by rw[map_cons];exact ze7];generalize hE:L2.upd H1 pu _=H2;obtain⟨hu2,s2⟩:=al hE hpu;clear hE;refine⟨pu,rfl,⟨_,sO hu2⟩,?_⟩;refine for_list (K:=K) (a:=pu) (xs:=us.map V.str) (fun i σ H'=>∃ o,σ=[some (.str y),some (.ref pw),o]/\Same H2 H') ?_ ?_ ?_ ?_
  ·exact⟨none,rfl,sR _⟩
  ·rintro i σ H' _ ⟨o,_,s'⟩
   exact sO (s' _ _ hu2)
  ·rintro i v σ H' hi ⟨o,rfl,s'⟩
   rw[List.getElem?_map] at hi;obtain⟨z,hz,rfl⟩:=map_eq_some_iff.mp hi;have hzm:=mem_of_getElem? hz;obtain⟨za,zl⟩:=hasc z (mem_cons_of_mem _ hzm);have bad:∀ H3,Same H' H3->ub z=none->Q (.bl false) H3:=fun H3 s3 hn=>k false H3 (fun _=>.inl ⟨z,hzm,hn⟩) (s1.trans (s2.trans (s'.trans s3)));refine⟨_,rfl,rfl,_,rfl,?_⟩;rw[yk];by_cases y1:z = ""
   ·refine zZ (decide_eq_true y1) (zZ rfl ?_)
    exact bad _ (sR _) (by rw[y1];decide +kernel)
   refine iZ (decide_eq_false y1) ?_;refine⟨_,rfl,z,rfl,zl,_,_,rfl,rfl,_,rfl,?_⟩;by_cases y2:20<z.length
   ·refine zZ (decide_eq_true (by show(20:Int)<z.length;omega)) (zZ rfl ?_)
    exact bad _ (sR _) (VN y2)
   refine iZ (decide_eq_false (by show ¬(20:Int)<z.length;omega)) ?_;have units:(A.deeper (PyProof.Rows.envOfC "_law_form" (defScope (top 73)) s.heap.objs.size 741 cdv)).units+0+2<cLine:=lt_of_le_of_lt (Nat.add_le_add_left (by decide) _) hr.units;refine⟨_,rfl,z,rfl,za,fun D hD _=>?_⟩;refine zaK (x:=z) (fun i zs τ H3=>∃ o,τ=[o]/\H3 D=some (.lst zs)/\Same H' H3/\zs.length<=i/\i<=z.cps.toList.length/\(zs≠[]->∃ c∈z.cps.toList,Yb c=false)) ?_ ?_ ?_
   ·exact⟨none,rfl,upd_same,sW hD,by simp,by omega,fun h=>absurd rfl h⟩
   ·rintro i c zs τ H3 hc ⟨o,rfl,hD3,s3,hzl,hil,hzs⟩
    have hil':=(List.getElem?_eq_some_iff.mp hc).1;refine⟨_,rfl,_,_,rfl,rfl,_,rfl,?_⟩;rw[contains_one];by_cases q:Yb c=true
    ·exact iZ (by show(!(decide (c∈_)))=false;rw[show decide _=true from q];rfl) ⟨_,rfl,hD3,s3,by omega,hil',hzs⟩
    ·refine zZ (by show(!(decide (c∈_)))=true;rw[show decide _=false from eq_false_iff.mpr q];rfl) ?_
     refine⟨_,rfl,hD3,?_,_,rfl,upd_same,s3.updF hD,by rw[length_append];show _+1<=_;omega,hil',fun _=>⟨c,mem_of_getElem? hc,eq_false_iff.mpr q⟩⟩;rw[length_toList] at hil';have e3:z.length=z.cps.size:=rfl;omega
   rintro zs τ H3 ⟨o,rfl,hD3,s3,_,_,hzs⟩;refine⟨by show 0<=sizeLine;decide,fun pe hpe=>?_⟩;generalize hE:L2.upd H3 pe _=H4;obtain⟨g4,s4⟩:=al hE hpe;clear hE;have s34:=s3.trans s4;cases zs with
   |cons q0 zs =>
    refine .inr ⟨D,pe,q0::zs,[],rfl,rfl,sO (s4 _ _ hD3),sO g4,(by simp),hr.units0,?_⟩;refine⟨_,rfl,zZ rfl ?_⟩;refine bad _ s34 ?_;obtain⟨c,hc,hf⟩:=hzs (cons_ne_nil _ _);cases e:ub z with
    |none=>rfl
    |some n =>
     have:=all_eq_true.mp (VM e).1 c hc;rw[hf] at this;cases this
   |nil =>
    refine .inl ⟨D,pe,[],[],fun _=>true,0,rfl,rfl,.inl ⟨sO (s4 _ _ hD3),sO g4⟩,rfl,units,fun j x y h=>(by simp at h),?_⟩;refine⟨_,rfl,iZ rfl ?_⟩;obtain⟨c,r,hcr⟩:∃ c r,z.cps.toList=c::r:=by
     cases e:z.cps.toList with
     |nil=>exact absurd (wP (y := "") (by rw[e];rfl)) y1
     |cons c r=>exact⟨c,r,rfl⟩
    refine⟨_,rfl,z,0,c,rfl,rfl,zl,by rw[hcr];exact zN (j:=0) rfl,rfl,_,rfl,?_⟩;rw[yk];by_cases y3:(⟨#[c]⟩:Str) = "0"
    ·refine zZ (decide_eq_true y3) ?_
     refine⟨_,rfl,rfl,_,rfl,?_⟩;rw[yk];by_cases y4:z = "0"
     ·exact iZ (by rw[decide_eq_true y4];rfl) ⟨_,rfl,s'.trans s34⟩
     ·refine zZ (by rw[decide_eq_false y4];rfl) ?_
      refine bad _ s34 ?_;cases e:ub z with
      |none=>rfl
      |some n =>
       rcases(VM e).2.2 with z1 | z1
       ·exact absurd z1 y4
       ·rw[<- y3,wQ,hcr] at z1
        simp at z1
    ·exact iZ (decide_eq_false y3) (iZ rfl ⟨_,rfl,s'.trans s34⟩)
  ·rintro σ H3 ⟨o,rfl,s3⟩
   have s03:=s1.trans (s2.trans s3);have hw3:=(s2.trans s3) _ _ hw1;have at0:atI ((f::us).map V.str) 0=some (.str f):=zN (j:=0) rfl;refine⟨_,rfl,pw,_,0,_,rfl,rfl,sO hw3,at0,by show 3<=sizeLine;decide,fun q hq=>?_⟩;generalize hE:L2.upd H3 q _=H4;obtain⟨g4,s4⟩:=al hE hq;clear hE;have g4:H4 q=some (.lst (pairsL.map V.str)):=g4;have hw4:=s4 _ _ hw3;have s04:=s03.trans s4;refine⟨q,_,rfl,.inl (sO g4),rfl,flat_strs pairsL,_,rfl,?_⟩;by_cases y1:inV (.str f) (pairsL.map V.str)=true
   ·refine zZ y1 ?_
    refine⟨_,rfl,pw,_,rfl,.inl (sO hw4),rfl,?_⟩;refine k _ _ (fun hb=>.inr (.inl ⟨y1,fun hn=>?_⟩)) s04;rw[length_map,length_cons,hn] at hb;cases hb
   ·refine iZ (by rw[not_eq_true] at y1;exact y1) ?_
    have y1:inV (.str f) (pairsL.map V.str)=false:=by rw[not_eq_true] at y1;exact y1
    have fin:¬(f = "hands" /\ us≠[])->tAndV (tOp rEq (tOp (za8 K) (yV 1) (tC (V.int 0))) (tC (V.str "rounds"))) (tOp rEq (tCB (fun xs H Q=>∃ p ys,xs=[V.ref p]/\(SqL K H p ys\/SqT K H p ys)/\Q (V.int ys.length) H) (yr (yV 1) wN)) (tC (V.int 2))) [some (V.str y),some (V.ref pw),o] H4 Q:=fun nh=>by
     refine⟨_,rfl,pw,_,0,_,rfl,rfl,sO hw4,at0,rfl,_,rfl,?_⟩;rw[yk];by_cases y3:f = "rounds"
     ·refine zZ (decide_eq_true y3) ?_
      refine⟨_,rfl,pw,_,rfl,.inl (sO hw4),rfl,?_⟩;refine k _ _ (fun hb=>.inr (.inr ⟨y1,nh,fun hn=>?_⟩)) s04;rw[length_map,length_cons,hn.2] at hb;cases hb
     ·exact iZ (decide_eq_false y3) (k _ _ (fun _=>.inr (.inr ⟨y1,nh,fun hn=>y3 hn.1⟩)) s04)
    refine⟨_,rfl,pw,_,0,_,rfl,rfl,sO hw4,at0,rfl,_,rfl,?_⟩;rw[yk];by_cases y2:f = "hands"
    ·refine zZ (decide_eq_true y2) ?_
     refine⟨_,rfl,pw,_,rfl,.inl (sO hw4),_,_,rfl,rfl,_,rfl,?_⟩;rw[length_map,length_cons];by_cases y3:us=[]
     ·refine iZ (by rw[y3];rfl) (fin fun z=>z.2 y3)
     ·refine zZ (decide_eq_true ?_) (k true _ (fun z=>by cases z) s04)
      have:=List.length_pos_iff.mpr y3;show(1:Int)<((us.length+1:Nat):Int);omega
    ·exact iZ (decide_eq_false y2) ⟨_,rfl,iZ rfl (fin fun z=>y2 z.1)⟩
section
variable {σ:St}{H0:Hp}{ws:List Str}{x:Str}{i j:Nat}{K:W.Frag}
theorem Ud{p:Addr}{m:Nat}(hs:σ[i]?=some (some (.ref p)))(hp:H0 p=some (.lst (ws.map V.str)))(ht:σ[j]?=some (some (.int (m:Int))))(hj:ws[m]?=some x):GvX σ H0 (tOp (za8 K) (yV i) (yV j)) x:=fun H s Q k =>
 ⟨_,hs,_,ht,p,_,_,_,rfl,rfl,sO (s _ _ hp),zN (by rw[List.getElem?_map,hj];rfl),k H (sR H)⟩
theorem zeH{p:Addr}{m:Nat}(hs:σ[i]?=some (some (.ref p)))(hp:H0 p=some (.lst (ws.map V.str)))(ht:σ[j]?=some (some (.int ((m+1:Nat):Int))))(hj:ws[m]?=some x):GvX σ H0 (tOp (za8 K) (yV i) (tOp (rI0 fun i j=>.int (i-j)) (yV j) (tC (.int 1)))) x:=fun H s Q k =>
 ⟨_,hs,_,ht,_,_,rfl,rfl,p,_,_,_,rfl,rfl,sO (s _ _ hp),by rw[show(((m+1:Nat):Int)-1)=((m:Nat):Int) by omega];exact zN (by rw[List.getElem?_map,hj];rfl),k H (sR H)⟩
theorem zcF{k:Int}{j:Int}(hs:σ[i]?=some (some (.int k))):GvO σ H0 (vv (tOp (rI0 fun i j=>.int (i-j)) (yV i) (tC (.int j)))) (some (k-j)):=fun H _ Q q=>⟨_,hs,_,_,rfl,rfl,_,rfl,q H (sR H)⟩
theorem zda{R:List Str}{n:Nat}{k:Int}(e:k=(n:Int)):uj (R.map V.str) none (some k)=(R.take n).map V.str:=by rw[e,cut_to,map_take]
theorem zdb{R:List Str}{n:Nat}{k:Int}(e:k=(n:Int)):uj (R.map V.str) (some k) none=(R.drop n).map V.str:=by rw[e,vk,map_drop]
end
structure Mv (R Rs:List Str) (i:Nat):Prop where
 nt:NT Rs i
 mem:∀ x∈Rs,x∈R\/x = ""
 ne:Rs≠[]
 len:Rs.length<=25
theorem zbi:wf (xu "") "" = none:=by decide +kernel
theorem zep{p:Nat×Int}{r:Int}(hp:p∈mcs):10<=(zV p.1 p.2 r).length/\(zV p.1 p.2 r).length<=19:=by
 have:=zeo p hp;unfold zV;rw[length_append];show 10<=_+1/\_+1<=19;omega
def Ve:Sp:=fun vs H Q _=>∃ (pr:Addr) (cell:Int) (p:Nat×Int) (r:Nat),vs=[.ref pr,.int cell]/\p∈mcs/\r<=40/\H pr=some (.lst ((zV p.1 p.2 r).map V.str))/\∀ (t q:Addr) (Rs:List Str) (i:Nat) H',Mv (zV p.1 p.2 r) Rs i->H' t=some (.tup [.ref q,.int i])->H' q=some (.lst (Rs.map V.str))->Same H H'->Q (.ref t) H'
theorem U9(T:Txt w K mg a):FnOk P w K mg base CX0 1 762 (dK K 762) ["_law_rows_here", "_law_cell"] Ve:=by
 refine(T.fn 37 rfl).ok (scp 37 rfl) (fun vs H Q E h=>?_) (fun cdv A outer s H vs Q E hr h=>?_)
 ·obtain⟨pr,cell,p,r,rfl,_⟩:=h
  rfl
 ·obtain⟨pr,cell,p,r,rfl,hp,hr40,hpr,k⟩:=h
  refine zR (zd (zr (i:=2) (scp 37 rfl).nd rfl (Or.inl rfl) (zk yS (zj 1) (zq zx (by rfl) (T.n 0 rfl) yf (zh (zj 0) zb))))
   (zd (zr (i:=3) (scp 37 rfl).nd rfl (Or.inl rfl) (zk yS (zk yD (zj 1) zg) zg))
   (zd (zr (i:=4) (scp 37 rfl).nd rfl (Or.inl rfl) (zw zC (zY F.plainAttrs_str F.slot_str_split F.type_str_split xF (zw zC (zj 0) (zj 2) (fun _ _=>rfl)) (zy zi zb)) zg (fun _ _=>rfl)))
   (zd (zv (zp yX (zj 3) zg (zB _))
    (ze (zm (yC (zU (zk zL (zk zL (zA zQ (zj 0) zD (w_po_some (zk yA (zj 2) zg))) (zt (zn (zw zC (zj 0) (zj 2) (fun _ _=>rfl)) zb))) (zA zQ (zj 0) (w_po_some (zk yA (zj 2) zg)) zD)) (zU (zk yA (zj 2) zg) zb)))))
    zo)
   (zd (zv (zp yX (zj 3) zg (zB _))
    (ze (zm (yC (zU (zk zL (zj 0) (zt (zn (zw zC (zj 0) (zj 2) (fun _ _=>rfl)) zb))) (yj (zq zx (by rfl) (T.n 0 rfl) yf (zh (zj 0) zb)) zb)))))
    zo)
   (zd (zv (uc (yB (zp yX (zj 3) zg (zB _)) (yw (zp xS (zj 4) (zt (zy zi (zy zi (zy zi zb)))) (by with_unfolding_all rfl)))))
    (ze (zm (yC (zU (zk zL (zA zQ (zj 0) zD (w_po_some (zj 2))) (zA zQ (zj 0) (w_po_some (zk yA (zj 2) zg)) zD)) (zU (zk wj (zq zx (by rfl) (T.n 0 rfl) yf (zh (zj 0) zb)) zg) zb)))))
    zo)
   (zd (zv (uc (yB (zp yX (zj 3) zg (zB _)) (yw (zp u8 (zj 2) zg (zB _)))))
    (ze (zm (yC (zU (zk zL (zk zL (zA zQ (zj 0) zD (w_po_some (zk wj (zj 2) zg))) (zt (zn (zw zC (zj 0) (zj 2) (fun _ _=>rfl)) (zn (zw zC (zj 0) (zk wj (zj 2) zg) (fun _ _=>rfl)) zb)))) (zA zQ (zj 0) (w_po_some (zk yA (zj 2) zg)) zD)) (zh (zj 2) zb)))))
    zo)
   (ze (zm (yC (zU (zk zL (zk zL (zA zQ (zj 0) zD (w_po_some (zj 2))) (zt (zy zi zb))) (zA zQ (zj 0) (w_po_some (zj 2)) zD)) (zh (zj 2) zb)))))))))))) ?_
  have e2':sizeLine=16777216:=rfl;obtain⟨n10,n19⟩:=zep (r:=(r:Int)) hp;have hrd:∀ x∈zV p.1 p.2 r,rdW x=true:=fun x hx=>zdU hp hr40 hx;have t0:=@zhf p r hp hr40;have t1:=@zhe p r hp hr40;have t2:=@zhd p r hp hr40;have t3:=@zhc p r hp hr40;have tb:=@zbh p r hp hr40;generalize hR:zV p.1 p.2 r=R at *;have lm:(R.map V.str).length=R.length:=length_map ..;obtain⟨m,hm,em⟩:∃ m:Nat,m<R.length/\cell%((R.map V.str).length:Int)=m:=by
   rw[lm];have h1:=emod_nonneg cell (show(R.length:Int)≠0 by omega);have h2:=emod_lt_of_pos cell (show 0<(R.length:Int) by omega);exact⟨(cell%(R.length:Int)).toNat,by omega,by omega⟩
  refine⟨_,rfl,_,rfl,pr,_,rfl,.inl (sO hpr),_,_,rfl,rfl,(by rw[lm];show(0:Int)<(R.length:Int);omega),?_⟩;refine⟨_,rfl,_,_,rfl,rfl,⟨by decide,by decide⟩,_,_,rfl,rfl,(show(0:Int)<4 by decide),?_⟩;have hx:R[m]?=some R[m]:=List.getElem?_eq_getElem hm;obtain⟨f,us,rw_⟩:=Xx (hrd _ (getElem_mem hm));generalize hxx:R[m]=x at *;have xl:=rw_.row.len;have xp:=xm x " ";have xs:=rw_.len;refine⟨_,rfl,_,rfl,pr,_,_,V.str x,rfl,rfl,sO hpr,(by show atI (R.map V.str) (cell%((R.map V.str).length:Int))=some (.str x);rw[em];exact zN (by rw[List.getElem?_map,hx];rfl)),rfl,_,_,rfl,rfl,(by decide +kernel),(by omega),(by rw[rw_.sp,length_cons];omega),(by omega),fun p4 hp4=>?_⟩;generalize hE:L2.upd H p4 _=H1;obtain⟨g4,s1⟩:=al hE hp4;clear hE;rw[rw_.sp] at g4;refine⟨p4,_,0,_,rfl,rfl,sO g4,zN (j:=0) rfl,?_⟩;have hpr1:=s1 _ _ hpr;obtain⟨wy,w4,ew⟩:∃ wy:Int,wy<4/\cell/32%4=wy:=⟨_,emod_lt_of_pos _ (by decide),rfl⟩;generalize hσ:([some (V.ref pr),some (V.int cell),some (V.int m),some (V.int wy),some (V.str f)]:St)=σ;have eσ:((((L2.start ["_law_rows_here", "_law_cell", "_law_at", "_law_way", "_law_word"] [V.ref pr,V.int cell]).set 2 (some (V.int (cell%((R.map V.str).length:Int))))).set 3 (some (V.int (cell/32%4)))).set 4 (some (V.str f)))=σ:=by rw[<- hσ,em,ew];rfl
  have σ0:σ[0]?=some (some (V.ref pr)):=by rw[<- hσ];rfl
  have σ2:σ[2]?=some (some (V.int m)):=by rw[<- hσ];rfl
  have σ3:σ[3]?=some (some (V.int wy)):=by rw[<- hσ];rfl
  have σ4:σ[4]?=some (some (V.str f)):=by rw[<- hσ];rfl
  have inR:∀ n,(∀ z∈R.take n,z∈R)/\∀ z∈R.drop n,z∈R:=fun n=>⟨fun z=>mem_of_mem_take,fun z=>mem_of_mem_drop⟩;have xR:x∈R:=mem_of_getElem? hx;have fin:∀ {Rs:List Str}{i:Nat}{q t:Addr}{H2:Hp}{n:Int},Mv R Rs i->Same H1 H2->H2 q=some (.lst (Rs.map V.str))->H2 t=none->n=(i:Int)->Q (.ref t) (upd H2 t (.tup [.ref q,.int n])):=fun {Rs i q t H2 n} mv s2 gq ht en =>
   k t q Rs i _ mv (by rw[en];exact upd_same) (sW ht _ _ gq) (s1.trans (s2.trans (sW ht)))
  show UP _ _ _ ((((L2.start ["_law_rows_here", "_law_cell", "_law_at", "_law_way", "_law_word"] [V.ref pr,V.int cell]).set 2 (some (V.int (cell%((R.map V.str).length:Int))))).set 3 (some (V.int (cell/32%4)))).set 4 (some (V.str f))) H1;rw[eσ];refine⟨_,σ3,rfl,_,rfl,?_⟩;rw[wL];by_cases y0:wy=0
  ·refine zZ (decide_eq_true y0) ?_
   refine yx (us:=R.take (m+1)++[x]) (vs:=R.drop (m+1)) (yx (yZ (gw_var σ0 hpr1) y6 (wx σ2) (zda (n:=m+1) (by omega))) (yK (ya (Ud σ0 hpr1 σ2 hx) yL) (by simp)) (by rw[length_take];show _+1<=_;omega)) (yZ (gw_var σ0 hpr1) (wx σ2) y6 (zdb (n:=m+1) (by omega))) (by rw[length_append,length_take,length_drop];show _+1+_<=_;omega) _ (sR _) _ fun q H2 s2 g2=>?_;refine⟨_,σ2,_,_,rfl,rfl,by show 2<=sizeLine;decide,fun t ht=>?_⟩;refine fin (i:=m+1) (q:=q) ⟨?_,fun z hz=>?_,by simp,by rw[length_append,length_append,length_take,length_drop];show _+1+_<=_;omega⟩ s2 g2 ht (by omega)
   ·rw[append_assoc]
    exact t0 hx
   ·rw[mem_append,mem_append,mem_singleton] at hz
    rcases hz with(hz | hz) | hz
    ·exact .inl ((inR _).1 z hz)
    ·rw[hz];exact .inl xR
    ·exact .inl ((inR _).2 z hz)
  refine iZ (decide_eq_false y0) ?_;refine⟨_,σ3,rfl,_,rfl,?_⟩;rw[wL];by_cases y1:wy=1
  ·refine zZ (decide_eq_true y1) ?_
   refine yx (us:=R) (vs:=[x]) (gw_var σ0 hpr1) (yK (ya (Ud σ0 hpr1 σ2 hx) yL) (by simp)) (by show _+1<=_;omega) _ (sR _) _ fun q H2 s2 g2=>?_;refine⟨_,σ0,pr,_,rfl,.inl (sO (s2 _ _ hpr1)),by show 2<=sizeLine;decide,fun t ht=>?_⟩;refine fin (i:=R.length) (q:=q) ⟨t1 hx,fun z hz=>?_,by simp,by rw[length_append];show _+1<=_;omega⟩ s2 g2 ht (by rw[lm]);rcases mem_append.mp hz with hz | hz
   ·exact .inl hz
   ·rw[mem_singleton.mp hz];exact .inl xR
  refine iZ (decide_eq_false y1) ?_;have els:∀ H2,Same H1 H2->zdA (ze3 (yr (tOp WB (tOp WB (tSl (za7 K) (yV 0) xN (vv (yV 2))) (UQ (yr (tC (V.str "")) wN))) (tSl (za7 K) (yV 0) (vv (yV 2)) xN)) (yr (yV 2) wN))) { nx:=fun _ H'=>Q V.non H',rt:=Q } σ H2:=fun H2 s2=>by
   refine yx (us:=R.take m++[("" : Str)]) (vs:=R.drop m) (yx (yZ (gw_var σ0 (s2 _ _ hpr1)) y6 (wY σ2) (zda rfl)) (yK (ya Zn yL) (by simp)) (by rw[length_take];show _+1<=_;omega)) (yZ (gw_var σ0 (s2 _ _ hpr1)) (wY σ2) y6 (zdb rfl)) (by rw[length_append,length_take,length_drop];show _+1+_<=_;omega) _ (sR _) _ fun q H3 s3 g3=>?_;refine⟨_,σ2,by show 2<=sizeLine;decide,fun t ht=>?_⟩;refine fin (i:=m) (q:=q) ⟨?_,fun z hz=>?_,by simp,by rw[length_append,length_append,length_take,length_drop];show _+1+_<=_;omega⟩ (s2.trans s3) g3 ht rfl
   ·rw[append_assoc]
    exact tb (le_of_lt hm) zbi
   ·rw[mem_append,mem_append,mem_singleton] at hz
    rcases hz with(hz | hz) | hz
    ·exact .inl ((inR _).1 z hz)
    ·exact .inr hz
    ·exact .inl ((inR _).2 z hz)
  have els3:∀ H2,Same H1 H2->UP (zc6 (zfj (W5 (tOp rEq (yV 3) (tC (V.int 3)))) (W5 (tOp (rI0 fun i j=>V.bl (decide (j<i))) (yV 2) (tC (V.int 0))))) (zdA (ze3 (yr (tOp WB (tOp WB (tSl (za7 K) (yV 0) xN (vv (tOp (rI0 fun i j=>V.int (i-j)) (yV 2) (tC (V.int 1))))) (UQ (yr (tOp (za8 K) (yV 0) (yV 2)) (yr (tOp (za8 K) (yV 0) (tOp (rI0 fun i j=>V.int (i-j)) (yV 2) (tC (V.int 1)))) wN)))) (tSl (za7 K) (yV 0) (vv (tOp (rI0 fun i j=>V.int (i+j)) (yV 2) (tC (V.int 1)))) xN)) (yr (yV 2) wN)))) W6) (zdA (ze3 (yr (tOp WB (tOp WB (tSl (za7 K) (yV 0) xN (vv (yV 2))) (UQ (yr (tC (V.str "")) wN))) (tSl (za7 K) (yV 0) (vv (yV 2)) xN)) (yr (yV 2) wN)))) { nx:=fun _ H'=>Q V.non H',rt:=Q } σ H2:=fun H2 s2=>by
   refine⟨_,σ3,rfl,_,rfl,?_⟩;rw[wL];by_cases y3:wy=3
   case neg=>exact iZ (decide_eq_false y3) (iZ rfl (els H2 s2))
   refine zZ (decide_eq_true y3) ?_;refine⟨_,σ2,_,_,rfl,rfl,_,rfl,?_⟩;by_cases y4:m=0
   case pos=>exact iZ (decide_eq_false (by show ¬(0:Int)<m;omega)) (els H2 s2)
   refine zZ (decide_eq_true (by show(0:Int)<m;omega)) ?_;obtain⟨l,rfl⟩:∃ l,m=l+1:=⟨m-1,by omega⟩;have hl:R[l]?=some (R[l]'(by omega)):=List.getElem?_eq_getElem _;generalize R[l]'_=z0 at hl;have hpr2:=s2 _ _ hpr1;refine yx (us:=R.take l++[x,z0]) (vs:=R.drop (l+2)) (yx (yZ (gw_var σ0 hpr2) y6 (zcF σ2) (zda (n:=l) (by omega))) (yK (ya (Ud σ0 hpr2 σ2 hx) (ya (zeH σ0 hpr2 σ2 hl) yL)) (by simp)) (by rw[length_take];show _+2<=_;omega)) (yZ (gw_var σ0 hpr2) (wx σ2) y6 (zdb (n:=l+2) (by omega))) (by rw[length_append,length_take,length_drop];show _+2+_<=_;omega) _ (sR _) _ fun q H3 s3 g3=>?_;refine⟨_,σ2,by show 2<=sizeLine;decide,fun t ht=>?_⟩;refine fin (i:=l+1) (q:=q) ⟨?_,fun z hz=>?_,by simp,by rw[length_append,length_append,length_take,length_drop];show _+2+_<=_;omega⟩ (s2.trans s3) g3 ht rfl
   ·rw[append_assoc]
    exact t3 hl hx
   ·rw[mem_append,mem_append,mem_cons,mem_singleton] at hz
    rcases hz with(hz | hz | hz) | hz
    ·exact .inl ((inR _).1 z hz)
    ·rw[hz];exact .inl xR
    ·rw[hz];exact .inl (mem_of_getElem? hl)
    ·exact .inl ((inR _).2 z hz)
  refine⟨_,σ3,rfl,_,rfl,?_⟩;rw[wL];by_cases y2:wy=2
  case neg=>exact iZ (decide_eq_false y2) (iZ rfl (els3 H1 (sR _)))
  refine zZ (decide_eq_true y2) ?_;refine⟨_,σ4,by show 3<=sizeLine;decide,fun q hq=>?_⟩;have sq:=sW (o:=HO.lst (pairsL.map V.str)) hq;refine⟨q,_,rfl,.inl (sO upd_same),rfl,flat_strs pairsL,_,rfl,?_⟩;by_cases y5:inV (.str f) (pairsL.map V.str)=true
  ·exact iZ (by show(!inV (.str f) (pairsL.map V.str))=false;rw[y5];rfl) (els3 _ sq)
  ·have y5:inV (.str f) (pairsL.map V.str)=false:=by rw[not_eq_true] at y5;exact y5
   refine zZ (by show(!inV (.str f) (pairsL.map V.str))=true;rw[y5];rfl) ?_;refine yx (us:=R.take m) (vs:=R.drop (m+1)) (yZ (gw_var σ0 (sq _ _ hpr1)) y6 (wY σ2) (zda rfl)) (yZ (gw_var σ0 (sq _ _ hpr1)) (wx σ2) y6 (zdb (n:=m+1) (by omega))) (by rw[length_take,length_drop];omega) _ (sR _) _ fun q' H3 s3 g3=>?_;refine⟨_,σ0,pr,_,rfl,.inl (sO (s3 _ _ (sq _ _ hpr1))),_,_,rfl,rfl,by show 2<=sizeLine;decide,fun t ht=>?_⟩;refine fin (i:=R.length-1) (q:=q') ⟨?_,fun z hz=>?_,?_,by rw[length_append,length_take,length_drop];omega⟩ (sq.trans s3) g3 ht (by rw[lm];omega)
   ·refine t2 hx ?_
    rw[(XN rw_.sp).1];exact y5
   ·rcases mem_append.mp hz with hz | hz
    ·exact .inl ((inR _).1 z hz)
    ·exact .inl ((inR _).2 z hz)
   ·intro z
    have:(R.take m++R.drop (m+1)).length=0:=by rw[z];rfl
    rw[length_append,length_take,length_drop] at this;omega
theorem W8{K:W.Frag}{H H':Hp}{b:Addr}{xs:List V}(h:SqL K H b xs)(s:Same H H'):SqL K H' b xs:=by
 rcases h with(h | ⟨o,h⟩) | h
 ·exact .inl (.inl (s _ _ h))
 ·exact .inl (.inr ⟨o,s _ _ h⟩)
 ·exact .inr h
theorem zcR:("\n" : Str).cps.toList=[10]:=by decide +kernel
theorem V2{us:List Str}(hu:us≠[]):Txt.join "\n" us ++ "\n" = Txt.join "\n" (us++[("" : Str)]):=by
 apply wP;rw[Y8,zcR,vj];have e0:∀ ws,Txt.join ⟨#[10]⟩ ws=Str.join ⟨#[10]⟩ ws:=fun ws=>StrLaws.glued_eq_join _ _;rw[e0,e0,xq,xq,map_append,XY (by simpa using hu) (by simp)];rfl
theorem YE:Row "" := by
 have:=vG (ws:=[("" : Str)]) (by simp) (fun w hw=>by rw[mem_singleton.mp hw];exact zek) (by simp);rw[show Txt.join " " [("" : Str)] = "" by decide +kernel] at this;exact this
theorem zeF{σ:St}{H0:Hp}{x:Str}{i:Nat}(hs:σ[i]?=some (some (.str x))):GvX σ H0 (yV i) x:=fun H _ Q k=>⟨_,hs,k H (sR H)⟩
theorem zcD{σ:St}{H0:Hp}{i:Nat}{y ky:Str}{vy:List Str}{tu:TT}(hs:σ[i]?=some (some (.str y)))(ry:Row y)(hsy:Txt.split y " " = ky::vy)(hu:FB ky vy->GvT σ H0 tu false):GvT σ H0 (zfj (zfg (tB (w8 Vh [] E0 (yr (yV i) wN)))) tu) false:=fun H s Q k=>⟨_,hs,y,ky,vy,rfl,ry,hsy,fun b H1 hb s1=>by
 refine⟨_,rfl,?_⟩;cases b with
 |true=>exact iZ rfl (k H1 s1)
 |false=>exact zZ rfl (hu (hb rfl) H1 (s.trans s1) _ fun H2 s2=>k H2 (s1.trans s2))⟩
theorem zaw:∀ p∈mcs,(List.range ((ww p.1 p.2).length-5)).all (fun i=>match (ww p.1 p.2)[i]? with | some k=>decide (k∈VO) | none=>false)=true/\(match (ww p.1 p.2)[(ww p.1 p.2).length-1]? with | some k=>decide (k∈VO) | none=>false)=true:=by decide +kernel
theorem zei{p:Nat×Int}{r:Nat}(hp:p∈mcs)(hr:r<=40){i:Nat}{x:Str}(hx:(zV p.1 p.2 r)[i]?=some x)(hi:i<(zV p.1 p.2 r).length-5\/i=(zV p.1 p.2 r).length-1):xu x∈VO:=by
 obtain⟨q,hq,e⟩:=uF hp hr hx;have hk:xu x=q.1:=by cases e with | cons h1 h2 _=>exact h1
 have kq:(ww p.1 p.2)[i]?=some q.1:=by rw[<- Zh (r:=(r:Int)),List.getElem?_map,hq];rfl
 have kl:(ww p.1 p.2).length=(zV p.1 p.2 r).length:=by rw[(xI hp hr).len,<- Zh (r:=(r:Int)),length_map]
 obtain⟨k1,k2⟩:=zaw p hp;rw[kl] at k1 k2;rw[hk];rcases hi with hi | hi
 ·have:=all_eq_true.mp k1 i (mem_range.mpr hi)
  rw[kq] at this;exact of_decide_eq_true this
 ·rw[<- hi,kq] at k2
  exact of_decide_eq_true k2
def za5(K:W.Frag):Sp:=fun vs H Q _=>∃ (l:Addr) (ns:LI) (k:Int),vs=[.ref l,.int k]/\SqL K H l (ns.map V.int)/\0<=k/\∀ i:Int,Q (.int i) H
theorem zcf(T:Txt w K mg a):FnOk P w K mg base CX0 1 717 (dK K 717) ["_law_script", "_law_k"] (za5 K):=by
 refine(T.fn 30 rfl).ok (scp 30 rfl) (fun vs H Q E h=>?_) (fun cdv A outer s H vs Q E hr h=>?_)
 ·obtain⟨l,ns,k,rfl,_⟩:=h
  rfl
 ·obtain⟨l,ns,k,rfl,hl,k0,q⟩:=h
  refine zR (zd (zv (zp YJ (zj 1) (zq zx (by rfl) (T.n 0 rfl) yf (zh (zj 0) zb)) (zB _))
    (ze (zm (zw zC (zj 0) (zj 1) (fun _ _=>rfl))))
    zo)
   (ze (zm zg))) ?_
  refine⟨_,rfl,_,rfl,l,_,rfl,.inl hl,_,_,rfl,rfl,_,rfl,?_⟩;rw[length_map];refine zcA (fun z=>?_) (fun z=>?_)
  ·have z:k<ns.length:=of_decide_eq_true z
   obtain⟨n,rfl⟩:∃ n:Nat,k=n:=⟨k.toNat,by omega⟩;have hn:n<ns.length:=by omega
   refine⟨_,rfl,_,rfl,l,_,_,V.int ns[n],rfl,rfl,hl,zN (by simp[hn]),?_⟩;exact q _
  ·exact q 0
def spLaw(K:W.Frag):Sp:=fun vs H Q _=>∃ (a:Addr) (ns:LI),vs=[.ref a]/\SqL K H a (ns.map V.int)/\ns.length<=63/\∀ H',Q (.bl true) H'
theorem sp_law_of{K:W.Frag}{H:Hp}{a:Addr}{ns:LI}(hl:ns.length<=63)(hO:ze0 H)(hS:SqL K H a (ns.map V.int)):spLaw K [.ref a] H (fun v _=>v=.bl true) fun _ _ _=>False:=⟨a,ns,rfl,hS,hl,fun _=>rfl⟩
theorem ok_law(T:Txt w K mg a):FnOk P w K mg base CX0 26 769 (dK K 769) ["_law_script"] (spLaw K):=by
 have c__law_cell_at:=cal P base T 30 rfl (zcf T);have c__law_rows:=cal P base T 32 rfl (zb8 T);have c__law_spoiled:=cal P base T 33 rfl (U6 T);have c__law_form:=cal P base T 34 rfl (zce T);have c__law_signed:=cal P base T 35 rfl (VG T);have c__law_row:=cal P base T 36 rfl (zfN T);have c__law_moved:=cal P base T 37 rfl (U9 T);refine(T.fn 38 rfl).ok (scp 38 rfl) (fun vs H Q E h=>?_) (fun cdv A outer s H vs Q E hr h=>?_)
 ·obtain⟨x,ns,rfl,_⟩:=h
  rfl
 ·obtain⟨sc,ns,rfl,hS,hlen,k⟩:=h
  have e2':sizeLine=16777216:=rfl;refine zR (zd (zr (i:=1) (scp 38 rfl).nd rfl (Or.inl rfl) (zG c__law_rows hr.m (zn (zt (yj (zG c__law_cell_at hr.m (zh (zj 0) (zy zg zb))) zb)) zb)))
   (zd (zv (zp wu (zG c__law_row hr.m (yj (zY F.plainAttrs_str F.slot_str_join F.type_str_join xU zi (zh (zj 1) zb)) zb)) zJ (zB _))
    (ze (zm zM))
    zo)
   (zd (yt PassesOwn.never rfl (Yv rfl (T.n 4 rfl) (zy zg (yj (zq (Uz rfl) (by rfl) (T.n 3 rfl) zeV (zy zg (yj (zq (Uy rfl) (by rfl) (T.n 2 rfl) zeU (zy zg (yj (zq zx (by rfl) (T.n 0 rfl) yf (zh (zj 0) zb)) zb))) zb))) zb))) (zE (i:=2) (scp 38 rfl).nd rfl (Or.inl rfl))
    (zd (zr (i:=3) (scp 38 rfl).nd rfl (Or.inl rfl) (zk yA (zG c__law_cell_at hr.m (zh (zj 0) (zh (zj 2) zb))) (zk uy zg (zj 2))))
    (zd (zr (i:=4) (scp 38 rfl).nd rfl (Or.inl rfl) (zk yS (zj 3) (zq zx (by rfl) (T.n 0 rfl) yf (zh (zj 1) zb))))
    (zd (zr (i:=5) (scp 38 rfl).nd rfl (Or.inl rfl) (zk zL (zk zL (zA zQ (zj 1) zD (w_po_some (zj 4))) (zt (yj (zG c__law_spoiled hr.m (zn (zw zC (zj 1) (zj 4) (fun _ _=>rfl)) (zU (zk yD (zj 3) zg) zb))) zb))) (zA zQ (zj 1) (w_po_some (zk yA (zj 4) zg)) zD)))
    (zd (zv (zp wv (zG c__law_row hr.m (yj (zY F.plainAttrs_str F.slot_str_join F.type_str_join xU zi (zh (zj 5) zb)) zb)) (zj 4) (zB _))
     (ze (zm zM))
     zo)
    (zd (zr (i:=4) (scp 38 rfl).nd rfl (Or.inl rfl) (zw zC (zt (zU (zk yS (zj 3) (zk wj (zq zx (by rfl) (T.n 0 rfl) yf (zh (zj 1) zb)) zg)) (zU (zk wj (zq zx (by rfl) (T.n 0 rfl) yf (zh (zj 1) zb)) zg) zb))) (zk yS (zk yD (zj 3) zg) zg) (fun _ _=>rfl)))
    (zd (zr (i:=6) (scp 38 rfl).nd rfl (Or.inl rfl) (zG c__law_signed hr.m (zn (zw zC (zj 1) (zj 4) (fun _ _=>rfl)) (zU (zk yD (zj 3) zg) zb))))
    (zd (zr (i:=5) (scp 38 rfl).nd rfl (Or.inl rfl) (zk zL (zk zL (zA zQ (zj 1) zD (w_po_some (zj 4))) (zt (zh (zj 6) zb))) (zA zQ (zj 1) (w_po_some (zk yA (zj 4) zg)) zD)))
    (zd (zv (uc (yB (zX (zH (zG c__law_form hr.m (zh (zj 6) zb)))) (yw (zp wv (zG c__law_row hr.m (yj (zY F.plainAttrs_str F.slot_str_join F.type_str_join xU zi (zh (zj 5) zb)) zb)) (zj 4) (zB _)))))
     (ze (zm zM))
     zo)
    (zd (vd (zG c__law_moved hr.m (zh (zj 1) (zU (zk yD (zj 3) zg) zb))) (x8 rfl (yh (zE (i:=5) (scp 38 rfl).nd rfl (Or.inl rfl)) (yh (zE (i:=4) (scp 38 rfl).nd rfl (Or.inl rfl)) xw))))
    (ze (zv (zp wv (zG c__law_row hr.m (yj (zY F.plainAttrs_str F.slot_str_join F.type_str_join xU zi (zh (zj 5) zb)) zb)) (zj 4) (zB _))
     (ze (zm zM))
     zo))))))))))))
   (zd (zv (uc (yP (zp wv (zG c__law_row hr.m (zU (zk zW (zY F.plainAttrs_str F.slot_str_join F.type_str_join xU zi (zh (zj 1) zb)) zi) zb)) (zq zx (by rfl) (T.n 0 rfl) yf (zh (zj 1) zb)) (zB _)) (yR (zp wv (zG c__law_row hr.m (zy zi zb)) zg (zB _)))))
    (ze (zm zM))
    zo)
   (zd (yt PassesOwn.never rfl (yE (zt (zy zJ (zy zg (zy zM (zh (zj 1) (zaR (yC (zy zi (zy zi zb))) zb))))))) (zE (i:=6) (scp 38 rfl).nd rfl (Or.inl rfl))
    (ze (zv (zp wv (zG c__law_row hr.m (zh (zj 6) zb)) zg (zB _))
     (ze (zm zM))
     zo)))
   (ze (zm (zO VD (zG c__law_row hr.m (yj (zY F.plainAttrs_str F.slot_str_join F.type_str_join xU zi (zh (zj 1) zb)) zb)) zJ (zB _))))))))) ?_
  refine⟨_,rfl,sc,ns,0,rfl,hS,by decide,fun c=>⟨by show 1<=sizeLine;decide,fun l hl=>?_⟩⟩;generalize hE:L2.upd H l _=H1;obtain⟨gl,s1⟩:=al hE hl;clear hE;refine⟨l,rfl,⟨_,gl,.inl ⟨c,rfl⟩⟩,fun pr p r H2 hp hr40 fpr hpr x2=>?_⟩;have s2:Same H H2:=fun b o e=>x2 b o (s1 b o e) (nZ e hl);have hS2:=W8 hS s2;have gR:=zcE hp hr40;obtain⟨n10,n19⟩:=zep (r:=(r:Int)) hp;have hrd:∀ x∈zV p.1 p.2 r,rdW x=true:=fun x hx=>zdU hp hr40 hx;have tb:=@zbh p r hp hr40;have nA:=@zei p r hp hr40;generalize hR:zV p.1 p.2 r=R at *;have hRow:∀ x∈R,Row x:=fun x hx=>by
   obtain⟨f,us,h⟩:=Xx (hrd x hx);exact h.row
  have neR:R≠[]:=fun z=>by rw[z] at n10;cases n10
  have lm:(R.map V.str).length=R.length:=length_map ..;refine gv_lgj (gw_var rfl hpr) neR hRow (by omega) gR _ (sR _) _ fun H3 s3=>⟨rfl,_,rfl,iZ rfl ?_⟩;have hS3:=W8 hS2 s3;have hpr3:=s3 _ _ hpr;refine⟨_,rfl,sc,_,rfl,.inl hS3,30,_,rfl,2,_,rfl,1,_,rfl,⟨by decide,by decide,?_,?_⟩,?_⟩
  ·rw[length_map]
   repeat' split
   all_goals omega
  ·rw[length_map]
   repeat' split
   all_goals omega
  refine Uh (lo:=1) (fun i σ H'=>∃ (o2 o3 o4 o5 o6:Option V),σ=[some (.ref sc),some (.ref pr),o2,o3,o4,o5,o6]/\Same H3 H') ?_ ?_ ?_
  ·exact⟨none,none,none,none,none,rfl,sR H3⟩
  ·rintro i σ H7 hi ⟨o2,o3,o4,o5,o6,rfl,s7⟩
   have hpr7:=s7 _ _ hpr3;refine⟨_,rfl,_,rfl,sc,ns,_,rfl,W8 hS3 s7,by omega,fun c'=>?_⟩;refine⟨_,rfl,13,_,rfl,rfl,.inl ⟨by decide,by decide⟩,_,_,rfl,rfl,_,rfl,_,rfl,pr,_,rfl,.inl (sO hpr7),_,_,rfl,rfl,(by rw[lm];show(0:Int)<(R.length:Int);omega),?_⟩;obtain⟨cell,hcell⟩:∃ cell,c'+13*(1+(i:Int))=cell:=⟨_,rfl⟩;obtain⟨t,ht,et⟩:∃ t:Nat,t<R.length/\cell%((R.map V.str).length:Int)=t:=by
    rw[lm];have h1:=emod_nonneg cell (show(R.length:Int)≠0 by omega);have h2:=emod_lt_of_pos cell (show 0<(R.length:Int) by omega);exact⟨(cell%(R.length:Int)).toNat,by omega,by omega⟩
   have hx:R[t]?=some R[t]:=List.getElem?_eq_getElem ht;generalize R[t]=x at hx;have xR:=mem_of_getElem? hx;obtain⟨f,us,hd⟩:=Xx (hrd x xR);have σ1:([some (V.ref sc),some (V.ref pr),some (V.int (1+(i:Int))),some (V.int cell),some (V.int t),o5,o6]:St)=((([some (V.ref sc),some (V.ref pr),o2,o3,o4,o5,o6]:St).set 2 (some (V.int (1+(i:Int))))).set 3 (some (V.int (c'+13*(1+(i:Int)))))).set 4 (some (V.int ((c'+13*(1+(i:Int)))%((R.map V.str).length:Int)))):=by rw[hcell,et];rfl
   show UP _ _ _ (((([some (V.ref sc),some (V.ref pr),o2,o3,o4,o5,o6]:St).set 2 (some (V.int (1+(i:Int))))).set 3 (some (V.int (c'+13*(1+(i:Int)))))).set 4 (some (V.int ((c'+13*(1+(i:Int)))%((R.map V.str).length:Int))))) H7;rw[<- σ1];have rowsOk:∀ {y:Str}{j:Nat},j<R.length->Row y->(∀ z∈R.take j++[y]++R.drop (j+1),Row z)/\R.take j++[y]++R.drop (j+1)≠[]/\(R.take j++[y]++R.drop (j+1)).length<=30:=fun {y j} hj hy=>⟨fun z hz=>by
    rw[mem_append,mem_append,mem_singleton] at hz;rcases hz with(hz | hz) | hz
    ·exact hRow z (mem_of_mem_take hz)
    ·rw[hz];exact hy
    ·exact hRow z (mem_of_mem_drop hz),by simp,by rw[length_append,length_append,length_take,length_drop];show _+1+_<=_;omega⟩
   refine zfl (zcB (us:=R.take t) (vs:=R.drop (t+1)) (Px:=BadR) (yZ (gw_var rfl hpr7) y6 (wY rfl) (zda rfl)) ?sp (yZ (gw_var rfl hpr7) (wx rfl) y6 (zdb (n:=t+1) (by omega))) (by rw[length_take,length_drop];omega)) fun p5 ws H8 hws s8 hp0 hp5=>?_
   case sp=>exact fun H' s' Q' k'=>⟨_,rfl,_,rfl,pr,_,_,V.str x,rfl,rfl,sO (s' _ _ hpr7),zN (by rw[List.getElem?_map,hx];rfl),_,rfl,_,_,rfl,rfl,⟨by decide,by decide⟩,x,f,us,_,rfl,hd,fun y H2 hy s2=>k' y H2 hy s2⟩
   obtain⟨y,hy,rfl⟩:=hws;obtain⟨q1,q2,q3⟩:=rowsOk ht hy.row;have nt1:NT (R.take t++[y]++R.drop (t+1)) t:=by rw[append_assoc];exact tb (le_of_lt ht) hy.no
   refine zbH (Ug (Uf (gw_var rfl hp5) q2 q1 q3 nt1) (Ue (v:=V.int t) rfl) rfl) fun H9 s9=>?_;have s79:=s8.trans s9;have hpr9:=s79 _ _ hpr7;refine⟨_,rfl,_,rfl,pr,_,rfl,.inl (sO hpr9),_,_,rfl,rfl,_,_,rfl,rfl,(by rw[lm];show(0:Int)<(R.length:Int)-5;omega),?_⟩;refine⟨_,rfl,pr,_,rfl,.inl (sO hpr9),_,_,rfl,rfl,by show 2<=sizeLine;decide,fun pl hpl=>?_⟩;rw[lm];generalize hE:L2.upd H9 pl _=H10;obtain⟨gpl,s10⟩:=al hE hpl;clear hE;have gpl:H10 pl=some (.lst ([cell%((R.length:Int)-5),(R.length:Int)-1].map V.int)):=gpl;obtain⟨v2,hv2,ev2⟩:=zfD (ns:=[cell%((R.length:Int)-5),(R.length:Int)-1]) (d:=cell/5%2) (emod_nonneg _ (by decide)) (emod_lt_of_pos _ (by decide));obtain⟨t2,ht2,et2⟩:∃ t2:Nat,(t2<R.length-5\/t2=R.length-1)/\v2=(t2:Int):=by
    have h1:=emod_nonneg cell (show(R.length:Int)-5≠0 by omega);have h2:=emod_lt_of_pos cell (show 0<(R.length:Int)-5 by omega);simp only[mem_cons,not_mem_nil,or_false] at hv2;rcases hv2 with e | e
    ·exact⟨(cell%((R.length:Int)-5)).toNat,by omega,by omega⟩
    ·exact⟨R.length-1,by omega,by omega⟩
   subst et2;have hpr10:=s10 _ _ hpr9;refine⟨_,rfl,_,_,rfl,rfl,⟨by decide,by decide⟩,_,_,rfl,rfl,(show(0:Int)<2 by decide),pl,_,_,_,rfl,rfl,sO gpl,ev2,?_⟩;have ht2':t2<R.length:=by omega
   have hx2:R[t2]?=some R[t2]:=List.getElem?_eq_getElem ht2';generalize R[t2]=x2 at hx2;obtain⟨f2,us2,hd2⟩:=Xx (hrd x2 (mem_of_getElem? hx2));have nk:=nA hx2 ht2;rw[(XN hd2.sp).1] at nk;refine⟨_,rfl,_,rfl,pr,_,_,V.str x2,rfl,rfl,sO hpr10,zN (by rw[List.getElem?_map,hx2];rfl),_,rfl,_,_,rfl,rfl,⟨by decide,by decide⟩,x2,_,rfl,hd2.row.len,fun y2 pp cc dd hcc hdd hy2=>?_⟩;obtain⟨ry2,fy2⟩:=Vn hd2 nk hcc hdd hy2;obtain⟨r1,r2,r3⟩:=rowsOk ht2' ry2;refine zgR (ws:=R.take t2++[y2]++R.drop (t2+1)) (yx (yx (yZ (gw_var rfl hpr10) y6 (wY rfl) (zda rfl)) (yK (ya (zeF rfl) yL) (by simp)) (by rw[length_take];show _+1<=_;omega)) (yZ (gw_var rfl hpr10) (wx rfl) y6 (zdb (n:=t2+1) (by omega))) (by rw[length_append,length_take,length_drop];show _+1+_<=_;omega)) fun p6 H11 s11 hp6=>?_;have hpr11:=s11 _ _ hpr10;obtain⟨ky,vy,hsy⟩:∃ ky vy,Txt.split y2 " " = ky::vy:=by
    cases e:Txt.split y2 " " with
    |nil=>exact absurd e (ve y2 " ")
    |cons a b=>exact⟨a,b,rfl⟩
   have nt2:FB ky vy->NT (R.take t2++[y2]++R.drop (t2+1)) t2:=fun fb=>by rw[append_assoc];exact tb (le_of_lt ht2') (fy2 ky vy hsy fb)
   refine zbH (zcD rfl ry2 hsy fun fb=>Ug (Uf (gw_var rfl hp6) r2 r1 r3 (nt2 fb)) (Ue (v:=V.int t2) rfl) rfl) fun H12 s12=>?_;have hpr12:=s12 _ _ hpr11;refine⟨_,rfl,_,rfl,_,_,rfl,rfl,⟨by decide,by decide⟩,pr,_,p,r,rfl,hp,hr40,by rw[hR];exact hpr12,fun tt q Rs jj H13 mv htt hq s13=>?_⟩;rw[hR] at mv;refine⟨tt,_,rfl,sP htt,rfl,_,_,rfl,_,_,rfl,rfl,?_⟩;have rRs:∀ z∈Rs,Row z:=fun z hz=>by
    rcases mv.mem z hz with e | e
    ·exact hRow z e
    ·rw[e];exact YE
   refine zdH (Ug (Uf (gw_var rfl hq) mv.ne rRs (le_trans mv.len (by decide)) mv.nt) (Ue (v:=V.int jj) rfl) rfl) fun H14 s14=>?_;exact⟨_,_,_,_,_,rfl,s7.trans (s79.trans (s10.trans (s11.trans (s12.trans (s13.trans s14)))))⟩
  ·rintro σ H7 ⟨o2,o3,o4,o5,o6,rfl,s7⟩
   have hpr7:=s7 _ _ hpr3;have rR1:∀ z∈R++[("" : Str)],Row z:=fun z hz=>(mem_append.mp hz).elim (hRow z) fun h=>by rw[mem_singleton.mp h];exact YE
   have t1:TextOk (Txt.join "\n" R ++ "\n") (R++[("" : Str)]):=by
    rw[V2 neR];exact vq (by simp) rR1 (by rw[length_append];show _+1<=_;omega)
   have n1:NT (R++[("" : Str)]) R.length:=by
    have:=tb (more:=[]) (Nat.le_refl R.length) zbi;rw[take_length] at this;exact this
   have tN:TextOk "" [("" : Str)]:=by
    have:=vq (rows:=[("" : Str)]) (by simp) (fun r hr=>by rw[mem_singleton.mp hr];exact YE) (by simp);rw[show Txt.join "\n" [("" : Str)] = "" by decide +kernel] at this;exact this
   have n0:NT [("" : Str)] 0:=.inl (by decide +kernel);have jl:(Txt.join "\n" R).length<=400000:=(vq neR hRow (by omega)).len;refine zbH (zf1 (Ug (zcC (zeG (YY (gw_var rfl hpr7) (YA hRow (by omega))) Zn ?z1) t1 n1) ?len rfl) (Ug (zcC Zn tN n0) zhn rfl)) fun H8 s8=>?_
   case z1 =>
    have:("\n" : Str).length=1:=by decide +kernel
    omega
   case len=>exact fun H' s' Q' k'=>⟨_,rfl,pr,_,rfl,.inl (sO (s' _ _ hpr7)),by rw[lm];exact k' H' (sR _)⟩
   have hr9:=s8 _ _ hpr7;refine⟨_,rfl,(by show 2<=sizeLine;decide),fun pt hpt=>?_⟩;have sA:=sW (o:=HO.tup [V.str "hands",V.str "0"]) hpt;refine⟨(by show 5<=sizeLine;decide),fun po hpo=>?_⟩;have sB:=sA.trans (sW (o:=HO.lst [V.non,V.int 5,V.bl true,V.ref pr,V.ref pt]) hpo);refine⟨po,rfl,⟨_,sO upd_same⟩,?_⟩;generalize hHA:upd (upd H8 pt (HO.tup [V.str "hands",V.str "0"])) po (HO.lst [V.non,V.int 5,V.bl true,V.ref pr,V.ref pt])=HA at *;have hpoA:HA po=some (.lst [V.non,V.int 5,V.bl true,V.ref pr,V.ref pt]):=by rw[<- hHA];exact upd_same
   have hprA:=sB _ _ hr9;have hptA:HA pt=some (.tup [V.str "hands",V.str "0"]):=by rw[<- hHA];exact(sW (o:=HO.lst [V.non,V.int 5,V.bl true,V.ref pr,V.ref pt]) hpo) _ _ upd_same
   refine for_list (xs:=[V.non,V.int 5,V.bl true,V.ref pr,V.ref pt]) (fun i σ H'=>∃ (o2 o3 o4 o5 o6:Option V),σ=[some (.ref sc),some (.ref pr),o2,o3,o4,o5,o6]/\Same HA H') ?_ ?_ ?_ ?_
   ·exact⟨_,_,_,_,_,rfl,sR HA⟩
   ·rintro i σ H' hi ⟨o2,o3,o4,o5,o6,rfl,s'⟩
    exact sO (s' _ _ hpoA)
   ·rintro i x σ H' hx ⟨o2,o3,o4,o5,o6,rfl,s'⟩
    have ty:∃ t,TyOf K H' x t/\PySem.W.kitOne K t (.type "str")=some false:=by
     have hm:=mem_of_getElem? hx;simp only[mem_cons,not_mem_nil,or_false] at hm;rcases hm with rfl | rfl | rfl | rfl | rfl
     ·exact⟨_,.non,(T.k 42 rfl)⟩
     ·exact⟨_,.int _,(T.k 35 rfl)⟩
     ·exact⟨_,.bl _,(T.k 43 rfl)⟩
     ·exact⟨_,.lst (s' _ _ hprA),(T.k 44 rfl)⟩
     ·exact⟨_,.tup (s' _ _ hptA),(T.k 45 rfl)⟩
    obtain⟨t,ht,hk⟩:=ty;refine⟨_,rfl,.inr (.inr ⟨x,t,rfl,ht,hk,fun H2 s2=>⟨rfl,_,rfl,iZ rfl ?_⟩⟩)⟩;exact⟨_,_,_,_,_,rfl,s'.trans s2⟩
   ·rintro σ HB ⟨o2,o3,o4,o5,o6,rfl,s'⟩
    refine gv_lgj (gw_var rfl (s' _ _ hprA)) neR hRow (by omega) gR _ (sR _) _ fun HC sC=>⟨rfl,?_⟩;exact k _
end
end K04
noncomputable section
def PySem.W.Fast.tw17101778794989693842:=0
def PySem.W.Fast.tw14633931826345236324:=0
def PySem.W.Fast.tw8856144728478018897:=0
def PySem.W.Fast.tw17062198468877432609:=0
def PySem.W.Fast.tw11229564333759573049:=0
def PySem.W.Fast.tw10598372733321371305:=0
def PySem.W.Fast.tw11616086253799572649:=0
def PySem.W.Fast.tw17758467707605542250:=0
def PySem.W.Fast.tw14338876466950056905:=0
def PySem.W.Fast.tw6496138341281078435:=0
def PySem.W.Fast.tw6216741656489410486:=0
def PySem.W.Fast.tw6123116592370679677:=0
def PySem.W.Fast.tw16627384631628985244:=0
def PySem.W.Fast.tw1688954305291010661:=0
def PySem.W.Fast.tw8697170791317315040:=0
def PySem.W.Fast.tw10579265108948214604:=0
def PySem.W.Fast.tw9532633636177338432:=0
def PySem.W.Fast.tw3299963512692046226:=0
def PySem.W.Fast.tw9316987155075272405:=0
def PySem.W.Fast.tw5518260327533038333:=0
def PySem.W.Fast.tw13793158388811680729:=0
def PySem.W.Fast.tw10330366778594210143:=0
def PySem.W.Fast.tw2679819212127310782:=0
def PySem.W.Fast.tw1689613642844212636:=0
def PySem.W.Fast.tw9031915412781655692:=0
def PySem.W.Fast.tw3858109914732617049:=0
namespace Hd
open PySem PySem.W PySem.Calls PyProof.Rows
abbrev pw:=PySem.Challenge.pw_beatless_k93_settings_that_are_none
def tt{α:Type}(_:α):Bool:=true
noncomputable def S(i:Nat):Stmt:=pw.main.body.getD i (.Pass ⟨0,0,0,0⟩)
def C(i j:Nat):Stmt:=L2.inClass (S i) j
def fd(n q:Str)(s:Stmt)(g:Addr)(d k c m:Value)(cd:Value):FuncData:=⟨n,q,L2.defArgs s,.stmts (L2.defBody s),L2.defScope s,g,[],d,k,c,m,none,cd,.none,0⟩
def zs:List Str:=List.map Str.ofString ["<module>", "/claim/cut.py", "__main__", "beatless.errors", "__name__", "__doc__", "__package__", "__loader__", "__spec__", "__annotations__", "__builtins__", "__file__", "__cached__", "_wall", "BeatlessError", "NoWeb", "k", "__module__", "__qualname__", "__firstlineno__", "__static_attributes__", "__weakref__", "NoProgram", "NoText", "__init__", "self", "row", "NoText.__init__", "beatless.ways", "NoWay", "is_whole", "copied", "value", "beatless.wholes", "Way", "are_parents", "come_to_leaders", "parent_of", "all_parents", "all_bridges", "path_up", "leader", "depth_of", "depth", "children", "bridges_at", "parents", "bridges", "Way.__init__", "hand", "each", "parent", "Way.parent_of", "Way.all_parents", "Way.all_bridges", "path", "above", "Way.path_up", "Way.leader", "Way.depth_of", "Way.depth", "Way.children", "Way.bridges_at", "own_bridges", "own_parents", "__dict__", "web", "way", "beatless.exprs", "is_bridge", "are_bridges", "is_grounded", "first_joins", "lets", "refuse_unlet", "Expr", "bridge", "seen", "lines", "found", "one", "other", "leaders", "bridged", "Num", "reckon", "told", "words", "Num.__init__", "worths", "Num.reckon", "Num.told", "Num.words", "Name", "word", "Name.__init__", "Name.reckon", "Name.told", "Name.words", "Two", "Two.__init__", "Two.reckon", "Two.told", "Two.words", "Mod", "inner", "number", "Mod.__init__", "Mod.reckon", "Mod.told", "Mod.words", "beatless.programs", "Less", "START_NAMES", "SEND_NAMES", "RENEW_NAMES", "ALL_NAMES", "TWO_WORDS", "third", "fourth", "Less.__init__", "Less.reckon", "Less.told", "Less.words", "me", "worth", "round", "to", "sum", "least", "most", "count", "add", "sub", "min", "max", "PARTS", "mod", "less", "0123456789", "FIGURES", "MOST_WORDS", "MOST_DEEP", "is_short_number", "is_word_of", "is_divisor", "are_sound", "is_sound", "count_words", "Program", "is_number_word", "number_of", "parts", "names", "deep", "part", "expr", "first_worth", "word_to", "next_worth", "start", "send", "when", "renew", "Program.__init__", "Program.first_worth", "turn", "Program.word_to", "heard", "Program.next_worth", "figures", "figure", "beatless.webs", "read_part", "read_words", "read_row", "MOST_HANDS", "LAST_HAND", "are_hands", "is_line", "are_lines", "near_by_hand", "first", "hands", "ahead", "line", "near", "beatless.settings", "Web", "KINDS", "NEEDED", "PAIRS", "MOST_FIGURES", "MOST_ROUNDS", "read_numbers", "read_kind", "has_hand", "has_line", "neighbours", "groups", "group_of", "Web.__init__", "Web.hands", "Web.lines", "Web.has_hand", "Web.has_line", "Web.neighbours", "Web.groups", "Web.group_of", "own_hands", "own_lines", "rounds", "numbers", "kind", "law_beatless_k93_settings_that_are_none", "may_follow", "read_rows", "read_setting", "_law_cell_at", "_law_digit", "_law_rows", "_law_spoiled", "_law_form", "_law_signed", "_law_row", "_law_moved", "law", "kind_ahead", "value_ahead", "_law_script", "_law_k", "_law_state", "_law_base", "_law_cell", "_law_found", "_law_number", "_law_row_here", "_law_words", "_law_at", "_law_odd", "_law_some", "_law_signs", "_law_sign", "_law_text", "e", "_law_rows_here", "_law_way", "_law_word", "_law_bad"]
def s(n:Nat):Str:=zs.getD n ⟨#[]⟩
noncomputable def k0:Value:=.type "tuple"
def k1:Value:=.type "code"
def k2:Value:=.type "frame"
noncomputable def k3:Value:=.type "dict"
def k4:Value:=.builtin "__main__.__loader__#opaque"
def k5:Value:=.type "function"
def k6:Value:=.type "ValueError"
def k7:Value:=.type "builtin_function_or_method"
def k8:Value:=.builtin "type.__prepare__"
def k9:Value:=.type "type"
def k10:Value:=.type "Exception"
def k11:Value:=.type "BaseException"
def k12:Value:=.type "object"
def k13:Value:=.builtin "ValueError.__new__"
def k14:Value:=.type "getset_descriptor"
def k15:Value:=.builtin "ExceptionGroup.__weakref__"
def k16:Value:=.type "super"
def k17:Value:=.builtin "object.__init_subclass__"
def k18:Value:=.builtin "object.__new__"
def k19:Value:=.builtin "function.__dict__"
def k20:Value:=.builtin "function.__dict__#set"
instance (n:Nat):OfNat Value n:=⟨.ref n⟩
noncomputable def iv(n:Int):Value:=.int n 0
def sv(n:Nat)(t:Tok):Value:=.str (s n) t
def en(P:Params)(x:Nat)(t:Tok)(v:Value):DictEntry:=⟨PyData.keyHash P (s x),sv x t,v⟩
noncomputable def O(c:Value)(l:Array Value):Obj:=Obj.mk c .none (Data.fields l) #[]
def tO(l:Array Value):Obj:=Obj.mk k0 .none (Data.seq l 0) #[]
def vO(l:Array Value):Obj:=O .none l
def Q(l:Array DictEntry)(e:Nat):Obj:=Obj.mk k3 .none (Data.dict l e) #[]
def gO(n q:Nat)(z:Stmt):Obj:=Obj.mk .none .none (Data.func (fd (s n) (s q) z 0 .none .none .none .none .none)) #[]
def uO(n q:Nat)(z:Stmt)(m:Value)(r:Addr):Obj:=Obj.mk k5 .none (Data.func (fd (s n) (s q) z 3 .none .none .none m (.ref r))) #[]
def cO(n q:Nat)(t l m k:Nat)(r1 r2:Addr)(b:Bool)(r3 r4 r5:Value)(x:Nat):Obj:=O k1 #[sv n t,sv q (t+1),sv 1 (t+2),iv l,iv m,iv 0,iv 0,iv k,.ref r1,.bool b,iv 181,.ref r2,.none,r3,r4,r5,iv x,iv l,sv 1 (x+1)]
def F(b t n q:Nat)(z:Stmt)(l m:Nat)(M:Value)(vs:List Nat):List Obj:=[tO #[],vO #[],tO (vs.zipIdx.map fun p=>sv p.1 (t+3+p.2)).toArray,tO #[],gO n q z,cO n q t l m 3 b (b+1) true (.ref (b+2)) (.ref (b+3)) (.ref (b+4)) (t+3+vs.length),uO n q z M (b+5)]
def G(b t n q:Nat)(z:Stmt)(l m:Nat)(M:Value):List Obj:=[tO #[],vO #[],gO n q z,cO n q t l m 3 b (b+1) true .none .none (.ref (b+2)) (t+3),uO n q z M (b+3)]
def X(P:Params)(b t n:Nat)(l:Nat)(M:Value)(c:Addr):List Obj:=[tO #[.ref c],O k7 #[k8,k9],Q #[en P 17 (t+7) M,en P 18 (t+9) (sv n (t+8)),en P 19 (t+11) (.int l (t+10)),en P 20 (t+12) (.ref (b+7))] 4,tO #[],vO #[],cO n n (t+2) l 0 0 (b+3) (b+4) false .none .none .none (t+5),Obj.mk k2 .none Data.plain #[some (.ref (b+5)),some 3,some (.ref (b+2)),none,some M,none,some 0],tO #[],Q #[en P 17 (t+7) M,en P 19 (t+11) (.int l (t+10)),en P 20 (t+12) (.ref (b+7)),en P 5 (t+13) .none] 2,Obj.mk k9 .none (Data.cls (ClassData.mk (s n) [.ref c] [.ref (b+9),.ref c,k6,k10,k11,k12] (b+8) (s n) true [] [] false none false)) #[some (.ref b),none,some (sv n t),some (sv n (t+8)),some k13,some (.bool true)],O k16 #[.ref (b+9),.ref (b+9),.ref (b+9)],O k7 #[k17,.ref (b+9)]]
def M0:Value:=(sv 2 164)
def M1:Value:=(sv 3 194)
def M2:Value:=(sv 33 287)
def M3:Value:=(sv 28 296)
def M4:Value:=(sv 68 485)
def M5:Value:=(sv 111 756)
def M6:Value:=(sv 172 974)
def M7:Value:=(sv 187 1105)
def M8:Value:=(sv 214 1172)
def v3(P:Params)(n:Nat)(e:Nat)(M:Value):Obj:=Obj.mk k3 .none (Data.dict (([en P 4 165 M,en P 5 166 .none,en P 6 167 .none,en P 7 168 k4,en P 8 169 .none,en P 9 170 6,en P 10 171 4,en P 11 173 (sv 1 172),en P 12 174 .none,en P 13 193 21,en P 14 213 31,en P 15 229 44,en P 22 245 56,en P 23 270 75,en P 29 286 87,en P 30 295 96,en P 31 303 101,en P 34 407 181,en P 35 417 192,en P 36 426 199,en P 69 435 206,en P 70 446 213,en P 71 454 220,en P 72 466 227,en P 73 476 234,en P 74 484 241,en P 75 506 251,en P 84 553 293,en P 93 600 333,en P 99 653 373,en P 104 702 413,en P 112 755 453,en P 113 760 456,en P 114 766 457,en P 115 775 458,en P 116 785 459,en P 117 790 460,en P 136 809 461,en P 140 811 (sv 139 810),en P 141 813 (.int 60 812),en P 142 815 (.int 8 814),en P 143 822 468,en P 144 830 475,en P 145 837 482,en P 146 847 489,en P 147 856 496,en P 148 862 501,en P 149 930 539,en P 150 939 550,en P 151 946 557,en P 173 954 564,en P 174 964 571,en P 175 973 578,en P 176 977 (.int 12 976),en P 177 979 (.int 99 978),en P 178 988 585,en P 179 996 592,en P 180 1006 599,en P 181 1018 606,en P 188 1104 672,en P 189 1116 677,en P 190 1123 678,en P 191 1127 679,en P 192 1129 (.int 20 1128),en P 193 1131 (.int 40 1130),en P 194 1140 686,en P 195 1149 693,en P 215 1159 700,en P 216 1165 705,en P 217 1171 710,en P 218 1181 717,en P 219 1192 724,en P 220 1198 729,en P 221 1210 736,en P 222 1216 741,en P 223 1227 748,en P 224 1236 755,en P 225 1247 762,en P 226 1260 769]:List _).take n).toArray e) #[]
def v12(P:Params)(n:Nat):Obj:=Obj.mk .none .none (Data.fields (([(iv 1),(iv 0),20,(iv 5),(iv 0),27,(iv 7),(iv 0),40,(iv 9),(iv 0),52,(iv 11),(iv 0),64,(iv 15),(iv 0),83,(iv 18),(iv 0),95,(iv 21),(iv 0),100,(iv 29),(iv 0),107,(iv 69),(iv 0),191,(iv 78),(iv 0),198,(iv 83),(iv 0),205,(iv 89),(iv 0),212,(iv 98),(iv 0),219,(iv 102),(iv 0),226,(iv 109),(iv 0),233,(iv 117),(iv 0),240,(iv 121),(iv 0),247,(iv 123),(iv 0),261,(iv 136),(iv 0),301,(iv 149),(iv 0),341,(iv 172),(iv 0),381,(iv 186),(iv 0),421,(iv 214),(iv 0),467,(iv 216),(iv 0),474,(iv 218),(iv 0),481,(iv 220),(iv 0),488,(iv 225),(iv 0),495,(iv 239),(iv 0),500,(iv 241),(iv 0),507,(iv 265),(iv 0),549,(iv 271),(iv 0),556,(iv 273),(iv 0),563,(iv 285),(iv 0),570,(iv 293),(iv 0),577,(iv 299),(iv 0),584,(iv 308),(iv 0),591,(iv 314),(iv 0),598,(iv 323),(iv 0),605,(iv 331),(iv 0),612,(iv 368),(iv 0),685,(iv 375),(iv 0),692,(iv 386),(iv 0),699,(iv 392),(iv 0),704,(iv 408),(iv 0),709,(iv 421),(iv 0),716,(iv 425),(iv 0),723,(iv 438),(iv 0),728,(iv 447),(iv 0),735,(iv 462),(iv 0),740,(iv 472),(iv 0),747,(iv 477),(iv 0),754,(iv 486),(iv 0),761,(iv 499),(iv 0),768]:List _).take n).toArray) #[]
def v31(P:Params)(n:Nat):Obj:=Obj.mk k9 .none (Data.cls (ClassData.mk (s 14) [k6] [31,k6,k10,k11,k12] 30 (s 14) true [] ([44,56,75,87].take n) false .none false)) #[(some 22),.none,(some (sv 14 196)),(some (sv 14 204)),(some k13),(some (.bool true))]
def zc5(P:Params)(n:Nat):Obj:=Obj.mk k9 .none (Data.cls (ClassData.mk (s 75) [k12] [251,k12] 250 (s 75) true [] ([293,333,373,413,453].take n) false .none false)) #[.none,.none,(some (sv 75 487)),(some (sv 75 495)),(some k18),(some (.bool true))]
def z0(P:Params):List Obj:=[boot_o_0 P,boot_o_1 P,boot_o_2 P,v3 P 79 79 (sv 214 1172),boot_o_4 P,boot_o_5 P,boot_o_6 P,boot_o_7 P,boot_o_8 P,boot_o_9 P,boot_o_10 P,tO #[],v12 P 162,O k1 #[(sv 0 182),(sv 0 183),(sv 1 184),(iv 1),(iv 0),(iv 0),(iv 0),(iv 0),11,(.bool false),(iv 181),12,.none,.none,.none,.none,(iv 185),(iv 1),(sv 1 186)],Obj.mk k2 .none Data.plain #[(some 13),(some 3),(some 3),.none,(some (sv 2 164)),.none,(some 0)]]++(F 15 187 13 13 (S 0) 1 1 M0 [16]++([tO #[k6],O k7 #[k8,k9],Q #[en P 17 203 (sv 3 194),en P 18 205 (sv 14 204),en P 19 207 (.int 5 206),en P 20 208 29] 4,tO #[],vO #[],O k1 #[(sv 14 198),(sv 14 199),(sv 1 200),(iv 5),(iv 0),(iv 0),(iv 0),(iv 0),25,(.bool false),(iv 181),26,.none,.none,.none,.none,(iv 201),(iv 5),(sv 1 202)],Obj.mk k2 .none Data.plain #[(some 27),(some 3),(some 24),.none,(some (sv 3 194)),.none,(some 0)],tO #[],Q #[en P 17 203 (sv 3 194),en P 19 207 (.int 5 206),en P 20 208 29,en P 21 210 32,en P 5 211 .none] 3,v31 P 4,O k14 #[(sv 21 209),31,k15,.none],O k16 #[31,31,31],O k7 #[k17,31]]++(X P 35 214 15 7 M1 31++(X P 47 230 22 9 M1 31++([tO #[31],O k7 #[k8,k9],Q #[en P 17 253 (sv 3 194),en P 18 255 (sv 23 254),en P 19 257 (.int 11 256),en P 24 265 72,en P 20 267 73] 5,tO #[],vO #[(iv 13),(iv 4),71],O k1 #[(sv 23 248),(sv 23 249),(sv 1 250),(iv 11),(iv 0),(iv 0),(iv 0),(iv 0),62,(.bool false),(iv 181),63,.none,.none,.none,.none,(iv 251),(iv 11),(sv 1 252)],Obj.mk k2 .none Data.plain #[(some 64),(some 3),(some 61),.none,(some (sv 3 194)),.none,(some 0)]]++(F 66 258 24 27 (C 5 0) 13 2 M1 [25,26]++([tO #[(sv 26 266)],Q #[en P 17 253 (sv 3 194),en P 19 257 (.int 11 256),en P 24 265 72,en P 20 267 73,en P 5 268 .none] 2,Obj.mk k9 .none (Data.cls (ClassData.mk (s 23) [31] [75,31,k6,k10,k11,k12] 74 (s 23) true [] [] false .none false)) #[(some 59),.none,(some (sv 23 246)),(some (sv 23 254)),(some k13),(some (.bool true))],O k16 #[75,75,75],O k7 #[k17,75]]++(X P 78 271 29 15 M1 31++(F 90 289 30 30 (S 8) 18 1 M2 [32]++(G 97 298 31 31 (S 10) 21 1 M3++([tO #[],O k7 #[k8,k9],Q #[en P 17 311 (sv 28 296),en P 18 313 (sv 34 312),en P 19 315 (.int 29 314),en P 24 324 115,en P 37 334 122,en P 38 341 129,en P 39 348 136,en P 40 358 143,en P 41 366 150,en P 42 374 157,en P 43 381 164,en P 44 389 171,en P 45 397 178,en P 20 400 179] 14,tO #[],vO #[(iv 31),(iv 4),114,(iv 35),(iv 4),121,(iv 41),(iv 4),128,(iv 44),(iv 4),135,(iv 47),(iv 4),142,(iv 55),(iv 4),149,(iv 58),(iv 4),156,(iv 61),(iv 4),163,(iv 64),(iv 4),170,(iv 67),(iv 4),177],O k1 #[(sv 34 306),(sv 34 307),(sv 1 308),(iv 29),(iv 0),(iv 0),(iv 0),(iv 0),105,(.bool false),(iv 181),106,.none,.none,.none,.none,(iv 309),(iv 29),(sv 1 310)],Obj.mk k2 .none Data.plain #[(some 107),(some 3),(some 104),.none,(some (sv 28 296)),.none,(some 0)]]++(F 109 316 24 48 (C 11 0) 31 3 M3 [25,46,47]++(F 116 325 37 52 (C 11 1) 35 2 M3 [25,49,50,51]++(F 123 335 38 53 (C 11 2) 41 1 M3 [25]++(F 130 342 39 54 (C 11 3) 44 1 M3 [25])))))))))))))))
def z1(P:Params):List Obj:=F 137 349 40 57 (C 11 4) 47 2 M3 [25,49,55,56]++(F 144 359 41 58 (C 11 5) 55 2 M3 [25,49]++(F 151 367 42 59 (C 11 6) 58 2 M3 [25,49]++(F 158 375 43 60 (C 11 7) 61 1 M3 [25]++(F 165 382 44 61 (C 11 8) 64 2 M3 [25,49]++(F 172 390 45 62 (C 11 9) 67 2 M3 [25,49]++([tO #[(sv 63 398),(sv 64 399)],Q #[en P 17 311 (sv 28 296),en P 19 315 (.int 29 314),en P 24 324 115,en P 37 334 122,en P 38 341 129,en P 39 348 136,en P 40 358 143,en P 41 366 150,en P 42 374 157,en P 43 381 164,en P 44 389 171,en P 45 397 178,en P 20 400 179,en P 65 402 182,en P 21 404 183,en P 5 405 .none] 4,Obj.mk k9 .none (Data.cls (ClassData.mk (s 34) [k12] [181,k12] 180 (s 34) true [] [] false .none false)) #[.none,.none,(some (sv 34 304)),(some (sv 34 312)),(some k18),(some (.bool true))],O k14 #[(sv 65 401),181,k19,k20],O k14 #[(sv 21 403),181,k15,.none],O k16 #[181,181,181],O k7 #[k17,181]]++(F 186 408 35 35 (S 12) 69 2 M3 [66,46,49,51]++(F 193 418 36 36 (S 13) 78 2 M3 [66,67,49]++(F 200 427 69 69 (S 14) 83 3 M3 [66,67,76]++(F 207 436 70 70 (S 15) 89 3 M3 [66,67,47,77,76]++(F 214 447 71 71 (S 16) 98 2 M3 [66,67]++(F 221 455 72 72 (S 17) 102 2 M3 [67,78,79,80,81,82]++(F 228 467 73 73 (S 18) 109 2 M3 [66,67,83,82]++(F 235 477 74 74 (S 19) 117 2 M3 [66,67]++([tO #[],O k7 #[k8,k9],Q #[en P 17 494 (sv 68 485),en P 18 496 (sv 75 495),en P 19 498 (.int 121 497),en P 20 499 249] 4,tO #[],vO #[],O k1 #[(sv 75 489),(sv 75 490),(sv 1 491),(iv 121),(iv 0),(iv 0),(iv 0),(iv 0),245,(.bool false),(iv 181),246,.none,.none,.none,.none,(iv 492),(iv 121),(sv 1 493)],Obj.mk k2 .none Data.plain #[(some 247),(some 3),(some 244),.none,(some (sv 68 485)),.none,(some 0)],tO #[],Q #[en P 17 494 (sv 68 485),en P 19 498 (.int 121 497),en P 20 499 249,en P 65 501 252,en P 21 503 253,en P 5 504 .none] 4,zc5 P 5,O k14 #[(sv 65 500),251,k19,k20],O k14 #[(sv 21 502),251,k15,.none],O k16 #[251,251,251],O k7 #[k17,251],tO #[251],O k7 #[k8,k9],Q #[en P 17 514 (sv 68 485),en P 18 516 (sv 84 515),en P 19 518 (.int 123 517),en P 24 526 269,en P 85 534 276,en P 86 541 283,en P 87 548 290,en P 20 550 291] 8,tO #[],vO #[(iv 125),(iv 4),268,(iv 128),(iv 4),275,(iv 131),(iv 4),282,(iv 134),(iv 4),289],O k1 #[(sv 84 509),(sv 84 510),(sv 1 511),(iv 123),(iv 0),(iv 0),(iv 0),(iv 0),259,(.bool false),(iv 181),260,.none,.none,.none,.none,(iv 512),(iv 123),(sv 1 513)],Obj.mk k2 .none Data.plain #[(some 261),(some 3),(some 258),.none,(some (sv 68 485)),.none,(some 0)]])))))))))))))))
def z2(P:Params):List Obj:=F 263 519 24 88 (C 22 0) 125 2 M4 [25,32]++(F 270 527 85 90 (C 22 1) 128 2 M4 [25,89]++(F 277 535 86 91 (C 22 2) 131 1 M4 [25]++(F 284 542 87 92 (C 22 3) 134 1 M4 [25]++([tO #[(sv 32 549)],Q #[en P 17 514 (sv 68 485),en P 19 518 (.int 123 517),en P 24 526 269,en P 85 534 276,en P 86 541 283,en P 87 548 290,en P 20 550 291,en P 5 551 .none] 2,Obj.mk k9 .none (Data.cls (ClassData.mk (s 84) [251] [293,251,k12] 292 (s 84) true [] [] false .none false)) #[(some 256),.none,(some (sv 84 507)),(some (sv 84 515)),(some k18),(some (.bool true))],O k16 #[293,293,293],O k7 #[k17,293],tO #[251],O k7 #[k8,k9],Q #[en P 17 561 (sv 68 485),en P 18 563 (sv 93 562),en P 19 565 (.int 136 564),en P 24 573 309,en P 85 581 316,en P 86 588 323,en P 87 595 330,en P 20 597 331] 8,tO #[],vO #[(iv 138),(iv 4),308,(iv 141),(iv 4),315,(iv 144),(iv 4),322,(iv 147),(iv 4),329],O k1 #[(sv 93 556),(sv 93 557),(sv 1 558),(iv 136),(iv 0),(iv 0),(iv 0),(iv 0),299,(.bool false),(iv 181),300,.none,.none,.none,.none,(iv 559),(iv 136),(sv 1 560)],Obj.mk k2 .none Data.plain #[(some 301),(some 3),(some 298),.none,(some (sv 68 485)),.none,(some 0)]]++(F 303 566 24 95 (C 23 0) 138 2 M4 [25,94]++(F 310 574 85 96 (C 23 1) 141 2 M4 [25,89]++(F 317 582 86 97 (C 23 2) 144 1 M4 [25]++(F 324 589 87 98 (C 23 3) 147 1 M4 [25]++([tO #[(sv 94 596)],Q #[en P 17 561 (sv 68 485),en P 19 565 (.int 136 564),en P 24 573 309,en P 85 581 316,en P 86 588 323,en P 87 595 330,en P 20 597 331,en P 5 598 .none] 2,Obj.mk k9 .none (Data.cls (ClassData.mk (s 93) [251] [333,251,k12] 332 (s 93) true [] [] false .none false)) #[(some 296),.none,(some (sv 93 554)),(some (sv 93 562)),(some k18),(some (.bool true))],O k16 #[333,333,333],O k7 #[k17,333],tO #[251],O k7 #[k8,k9],Q #[en P 17 608 (sv 68 485),en P 18 610 (sv 99 609),en P 19 612 (.int 149 611),en P 24 622 349,en P 85 632 356,en P 86 639 363,en P 87 646 370,en P 20 650 371] 8,tO #[],vO #[(iv 151),(iv 4),348,(iv 156),(iv 4),355,(iv 167),(iv 4),362,(iv 170),(iv 4),369],O k1 #[(sv 99 603),(sv 99 604),(sv 1 605),(iv 149),(iv 0),(iv 0),(iv 0),(iv 0),339,(.bool false),(iv 181),340,.none,.none,.none,.none,(iv 606),(iv 149),(sv 1 607)],Obj.mk k2 .none Data.plain #[(some 341),(some 3),(some 338),.none,(some (sv 68 485)),.none,(some 0)]]++(F 343 613 24 100 (C 24 0) 151 4 M4 [25,94,80,81]++(F 350 623 85 101 (C 24 1) 156 2 M4 [25,89,80,81]++(F 357 633 86 102 (C 24 2) 167 1 M4 [25]++(F 364 640 87 103 (C 24 3) 170 1 M4 [25]++([tO #[(sv 80 647),(sv 81 648),(sv 94 649)],Q #[en P 17 608 (sv 68 485),en P 19 612 (.int 149 611),en P 24 622 349,en P 85 632 356,en P 86 639 363,en P 87 646 370,en P 20 650 371,en P 5 651 .none] 2,Obj.mk k9 .none (Data.cls (ClassData.mk (s 99) [251] [373,251,k12] 372 (s 99) true [] [] false .none false)) #[(some 336),.none,(some (sv 99 601)),(some (sv 99 609)),(some k18),(some (.bool true))],O k16 #[373,373,373],O k7 #[k17,373],tO #[251],O k7 #[k8,k9],Q #[en P 17 661 (sv 68 485),en P 18 663 (sv 104 662),en P 19 665 (.int 172 664),en P 24 674 389,en P 85 682 396,en P 86 689 403,en P 87 696 410,en P 20 699 411] 8,tO #[],vO #[(iv 174),(iv 4),388,(iv 178),(iv 4),395,(iv 181),(iv 4),402,(iv 184),(iv 4),409],O k1 #[(sv 104 656),(sv 104 657),(sv 1 658),(iv 172),(iv 0),(iv 0),(iv 0),(iv 0),379,(.bool false),(iv 181),380,.none,.none,.none,.none,(iv 659),(iv 172),(sv 1 660)],Obj.mk k2 .none Data.plain #[(some 381),(some 3),(some 378),.none,(some (sv 68 485)),.none,(some 0)]]++(F 383 666 24 107 (C 25 0) 174 3 M4 [25,105,106])))))))))))))))
def z3(P:Params):List Obj:=F 390 675 85 108 (C 25 1) 178 2 M4 [25,89]++(F 397 683 86 109 (C 25 2) 181 1 M4 [25]++(F 404 690 87 110 (C 25 3) 184 1 M4 [25]++([tO #[(sv 105 697),(sv 106 698)],Q #[en P 17 661 (sv 68 485),en P 19 665 (.int 172 664),en P 24 674 389,en P 85 682 396,en P 86 689 403,en P 87 696 410,en P 20 699 411,en P 5 700 .none] 2,Obj.mk k9 .none (Data.cls (ClassData.mk (s 104) [251] [413,251,k12] 412 (s 104) true [] [] false .none false)) #[(some 376),.none,(some (sv 104 654)),(some (sv 104 662)),(some k18),(some (.bool true))],O k16 #[413,413,413],O k7 #[k17,413],tO #[251],O k7 #[k8,k9],Q #[en P 17 710 (sv 68 485),en P 18 712 (sv 112 711),en P 19 714 (.int 186 713),en P 24 725 429,en P 85 733 436,en P 86 740 443,en P 87 747 450,en P 20 752 451] 8,tO #[],vO #[(iv 188),(iv 4),428,(iv 194),(iv 4),435,(iv 199),(iv 4),442,(iv 202),(iv 4),449],O k1 #[(sv 112 705),(sv 112 706),(sv 1 707),(iv 186),(iv 0),(iv 0),(iv 0),(iv 0),419,(.bool false),(iv 181),420,.none,.none,.none,.none,(iv 708),(iv 186),(sv 1 709)],Obj.mk k2 .none Data.plain #[(some 421),(some 3),(some 418),.none,(some (sv 68 485)),.none,(some 0)]]++(F 423 715 24 120 (C 26 0) 188 5 M4 [25,80,81,118,119]++(F 430 726 85 121 (C 26 1) 194 2 M4 [25,89]++(F 437 734 86 122 (C 26 2) 199 1 M4 [25]++(F 444 741 87 123 (C 26 3) 202 1 M4 [25]++([tO #[(sv 119 748),(sv 80 749),(sv 81 750),(sv 118 751)],Q #[en P 17 710 (sv 68 485),en P 19 714 (.int 186 713),en P 24 725 429,en P 85 733 436,en P 86 740 443,en P 87 747 450,en P 20 752 451,en P 5 753 .none] 2,Obj.mk k9 .none (Data.cls (ClassData.mk (s 112) [251] [453,251,k12] 452 (s 112) true [] [] false .none false)) #[(some 416),.none,(some (sv 112 703)),(some (sv 112 711)),(some k18),(some (.bool true))],O k16 #[453,453,453],O k7 #[k17,453],tO #[(sv 124 758),(sv 78 759)],tO #[(sv 125 761),(sv 124 762),(sv 126 763),(sv 78 764),(sv 127 765)],tO #[(sv 125 767),(sv 124 768),(sv 126 769),(sv 78 770),(sv 128 771),(sv 129 772),(sv 130 773),(sv 131 774)],tO #[(sv 125 776),(sv 124 777),(sv 126 778),(sv 78 779),(sv 127 780),(sv 128 781),(sv 129 782),(sv 130 783),(sv 131 784)],tO #[(sv 132 786),(sv 133 787),(sv 134 788),(sv 135 789)],Q #[en P 132 791 (.int 2 792),en P 133 793 (.int 2 794),en P 134 795 (.int 2 796),en P 135 797 (.int 2 798),en P 137 799 (.int 2 800),en P 138 801 (.int 4 802)] 6]++(F 462 816 143 143 (S 37) 214 1 M5 [32]++(F 469 823 144 144 (S 38) 216 2 M5 [94,87]++(F 476 831 145 145 (S 39) 218 1 M5 [106]++(F 483 838 146 146 (S 40) 220 3 M5 [152,153,154,155]++(F 490 848 147 147 (S 41) 225 3 M5 [156,153,154]++(G 497 857 148 148 (S 42) 239 1 M5++([tO #[],O k7 #[k8,k9],Q #[en P 17 870 (sv 111 756),en P 18 872 (sv 149 871),en P 19 874 (.int 241 873),en P 24 885 515,en P 157 894 522,en P 158 906 529,en P 159 918 536,en P 20 923 537] 8,tO #[],vO #[(iv 243),(iv 4),514,(iv 257),(iv 4),521,(iv 260),(iv 4),528,(iv 263),(iv 4),535],O k1 #[(sv 149 865),(sv 149 866),(sv 1 867),(iv 241),(iv 0),(iv 0),(iv 0),(iv 0),505,(.bool false),(iv 181),506,.none,.none,.none,.none,(iv 868),(iv 241),(sv 1 869)],Obj.mk k2 .none Data.plain #[(some 507),(some 3),(some 504),.none,(some (sv 111 756)),.none,(some 0)]])))))))))))))))
def z4(P:Params):List Obj:=F 509 875 24 164 (C 43 0) 243 5 M5 [25,160,161,162,163]++(F 516 886 157 165 (C 43 1) 257 3 M5 [25,49,78]++(F 523 895 158 167 (C 43 2) 260 6 M5 [25,125,49,166,78,81]++(F 530 907 159 169 (C 43 3) 263 6 M5 [25,125,49,166,78,168]++([tO #[(sv 163 919),(sv 161 920),(sv 160 921),(sv 162 922)],Q #[en P 17 870 (sv 111 756),en P 19 874 (.int 241 873),en P 24 885 515,en P 157 894 522,en P 158 906 529,en P 159 918 536,en P 20 923 537,en P 65 925 540,en P 21 927 541,en P 5 928 .none] 4,Obj.mk k9 .none (Data.cls (ClassData.mk (s 149) [k12] [539,k12] 538 (s 149) true [] [] false .none false)) #[.none,.none,(some (sv 149 863)),(some (sv 149 871)),(some k18),(some (.bool true))],O k14 #[(sv 65 924),539,k19,k20],O k14 #[(sv 21 926),539,k15,.none],O k16 #[539,539,539],O k7 #[k17,539]]++(F 544 931 150 150 (S 44) 265 1 M5 [94,170,171]++(F 551 940 151 151 (S 45) 271 1 M5 [94]++(F 558 947 173 173 (S 46) 273 2 M5 [94,152]++(F 565 955 174 174 (S 47) 285 1 M5 [87,152,94,155]++(F 572 965 175 175 (S 48) 293 2 M5 [26,182,87]++(F 579 980 178 178 (S 52) 299 1 M6 [183,184,49]++(F 586 989 179 179 (S 53) 308 2 M6 [185,183]++(F 593 997 180 180 (S 54) 314 2 M6 [78,183,77,185]++(F 600 1007 181 181 (S 55) 323 2 M6 [183,78,186,49,80,81]++([tO #[],O k7 #[k8,k9],Q #[en P 17 1026 (sv 172 974),en P 18 1028 (sv 188 1027),en P 19 1030 (.int 331 1029),en P 24 1039 620,en P 183 1046 627,en P 78 1053 634,en P 196 1061 641,en P 197 1070 648,en P 198 1078 655,en P 199 1085 662,en P 200 1093 669,en P 20 1097 670] 12,tO #[],vO #[(iv 333),(iv 4),619,(iv 342),(iv 4),626,(iv 345),(iv 4),633,(iv 348),(iv 4),640,(iv 351),(iv 4),647,(iv 354),(iv 4),654,(iv 357),(iv 4),661,(iv 360),(iv 4),668],O k1 #[(sv 188 1021),(sv 188 1022),(sv 1 1023),(iv 331),(iv 0),(iv 0),(iv 0),(iv 0),610,(.bool false),(iv 181),611,.none,.none,.none,.none,(iv 1024),(iv 331),(sv 1 1025)],Obj.mk k2 .none Data.plain #[(some 612),(some 3),(some 609),.none,(some (sv 172 974)),.none,(some 0)]]++(F 614 1031 24 201 (C 56 0) 333 3 M6 [25,183,78])))))))))))))))
def z5(P:Params):List Obj:=F 621 1040 183 202 (C 56 1) 342 1 M6 [25]++(F 628 1047 78 203 (C 56 2) 345 1 M6 [25]++(F 635 1054 196 204 (C 56 3) 348 2 M6 [25,49]++(F 642 1062 197 205 (C 56 4) 351 3 M6 [25,80,81]++(F 649 1071 198 206 (C 56 5) 354 2 M6 [25,49]++(F 656 1079 199 207 (C 56 6) 357 1 M6 [25]++(F 663 1086 200 208 (C 56 7) 360 2 M6 [25,49]++([tO #[(sv 186 1094),(sv 209 1095),(sv 210 1096)],Q #[en P 17 1026 (sv 172 974),en P 19 1030 (.int 331 1029),en P 24 1039 620,en P 183 1046 627,en P 78 1053 634,en P 196 1061 641,en P 197 1070 648,en P 198 1078 655,en P 199 1085 662,en P 200 1093 669,en P 20 1097 670,en P 65 1099 673,en P 21 1101 674,en P 5 1102 .none] 4,Obj.mk k9 .none (Data.cls (ClassData.mk (s 188) [k12] [672,k12] 671 (s 188) true [] [] false .none false)) #[.none,.none,(some (sv 188 1019)),(some (sv 188 1027)),(some k18),(some (.bool true))],O k14 #[(sv 65 1098),672,k19,k20],O k14 #[(sv 21 1100),672,k15,.none],O k16 #[672,672,672],O k7 #[k17,672],tO #[(sv 183 1107),(sv 185 1108),(sv 51 1109),(sv 76 1110),(sv 160 1111),(sv 161 1112),(sv 162 1113),(sv 85 1114),(sv 211 1115)],tO #[(sv 183 1117),(sv 160 1118),(sv 161 1119),(sv 162 1120),(sv 85 1121),(sv 211 1122)],tO #[(sv 185 1124),(sv 51 1125),(sv 76 1126)]]++(F 680 1132 194 194 (S 63) 368 1 M7 [87,212,94]++(F 687 1141 195 195 (S 64) 375 2 M7 [213,26,212]++(F 694 1150 215 215 (S 65) 386 4 M7 [213,32,227,228]++(G 701 1160 216 216 (S 66) 392 1 M7++(G 706 1166 217 217 (S 67) 408 1 M7++(F 711 1174 218 218 (S 69) 421 2 M8 [229,230]++(F 718 1182 219 219 (S 70) 425 2 M8 [231,232,233,234,235]++(G 725 1193 220 220 (S 71) 438 1 M8)))))))))))))))
def z6(P:Params):List Obj:=F 730 1199 221 221 (S 72) 447 2 M8 [236,233,237,238,239,240]++(G 737 1211 222 222 (S 73) 462 1 M8++(F 742 1217 223 223 (S 74) 472 2 M8 [236,233,241,238,242]++(F 749 1228 224 224 (S 75) 477 1 M8 [243,236,244]++(F 756 1237 225 225 (S 76) 486 2 M8 [245,233,238,246,247]++(F 763 1248 226 226 (S 77) 499 1 M8 [229,245,230,233,238,248,239])))))
def zf(P:Params):List Obj:=z0 P++(z1 P++(z2 P++(z3 P++(z4 P++(z5 P++(z6 P))))))
noncomputable def alt{α:Type}:Bool->List α->List α
 |_,[]=>[]
 |true,x::l=>x::alt false l
 |false,_::l=>alt true l
def bt:Nat->List Obj->BT
 |0,_=>.nil
 |_,[]=>.nil
 |n+1,x::l=>.node x (bt n (alt true l)) (bt n (alt false l))
noncomputable def pat:Nat->Nat->List (Nat×Obj)->List Obj->List Obj
 |0,_,_,_=>[]
 |_,_,_,[]=>[]
 |m+1,i,[],x::l=>x::pat m (i+1) [] l
 |m+1,i,(a,o)::r,x::l=>if i == a then o::pat m (i+1) r l else x::pat m (i+1) ((a,o)::r) l
abbrev an:Option Value:=(some (.ref 6))
noncomputable def env:Env:={ scope:=pw.main.scope,locals:=mainNs,globals:=mainNs,cells:=[],code:=(.ref 13),frame:=some 14 }
abbrev bE:List Stmt:=behindTheImports pw
abbrev cE:Code:=.body bE env
abbrev qE:Pos:=(Pos.mk 0 0 0 0)
noncomputable abbrev B:List Frame:=[topFrame qE]
def s0(w:World)(os:OsState):Shared:=⟨boot_heap w.params,⟨[]⟩,boot_drawn,boot_toks,os⟩
noncomputable def LF:Life:=(Life.mk [] [] [] 0 [] [] false #[] [] 0 false false false 0 [2000,10,10] false 0 true [] [] 0 false)
def DR:Drawn:=(Drawn.mk 0 0 0 0)
def sS(n:Nat)(ov:List (Nat×Obj))(t:Tok)(w:World)(os:OsState):SharedT:=⟨bt 11 (pat n 0 ov (zf w.params)),n,LF,⟨[]⟩,DR,t,os⟩
def sa(w:World):OsState->SharedT:=let P:=w.params;sS 15 [(3,boot_o_3 P),(12,v12 P 0)] 187 w
noncomputable def szT:List (Nat×Nat):=[(15,187),(47,230),(78,271),(102,304),(200,427),(256,507),(296,554),(336,601),(376,654),(416,703),(461,791),(462,810),(558,947),(607,1019),(694,1150),(770,1261)]
def ovT(P:Params):List (List (Nat×Obj)):=[[(3,boot_o_3 P),(12,v12 P 0)],[(3,v3 P 12 12 (sv 3 194)),(12,v12 P 9),(31,v31 P 1)],[(3,v3 P 14 14 (sv 3 194)),(12,v12 P 15),(31,v31 P 3)],[(3,v3 P 17 17 (sv 28 296)),(12,v12 P 24)],[(3,v3 P 20 20 (sv 28 296)),(12,v12 P 33)],[(3,v3 P 27 27 (sv 68 485)),(12,v12 P 54),(251,zc5 P 0)],[(3,v3 P 28 28 (sv 68 485)),(12,v12 P 57),(251,zc5 P 1)],[(3,v3 P 29 29 (sv 68 485)),(12,v12 P 60),(251,zc5 P 2)],[(3,v3 P 30 30 (sv 68 485)),(12,v12 P 63),(251,zc5 P 3)],[(3,v3 P 31 31 (sv 68 485)),(12,v12 P 66),(251,zc5 P 4)],[(3,v3 P 37 37 (sv 111 756)),(12,v12 P 69)],[(3,v3 P 38 38 (sv 111 756)),(12,v12 P 69)],[(3,v3 P 50 50 (sv 111 756)),(12,v12 P 96)],[(3,v3 P 59 59 (sv 172 974)),(12,v12 P 117)],[(3,v3 P 67 67 (sv 187 1105)),(12,v12 P 126)],[]]
def sb(k:Nat)(w:World):OsState->SharedT:=sS (szT.getD k (0,0)).1 ((ovT w.params).getD k []) (szT.getD k (0,0)).2 w
noncomputable def sgT:List (Nat×Nat×Nat):=[(438,0,4),(459,4,2),(287,6,5),(577,11,3),(390,14,8),(340,22,1),(340,23,1),(346,24,1),(342,25,1),(433,26,7),(101,33,1),(598,34,12),(248,46,10),(585,56,9),(375,65,13)]
noncomputable def psT:List Pos:=[⟨0,0,0,0⟩,⟨7,0,8,8⟩,⟨11,0,14,22⟩,⟨21,0,28,16⟩,⟨78,0,82,15⟩,⟨121,0,122,8⟩,⟨123,0,135,32⟩,⟨136,0,148,26⟩,⟨149,0,171,66⟩,⟨172,0,185,64⟩,⟨209,0,209,9⟩,⟨210,0,210,5⟩,⟨271,0,272,25⟩,⟨323,0,330,15⟩,⟨375,0,385,30⟩,⟨499,0,522,54⟩]
def sg(k:Nat):=sgT.getD k (0,0,0)
def po(k:Nat):Pos:=psT.getD k ⟨0,0,0,0⟩
def sts(k:Nat):List Stmt:=(List.range (sg k).2.2).map fun i=>S ((sg k).2.1+i)
def La(w:World)(os:OsState):Option (Shared×Thread):=topGo treeTable pw w 11 an 12 (s0 w os) (topStub pw)
def Ra(w:World)(os:OsState):Option (Shared×Thread):=some ((sa w os).abs,⟨denote treeTable cE,cE,(Pos.mk 0 0 0 0),B⟩)
def Lb(w:World)(os:OsState):Option (Flow×SharedT×Code×Pos):=segRunT treeTable pw w 11 an 1 1 (sa w os) (blockOf bE env cE (Pos.mk 0 0 0 0) B)
def Rb(w:World)(os:OsState):Option (Flow×SharedT×Code×Pos):=some (.next,sb 0 w os,cE,(Pos.mk 0 0 0 0))
def L(k:Nat)(w:World)(os:OsState):Option (Flow×SharedT×Code×Pos):=segRunT treeTable pw w 11 an 1 (sg k).1 (sb k w os) (piecesOf (sts k) env cE (po k) B)
def R(k:Nat)(w:World)(os:OsState):Option (Flow×SharedT×Code×Pos):=some (.next,sb (k+1) w os,cE,po (k+1))
theorem q1:tt (Hd.La,Hd.Ra,Hd.Lb,Hd.L)=true:=by k_qdec
theorem ra:∀ w,Fast.tw11367235000924431832 w=Fast.tw15912052731592885781 w:=fun w=>by kernel_rfl
theorem ea(w:World)(os:OsState):La w os=Ra w os:=(congrFun (congrFun Fast.te11367235000924431832 w) os).trans ((congrFun (ra w) os).trans (congrFun (congrFun Fast.te15912052731592885781 w) os).symm)
theorem rb:∀ w,Fast.tw16430817790641568776 w=Rb w:=fun w=>by kernel_rfl
theorem eb(w:World)(os:OsState):Lb w os=Rb w os:=(congrFun (congrFun Fast.te16430817790641568776 w) os).trans (congrFun (rb w) os)
abbrev T:=Fast.tw9140266817696972190
theorem e{k:Nat}(h:∀ w,T k w=R k w)(w:World)(os:OsState):L k w os=R k w os:=(congrFun (congrFun (congrFun Fast.te9140266817696972190 k) w) os).trans (congrFun (h w) os)
theorem r0:∀ w,T 0 w=R 0 w:=fun w=>by kernel_rfl
theorem r1:∀ w,T 1 w=R 1 w:=fun w=>by kernel_rfl
theorem r2:∀ w,T 2 w=R 2 w:=fun w=>by kernel_rfl
theorem r3:∀ w,T 3 w=R 3 w:=fun w=>by kernel_rfl
theorem r4:∀ w,T 4 w=R 4 w:=fun w=>by kernel_rfl
theorem r5:∀ w,T 5 w=R 5 w:=fun w=>by kernel_rfl
theorem r6:∀ w,T 6 w=R 6 w:=fun w=>by kernel_rfl
theorem r7:∀ w,T 7 w=R 7 w:=fun w=>by kernel_rfl
theorem r8:∀ w,T 8 w=R 8 w:=fun w=>by kernel_rfl
theorem r9:∀ w,T 9 w=R 9 w:=fun w=>by kernel_rfl
theorem r10:∀ w,T 10 w=R 10 w:=PySem.W.byRow2 (P:=fun w=>T 10 w=R 10 w) "special-get-raises" (fun w=>by kernel_rfl) (fun w=>by kernel_rfl)
theorem r11:∀ w,T 11 w=R 11 w:=fun w=>by kernel_rfl
theorem r12:∀ w,T 12 w=R 12 w:=fun w=>by kernel_rfl
theorem r13:∀ w,T 13 w=R 13 w:=fun w=>by kernel_rfl
theorem r14:∀ w,T 14 w=R 14 w:=fun w=>by kernel_rfl
def H1(P:Params):Heap:=⟨⟨zf P⟩,LF⟩
def sf(w:World)(os:OsState):Shared:=⟨H1 w.params,⟨[]⟩,(Drawn.mk 0 0 0 0),1261,os⟩
def Lf(w:World)(os:OsState):Option Shared:=topRun treeTable pw w 11 an 2 (sb 15 w os).abs ⟨doneF .next,cE,(Pos.mk 499 0 522 54),B⟩
def Rf(w:World)(os:OsState):Option Shared:=some (sf w os)
theorem qf:tt Hd.Lf=true:=by k_qdec
theorem rf:∀ w,Fast.tw2640074843757178226 w=Rf w:=fun w=>by kernel_rfl
theorem ef(w:World)(os:OsState):Lf w os=Rf w os:=(congrFun (congrFun Fast.te2640074843757178226 w) os).trans (congrFun (rf w) os)
theorem cut:bE=sts 0++(sts 1++(sts 2++(sts 3++(sts 4++(sts 5++(sts 6++(sts 7++(sts 8++(sts 9++(sts 10++(sts 11++(sts 12++(sts 13++(sts 14++([]))))))))))))))):=by kernel_rfl
def M:Nat:=12+(1+(438+(459+(287+(577+(390+(340+(340+(346+(342+(433+(101+(598+(248+(585+(375+2))))))))))))))))
theorem run(w:World)(os:OsState):topRun treeTable pw w 11 an M (s0 w os) (topStub pw)=some (sf w os):=by
 refine go_top (ea w os) (piece_block (q:=qE) (env:=env) (b:=bE) (segRun_of (eb w os)) ?_);rw[show restOf bE env cE (Pos.mk 0 0 0 0) [topFrame qE]=restOf _ env cE _ [topFrame qE] from congrArg (fun l=>restOf l env cE (Pos.mk 0 0 0 0) [topFrame qE]) cut];exact piece_app (segRun_of (e r0 w os)) (piece_app (segRun_of (e r1 w os)) (piece_app (segRun_of (e r2 w os)) (piece_app (segRun_of (e r3 w os)) (piece_app (segRun_of (e r4 w os)) (piece_app (segRun_of (e r5 w os)) (piece_app (segRun_of (e r6 w os)) (piece_app (segRun_of (e r7 w os)) (piece_app (segRun_of (e r8 w os)) (piece_app (segRun_of (e r9 w os)) (piece_app (segRun_of (e r10 w os)) (piece_app (segRun_of (e r11 w os)) (piece_app (segRun_of (e r12 w os)) (piece_app (segRun_of (e r13 w os)) (piece_app (segRun_of (e r14 w os)) (ef w os)))))))))))))))
abbrev rW:RowW:=(PySem.Challenge.rw_beatless_k93_settings_that_are_none.row).toRowW
noncomputable def Qi:List Nat:=[0,2,3,4,5,6,8,10,11,12,13,14,15,16,17,18,19,21,22,23,24,25,26,28,29,30,31,32,33,34,35,36,37,38,39,40,41,42,43,44,45,46,47,48,50,51,52,53,54,55,56,58,59,60,61,62,63,64,65,66,67,69,70,71,72,73,74,75,76,77]
def Qp:Program:={ pw with main:={ pw.main with body:=Qi.map S } }
def Xt(s:Shared):Bool:=xlAt Qp [] s&&recOk (RowW.records rW) s
noncomputable def as:List Addr:=[2,3,15,17,18,20,21,22,29,30,31,32,35,42,43,44,47,54,55,56,59,66,68,69,71,72,73,74,75,78,85,86,87,90,92,93,95,96,97,100,101,109,111,112,114,115,116,118,119,121,122,123,125,126,128,129,130,132,133,135,136,137,139,140,142,143,144,146,147,149,150,151,153,154,156,157,158,160,161,163,164,165,167,168,170,171,172,174,175,177,178,179,180,181,182,183,186,188,189,191,192,193,195,196,198,199,200,202,203,205,206,207,209,210,212,213,214,216,217,219,220,221,223,224,226,227,228,230,231,233,234,235,237,238,240,241,249,250,251,252,253,256,263,265,266,268,269,270,272,273,275,276,277,279,280,282,283,284,286,287,289,290,291,292,293,296,303,305,306,308,309,310,312,313,315,316,317,319,320,322,323,324,326,327,329,330,331,332,333,336,343,345,346,348,349,350,352,353,355,356,357,359,360,362,363,364,366,367,369,370,371,372,373,376,383,385,386,388,389,390,392,393,395,396,397,399,400,402,403,404,406,407,409,410,411,412,413,416,423,425,426,428,429,430,432,433,435,436,437,439,440,442,443,444,446,447,449,450,451,452,453,456,457,458,459,460,461,462,464,465,467,468,469,471,472,474,475,476,478,479,481,482,483,485,486,488,489,490,492,493,495,496,497,500,501,509,511,512,514,515,516,518,519,521,522,523,525,526,528,529,530,532,533,535,536,537,538,539,540,541,544,546,547,549,550,551,553,554,556,557,558,560,561,563,564,565,567,568,570,571,572,574,575,577,578,579,581,582,584,585,586,588,589,591,592,593,595,596,598,599,600,602,603,605,606,614,616,617,619,620,621,623,624,626,627,628,630,631,633,634,635,637,638,640,641,642,644,645,647,648,649,651,652,654,655,656,658,659,661,662,663,665,666,668,669,670,671,672,673,674,677,678,679,680,682,683,685,686,687,689,690,692,693,694,696,697,699,700,701,704,705,706,709,710,711,713,714,716,717,718,720,721,723,724,725,728,729,730,732,733,735,736,737,740,741,742,744,745,747,748,749,751,752,754,755,756,758,759,761,762,763,765,766,768,769]
def K(P:Params):Frag:=as.map fun a=>(a,(zf P).getD a (vO #[]))
theorem asK(P:Params):as=(K P).map (·.1):=by kernel_rfl
def Ly(w:World)(os:OsState):List (Option Obj):=as.map (sf w os).heap.get?
def Ry(w:World)(_:OsState):List (Option Obj):=(K w.params).map fun p=>some p.2
abbrev hk:Hook:=kHook K as asK
abbrev zgy:List Str:=importedModules pw.main.body
def A(w:World)(os:OsState):=openSeen Qp ["PARTS"] zgy Xt true (sf w os)
def Ga(_:World)(_:OsState):=openGood Qp ["PARTS"]
def Ls(w:World)(os:OsState):Bool:=staticsOk zgy (boot_heap w.params) (H1 w.params)&&namesBound pw (H1 w.params)&&gensDone (sf w os)&&laidKept (boot_heap w.params) (H1 w.params)
def Rs(_:World)(_:OsState):Bool:=true
def Lz(w:World)(_:OsState):=((boot_heap w.params).isNs mainGlobals&&(⟨[]⟩:Array GenState).size == 0,(boot_heap w.params).objs.size,(boot_heap w.params).nsMap mainGlobals "__annotations__")
noncomputable def Rz(_:World)(_:OsState):Bool×Nat×Option Value:=(true,11,an)
theorem q2:tt (Hd.Ly,Hd.A,Hd.Ls,Hd.Lz)=true:=by k_qdec
theorem rLy:∀ w,Fast.tw691215026958702249 w=Ry w:=fun w=>by kernel_rfl
theorem eLy(w:World)(os:OsState):Ly w os=Ry w os:=(congrFun (congrFun Fast.te691215026958702249 w) os).trans (congrFun (rLy w) os)
theorem rA:∀ w,Fast.tw18113995546815864426 w=Ga w:=fun w=>by kernel_rfl
theorem eA(w:World)(os:OsState):A w os=Ga w os:=(congrFun (congrFun Fast.te18113995546815864426 w) os).trans (congrFun (rA w) os)
theorem rLs:∀ w,Fast.tw4959303863618478765 w=Rs w:=fun w=>by kernel_rfl
theorem eLs(w:World)(os:OsState):Ls w os=Rs w os:=(congrFun (congrFun Fast.te4959303863618478765 w) os).trans (congrFun (rLs w) os)
theorem rLz:∀ w,Fast.tw17831390912981975158 w=Rz w:=fun w=>by kernel_rfl
theorem eLz(w:World)(os:OsState):Lz w os=Rz w os:=(congrFun (congrFun Fast.te17831390912981975158 w) os).trans (congrFun (rLz w) os)
theorem op:opening pw=plainProg pw.main.scope.names:=by kernel_rfl
theorem fe(s:Shared):fenceModules? pw s=some s:=by kernel_rfl
theorem left:LeftO pw Qp ["PARTS"] Xt hk.obs hk.val 11814 :=
 LeftO.of_pieces (M:=M) (m₀:=11) (ann:=an) (H₀:=boot_heap) (H₁:=H1) (boot_open op (by kernel_rfl) fe) (fun w=>eLz w (start pw).1.os) run (by kernel_rfl) (fun w=>funext fun os=>looks_pair (eLs w os) (looks_pair (eA w os) (eLy w os)))
theorem both{a b:Bool}(z:(a&&b)=true):a=true/\b=true:=and_eq_true_iff.mp z
end Hd
end
namespace K04
open PySem L2
theorem rdy(P:Params):chk tbT (Hd.K P)=true:=by kernel_rfl
theorem fnE(P:Params):tbT.f.map (fun e=>(Hd.K P).lookup e.a)=tbT.f.map (fnB (Hd.K P)):=by kernel_rfl
theorem zzE(P:Params):xnT.all (xnC (Hd.K P))=true:=by kernel_rfl
theorem tdE(P:Params):tbT.t.all (fun p=>((Hd.K P).lookup p.1).any (fun o=>decide (o.cls=.type "tuple")&&o.dict.isNone))=true:=by kernel_rfl
theorem ddE(w:World):∀ p∈dnT,STab w (Hd.K w.params) p.1 p.2:=by
 intro p hp;cases mem_singleton.mp hp;exact⟨rfl,by decide +kernel,[⟨"add",2,791,792⟩,⟨"sub",2,793,794⟩,⟨"min",2,795,796⟩,⟨"max",2,797,798⟩,⟨"mod",2,799,800⟩,⟨"less",4,801,802⟩],6,by kernel_rfl,rfl⟩
theorem bdT:∀ (g:FuncData) (us:List Value),us.length<=8->bdA tbT g us:=zf3 (fun _=>by kernel_rfl) (fun _ _=>by kernel_rfl) (fun _ _ _=>by kernel_rfl) (fun _ _ _ _=>by kernel_rfl) (fun _ _ _ _ _=>by kernel_rfl) (fun _ _ _ _ _ _=>by kernel_rfl) (fun _ _ _ _ _ _ _=>by kernel_rfl) (fun _ _ _ _ _ _ _ _=>by kernel_rfl) (fun _ _ _ _ _ _ _ _ _=>by kernel_rfl)
end K04
open PySem PySem.W PyProof.Rows
set_option maxRecDepth 100000 in
set_option maxHeartbeats 0 in
theorem PySem.Challenge.cw_beatless_k93_settings_that_are_none_holds : PySem.Challenge.rw_beatless_k93_settings_that_are_none.Holds := by
 w_on;o_law
 refine holds_open (XP:=XL Hd.Qp []) (YP:=(kHook Hd.K Hd.as Hd.asK).says) Hd.left Hd.hk.of Hd.hk.keeps
  (fun s z=>xl_of s (Hd.both z).1) XL.keeps (by rfl) (by rfl) (by rfl)
  (fun s z=>recFacts_of (Hd.both z).2) (by rfl) (by assumption) (by decide +kernel)
  ⟨rfl,rfl,rfl,rfl,rfl,by decide +kernel⟩ ?hw ?hc
 case hw=>w_witness2
 k_fill
 refine L2.walk_ofK (l:=PySem.Challenge.rw_beatless_k93_settings_that_are_none) (n:=63) (k:=26) (x := "_law_script") (CX:=L2.CX0) (sp:=K04.spLaw) rfl (by decide) rfl ⟨rfl,by decide,by decide⟩ (fun w h Y=>PySem.W.kIn_of Y) ?F ?S ?C
 case F =>
  intro w mg fa h KX G hmg;have T:K04.Txt w (L2.KOf KX) mg ():=⟨⟨K04.rdy _,K04.fnE _,K04.bdT,fun x v e=>match v,e with | none,e=>mg_none_of KX G e | some _,e=>mg_of KX G e⟩,K04.zzE _,K04.ddE _,K04.tdE _⟩;have e0:=hmg.symm.trans (T.g 38);cases e0;exact⟨_,fun s v=>.of_eq (T.be 38 (us:=[v]) (hl:=rfl)),fun base kb nb=>K04.ok_law T⟩
 case S=>exact fun K H a ns hl hO hS=>K04.sp_law_of hl hO hS
 case C=>exact fun _ _ _ _ z=>z